/-
  How texts read.
-/
import Derived.Test.YtpipikjkhmhmhaaOpen0
import Derived.Test.YtpipikjkhmhmhaaTyStr
namespace Go.Proofs.Ytpipikjkhmhmhaa
open Go.ChangeShapes Go.WideShapes Go.ChangeAt Go.RowKit Go.Joins Go.Deep
set_option linter.unusedVariables false

section
variable {H : Type} {enc : TypeId × Value → H} {W : World} {base b : Nat} {spare : Nat → Bool} {held : Bool}
set_option maxRecDepth 100000 in
theorem open_Strs {fuel : Nat} {cs : List Value} {y : DataW H × List MemPlace} (h : DataW.trod enc Try.prog W b spare held fuel 53 cs = some y) :
    ∃ (A : Option Addr) (len c : Nat) (xs : List (ByteArray)), cs = [.slice A len c] ∧ len = xs.length ∧ StrsAt W 0 W.heap.size A xs ∧ fitStrs xs := by
  rcases open_slice Try.underlying53 h with ⟨hcs, hx⟩ | ⟨a, len, cap, m, n, D, Pl, hcs, hbb, hl, hm, hmm, hx, hi⟩
  · exact ⟨none, 0, 0, [], hcs, rfl, .inl rfl, Nat.zero_le _, by simp⟩
  · have hce : Try.prog.cellsOf 9 = 1 := by kernel_rfl
    rw [hce] at hi
    have hlm : len ≤ m := by rw [hmm]; split <;> omega
    have hel : ∀ i, i < m → ∃ x : ByteArray, StrAt W 0 W.heap.size a.block (a.off + i) x ∧ fitStr x := by
      intro i him
      obtain ⟨cs', hc, ht⟩ := hi i him
      obtain ⟨x, e0, _, hfit⟩ := DataW.trod_string Try.underlying9 ht
      subst e0
      obtain ⟨_, _, hat⟩ := World.cells?_some hc
      have g0 := hat 0 (by simp)
      simp at g0
      rw [Go.Deep.add_add] at g0
      exact ⟨x, cell_add0 g0, hfit⟩
    obtain ⟨f, hf⟩ := choose_lt (α := ByteArray) (n := len) (p := fun i x => StrAt W 0 W.heap.size a.block (a.off + i) x ∧ fitStr x) (fun i hil => hel i (by omega))
    refine ⟨some a, len, cap, (List.range len).map f, hcs, by simp, ?_, by simp; omega, ?_⟩
    · rcases Nat.eq_zero_or_pos len with rfl | hpos
      · exact .inl (by simp)
      · have h00 : ∃ u, W.cell? a = some u := by
          obtain ⟨cs', hc, ht⟩ := hi 0 (by omega)
          obtain ⟨_, hln, hat⟩ := World.cells?_some hc
          have g0 := hat 0 (by omega)
          rw [Nat.zero_mul, show (a.add 0).add 0 = a by simp [Addr.add]] at g0
          rw [List.getElem?_eq_getElem (by omega)] at g0
          exact ⟨_, g0⟩
        obtain ⟨u0, hu0⟩ := h00
        have hsp := World.cell?_spot hu0
        have hlt := World.block_lt_of_cell? W a hu0
        refine .inr ⟨a.block, a.off, by obtain ⟨bk, of, sp⟩ := a; simp at hsp; rw [hsp], Nat.zero_le _, hlt, fun i x hx => ?_⟩
        simp only [List.getElem?_map, Option.map_eq_some_iff] at hx
        obtain ⟨j, hj, rfl⟩ := hx
        obtain ⟨hil, rfl⟩ := List.getElem?_eq_some_iff.1 hj
        simp only [List.length_range] at hil
        rw [List.getElem_range]
        exact (hf i hil).1
    · intro x hx
      simp at hx
      obtain ⟨i, hi', rfl⟩ := hx
      exact (hf i hi').2
end
section
variable {H : Type} {enc : TypeId × Value → H} {W : World} {base b : Nat} {spare : Nat → Bool} {held : Bool}
set_option maxRecDepth 100000 in
theorem open_Strs_arg {v : Value} {d : DataW H} {p : List MemPlace} (hv : Value.okWide Try.prog W .any base 53 v) (h : DataW.Trod enc Try.prog W b spare held 53 v d p) :
    ∃ (A : Option Addr) (c : Nat) (xs : List (ByteArray)), v = .slice A xs.length c ∧ fitStrs xs ∧ StrsAt W 0 W.heap.size A xs := by
  obtain ⟨a, len, cap, rfl⟩ := okWide_slice Try.underlying53 hv
  obtain ⟨fuel, hf⟩ := h
  obtain ⟨A, l, c, xs, hcs, rfl, hr, hfit⟩ := open_Strs hf
  simp [Value.cells] at hcs
  obtain ⟨rfl, rfl, rfl⟩ := hcs
  exact ⟨_, _, xs, rfl, hfit, hr⟩
end
end Go.Proofs.Ytpipikjkhmhmhaa
