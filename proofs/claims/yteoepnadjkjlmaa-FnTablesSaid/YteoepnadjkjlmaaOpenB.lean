/-
  How a slice of bytes reads.
-/
import Derived.Test.YteoepnadjkjlmaaDraw
import Derived.Test.YteoepnadjkjlmaaOpenZ
namespace Go.Proofs.Yteoepnadjkjlmaa
open Go.ChangeShapes Go.WideShapes Go.ChangeAt Go.RowKit Go.Joins Go.Deep
set_option linter.unusedVariables false

theorem cellsB : Try.prog.cellsOf 5 = 1 := by kernel_rfl
/-- What the reading gives of a slice of bytes. -/
def FitB (W : World) (A : Option Addr) (len : Nat) (xs : List UInt8) : Prop := len = xs.length ∧ BAt W W.heap.size A xs
section
variable {H : Type} {enc : TypeId × Value → H} {W : World} {base b : Nat} {spare : Nat → Bool} {held : Bool}
set_option maxRecDepth 100000 in
theorem open_byterow {fuel : Nat} {cs : List Value} {x : DataW H × List MemPlace} (h : DataW.trod enc Try.prog W b spare held fuel 30 cs = some x) :
    ∃ A len c xs, cs = [.slice A len c] ∧ FitB W A len xs := by
  rcases open_slice Try.underlying30 h with ⟨hcs, hx⟩ | ⟨a, len, cap, m, n, D, Pl, hcs, hbb, hl, hm, hmm, hx, hi⟩
  · exact ⟨none, 0, 0, [], hcs, rfl, .inl rfl⟩
  · rw [cellsB] at hi
    have hlm : len ≤ m := by rw [hmm]; split <;> omega
    obtain ⟨f, hf⟩ := choose_lt (α := UInt8) (n := len) (p := fun i c => W.cell? ⟨a.block, a.off + i, none⟩ = some (.int .u8 (c.toNat : Int)) ∧ W.cell? (a.add i) = some (.int .u8 (c.toNat : Int))) (fun i hil => by
      obtain ⟨cs', hc, ht⟩ := hi i (by omega)
      obtain ⟨z, e0, _, wz⟩ := DataW.trod_int Try.underlying5 ht
      obtain ⟨_, _, hat⟩ := World.cells?_some hc
      subst e0
      have g0 := hat 0 (by omega)
      simp at g0
      rw [Go.Deep.add_add] at g0
      have hz : 0 ≤ z ∧ z ≤ 255 := by
        have : IntKind.u8.min ≤ z ∧ z ≤ IntKind.u8.max := by simpa [Lit.wf] using wz
        exact this
      refine ⟨UInt8.ofNat z.toNat, ?_⟩
      have e : ((UInt8.ofNat z.toNat).toNat : Int) = z := by simp; omega
      rw [e]
      have g1 := g0
      exact ⟨cell_add0 (by simpa using g0), by simpa using g1⟩)
    refine ⟨some a, len, cap, (List.range len).map f, hcs, by simp, ?_⟩
    rcases Nat.eq_zero_or_pos len with rfl | hpos
    · exact .inl (by simp)
    · refine .inr ⟨a.block, a.off, ?_, (World.block_lt_of_cell? W ⟨a.block, a.off + 0, none⟩ (hf 0 hpos).1), fun i v hv => ?_⟩
      · have g0 := (hf 0 hpos).2
        simp [Addr.add] at g0
        have hs := World.cell?_spot g0
        obtain ⟨bk, off, sp⟩ := a
        simp at hs
        rw [hs]
      · simp only [List.getElem?_map, Option.map_eq_some_iff] at hv
        obtain ⟨j, hj, rfl⟩ := hv
        obtain ⟨hil, rfl⟩ := List.getElem?_eq_some_iff.1 hj
        simp only [List.length_range] at hil
        rw [List.getElem_range]
        exact (hf i hil).1
set_option maxRecDepth 100000 in
theorem open_bytes {v : Value} {d : DataW H} {p : List MemPlace}
    (hv : Value.okWide Try.prog W .any base 30 v) (h : DataW.Trod enc Try.prog W b spare held 30 v d p) :
    ∃ A len c xs, v = .slice A len c ∧ FitB W A len xs := by
  obtain ⟨a, len, cap, rfl⟩ := okWide_slice Try.underlying30 hv
  obtain ⟨fuel, hf⟩ := h
  obtain ⟨A, l, c, xs, hcs, hfit⟩ := open_byterow hf
  simp [Value.cells] at hcs
  obtain ⟨rfl, rfl, rfl⟩ := hcs
  exact ⟨_, _, _, xs, rfl, hfit⟩
end
end Go.Proofs.Yteoepnadjkjlmaa
