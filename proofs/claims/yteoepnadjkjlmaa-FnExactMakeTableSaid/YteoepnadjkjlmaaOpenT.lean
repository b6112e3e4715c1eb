/-
  How a slice of slices of values reads.
-/
import Derived.Test.YteoepnadjkjlmaaOpen
import Derived.Test.YteoepnadjkjlmaaTab
namespace Go.Proofs.Yteoepnadjkjlmaa
open Go.ChangeShapes Go.WideShapes Go.ChangeAt Go.RowKit Go.Joins Go.Deep
set_option linter.unusedVariables false

/-- What the reading gives of a slice of slices of values. -/
def FitT (W : World) (A : Option Addr) (len : Nat) (rows : List (List GV)) : Prop :=
  len = rows.length ∧ TabAt W W.heap.size A rows ∧ rows.length ≤ maxLen ∧ ∀ r ∈ rows, r.length ≤ maxLen ∧ ∀ v ∈ r, v.fit

section
variable {H : Type} {enc : TypeId × Value → H} {W : World} {base b : Nat} {spare : Nat → Bool} {held : Bool}
theorem cellsVs : Try.prog.cellsOf 37 = 1 := by kernel_rfl

set_option maxRecDepth 100000 in
theorem open_tab {fuel : Nat} {cs : List Value} {x : DataW H × List MemPlace} (h : DataW.trod enc Try.prog W b spare held fuel 22 cs = some x) :
    ∃ A len c rows, cs = [.slice A len c] ∧ FitT W A len rows := by
  rcases open_slice1 Try.underlying22 cellsVs h with ⟨hcs, hx⟩ | ⟨a, len, cap, m, n, V, D, Pl, hcs, hbb, hl, hm, hmm, hx, hi⟩
  · exact ⟨none, 0, 0, [], hcs, rfl, .inl rfl, Nat.zero_le _, by simp⟩
  · have hlm : len ≤ m := by rw [hmm]; split <;> omega
    obtain ⟨f, hf⟩ := choose_lt (α := List GV) (n := len) (p := fun i r => (∃ A' c', W.cell? ⟨a.block, a.off + i, none⟩ = some (.slice A' r.length c') ∧ RowAt W W.heap.size A' r) ∧ r.length ≤ maxLen ∧ ∀ v ∈ r, v.fit) (fun i hil => by
      obtain ⟨hc, ht⟩ := hi i (by omega)
      obtain ⟨A', l', c', vs, hv, rfl, hr, hle, hfit⟩ := open_row ht
      simp at hv
      rw [hv] at hc
      exact ⟨vs, ⟨A', c', cell_add0 hc, hr⟩, hle, hfit⟩)
    refine ⟨some a, len, cap, (List.range len).map f, hcs, by simp, ?_, by simp; omega, ?_⟩
    · rcases Nat.eq_zero_or_pos len with rfl | hpos
      · exact .inl (by simp)
      · obtain ⟨⟨A', c', h0, _⟩, _⟩ := hf 0 hpos
        refine .inr ⟨a.block, a.off, ?_, (World.block_lt_of_cell? W ⟨a.block, a.off + 0, none⟩ h0), fun i r hr => ?_⟩
        · obtain ⟨hc, ht⟩ := hi 0 (by omega)
          have hs := World.cell?_spot hc
          obtain ⟨bk, off, sp⟩ := a
          simp [Addr.add] at hs
          rw [hs]
        · simp only [List.getElem?_map, Option.map_eq_some_iff] at hr
          obtain ⟨j, hj, rfl⟩ := hr
          obtain ⟨hil, rfl⟩ := List.getElem?_eq_some_iff.1 hj
          simp only [List.length_range] at hil
          rw [List.getElem_range]
          exact (hf i hil).1
    · intro r hr
      simp at hr
      obtain ⟨i, hi', rfl⟩ := hr
      exact (hf i hi').2
set_option maxRecDepth 100000 in
theorem open_tables {v : Value} {d : DataW H} {p : List MemPlace}
    (hv : Value.okWide Try.prog W .any base 22 v) (h : DataW.Trod enc Try.prog W b spare held 22 v d p) :
    ∃ A len c rows, v = .slice A len c ∧ FitT W A len rows := by
  obtain ⟨a, len, cap, rfl⟩ := okWide_slice Try.underlying22 hv
  obtain ⟨fuel, hf⟩ := h
  obtain ⟨A, l, c, vs, hcs, hfit⟩ := open_tab hf
  simp [Value.cells] at hcs
  obtain ⟨rfl, rfl, rfl⟩ := hcs
  exact ⟨_, _, _, vs, rfl, hfit⟩
end
end Go.Proofs.Yteoepnadjkjlmaa
