/-
  Tables in memory: a slice of slices of values.
-/
import Derived.Test.YteoepnadjkjlmaaMake
import Derived.Test.YteoepnadjkjlmaaRowEq
namespace Go.Proofs.Yteoepnadjkjlmaa
open Go.RowKit
set_option linter.unusedVariables false

/-- A slice of rows below block B reads as the list rows. -/
def TabAt (w : World) (B : Nat) (A : Option Addr) (rows : List (List GV)) : Prop :=
  rows = [] ∨ ∃ g o, A = some ⟨g, o, none⟩ ∧ g < B ∧ ∀ i r, rows[i]? = some r → ∃ A' c', w.cell? ⟨g, o + i, none⟩ = some (.slice A' r.length c') ∧ RowAt w B A' r

theorem TabAt.below {w w' : World} {B B' : Nat} {A : Option Addr} {rows : List (List GV)} (h : TabAt w B A rows) (hb : Below B' w w') (hB : B ≤ B') : TabAt w' B A rows := by
  rcases h with h | ⟨g, o, hA, hg, hc⟩
  · exact .inl h
  · refine .inr ⟨g, o, hA, hg, fun i r hr => ?_⟩
    obtain ⟨A', c', h1, h2⟩ := hc i r hr
    exact ⟨A', c', (hb.cell (p := ⟨g, o + i, none⟩) (by show g < B'; omega)).trans h1, h2.below hb hB⟩
theorem TabAt.mono {w : World} {B B' : Nat} {A : Option Addr} {rows : List (List GV)} (h : TabAt w B A rows) (hB : B ≤ B') : TabAt w B' A rows := by
  rcases h with h | ⟨g, o, hA, hg, hc⟩
  · exact .inl h
  · refine .inr ⟨g, o, hA, by omega, fun i r hr => ?_⟩
    obtain ⟨A', c', h1, h2⟩ := hc i r hr
    exact ⟨A', c', h1, h2.mono hB⟩
theorem TabAt.to_ {w w' : World} {A : Option Addr} {rows : List (List GV)} (h : TabAt w w.heap.size A rows) (hb : Below w.heap.size w w') : TabAt w' w'.heap.size A rows := (h.below hb (Nat.le_refl _)).mono hb.size
theorem TabAt.at_ {w : World} {B : Nat} {A : Option Addr} {rows : List (List GV)} (h : TabAt w B A rows) {i : Nat} (hi : i < rows.length) :
    ∃ g o A' c', A = some ⟨g, o, none⟩ ∧ g < B ∧ w.cell? ⟨g, o + i, none⟩ = some (.slice A' rows[i].length c') ∧ RowAt w B A' rows[i] := by
  rcases h with h | ⟨g, o, hA, hg, hc⟩
  · subst h; simp at hi
  · obtain ⟨A', c', h1, h2⟩ := hc i _ (List.getElem?_eq_getElem hi)
    exact ⟨g, o, A', c', hA, hg, h1, h2⟩

def costS (rows : List (List GV)) : Nat := (rows.map cost).sum
def costT (rows : List (List GV)) : Nat := rows.length + costS rows
theorem costS_take (rows : List (List GV)) (i : Nat) (h : i < rows.length) : costS (rows.take (i + 1)) = costS (rows.take i) + cost rows[i] := by
  unfold costS
  rw [List.take_succ_eq_append_getElem h, List.map_append, List.sum_append]
  simp only [List.map_cons, List.map_nil, List.sum_cons, List.sum_nil, Nat.add_zero]
theorem costS_take_le (rows : List (List GV)) (i : Nat) : costS (rows.take i) ≤ costS rows := by
  unfold costS
  conv => rhs; rw [← List.take_append_drop i rows]
  rw [List.map_append, List.sum_append]
  omega
theorem cost_le_costT (rows : List (List GV)) (r : List GV) (h : r ∈ rows) : cost r ≤ costT rows := by
  obtain ⟨i, hi, rfl⟩ := List.getElem_of_mem h
  have h1 := costS_take rows i hi
  have h2 := costS_take_le rows (i + 1)
  unfold costT
  omega
theorem len_le_costT (rows : List (List GV)) : rows.length ≤ costT rows := by unfold costT; omega

theorem infoVs : (Try.prog.info? 35).map (fun i => (i.zero, i.size, i.bytes)) = some (some (.slice none 0 0), 1, 24) := by kernel_rfl
end Go.Proofs.Yteoepnadjkjlmaa
