/-
  A table whose rows are blocks of their own.
-/
import Derived.Test.YteoepnadjkjlmaaTabMath
import Derived.Test.YteoepnadjkjlmaaTabM
import Derived.Test.YteoepnadjkjlmaaWhole
namespace Go.Proofs.Yteoepnadjkjlmaa
open Go.RowKit Go.Sort
set_option linter.unusedVariables false

def headV (p : PR) : Value := .slice (some ⟨p.1, 0, none⟩) p.2.length p.2.length
def Own (w : World) (ps : List PR) : Prop := ∀ p ∈ ps, Whole w p.1 54 (flat p.2)
/-- A table: its outer block's cells begin with the heads of ps; l lies behind. -/
def OutAt (w : World) (g : Nat) (ps : List PR) (l : List Value) : Prop := Whole w g 35 (ps.map headV ++ l) ∧ Own w ps ∧ ∀ p ∈ ps, p.1 ≠ g
theorem Own.row {w : World} {ps : List PR} (h : Own w ps) {p : PR} (hp : p ∈ ps) : RowAt w w.heap.size (some ⟨p.1, 0, none⟩) p.2 := (h p hp).row (h p hp).lt
theorem OutAt.tab {w : World} {g : Nat} {ps : List PR} {l : List Value} (h : OutAt w g ps l) : TabAt w w.heap.size (some ⟨g, 0, none⟩) (ps.map (·.2)) := by
  refine .inr ⟨g, 0, rfl, h.1.lt, fun i r hr => ?_⟩
  rw [List.getElem?_map, Option.map_eq_some_iff] at hr
  obtain ⟨p, hp, rfl⟩ := hr
  have hi : i < ps.length := (List.getElem?_eq_some_iff.1 hp).1
  refine ⟨some ⟨p.1, 0, none⟩, p.2.length, ?_, h.2.1.row (List.mem_of_getElem? hp)⟩
  rw [h.1.cell, Nat.zero_add, List.getElem?_append_left (by simpa using hi), List.getElem?_map, hp]
  rfl
theorem OutAt.below {w w' : World} {g : Nat} {ps : List PR} {l : List Value} (h : OutAt w g ps l) (hb : Below w.heap.size w w') : OutAt w' g ps l :=
  ⟨h.1.below hb h.1.lt, fun p hp => (h.2.1 p hp).below hb (h.2.1 p hp).lt, h.2.2⟩

end Go.Proofs.Yteoepnadjkjlmaa
