/-
  Blocks that are known whole.
-/
import Derived.Test.YteoepnadjkjlmaaMemB
import Derived.Laws.MakeOwn
import Derived.Laws.OwnMore
import Derived.OwnWalk
namespace Go.Proofs.Yteoepnadjkjlmaa
open Go.RowKit
set_option linter.unusedVariables false

/-- A block that is known whole, none of its cells frozen. -/
def Whole (w : World) (g : Nat) (t : TypeId) (l : List Value) : Prop := w.heap[g]? = some (.cells l.toArray t (0, 0))
def flat : List GV → List Value
  | [] => []
  | v :: vs => .int .i64 v.k :: .int .i64 v.n :: .string v.t :: flat vs
theorem flat_length : ∀ vs : List GV, (flat vs).length = vs.length * 3
  | [] => rfl
  | v :: vs => by simp only [flat, List.length_cons, flat_length vs]; omega
theorem flat_append : ∀ a b : List GV, flat (a ++ b) = flat a ++ flat b
  | [], b => rfl
  | v :: a, b => by simp only [List.cons_append, flat, flat_append a b]
theorem flat_at : ∀ (vs : List GV) (i : Nat) (v : GV), vs[i]? = some v → (flat vs)[i * 3]? = some (.int .i64 v.k) ∧ (flat vs)[i * 3 + 1]? = some (.int .i64 v.n) ∧ (flat vs)[i * 3 + 2]? = some (.string v.t)
  | [], i, v, h => by simp at h
  | x :: vs, 0, v, h => by simp at h; subst h; simp [flat]
  | x :: vs, i + 1, v, h => by
    have := flat_at vs i v (by simpa using h)
    rw [show (i + 1) * 3 = i * 3 + 3 from by omega]
    simpa [flat] using this
theorem Whole.cell {w : World} {g : Nat} {t : TypeId} {l : List Value} (h : Whole w g t l) (i : Nat) : w.cell? ⟨g, i, none⟩ = l[i]? := by
  unfold Whole at h; simp [World.cell?, h]
theorem Whole.frozen {w : World} {g : Nat} {t : TypeId} {l : List Value} (h : Whole w g t l) (i : Nat) : w.frozen? ⟨g, i, none⟩ = false := by
  unfold Whole at h; simp [World.frozen?, h]
theorem Whole.lt {w : World} {g : Nat} {t : TypeId} {l : List Value} (h : Whole w g t l) : g < w.heap.size := by
  rcases Nat.lt_or_ge g w.heap.size with hlt | hge
  · exact hlt
  · unfold Whole at h; rw [Array.getElem?_eq_none hge] at h; cases h
theorem Whole.below {w w' : World} {B g : Nat} {t : TypeId} {l : List Value} (h : Whole w g t l) (hb : Below B w w') (hg : g < B) : Whole w' g t l := (hb.block g hg).trans h
theorem Whole.drew {w : World} {g : Nat} {t : TypeId} {l : List Value} (h : Whole w g t l) : Whole w.drew g t l := h
theorem Whole.new (w : World) (t : TypeId) (l : List Value) : Whole (w.alloc (.cells l.toArray t)) w.heap.size t l := heap_alloc_new w _
theorem Whole.set_ {w : World} {g : Nat} {t : TypeId} {l : List Value} (h : Whole w g t l) (i : Nat) (u : Value) : Whole (w.setCell ⟨g, i, none⟩ u) g t (l.set i u) := by
  unfold Whole at h ⊢
  simp [World.setCell, Array.getElem?_modify, h]
theorem Whole.row {w : World} {B g : Nat} {t : TypeId} {vs : List GV} (h : Whole w g t (flat vs)) (hg : g < B) : RowAt w B (some ⟨g, 0, none⟩) vs := by
  refine .inr ⟨g, 0, rfl, hg, fun i v hv => ?_⟩
  obtain ⟨h0, h1, h2⟩ := flat_at vs i v hv
  refine ⟨?_, ?_, ?_⟩ <;> rw [h.cell, Nat.zero_add] <;> assumption
theorem Whole.to_ {w w' : World} {g : Nat} {t : TypeId} {vs : List GV} (h : Whole w g t (flat vs)) (hb : Below w.heap.size w w') : RowAt w' w'.heap.size (some ⟨g, 0, none⟩) vs :=
  (h.below hb h.lt).row (Nat.lt_of_lt_of_le h.lt hb.size)
theorem set3 (a b : List Value) (x y z x' y' z' : Value) : (((a ++ x :: y :: z :: b).set a.length x').set (a.length + 1) y').set (a.length + 2) z' = a ++ x' :: y' :: z' :: b := by
  simp
theorem three_of {l : List Value} {m : Nat} (h : l.length = (m + 1) * 3) : ∃ x y z r, l = x :: y :: z :: r ∧ r.length = m * 3 := by
  match l, h with
  | x :: y :: z :: r, h => exact ⟨x, y, z, r, rfl, by simp at h; omega⟩
  | [], h => simp only [List.length_nil] at h; omega
  | [_], h => simp only [List.length_nil, List.length_cons] at h; omega
  | [_, _], h => simp only [List.length_nil, List.length_cons] at h; omega
theorem infoV : (Try.prog.info? 54).map (fun i => (i.zero, i.size, i.bytes)) = some (some (.agg #[.int .i64 0, .int .i64 0, .string ByteArray.empty]), 3, 32) := by kernel_rfl
end Go.Proofs.Yteoepnadjkjlmaa
