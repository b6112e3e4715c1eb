/-
  Blocks that are known whole. laws.toValueS: the slice that it makes.
-/
import Derived.Test.YteoepnadjkjlmaaGreatRowOkSZ
import Derived.Laws.MakeOwn
import Derived.Laws.OwnMore
import Derived.OwnWalk
import Derived.Test.YteoepnadjkjlmaaGreatMemZ
namespace Go.Proofs.YteoepnadjkjlmaaGreat
open Go.RowKit
set_option linter.unusedVariables false

/-- A block that is known whole, none of its cells frozen. -/
def Whole (w : World) (g : Nat) (t : TypeId) (l : List Value) : Prop := w.heap[g]? = some (.cells l.toArray t (0, 0))
def flat : List GV → List Value
  | [] => []
  | v :: vs => .int .i64 v.k :: .int .i64 v.n :: .string v.t :: flat vs
theorem flat_length : ∀ vs : List GV, (flat vs).length = vs.length * 3
  | [] => rfl
  | v :: vs => by simp only [flat, List.length_cons, flat_length vs]; omega
theorem flat_append : ∀ a b : List GV, flat (a ++ b) = flat a ++ flat b
  | [], b => rfl
  | v :: a, b => by simp only [List.cons_append, flat, flat_append a b]
theorem flat_at : ∀ (vs : List GV) (i : Nat) (v : GV), vs[i]? = some v → (flat vs)[i * 3]? = some (.int .i64 v.k) ∧ (flat vs)[i * 3 + 1]? = some (.int .i64 v.n) ∧ (flat vs)[i * 3 + 2]? = some (.string v.t)
  | [], i, v, h => by simp at h
  | x :: vs, 0, v, h => by simp at h; subst h; simp [flat]
  | x :: vs, i + 1, v, h => by
    have := flat_at vs i v (by simpa using h)
    rw [show (i + 1) * 3 = i * 3 + 3 from by omega]
    simpa [flat] using this
theorem Whole.cell {w : World} {g : Nat} {t : TypeId} {l : List Value} (h : Whole w g t l) (i : Nat) : w.cell? ⟨g, i, none⟩ = l[i]? := by
  unfold Whole at h; simp [World.cell?, h]
theorem Whole.frozen {w : World} {g : Nat} {t : TypeId} {l : List Value} (h : Whole w g t l) (i : Nat) : w.frozen? ⟨g, i, none⟩ = false := by
  unfold Whole at h; simp [World.frozen?, h]
theorem Whole.lt {w : World} {g : Nat} {t : TypeId} {l : List Value} (h : Whole w g t l) : g < w.heap.size := by
  rcases Nat.lt_or_ge g w.heap.size with hlt | hge
  · exact hlt
  · unfold Whole at h; rw [Array.getElem?_eq_none hge] at h; cases h
theorem Whole.below {w w' : World} {B g : Nat} {t : TypeId} {l : List Value} (h : Whole w g t l) (hb : Below B w w') (hg : g < B) : Whole w' g t l := (hb.block g hg).trans h
theorem Whole.drew {w : World} {g : Nat} {t : TypeId} {l : List Value} (h : Whole w g t l) : Whole w.drew g t l := h
theorem Whole.new (w : World) (t : TypeId) (l : List Value) : Whole (w.alloc (.cells l.toArray t)) w.heap.size t l := heap_alloc_new w _
theorem Whole.set_ {w : World} {g : Nat} {t : TypeId} {l : List Value} (h : Whole w g t l) (i : Nat) (u : Value) : Whole (w.setCell ⟨g, i, none⟩ u) g t (l.set i u) := by
  unfold Whole at h ⊢
  simp [World.setCell, Array.getElem?_modify, h]
theorem Whole.row {w : World} {B g : Nat} {t : TypeId} {vs : List GV} (h : Whole w g t (flat vs)) (hg : g < B) : RowAt w B (some ⟨g, 0, none⟩) vs := by
  refine .inr ⟨g, 0, rfl, hg, fun i v hv => ?_⟩
  obtain ⟨h0, h1, h2⟩ := flat_at vs i v hv
  refine ⟨?_, ?_, ?_⟩ <;> rw [h.cell, Nat.zero_add] <;> assumption
theorem Whole.to_ {w w' : World} {g : Nat} {t : TypeId} {vs : List GV} (h : Whole w g t (flat vs)) (hb : Below w.heap.size w w') : RowAt w' w'.heap.size (some ⟨g, 0, none⟩) vs :=
  (h.below hb h.lt).row (Nat.lt_of_lt_of_le h.lt hb.size)
theorem set3 (a b : List Value) (x y z x' y' z' : Value) : (((a ++ x :: y :: z :: b).set a.length x').set (a.length + 1) y').set (a.length + 2) z' = a ++ x' :: y' :: z' :: b := by
  simp
theorem three_of {l : List Value} {m : Nat} (h : l.length = (m + 1) * 3) : ∃ x y z r, l = x :: y :: z :: r ∧ r.length = m * 3 := by
  match l, h with
  | x :: y :: z :: r, h => exact ⟨x, y, z, r, rfl, by simp at h; omega⟩
  | [], h => simp only [List.length_nil] at h; omega
  | [_], h => simp only [List.length_nil, List.length_cons] at h; omega
  | [_, _], h => simp only [List.length_nil, List.length_cons] at h; omega
theorem infoV : (Tryz.prog.info? 79).map (fun i => (i.zero, i.size, i.bytes)) = some (some (.agg #[.int .i64 0, .int .i64 0, .string ByteArray.empty]), 3, 32) := by kernel_rfl
end Go.Proofs.YteoepnadjkjlmaaGreat
namespace Go.Proofs.YteoepnadjkjlmaaGreat
open Go.RowKit
set_option linter.unusedVariables false

set_option maxHeartbeats 800000 in
theorem to_values (A : Option Addr) (c : Nat) (vs : List GV) (w : World) (hr : RowAt w w.heap.size A vs) (hl : vs.length ≤ 1048576) :
    Calls Tryz.prog 70 #[.slice A vs.length c] w fun e w' => e = .returned (.slice (some ⟨w.heap.size, 0, none⟩) vs.length vs.length) ∧ Whole w' w.heap.size 79 (flat vs) ∧ Below w.heap.size w w' := by
  obtain ⟨i0, hi0, hz0, hz1, hz2⟩ := info_parts infoV
  have hmk := fun W => run_make (P := Tryz.prog) W 52 79 i0 _ Tryz.underlying52 hi0 hz0 .i64 .i64 vs.length vs.length (by omega) (by omega) (by rw [hz2]; omega) (by omega)
  go_enter Tryz.func70, Tryz.ntmps70
  go_wp2_with fail
  have hW0 : ∃ l : List Value, l.length = (vs.length - 0) * 3 ∧ Whole (w.alloc (.cells (madeCells #[.int .i64 0, .int .i64 0, .string ByteArray.empty] (vs.length * 3)) 79)) w.heap.size 79 (flat (vs.take 0) ++ l) :=
    ⟨(madeCells #[.int .i64 0, .int .i64 0, .string ByteArray.empty] (vs.length * 3)).toList, by simp [size_madeCells], by simpa [flat] using Whole.new w 79 (madeCells #[.int .i64 0, .int .i64 0, .string ByteArray.empty] (vs.length * 3)).toList⟩
  have HW0 := Lib.hid hW0
  clear hW0 hmk
  go_loopw [4] (fun i w' => ∃ k : Nat, k ≤ vs.length ∧ i = .int .i64 k ∧ Hid (∃ l : List Value, l.length = (vs.length - k) * 3 ∧ Whole w' w.heap.size 79 (flat (vs.take k) ++ l)) ∧ Below w.heap.size w w') (fun i _ => vs.length - (intOf i).toNat)
  case atStart => exact ⟨0, Nat.zero_le _, rfl, HW0, (Below.refl _ _).alloc (Nat.le_refl _) _⟩
  case round =>
    obtain ⟨k, hk, rfl, hW, hB⟩ := hrel
    by_cases hlt : k < vs.length
    · obtain ⟨g, o, rfl, hg, c0, c1, c2⟩ := (hr.below hB (Nat.le_refl _)).at_ hlt
      go_wp2_with fail
      refine (to_value _ _ _ _).mono ?_
      rintro e w2 ⟨rfl, hb2⟩
      have hB2 := below_next hB hb2 rfl rfl
      clear c0 c1 c2
      obtain ⟨l, hl3, hW1⟩ := hW.out
      obtain ⟨x, y, z, l, rfl, hl4⟩ := three_of (l := l) (m := vs.length - k - 1) (by omega)
      have hW2 := hW1.below hb2 (by have := hB.size; have := hW1.lt; omega)
      have hfl : (flat (vs.take k)).length = k * 3 := by rw [flat_length, List.length_take]; omega
      have q0 := hW2.cell (k * 3)
      have q1 := hW2.cell (k * 3 + 1)
      have q2 := hW2.cell (k * 3 + 2)
      rw [List.getElem?_append_right (by omega), hfl] at q0 q1 q2
      simp at q0 q1 q2
      have r0 := hW2.frozen (k * 3)
      have r1 := hW2.frozen (k * 3 + 1)
      have r2 := hW2.frozen (k * 3 + 2)
      have hW3 := ((hW2.set_ (k * 3) (.int .i64 vs[k].k)).set_ (k * 3 + 1) (.int .i64 vs[k].n)).set_ (k * 3 + 2) (.string vs[k].t)
      have hs3 := set3 (flat (vs.take k)) l x y z (.int .i64 vs[k].k) (.int .i64 vs[k].n) (.string vs[k].t)
      rw [hfl] at hs3
      rw [hs3] at hW3
      have htk : flat (vs.take (k + 1)) ++ l = flat (vs.take k) ++ .int .i64 vs[k].k :: .int .i64 vs[k].n :: .string vs[k].t :: l := by
        rw [List.take_succ_eq_append_getElem hlt, flat_append]; simp [flat]
      rw [← htk] at hW3
      have HW3 := Lib.hid hW3
      have hB3 := ((hB2.setCell (p := ⟨w.heap.size, k * 3, none⟩) (Nat.le_refl _) (.int .i64 vs[k].k)).setCell (p := ⟨w.heap.size, k * 3 + 1, none⟩) (Nat.le_refl _) (.int .i64 vs[k].n)).setCell (p := ⟨w.heap.size, k * 3 + 2, none⟩) (Nat.le_refl _) (.string vs[k].t)
      clear hW hs3 htk hW3 hfl hl3 hW1 hW2
      have hl5 := Lib.hid hl4
      clear hl4
      go_wp2_with fail
      go_roundw
      case rel => exact ⟨k + 1, by omega, by go_num, Lib.hid ⟨l, by have := hl5.out; omega, HW3.out⟩, hB3⟩
      case measure => simp [intOf]; omega
    · go_wp2_with fail
      go_ret
      refine ⟨rfl, ?_, hB⟩
      obtain ⟨l, hl3, hW1⟩ := hW.out
      obtain rfl : l = [] := List.eq_nil_of_length_eq_zero (by rw [hl3]; omega)
      rw [List.take_of_length_le (by omega), List.append_nil] at hW1
      exact hW1
end Go.Proofs.YteoepnadjkjlmaaGreat
