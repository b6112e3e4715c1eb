/-
  Slices of values that a call made itself; a struct's three cells.
-/
import Derived.Test.YteoepnadjkjlmaaWhole
import Derived.Laws.AppendOwn
namespace Go.Proofs.Yteoepnadjkjlmaa
open Go.RowKit
set_option linter.unusedVariables false

/-- A slice of values of the call's own, from block B on, that holds r. -/
def VRow (B : Nat) (w : World) (v : Value) (r : List GV) : Prop := w.ownsRow B 54 3 v r.length (flat r)
theorem VRow.row {B : Nat} {w : World} {v : Value} {r : List GV} (h : VRow B w v r) : ∃ A c, v = .slice A r.length c ∧ RowAt w w.heap.size A r := by
  rcases h.2 with ⟨rfl, h0⟩ | ⟨g, cap, cur, rfl, hg, hh, hc1, hc2, hc3, hc4⟩
  · exact ⟨none, 0, by rw [h0], .inl (List.eq_nil_of_length_eq_zero h0)⟩
  · refine ⟨_, cap, rfl, .inr ⟨g, 0, rfl, ?_, fun i v hv => ?_⟩⟩
    · rcases Nat.lt_or_ge g w.heap.size with h' | h'
      · exact h'
      · rw [Array.getElem?_eq_none h'] at hh; cases hh
    · obtain ⟨f0, f1, f2⟩ := flat_at r i v hv
      have hi : i < r.length := (List.getElem?_eq_some_iff.1 hv).1
      have key : ∀ j, j < r.length * 3 → w.cell? ⟨g, j, none⟩ = (flat r)[j]? := fun j hj => by
        have h1 : w.cell? ⟨g, j, none⟩ = cur.toList[j]? := by simp [World.cell?, hh]
        rw [h1, ← hc4, List.getElem?_take_of_lt hj]
      rw [Nat.zero_add]
      exact ⟨(key _ (by omega)).trans f0, (key _ (by omega)).trans f1, (key _ (by omega)).trans f2⟩
theorem VRow.below {B : Nat} {w w' : World} {v : Value} {r : List GV} (h : VRow B w v r) (hb : Below w.heap.size w w') : VRow B w' v r := by
  refine ⟨h.1, ?_⟩
  rcases h.2 with h' | ⟨g, cap, cur, e, hg, hh, hr⟩
  · exact .inl h'
  · refine .inr ⟨g, cap, cur, e, hg, ?_, hr⟩
    have : g < w.heap.size := by
      rcases Nat.lt_or_ge g w.heap.size with h' | h'
      · exact h'
      · rw [Array.getElem?_eq_none h'] at hh; cases hh
    rw [hb.block g this]; exact hh
theorem VRow.mono {B B' : Nat} {w : World} {v : Value} {r : List GV} (h : VRow B w v r) (hB : B' ≤ B) : VRow B' w v r := by
  refine ⟨h.1, ?_⟩
  rcases h.2 with h' | ⟨g, cap, cur, e, hg, hr⟩
  · exact .inl h'
  · exact .inr ⟨g, cap, cur, e, by omega, hr⟩
theorem vrow_app {B : Nat} {w2 : World} {v2 : Value} {r : List GV} {v : GV} (h : w2.ownsRow B 54 3 v2 (r.length + 1) (flat r ++ [.int .i64 v.k, .int .i64 v.n, .string v.t])) : VRow B w2 v2 (r ++ [v]) := by
  unfold VRow
  rw [flat_append, List.length_append]
  exact h
theorem news_three (w : World) (a b c : Value) (t : TypeId) : ∀ j u, [a, b, c][j]? = some u → (w.alloc (.cells #[a, b, c] t)).cell? ((⟨w.heap.size, 0, none⟩ : Addr).add j) = some u := by
  intro j u hj
  match j, hj with
  | 0, hj => simp at hj; subst hj; simp [Addr.add]
  | 1, hj => simp at hj; subst hj; simp [Addr.add]
  | 2, hj => simp at hj; subst hj; simp [Addr.add]
theorem one_three (k n : Int) (t : ByteArray) : ∀ u ∈ [Value.int .i64 k, .int .i64 n, .string t], u.oneCell' = true := by
  intro u hu; simp at hu; rcases hu with rfl | rfl | rfl <;> rfl
theorem vrow_nil (B : Nat) (w : World) : VRow B w (.slice none 0 0) [] := ⟨rfl, .inl ⟨rfl, rfl⟩⟩
theorem vrow_new (w : World) : VRow w.heap.size (w.alloc (.cells #[] 54)) (.slice (some ⟨w.heap.size, 0, none⟩) 0 0) [] :=
  ⟨rfl, .inr ⟨w.heap.size, 0, #[], rfl, Nat.le_refl _, heap_alloc_new w _, Nat.le_refl _, by unfold maxLen; omega, rfl, rfl⟩⟩
theorem put3 {w : World} {g : Nat} {t : TypeId} {a b c : Value} (x y z : Value) (h : Whole w g t [a, b, c]) :
    Whole (((w.setCell ⟨g, 0, none⟩ x).setCell ⟨g, 1, none⟩ y).setCell ⟨g, 2, none⟩ z) g t [x, y, z] := ((h.set_ 0 x).set_ 1 y).set_ 2 z
theorem below3 {B g : Nat} {a w : World} (x y z : Value) (h : Below B a w) (hg : B ≤ g) : Below B a (((w.setCell ⟨g, 0, none⟩ x).setCell ⟨g, 1, none⟩ y).setCell ⟨g, 2, none⟩ z) :=
  ((h.setCell hg x).setCell hg y).setCell hg z
theorem cells3_ {w : World} {g : Nat} {t : TypeId} {x y z : Value} (h : Whole w g t [x, y, z]) : w.cell? ⟨g, 0, none⟩ = some x ∧ w.cell? ⟨g, 1, none⟩ = some y ∧ w.cell? ⟨g, 2, none⟩ = some z :=
  ⟨h.cell 0, h.cell 1, h.cell 2⟩
def VV (v : GV) : Value := .agg #[.int .i64 v.k, .int .i64 v.n, .string v.t]
def zeroV : List Value := [.int .i64 0, .int .i64 0, .string ByteArray.empty]
theorem new3 (w : World) : Whole (w.alloc (.cells #[.int .i64 0, .int .i64 0, .string ⟨#[]⟩] 54)) w.heap.size 54 zeroV := Whole.new w _ _
theorem own_ge {w : World} {base : Nat} {e : TypeId} {size n : Nat} {v : Value} {xs : List Value} (h : w.ownsRow base e size v n xs) : ∀ k, v.ownBlock = some k → base ≤ k := by
  intro k hk
  rcases h.2 with ⟨rfl, _⟩ | ⟨g, cap, cur, rfl, hg, _⟩
  · simp [Value.ownBlock] at hk
  · simp [Value.ownBlock] at hk; omega
theorem grown_next {w w1 w2 : World} {b : Nat} (h : w.grownBy w1 (some b)) (k : w1.grownBy w2 (some b)) : w.grownBy w2 (some b) :=
  ⟨k.os.trans h.os, k.tape.trans h.tape, k.output.trans h.output, Nat.le_trans h.size k.size, fun i hi hne => (k.block i (Nat.lt_of_lt_of_le hi h.size) hne).trans (h.block i hi hne)⟩
theorem grown_below {w w' : World} {b : Option Nat} (h : Below w.heap.size w w') : w.grownBy w' b := ⟨h.os, h.tape, h.output, h.size, fun k hk _ => h.block k hk⟩
theorem grown_set {w w1 : World} {g i : Nat} {u : Value} (h : w.grownBy w1 (some g)) : w.grownBy (w1.setCell ⟨g, i, none⟩ u) (some g) :=
  ⟨h.os, h.tape, h.output, by simpa [World.setCell] using h.size, fun k hk hne => by
    rw [Below.heap_setCell _ _ _ _ (by intro e; exact hne (by rw [e]))]; exact h.block k hk hne⟩
theorem grown_refl (w : World) (g : Nat) : w.grownBy w (some g) := ⟨rfl, rfl, rfl, Nat.le_refl _, fun _ _ _ => rfl⟩
theorem flat_one (r : List GV) : ∀ u ∈ flat r, u.oneCell' = true := by
  induction r with
  | nil => intro u hu; simp [flat] at hu
  | cons v r ih => intro u hu; simp [flat] at hu; rcases hu with rfl | rfl | rfl | h; rfl; rfl; rfl; exact ih u h
theorem Whole.far {w : World} {g g' i : Nat} {t : TypeId} {l : List Value} {u : Value} (h : Whole w g t l) (hne : g ≠ g') : Whole (w.setCell ⟨g', i, none⟩ u) g t l := by
  unfold Whole at h ⊢; rw [Below.heap_setCell _ _ _ _ hne]; exact h
theorem frozen3 {w : World} {g : Nat} {t : TypeId} {x y z : Value} (h : Whole w g t [x, y, z]) : w.frozen? ⟨g, 0, none⟩ = false ∧ w.frozen? ⟨g, 1, none⟩ = false ∧ w.frozen? ⟨g, 2, none⟩ = false :=
  ⟨h.frozen 0, h.frozen 1, h.frozen 2⟩
theorem infoU8 : (Try.prog.info? 5).map (fun i => (i.zero, i.size, i.bytes)) = some (some (.int .u8 0), 1, 1) := by kernel_rfl
theorem flat_get : ∀ (vs : List GV) (j : Nat) (u : Value), (flat vs)[j]? = some u → ∃ i v, vs[i]? = some v ∧ ((j = i * 3 ∧ u = .int .i64 v.k) ∨ (j = i * 3 + 1 ∧ u = .int .i64 v.n) ∨ (j = i * 3 + 2 ∧ u = .string v.t))
  | [], j, u, h => by simp [flat] at h
  | x :: vs, 0, u, h => by simp [flat] at h; exact ⟨0, x, rfl, .inl ⟨rfl, h.symm⟩⟩
  | x :: vs, 1, u, h => by simp [flat] at h; exact ⟨0, x, rfl, .inr (.inl ⟨rfl, h.symm⟩)⟩
  | x :: vs, 2, u, h => by simp [flat] at h; exact ⟨0, x, rfl, .inr (.inr ⟨rfl, h.symm⟩)⟩
  | x :: vs, j + 3, u, h => by
    obtain ⟨i, v, hv, h'⟩ := flat_get vs j u (by simpa [flat] using h)
    refine ⟨i + 1, v, by simpa using hv, ?_⟩
    rcases h' with ⟨rfl, e⟩ | ⟨rfl, e⟩ | ⟨rfl, e⟩
    · exact .inl ⟨by omega, e⟩
    · exact .inr (.inl ⟨by omega, e⟩)
    · exact .inr (.inr ⟨by omega, e⟩)
end Go.Proofs.Yteoepnadjkjlmaa
