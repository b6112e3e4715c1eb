/-
  Rows of values in memory: what a slice of the struct Value reads as, and what keeps it.
-/
import Derived.Test.YtgndeldngcjedaaFrame
import Derived.Test.YtgndeldngcjedaaValueOk
namespace Go.Proofs.Ytgndeldngcjedaa
open Go.RowKit
set_option linter.unusedVariables false

/-- The three fields of a value. -/
structure GV where
  k : Int
  n : Int
  t : ByteArray

def GV.fit (v : GV) : Prop := (Lit.int .i64 v.k).wf = true ∧ (Lit.int .i64 v.n).wf = true ∧ v.t.size ≤ maxLen

/-- A value's three cells. -/
def VAt (w : World) (g o : Nat) (v : GV) : Prop :=
  w.cell? ⟨g, o, none⟩ = some (.int .i64 v.k) ∧ w.cell? ⟨g, o + 1, none⟩ = some (.int .i64 v.n) ∧ w.cell? ⟨g, o + 2, none⟩ = some (.string v.t)

/-- A slice of values below block B reads as the list vs. -/
def RowAt (w : World) (B : Nat) (A : Option Addr) (vs : List GV) : Prop :=
  vs = [] ∨ ∃ g o, A = some ⟨g, o, none⟩ ∧ g < B ∧ ∀ i v, vs[i]? = some v → VAt w g (o + i * 3) v

theorem VAt.below {w w' : World} {B g o : Nat} {v : GV} (h : VAt w g o v) (hb : Below B w w') (hg : g < B) : VAt w' g o v := by
  obtain ⟨h0, h1, h2⟩ := h
  exact ⟨(hb.cell (p := ⟨g, o, none⟩) hg).trans h0, (hb.cell (p := ⟨g, o + 1, none⟩) hg).trans h1, (hb.cell (p := ⟨g, o + 2, none⟩) hg).trans h2⟩
theorem RowAt.below {w w' : World} {B B' : Nat} {A : Option Addr} {vs : List GV} (h : RowAt w B A vs) (hb : Below B' w w') (hB : B ≤ B') : RowAt w' B A vs := by
  rcases h with h | ⟨g, o, hA, hg, hc⟩
  · exact .inl h
  · exact .inr ⟨g, o, hA, hg, fun i v hv => (hc i v hv).below hb (by omega)⟩
theorem RowAt.mono {w : World} {B B' : Nat} {A : Option Addr} {vs : List GV} (h : RowAt w B A vs) (hB : B ≤ B') : RowAt w B' A vs := by
  rcases h with h | ⟨g, o, hA, hg, hc⟩
  · exact .inl h
  · exact .inr ⟨g, o, hA, by omega, hc⟩
theorem RowAt.at_ {w : World} {B : Nat} {A : Option Addr} {vs : List GV} (h : RowAt w B A vs) {i : Nat} (hi : i < vs.length) :
    ∃ g o, A = some ⟨g, o, none⟩ ∧ g < B ∧ VAt w g (o + i * 3) vs[i] := by
  rcases h with h | ⟨g, o, hA, hg, hc⟩
  · subst h; simp at hi
  · exact ⟨g, o, hA, hg, hc i _ (List.getElem?_eq_getElem hi)⟩

theorem RowAt.to_ {w w' : World} {A : Option Addr} {vs : List GV} (h : RowAt w w.heap.size A vs) (hb : Below w.heap.size w w') : RowAt w' w'.heap.size A vs := (h.below hb (Nat.le_refl _)).mono hb.size

/-- How much of its number a law's size check takes for a row. -/
def costV (vs : List GV) : Nat := (vs.map fun v => v.t.size).sum
def cost (vs : List GV) : Nat := vs.length + costV vs
def szC (c : Nat) (left : Int) : Int := if left - c < 0 then -1 else left - c
theorem szV_eq (t : ByteArray) (left : Int) : szV t left = szC t.size left := rfl
theorem len_cost (vs : List GV) : vs.length ≤ cost vs := by unfold cost; omega
theorem szC_pos {c : Nat} {left : Int} (h : 0 ≤ szC c left) : (c : Int) ≤ left ∧ szC c left ≤ left := by
  unfold szC at h ⊢
  by_cases h1 : left - c < 0
  · rw [if_pos h1] at h; omega
  · rw [if_neg h1]; omega
theorem costV_take (vs : List GV) (i : Nat) (h : i < vs.length) : costV (vs.take (i + 1)) = costV (vs.take i) + vs[i].t.size := by
  unfold costV
  rw [List.take_succ_eq_append_getElem h, List.map_append, List.sum_append]
  simp only [List.map_cons, List.map_nil, List.sum_cons, List.sum_nil, Nat.add_zero]
theorem costV_take_le (vs : List GV) (i : Nat) : costV (vs.take i) ≤ costV vs := by
  unfold costV
  conv => rhs; rw [← List.take_append_drop i vs]
  rw [List.map_append, List.sum_append]
  omega

set_option maxHeartbeats 800000 in
theorem sz_values (A : Option Addr) (c : Nat) (vs : List GV) (left : Int) (w : World) (hr : RowAt w w.heap.size A vs) (hl : vs.length ≤ maxLen) (hv : ∀ v ∈ vs, v.t.size ≤ maxLen) (h0 : 0 ≤ left) (h1 : left ≤ 1048576) :
    Calls Try.prog 45 #[.slice A vs.length c, .int .i64 left] w fun e w' => e = .returned (.int .i64 (szC (cost vs) left)) ∧ Below w.heap.size w w' := by
  unfold maxLen at hl
  by_cases hlen : left - vs.length < 0
  · have H := Lib.hid (show szC (cost vs) left = -1 by unfold szC cost; rw [if_pos (by omega)])
    go_enter Try.func45, Try.ntmps45
    go_wp2
    go_ret
    exact ⟨ret_int (by rw [H.out]), Below.refl _ _⟩
  go_enter Try.func45, Try.ntmps45
  go_wp2
  go_loopw [1, 5] (fun l i w' => ∃ k : Nat, k ≤ vs.length ∧ i = .int .i64 k ∧ l = .int .i64 (left - vs.length - costV (vs.take k)) ∧ 0 ≤ left - vs.length - costV (vs.take k) ∧ Below w.heap.size w w') (fun _ i _ => vs.length - (intOf i).toNat)
  case atStart => exact ⟨0, Nat.zero_le _, rfl, by simp [costV], by simp [costV]; omega, Below.refl _ _⟩
  case round =>
    obtain ⟨k, hk, rfl, rfl, hp, hB⟩ := hrel
    by_cases hlt : k < vs.length
    · obtain ⟨g, o, rfl, hg, c0, c1, c2⟩ := (hr.below hB (Nat.le_refl _)).at_ hlt
      have hct := Lib.hid (costV_take vs k hlt)
      have htot := costV_take_le vs (k + 1)
      have hm : vs[k].t.size ≤ maxLen := hv _ (List.getElem_mem hlt)
      go_wp2_with fail
      refine (sz_value _ _ _ _ _ hm hp (by omega)).mono ?_
      rintro e w2 ⟨rfl, hb2⟩
      have hB2 := below_next hB hb2 rfl rfl
      clear c0 c1 c2
      by_cases hneg : left - vs.length - costV (vs.take k) - vs[k].t.size < 0
      · have hs : szV vs[k].t (left - vs.length - costV (vs.take k)) = -1 := by unfold szV; rw [if_pos hneg]
        have H := Lib.hid (show szC (cost vs) left = -1 by have := hct.out; unfold szC cost; rw [if_pos (by omega)])
        rw [hs]
        clear hs
        go_wp2_with fail
        go_ret
        exact ⟨ret_int (by rw [H.out]), hB2⟩
      · have hs : szV vs[k].t (left - vs.length - costV (vs.take k)) = left - vs.length - costV (vs.take (k + 1)) := by
          have := hct.out
          unfold szV; rw [if_neg hneg]; omega
        have hp2 : 0 ≤ left - vs.length - costV (vs.take (k + 1)) := by have := hct.out; omega
        rw [hs]
        clear hs
        go_wp2_with fail
        go_roundw
        case rel => exact ⟨k + 1, by omega, by go_num, rfl, hp2, hB2⟩
        case measure => simp [intOf]; omega
    · have H := Lib.hid (show szC (cost vs) left = left - vs.length - costV (vs.take k) by
        rw [List.take_of_length_le (by omega)] at hp ⊢
        unfold szC cost; rw [if_neg (by omega)]; omega)
      go_wp2_with fail
      go_ret
      exact ⟨ret_int (by rw [H.out]), hB⟩
end Go.Proofs.Ytgndeldngcjedaa
