/-
  Ascending lists of rows: they are told by their members; what a merge and a run of equal rows leave. laws.toValue and laws.szValue. How the laws measure a row.
-/
import Derived.Test.YteoepnadjkjlmaaGreatFindMZ
import Derived.Test.YteoepnadjkjlmaaGreatRowOkSZ
import Derived.WalkKit
import Derived.ProofKit
import Derived.Below
import Derived.Lib.Hide
namespace Go.Proofs.YteoepnadjkjlmaaGreat
set_option linter.unusedVariables false

abbrev Row := List GV
def AscP (l : List Row) : Prop := l.Pairwise fun a b => cmpR a b < 0
theorem cmp_self (a : Row) : cmpR a a = 0 := (good_cmpR.eq a a).2 rfl
theorem asc_iff (l : List Row) : ascB l = true ↔ AscP l := by
  unfold AscP
  induction l with
  | nil => simp [ascB]
  | cons a l ih =>
    constructor
    · intro h
      rw [List.pairwise_cons]
      exact ⟨asc_head l a h, ih.1 (asc_tail h)⟩
    · intro h
      rw [List.pairwise_cons] at h
      cases l with
      | nil => simp [ascB]
      | cons b l =>
        simp only [ascB]
        rw [ih.2 h.2, decide_eq_true (h.1 b (by simp))]
        rfl
theorem asc_unique : ∀ (a b : List Row), AscP a → AscP b → (∀ r, r ∈ a ↔ r ∈ b) → a = b
  | [], [], _, _, _ => rfl
  | [], y :: b, _, _, h => by have := (h y).2 (by simp); simp at this
  | x :: a, [], _, _, h => by have := (h x).1 (by simp); simp at this
  | x :: a, y :: b, ha, hb, h => by
    unfold AscP at ha hb
    rw [List.pairwise_cons] at ha hb
    have hxy : x = y := by
      have h1 := (h x).1 (by simp)
      have h2 := (h y).2 (by simp)
      rw [List.mem_cons] at h1 h2
      rcases h1 with h1 | h1
      · exact h1
      · rcases h2 with h2 | h2
        · exact h2.symm
        · have e1 := hb.1 x h1
          have e2 := ha.1 y h2
          have e3 := good_cmpR.anti x y
          omega
    subst hxy
    have ht : ∀ r, r ∈ a ↔ r ∈ b := by
      intro r
      have hr := h r
      simp only [List.mem_cons] at hr
      constructor
      · intro hm
        rcases hr.1 (.inr hm) with e | e
        · subst e
          have := ha.1 r hm
          rw [cmp_self] at this
          omega
        · exact e
      · intro hm
        rcases hr.2 (.inr hm) with e | e
        · subst e
          have := hb.1 r hm
          rw [cmp_self] at this
          omega
        · exact e
    rw [asc_unique a b ha.2 hb.2 ht]
theorem ascP_snoc {l : List Row} {x : Row} (h : AscP l) (hx : ∀ y ∈ l, cmpR y x < 0) : AscP (l ++ [x]) := by
  unfold AscP at *
  rw [List.pairwise_append]
  exact ⟨h, by simp, fun a ha b hb => by simp at hb; subst hb; exact hx a ha⟩

/-- The state of a merge. -/
def MInv (a b o : List Row) (i k : Nat) : Prop :=
  AscP o ∧ (∀ x ∈ o, (∀ y ∈ a.drop i, cmpR x y < 0) ∧ ∀ y ∈ b.drop k, cmpR x y < 0) ∧ (∀ r, (r ∈ o ∨ r ∈ a.drop i ∨ r ∈ b.drop k) ↔ (r ∈ a ∨ r ∈ b)) ∧ o.length ≤ i + k
theorem minv_start (a b : List Row) : MInv a b [] 0 0 := ⟨by simp [AscP], by simp, by simp, by simp⟩
theorem asc_drop {a : List Row} (h : AscP a) (i : Nat) : AscP (a.drop i) := h.sublist (List.drop_sublist _ _)
theorem drop_lt {a : List Row} (h : AscP a) {i : Nat} (hi : i < a.length) : ∀ y ∈ a.drop (i + 1), cmpR a[i] y < 0 := by
  have := asc_drop h i
  unfold AscP at this
  rw [List.drop_eq_getElem_cons hi, List.pairwise_cons] at this
  exact this.1
theorem minv_left {a b o : List Row} {i k : Nat} (ha : AscP a) (hb : AscP b) (h : MInv a b o i k) (hi : i < a.length) (hc : ∀ y ∈ b.drop k, cmpR a[i] y < 0) : MInv a b (o ++ [a[i]]) (i + 1) k := by
  obtain ⟨h1, h2, h3, h4⟩ := h
  have hd := List.drop_eq_getElem_cons hi
  refine ⟨ascP_snoc h1 fun y hy => (h2 y hy).1 _ (by rw [hd]; exact List.mem_cons_self), fun x hx => ?_, fun r => ?_, by simp; omega⟩
  · rw [List.mem_append] at hx
    rcases hx with hx | hx
    · exact ⟨fun y hy => (h2 x hx).1 y (by rw [hd]; exact List.mem_cons_of_mem _ hy), (h2 x hx).2⟩
    · simp at hx
      subst hx
      exact ⟨drop_lt ha hi, hc⟩
  · have := h3 r
    rw [hd, List.mem_cons] at this
    rw [← this]
    simp only [List.mem_append, List.mem_singleton]
    grind
theorem minv_right {a b o : List Row} {i k : Nat} (ha : AscP a) (hb : AscP b) (h : MInv a b o i k) (hk : k < b.length) (hc : ∀ y ∈ a.drop i, cmpR b[k] y < 0) : MInv a b (o ++ [b[k]]) i (k + 1) := by
  obtain ⟨h1, h2, h3, h4⟩ := h
  have hd := List.drop_eq_getElem_cons hk
  refine ⟨ascP_snoc h1 fun y hy => (h2 y hy).2 _ (by rw [hd]; exact List.mem_cons_self), fun x hx => ?_, fun r => ?_, by simp; omega⟩
  · rw [List.mem_append] at hx
    rcases hx with hx | hx
    · exact ⟨(h2 x hx).1, fun y hy => (h2 x hx).2 y (by rw [hd]; exact List.mem_cons_of_mem _ hy)⟩
    · simp at hx
      subst hx
      exact ⟨hc, drop_lt hb hk⟩
  · have := h3 r
    rw [hd, List.mem_cons] at this
    rw [← this]
    simp only [List.mem_append, List.mem_singleton]
    grind
theorem minv_both {a b o : List Row} {i k : Nat} (ha : AscP a) (hb : AscP b) (h : MInv a b o i k) (hi : i < a.length) (hk : k < b.length) (hc : cmpR a[i] b[k] = 0) : MInv a b (o ++ [a[i]]) (i + 1) (k + 1) := by
  have he := (good_cmpR.eq _ _).1 hc
  obtain ⟨h1, h2, h3, h4⟩ := h
  have hd := List.drop_eq_getElem_cons hi
  have hd' := List.drop_eq_getElem_cons hk
  refine ⟨ascP_snoc h1 fun y hy => (h2 y hy).1 _ (by rw [hd]; exact List.mem_cons_self), fun x hx => ?_, fun r => ?_, by simp; omega⟩
  · rw [List.mem_append] at hx
    rcases hx with hx | hx
    · exact ⟨fun y hy => (h2 x hx).1 y (by rw [hd]; exact List.mem_cons_of_mem _ hy), fun y hy => (h2 x hx).2 y (by rw [hd']; exact List.mem_cons_of_mem _ hy)⟩
    · simp at hx
      subst hx
      exact ⟨drop_lt ha hi, by rw [he]; exact drop_lt hb hk⟩
  · have := h3 r
    rw [hd, hd', List.mem_cons, List.mem_cons, ← he] at this
    rw [← this]
    simp only [List.mem_append, List.mem_singleton]
    grind
theorem minv_end {a b o : List Row} {i k : Nat} (h : MInv a b o i k) (hi : a.length ≤ i) (hk : b.length ≤ k) : AscP o ∧ ∀ r, r ∈ o ↔ (r ∈ a ∨ r ∈ b) := by
  refine ⟨h.1, fun r => ?_⟩
  have := h.2.2.1 r
  rw [List.drop_eq_nil_of_le hi, List.drop_eq_nil_of_le hk] at this
  simpa using this
theorem less_drop {a b : List Row} {i k : Nat} (hb : AscP b) (hk : k < b.length) {x : Row} (hc : cmpR x b[k] < 0) : ∀ y ∈ b.drop k, cmpR x y < 0 := by
  intro y hy
  rw [List.drop_eq_getElem_cons hk, List.mem_cons] at hy
  rcases hy with rfl | hy
  · exact hc
  · exact good_cmpR.trans _ _ _ hc (drop_lt hb hk y hy)

/-! Runs of equal rows -/
abbrev PR := Nat × Row
def ddT (prev : Row) : List PR → List PR
  | [] => []
  | b :: l => if cmpR b.2 prev = 0 then ddT b.2 l else b :: ddT b.2 l
def dd : List PR → List PR
  | [] => []
  | a :: l => a :: ddT a.2 l
def lastR (prev : Row) : List PR → Row
  | [] => prev
  | b :: l => lastR b.2 l
theorem ddT_snoc : ∀ (prev : Row) (l : List PR) (x : PR), ddT prev (l ++ [x]) = ddT prev l ++ if cmpR x.2 (lastR prev l) = 0 then [] else [x]
  | prev, [], x => by simp [ddT, lastR]; rfl
  | prev, b :: l, x => by
    simp only [List.cons_append, ddT, lastR, ddT_snoc b.2 l x]
    split <;> simp <;> rfl
theorem lastR_take : ∀ (a : PR) (l : List PR) (k : Nat) (h : k < (a :: l).length), lastR a.2 (l.take k) = (a :: l)[k].2
  | a, l, 0, h => by simp [lastR]
  | a, b :: l, k + 1, h => by
    simp only [List.take_succ_cons, lastR, List.getElem_cons_succ]
    exact lastR_take b l k (by simpa using h)
  | a, [], k + 1, h => by simp at h
theorem dd_snoc (ps : List PR) (k : Nat) (h : k + 1 < ps.length) : dd (ps.take (k + 2)) = dd (ps.take (k + 1)) ++ if cmpR ps[k + 1].2 ps[k].2 = 0 then [] else [ps[k + 1]] := by
  cases ps with
  | nil => simp at h
  | cons a l =>
    have hk : k < l.length := by simpa using h
    simp only [List.take_succ_cons, dd]
    rw [List.take_succ_eq_append_getElem hk, ddT_snoc, lastR_take a l k (by simp; omega)]
    simp
theorem dd_one (ps : List PR) : dd (ps.take 1) = ps.take 1 := by
  cases ps <;> simp [dd, ddT]
theorem ddT_sub : ∀ (prev : Row) (l : List PR), (ddT prev l).Sublist l
  | _, [] => by simp [ddT]
  | prev, b :: l => by
    unfold ddT
    split
    · exact (ddT_sub b.2 l).cons _
    · exact (ddT_sub b.2 l).cons_cons _
theorem dd_sub (ps : List PR) : (dd ps).Sublist ps := by
  cases ps with
  | nil => simp [dd]
  | cons a l => exact (ddT_sub a.2 l).cons_cons _
theorem dd_len (ps : List PR) : (dd ps).length ≤ ps.length := (dd_sub ps).length_le
theorem ddT_mem : ∀ (prev : Row) (l : List PR) (r : Row), (r = prev ∨ r ∈ (ddT prev l).map (·.2)) ↔ (r = prev ∨ r ∈ l.map (·.2))
  | prev, [], r => by simp [ddT]
  | prev, b :: l, r => by
    have ih := ddT_mem b.2 l r
    unfold ddT
    by_cases hc : cmpR b.2 prev = 0
    · have e := (good_cmpR.eq _ _).1 hc
      rw [if_pos hc]
      rw [e] at ih ⊢
      simp only [List.map_cons, List.mem_cons, e]
      grind
    · rw [if_neg hc]
      simp only [List.map_cons, List.mem_cons]
      grind
theorem dd_mem (ps : List PR) (r : Row) : r ∈ (dd ps).map (·.2) ↔ r ∈ ps.map (·.2) := by
  cases ps with
  | nil => simp [dd]
  | cons a l =>
    have := ddT_mem a.2 l r
    simpa only [dd, List.map_cons, List.mem_cons] using this
def SortedR (l : List Row) : Prop := l.Pairwise fun a b => cmpR a b ≤ 0
theorem ddT_asc : ∀ (prev : Row) (l : List PR), SortedR (prev :: l.map (·.2)) → AscP (prev :: (ddT prev l).map (·.2))
  | prev, [], _ => by simp [ddT, AscP]
  | prev, b :: l, h => by
    unfold SortedR at h
    simp only [List.map_cons, List.pairwise_cons] at h
    have ih := ddT_asc b.2 l (by unfold SortedR; simp only [List.pairwise_cons]; exact h.2)
    unfold ddT
    by_cases hc : cmpR b.2 prev = 0
    · rw [if_pos hc]
      rw [(good_cmpR.eq _ _).1 hc] at ih ⊢
      exact ih
    · rw [if_neg hc]
      unfold AscP at ih ⊢
      simp only [List.map_cons]
      rw [List.pairwise_cons]
      refine ⟨?_, ih⟩
      have hb : cmpR prev b.2 < 0 := by
        have h1 := h.1 b.2 (by simp)
        have h2 := good_cmpR.anti b.2 prev
        omega
      rw [List.pairwise_cons] at ih
      intro y hy
      rw [List.mem_cons] at hy
      rcases hy with rfl | hy
      · exact hb
      · exact good_cmpR.trans _ _ _ hb (ih.1 y hy)
theorem dd_asc (ps : List PR) (h : SortedR (ps.map (·.2))) : AscP ((dd ps).map (·.2)) := by
  cases ps with
  | nil => simp [dd, AscP]
  | cons a l => exact ddT_asc a.2 l h
end Go.Proofs.YteoepnadjkjlmaaGreat
namespace Go.Proofs.YteoepnadjkjlmaaGreat
open Go.RowKit
set_option linter.unusedVariables false

set_option maxHeartbeats 400000 in
theorem to_value (k n : Int) (t : ByteArray) (w : World) :
    Calls Tryz.prog 85 #[.agg #[.int .i64 k, .int .i64 n, .string t]] w fun e w' => e = .returned (.agg #[.int .i64 k, .int .i64 n, .string t]) ∧ Below w.heap.size w w' := by
  go_enter Tryz.func85, Tryz.ntmps85
  go_wp2
  refine bodyPost_ret (v := .agg #[.int .i64 k, .int .i64 n, .string t]) (by simp [results, Tryz.results85, go_sem]) rfl ⟨rfl, ?_⟩
  exact (((Below.refl _ _).alloc (Nat.le_refl _) _).alloc (by simp) _).alloc (by simp; omega) _

/-- What laws.szValue leaves of a number. -/
def szV (t : ByteArray) (left : Int) : Int := if left - t.size < 0 then -1 else left - t.size
theorem szV_le (t : ByteArray) (left : Int) : szV t left ≤ left ∨ szV t left = -1 := by unfold szV; split <;> omega
set_option maxHeartbeats 400000 in
theorem sz_value (k n : Int) (t : ByteArray) (left : Int) (w : World) (ht : t.size ≤ maxLen) (h0 : 0 ≤ left) (h1 : left ≤ 1048576) :
    Calls Tryz.prog 80 #[.agg #[.int .i64 k, .int .i64 n, .string t], .int .i64 left] w fun e w' => e = .returned (.int .i64 (szV t left)) ∧ Below w.heap.size w w' := by
  unfold maxLen at ht
  go_enter Tryz.func80, Tryz.ntmps80
  go_wp2
  all_goals go_ret
  all_goals refine ⟨ret_int ?_, (Below.refl _ _).alloc (Nat.le_refl _) _⟩
  all_goals unfold szV
  · rw [if_pos (by omega)]
  · rw [if_neg (by omega)]
end Go.Proofs.YteoepnadjkjlmaaGreat
namespace Go.Proofs.YteoepnadjkjlmaaGreat
open Go.RowKit
set_option linter.unusedVariables false

set_option maxHeartbeats 800000 in
theorem sz_values (A : Option Addr) (c : Nat) (vs : List GV) (left : Int) (w : World) (hr : RowAt w w.heap.size A vs) (hl : vs.length ≤ maxLen) (hv : ∀ v ∈ vs, v.t.size ≤ maxLen) (h0 : 0 ≤ left) (h1 : left ≤ 1048576) :
    Calls Tryz.prog 62 #[.slice A vs.length c, .int .i64 left] w fun e w' => e = .returned (.int .i64 (szC (cost vs) left)) ∧ Below w.heap.size w w' := by
  unfold maxLen at hl
  by_cases hlen : left - vs.length < 0
  · have H := Lib.hid (show szC (cost vs) left = -1 by unfold szC cost; rw [if_pos (by omega)])
    go_enter Tryz.func62, Tryz.ntmps62
    go_wp2
    go_ret
    exact ⟨ret_int (by rw [H.out]), Below.refl _ _⟩
  go_enter Tryz.func62, Tryz.ntmps62
  go_wp2
  go_loopw [1, 5] (fun l i w' => ∃ k : Nat, k ≤ vs.length ∧ i = .int .i64 k ∧ l = .int .i64 (left - vs.length - costV (vs.take k)) ∧ 0 ≤ left - vs.length - costV (vs.take k) ∧ Below w.heap.size w w') (fun _ i _ => vs.length - (intOf i).toNat)
  case atStart => exact ⟨0, Nat.zero_le _, rfl, by simp [costV], by simp [costV]; omega, Below.refl _ _⟩
  case round =>
    obtain ⟨k, hk, rfl, rfl, hp, hB⟩ := hrel
    by_cases hlt : k < vs.length
    · obtain ⟨g, o, rfl, hg, c0, c1, c2⟩ := (hr.below hB (Nat.le_refl _)).at_ hlt
      have hct := Lib.hid (costV_take vs k hlt)
      have htot := costV_take_le vs (k + 1)
      have hm : vs[k].t.size ≤ maxLen := hv _ (List.getElem_mem hlt)
      go_wp2_with fail
      refine (sz_value _ _ _ _ _ hm hp (by omega)).mono ?_
      rintro e w2 ⟨rfl, hb2⟩
      have hB2 := below_next hB hb2 rfl rfl
      clear c0 c1 c2
      by_cases hneg : left - vs.length - costV (vs.take k) - vs[k].t.size < 0
      · have hs : szV vs[k].t (left - vs.length - costV (vs.take k)) = -1 := by unfold szV; rw [if_pos hneg]
        have H := Lib.hid (show szC (cost vs) left = -1 by have := hct.out; unfold szC cost; rw [if_pos (by omega)])
        rw [hs]
        clear hs
        go_wp2_with fail
        go_ret
        exact ⟨ret_int (by rw [H.out]), hB2⟩
      · have hs : szV vs[k].t (left - vs.length - costV (vs.take k)) = left - vs.length - costV (vs.take (k + 1)) := by
          have := hct.out
          unfold szV; rw [if_neg hneg]; omega
        have hp2 : 0 ≤ left - vs.length - costV (vs.take (k + 1)) := by have := hct.out; omega
        rw [hs]
        clear hs
        go_wp2_with fail
        go_roundw
        case rel => exact ⟨k + 1, by omega, by go_num, rfl, hp2, hB2⟩
        case measure => simp [intOf]; omega
    · have H := Lib.hid (show szC (cost vs) left = left - vs.length - costV (vs.take k) by
        rw [List.take_of_length_le (by omega)] at hp ⊢
        unfold szC cost; rw [if_neg (by omega)]; omega)
      go_wp2_with fail
      go_ret
      exact ⟨ret_int (by rw [H.out]), hB⟩
end Go.Proofs.YteoepnadjkjlmaaGreat
