/-
  impl.NegDiff. What the laws' measure says of a list of differences. A list that is a difference is small in the laws' measures. The program's functions over differences, told by the values that they take and answer.
-/
import Derived.Test.YtemcpdpbikgfcaaNegSZ
import Derived.Test.YtemcpdpbikgfcaaDiffOkIZ
import Derived.Test.YtemcpdpbikgfcaaTabOkSZ
import Derived.Deep.DeepMust
import Derived.Test.YtemcpdpbikgfcaaTyDiffZ
import Derived.Test.YtemcpdpbikgfcaaWideSZ
import Derived.Test.YtemcpdpbikgfcaaOrDZ
import Derived.Test.YtemcpdpbikgfcaaSumsM
import Derived.Test.YtemcpdpbikgfcaaSmallLZ
import Derived.Test.YtemcpdpbikgfcaaFlipIZ
import Derived.Test.YtemcpdpbikgfcaaTabHeadZ
namespace Go.Proofs.Ytemcpdpbikgfcaa
open Go.RowKit Go.Sort
set_option linter.unusedVariables false

theorem apart_new {B : Nat} {w : World} {q p : DH} (h : RowW B w q) (hp : p.1.1 = some ⟨w.heap.size, 0, none⟩) : Apart q p := by
  rcases h with h | ⟨b, l, e, hB, hW⟩
  · exact .inl h
  · refine .inr (.inr ?_)
    rw [e, hp]
    intro he
    have := hW.lt
    simp at he
    all_goals omega
set_option maxRecDepth 100000 in
set_option maxHeartbeats 3200000 in
theorem impl_negDiff {lo : Nat} (A : Option Addr) (c : Nat) (zs : List GDiff) (w : World) (hr : DiffsAt w lo w.heap.size A zs) (hl : zs.length ≤ 1048576) (hlr : ∀ z ∈ zs, z.row.length ≤ 1048576 ∧ ∀ v ∈ z.row, v.t.size ≤ 1048576) :
    Calls Try.prog 41 #[.slice A zs.length c] w (IPost w (negD zs)) := by
  have HR := Lib.hid hr
  have HLR := Lib.hid hlr
  have HLM := Lib.hid (show ∀ z ∈ zs, z.row.length ≤ 1048576 ∧ ∀ v ∈ z.row, v.t.size ≤ maxLen from fun z hz => ⟨(hlr z hz).1, fun v hv => Nat.le_trans ((hlr z hz).2 v hv) (by unfold maxLen; omega)⟩)
  clear hr hlr
  by_cases h : diffOkB zs = true
  · have ho : negD zs = negL zs := by unfold negD; rw [if_pos h]
    rw [ho]
    clear ho
    have HC := Lib.hid (dok_cnt h)
    obtain ⟨i0, hi0, hz0, hz1, hz2⟩ := info_parts infoDiff
    have hmk := fun W => run_make (P := Try.prog) W 24 55 i0 _ Try.underlying24 hi0 hz0 .i64 .i64 0 zs.length (by omega) (by omega) (by rw [hz2]; omega) (by omega)
    go_enter Try.func41, Try.ntmps41
    go_wp2_with fail
    refine (impl_diffOk A c zs _ HR.out hl HLM.out).mono ?_
    rintro e w1 ⟨rfl, hb1⟩
    rw [h]
    go_wp2_with fail
    clear hmk
    go_loopw [3, 14] (fun out i w' => ∃ (k : Nat) (ps : List DH), k ≤ zs.length ∧ i = .int .i64 k ∧ Hid (ps.map (·.2) = negL (zs.take k)) ∧ Hid (GAcc w w' out ps)) (fun _ i _ => zs.length - (intOf i).toNat)
    case atStart => exact ⟨0, [], Nat.zero_le _, rfl, Lib.hid rfl, Lib.hid (GAcc.made hb1 rfl (by unfold maxLen; omega) (by simp [size_madeCells]))⟩
    case round =>
      obtain ⟨k, ps, hk, rfl, hL, hD⟩ := hrel
      obtain ⟨A6, c6, rfl, _⟩ := hD.out.slice
      have hLl := Lib.hid (show ps.length = k by have := congrArg List.length hL.out; simp [negL] at this; omega)
      by_cases hlt : k < zs.length
      · obtain ⟨g, o, rfl, _, hg, ⟨A', c', ⟨hcell, hcap⟩, hrow⟩, hcnt⟩ := (HR.out.to_ hD.out.low).at_ hlt
        have hi1 : (k : Int) < (zs.length : Int) := by omega
        have hi0 : (0 : Int) ≤ (k : Int) := by omega
        have hcb := HC.out _ (List.getElem_mem hlt)
        have hm := HLR.out _ (List.getElem_mem hlt)
        have hzl : ps.length ≤ 4194304 := by rw [hLl.out]; omega
        have hwn : IntKind.i64.wrap (-zs[k].count) = -zs[k].count := by rw [IntKind.wrap_i64]; omega
        have hBa : Below wr.heap.size wr (wr.alloc (.cells #[.slice A' zs[k].row.length c', .int .i64 zs[k].count] 55)) := (Below.refl _ _).alloc (Nat.le_refl _) _
        have hDx := Lib.hid (hD.out.below hBa)
        have hrw := Lib.hid (show RowAt (wr.alloc (.cells #[.slice A' zs[k].row.length c', .int .i64 zs[k].count] 55)) (wr.alloc (.cells #[.slice A' zs[k].row.length c', .int .i64 zs[k].count] 55)).heap.size A' zs[k].row from (hrow.to_ hBa).row)
        have hst := Lib.hid (fun (x : Option Addr × Nat) => (show (ps ++ [(x, neg1 zs[k])]).map (·.2) = negL (zs.take (k + 1)) by rw [List.map_append, hL.out]; unfold negL; rw [List.take_succ_eq_append_getElem hlt, List.map_append]; rfl))
        have HC2 := Lib.hid (show CapOk (neg1 zs[k]).row.length zs[k].row.length from ⟨Nat.le_refl _, Nat.le_trans hm.1 (by omega)⟩)
        clear hrow
        go_wp2_with fail
        have c0 : (wr.alloc (.cells #[.slice A' zs[k].row.length c', .int .i64 zs[k].count] 55)).cell? ⟨wr.heap.size, 0, none⟩ = some (.slice A' zs[k].row.length c') := by simp
        have c1 : (wr.alloc (.cells #[.slice A' zs[k].row.length c', .int .i64 zs[k].count] 55)).cell? ⟨wr.heap.size, 1, none⟩ = some (.int .i64 zs[k].count) := by simp
        have hlt1 : wr.heap.size < (wr.alloc (.cells #[.slice A' zs[k].row.length c', .int .i64 zs[k].count] 55)).heap.size := by simp
        clear hcell hcnt
        generalize wr.alloc (.cells #[.slice A' zs[k].row.length c', .int .i64 zs[k].count] 55) = W1 at *
        clear hBa
        go_region_law (first
          | (refine step_gappW rfl (.tmp 18) (.tmp 26) rfl w W2 (.slice A6 ps.length c6) ps ((some ⟨W1.heap.size, 0, none⟩, zs[k].row.length), neg1 zs[k]) W2.heap.size rfl hG2 hR2 HC2.out hA2 rfl (by first | exact ((Below.refl _ _).alloc (Nat.le_refl _) _).drew | exact (Below.refl _ _).alloc (Nat.le_refl _) _) (by simp [neg1]) (by simp [neg1]) hzl ?_; intro v3 W3 hG3)
          | (go_simp; go_at_call 72; go_must (refine (copy_row A' c' zs[k].row _ (by first | exact hrw.out | exact (show RowAt W1.drew _ _ _ from hrw.out)) hm.1 hm.2).mono ?_; rintro e W2 ⟨rfl, hW2, hb2⟩; have hB2 : Below W1.heap.size W1 W2 := (by first | exact hb2 | exact (Below.refl _ _).drew.trans hb2); have hG2 := hDx.out.below hB2; have hR2 : RowW w.heap.size W2 ((some ⟨W1.heap.size, 0, none⟩, zs[k].row.length), neg1 zs[k]) := .inr ⟨W1.heap.size, [], rfl, hDx.out.low.size, by simpa [neg1] using hW2⟩; have hA2 : ∀ q ∈ ps, Apart q ((some ⟨W1.heap.size, 0, none⟩, zs[k].row.length), neg1 zs[k]) := fun q hq => apart_new (hDx.out.row q hq) rfl; have hcnt2 := (hB2.cell (p := ⟨wr.heap.size, 1, none⟩) hlt1).trans c1)))
        all_goals have HG3 := Lib.hid hG3
        all_goals clear hG3 hG2 hR2 hA2 hcnt2 c0 c1
        all_goals go_wp2_with fail
        all_goals go_roundw
        all_goals first
          | exact ⟨k + 1, _, by omega, by go_num, hst.out _, HG3⟩
          | (simp [intOf]; omega)
      · have hi1 : ¬ (k : Int) < (zs.length : Int) := by omega
        have hE := Lib.hid (show ps.map (·.2) = negL zs by rw [hL.out, List.take_of_length_le (by omega)])
        have hP := Lib.hid (hD.out.post hE.out)
        go_wp2_with fail
        go_ret
        exact hP.out
  · rw [Bool.not_eq_true] at h
    have ho : negD zs = [] := by unfold negD; rw [if_neg (by rw [h]; decide)]
    rw [ho]
    clear ho
    go_enter Try.func41, Try.ntmps41
    go_wp2_with fail
    refine (impl_diffOk A c zs _ HR.out hl HLM.out).mono ?_
    rintro e w1 ⟨rfl, hb1⟩
    rw [h]
    go_wp2_with fail
    go_ret
    exact ipost_none hb1
end Go.Proofs.Ytemcpdpbikgfcaa
namespace Go.Proofs.Ytemcpdpbikgfcaa
open Go.RowKit
set_option linter.unusedVariables false

theorem diffs_small {zs : List GDiff} (h : costDiffs zs ≤ 1048576) : ∀ z ∈ zs, z.row.length ≤ 1048576 ∧ ∀ v ∈ z.row, v.t.size ≤ maxLen := by
  intro z hz
  have h1 : costValues z.row ≤ sumC costDiff zs := sumC_mem costDiff zs z hz
  have h2 : costValues z.row ≤ 1048576 := by unfold costDiffs at h; omega
  refine ⟨by unfold costValues at h2; omega, fun v hv => ?_⟩
  have h3 : v.t.size ≤ sumC costValue z.row := sumC_mem costValue z.row v hv
  unfold costValues at h2
  unfold maxLen
  omega
theorem diffs_texts {zs : List GDiff} (h : costDiffs zs ≤ 1048576) : ∀ z ∈ zs, ∀ v ∈ z.row, v.t.size ≤ 1048576 := by
  intro z hz v hv
  have h1 : costValues z.row ≤ sumC costDiff zs := sumC_mem costDiff zs z hz
  have h2 : costValues z.row ≤ 1048576 := by unfold costDiffs at h; omega
  have h3 : v.t.size ≤ sumC costValue z.row := sumC_mem costValue z.row v hv
  unfold costValues at h2
  omega
end Go.Proofs.Ytemcpdpbikgfcaa
namespace Go.Proofs.Ytemcpdpbikgfcaa
open Go.RowKit
set_option linter.unusedVariables false

theorem sumC_max {α : Type} (f : α → Nat) (M : Nat) : ∀ l : List α, (∀ x ∈ l, f x ≤ M) → sumC f l ≤ l.length * M
  | [], _ => by simp [sumC]
  | x :: l, h => by
    have ih := sumC_max f M l (fun y hy => h y (List.mem_cons_of_mem _ hy))
    have hx := h x List.mem_cons_self
    have e : sumC f (x :: l) = f x + sumC f l := by simp [sumC]
    rw [e, List.length_cons, Nat.add_mul]
    omega
theorem ok_cost {R : List GDiff} (h : R = [] ∨ diffOkB R = true) : costDiffs R ≤ 1600000 ∧ R.length ≤ 3000 ∧ (R.map fun z => 3 * z.row.length + 1).sum ≤ 100000 := by
  rcases h with rfl | h
  · simp [costDiffs, sumC]
  · obtain ⟨h1, _, h3⟩ := ok_small h
    refine ⟨?_, h1, ?_⟩
    · have hz : ∀ z ∈ R, costDiff z ≤ 500 := fun z hz => by
        have h4 := h3 z hz
        have h5 := sumC_max costValue 60 z.row (fun v hv => h4.2 v hv)
        unfold costDiff costValues
        omega
      have := sumC_max costDiff 500 R hz
      unfold costDiffs
      omega
    · have := sumC_max (fun z : GDiff => 3 * z.row.length + 1) 25 R (fun z hz => by have := (h3 z hz).1; omega)
      unfold sumC at this
      omega
theorem orD_ok (zs : List GDiff) : orD zs = [] ∨ diffOkB (orD zs) = true := by
  unfold orD
  by_cases h : diffOkB zs = true
  · rw [if_pos h]; exact .inr h
  · rw [if_neg h]; exact .inl rfl
theorem addDD_ok (a b : List GDiff) : addDD a b = [] ∨ diffOkB (addDD a b) = true := by
  unfold addDD
  by_cases h : (diffOkB a && diffOkB b && compatB a b) = true
  · rw [if_pos h]; exact orD_ok _
  · rw [if_neg h]; exact .inl rfl
end Go.Proofs.Ytemcpdpbikgfcaa
namespace Go.Proofs.Ytemcpdpbikgfcaa
open Go.RowKit Go.Sort
set_option linter.unusedVariables false

/-- The value v is a list of differences that reads as zs. -/
def DV (w : World) (v : Value) (zs : List GDiff) : Prop := ∃ A c, v = .slice A zs.length c ∧ DiffsAt w 0 w.heap.size A zs
/-- The value v is a table that reads as rows. -/
def TV (w : World) (v : Value) (rows : List (List GV)) : Prop := ∃ A c, v = .slice A rows.length c ∧ TabC w w.heap.size A rows
def lensD (zs : List GDiff) : Prop := zs.length ≤ 1048576 ∧ ∀ z ∈ zs, z.row.length ≤ 1048576 ∧ ∀ v ∈ z.row, v.t.size ≤ 1048576
def lensT (rows : List (List GV)) : Prop := rows.length ≤ 1048576 ∧ ∀ r ∈ rows, r.length ≤ 1048576 ∧ ∀ v ∈ r, v.t.size ≤ 1048576
theorem DV.to_ {w w' : World} {v : Value} {zs : List GDiff} (h : DV w v zs) (hb : Below w.heap.size w w') : DV w' v zs := by
  obtain ⟨A, c, e, hd⟩ := h; exact ⟨A, c, e, hd.to_ hb⟩
theorem TV.to_ {w w' : World} {v : Value} {rows : List (List GV)} (h : TV w v rows) (hb : Below w.heap.size w w') : TV w' v rows := by
  obtain ⟨A, c, e, hd⟩ := h; exact ⟨A, c, e, hd.to_ hb⟩
theorem lens_max {zs : List GDiff} (h : lensD zs) : ∀ z ∈ zs, z.row.length ≤ 1048576 ∧ ∀ v ∈ z.row, v.t.size ≤ maxLen := fun z hz => ⟨(h.2 z hz).1, fun v hv => by have := (h.2 z hz).2 v hv; unfold maxLen; omega⟩
theorem lensT_max {rows : List (List GV)} (h : lensT rows) : ∀ r ∈ rows, r.length ≤ 1048576 ∧ ∀ v ∈ r, v.t.size ≤ maxLen := fun r hr => ⟨(h.2 r hr).1, fun v hv => by have := (h.2 r hr).2 v hv; unfold maxLen; omega⟩
theorem lens_ok {zs : List GDiff} (h : zs = [] ∨ diffOkB zs = true) : lensD zs := by
  rcases h with rfl | h
  · exact ⟨by simp, fun z hz => by simp at hz⟩
  · obtain ⟨h1, _, h3⟩ := ok_small h
    exact ⟨by omega, fun z hz => ⟨by have := (h3 z hz).1; omega, fun v hv => by have := (h3 z hz).2 v hv; omega⟩⟩
theorem lens_drawn {zs : List GDiff} (h : drawnD zs) : lensD zs := drawn_lens h
theorem lensT_table {rows : List (List GV)} (h : tableOkB rows = true) : lensT rows := by
  obtain ⟨h1, h3⟩ := table_small h
  exact ⟨by omega, fun z hz => ⟨by have := (h3 z hz).1; omega, fun v hv => by have := (h3 z hz).2 v hv; omega⟩⟩
theorem lensT_pos (zs : List GDiff) : lensT (posD zs) := lensT_table (posD_ok zs)
theorem negD_ok (a : List GDiff) : negD a = [] ∨ diffOkB (negD a) = true := by
  by_cases h : diffOkB a = true
  · right
    have hn : negD a = negL a := by unfold negD; rw [if_pos h]
    rw [hn]
    obtain ⟨h1, h2, h3⟩ := diffOk_asc h
    have hcn : Canon (negL a) (negL a) := by
      refine ⟨?_, fun z hz => ?_, fun r => rfl⟩
      · unfold AscD negL; rw [List.pairwise_map]; exact h1
      · obtain ⟨y, hy, rfl⟩ := List.mem_map.1 hz
        have := h2 y hy
        show -y.count ≠ 0
        omega
    exact canon_ok hcn (negL_rows (P := fun r => goodRow (wid (rowsD a)) r = true) (fun z hz => (h3 z hz).1)) (by rw [negL_len]; exact (ok_small h).1) (fun z hz => by
      obtain ⟨y, hy, rfl⟩ := List.mem_map.1 hz
      have h4 := (h3 y hy).2
      have h5 := h2 y hy
      unfold cntB at h4 ⊢
      simp only [Bool.and_eq_true, decide_eq_true_eq, bne_iff_ne, ne_eq] at h4 ⊢
      show ((¬ -y.count = 0) ∧ -1000000 ≤ -y.count) ∧ -y.count ≤ 1000000
      omega)
  · left; unfold negD; rw [if_neg h]
/-- What a function that answers a list of differences leaves. -/
def VD (w : World) (zs : List GDiff) (e : Ending) (w' : World) : Prop := ∃ v, e = .returned v ∧ DV w' v zs ∧ Below w.heap.size w w'
def VT (w : World) (rows : List (List GV)) (e : Ending) (w' : World) : Prop := ∃ v, e = .returned v ∧ TV w' v rows ∧ Below w.heap.size w w'
theorem IPost.vd {w : World} {zs : List GDiff} {e : Ending} {w' : World} (h : IPost w zs e w') : VD w zs e w' := by
  obtain ⟨A, c, ps, rfl, rfl, hG, hb⟩ := h
  exact ⟨_, rfl, ⟨A, c, by simp, hG.diffs⟩, hb⟩
theorem ITPost.vt {w : World} {rows : List (List GV)} {e : Ending} {w' : World} (h : ITPost w rows e w') (hl : lensT rows) : VT w rows e w' := by
  obtain ⟨A, c, ps, rfl, rfl, hG, hb⟩ := h
  exact ⟨_, rfl, ⟨A, c, by simp, hG.tabC (fun p hp => (hl.2 p.2 (List.mem_map.2 ⟨p, hp, rfl⟩)).1)⟩, hb⟩
theorem v_add {va vb : Value} {a b : List GDiff} (w : World) (ha : DV w va a) (hb : DV w vb b) (la : lensD a) (lb : lensD b) :
    Calls Try.prog 14 #[va, vb] w (VD w (addDD a b)) := by
  obtain ⟨A, c, rfl, hA⟩ := ha
  obtain ⟨B, d, rfl, hB⟩ := hb
  exact (impl_addDiffs A B c d a b w hA hB la.1 lb.1 (lens_max la) (lens_max lb)).mono fun _ _ h => h.vd
theorem v_neg {va : Value} {a : List GDiff} (w : World) (ha : DV w va a) (la : lensD a) :
    Calls Try.prog 41 #[va] w (VD w (negD a)) := by
  obtain ⟨A, c, rfl, hA⟩ := ha
  exact (impl_negDiff A c a w hA la.1 la.2).mono fun _ _ h => h.vd
theorem v_flips {va vb : Value} {a b : List GDiff} (w : World) (ha : DV w va a) (hb : DV w vb b) (la : lensD a) (lb : lensD b) :
    Calls Try.prog 25 #[va, vb] w (VD w (flipsD a b)) := by
  obtain ⟨A, c, rfl, hA⟩ := ha
  obtain ⟨B, d, rfl, hB⟩ := hb
  exact (impl_flips A B c d a b w hA hB la.1 lb.1 (lens_max la) (lens_max lb)).mono fun _ _ h => h.vd
theorem v_distinct {va : Value} {a : List GDiff} (w : World) (ha : DV w va a) (la : lensD a) :
    Calls Try.prog 35 #[va] w (VT w (posD a)) := by
  obtain ⟨A, c, rfl, hA⟩ := ha
  exact (impl_distinct A c a w hA la.1 la.2).mono fun _ _ h => h.vt (lensT_pos a)
theorem v_diffOf {va vb : Value} {a b : List (List GV)} (w : World) (ha : TV w va a) (hb : TV w vb b) (la : lensT a) (lb : lensT b) :
    Calls Try.prog 21 #[va, vb] w (VD w (diffOfD a b)) := by
  obtain ⟨A, c, rfl, hA⟩ := ha
  obtain ⟨B, d, rfl, hB⟩ := hb
  exact (impl_diffOf A B c d a b w hA hB la.1 lb.1 (lensT_max la) (lensT_max lb)).mono fun _ _ h => h.vd
theorem v_sameT {va vb : Value} {a : List (List GV)} (w : World) (ha : TV w va a) (hb : TV w vb a) (la : lensT a) :
    Calls Try.prog 37 #[va, vb] w fun e w' => e = .returned (.bool true) ∧ Below w.heap.size w w' := by
  obtain ⟨A, c, rfl, hA⟩ := ha
  obtain ⟨B, d, rfl, hB⟩ := hb
  exact same_table A B c d a w hA.tab hB.tab la.1 (fun r hr => (la.2 r hr).1)
theorem v_sameD {va vb : Value} {a : List GDiff} (w : World) (ha : DV w va a) (hb : DV w vb a) (la : lensD a) :
    Calls Try.prog 39 #[va, vb] w fun e w' => e = .returned (.bool true) ∧ Below w.heap.size w w' := by
  obtain ⟨A, c, rfl, hA⟩ := ha
  obtain ⟨B, d, rfl, hB⟩ := hb
  exact same_diffs A B c d a w hA hB la.1 (fun z hz => (la.2 z hz).1)
theorem v_ok {va : Value} {a : List GDiff} (b : Bool) (w : World) (hb : diffOkB a = b) (ha : DV w va a) (la : lensD a) :
    Calls Try.prog 40 #[va] w fun e w' => e = .returned (.bool b) ∧ Below w.heap.size w w' := by
  obtain ⟨A, c, rfl, hA⟩ := ha
  rw [← hb]
  exact impl_diffOk A c a w hA la.1 (lens_max la)
/-- The laws' own small difference. -/
def oneZ : List GDiff := [⟨[⟨1, 0, ByteArray.empty⟩], 1⟩]
theorem one_at (w : World) : DV ((w.alloc (.cells #[.int .i64 1, .int .i64 0, .string ByteArray.empty] 52)).alloc (.cells #[.slice (some ⟨w.heap.size, 0, none⟩) 1 1, .int .i64 1] 55)) (.slice (some ⟨w.heap.size + 1, 0, none⟩) 1 1) oneZ := by
  have e : (w.alloc (.cells #[.int .i64 1, .int .i64 0, .string ByteArray.empty] 52)).heap.size = w.heap.size + 1 := by simp
  have h1 := Whole.new w 52 [.int .i64 1, .int .i64 0, .string ByteArray.empty]
  have h2 := Whole.new (w.alloc (.cells #[.int .i64 1, .int .i64 0, .string ByteArray.empty] 52)) 55 [.slice (some ⟨w.heap.size, 0, none⟩) 1 1, .int .i64 1]
  rw [e] at h2
  have h3 := h1.below ((Below.refl (w.heap.size + 1) (w.alloc (.cells #[.int .i64 1, .int .i64 0, .string ByteArray.empty] 52))).alloc (by rw [e]; exact Nat.le_refl _) (.cells #[.slice (some ⟨w.heap.size, 0, none⟩) 1 1, .int .i64 1] 55)) (Nat.lt_succ_self _)
  refine ⟨_, 1, rfl, .inr ⟨w.heap.size + 1, 0, rfl, Nat.zero_le _, by simp, fun i z hz => ?_⟩⟩
  have hi : i = 0 := by have := (List.getElem?_eq_some_iff.1 hz).1; simp [oneZ] at this; exact this
  subst hi
  simp [oneZ] at hz
  subst hz
  refine ⟨⟨some ⟨w.heap.size, 0, none⟩, 1, ⟨h2.cell 0, by simp [CapOk]⟩, .inr ⟨w.heap.size, 0, rfl, Nat.zero_le _, by simp; omega, fun j v hv => ?_⟩⟩, h2.cell 1⟩
  have hj : j = 0 := by have := (List.getElem?_eq_some_iff.1 hv).1; simp at this; exact this
  subst hj
  simp at hv
  subst hv
  exact ⟨h3.cell 0, h3.cell 1, h3.cell 2⟩
theorem one_ok : diffOkB oneZ = true := by decide +kernel
theorem one_lens : lensD oneZ := lens_ok (.inr one_ok)
theorem one_pos : (posD oneZ).length = 1 := by unfold posD; rw [if_pos one_ok]; rfl
end Go.Proofs.Ytemcpdpbikgfcaa
