/-
  The program's functions over differences, told by the values that they take and answer.
-/
import Derived.Test.YtggkggaihfcjmaaOrDZ
import Derived.Test.YtggkggaihfcjmaaSumsM
import Derived.Test.YtggkggaihfcjmaaSmallLZ
import Derived.Test.YtggkggaihfcjmaaFlipIZ
import Derived.Test.YtggkggaihfcjmaaOkCostZ
import Derived.Test.YtggkggaihfcjmaaSumW
namespace Go.Proofs.Ytggkggaihfcjmaa
open Go.RowKit Go.Sort
set_option linter.unusedVariables false

/-- The value v is a list of differences that reads as zs. -/
def DV (w : World) (v : Value) (zs : List GDiff) : Prop := ∃ A c, v = .slice A zs.length c ∧ DiffsAt w 0 w.heap.size A zs
/-- The value v is a table that reads as rows. -/
def TV (w : World) (v : Value) (rows : List (List GV)) : Prop := ∃ A c, v = .slice A rows.length c ∧ TabC w w.heap.size A rows
def lensD (zs : List GDiff) : Prop := zs.length ≤ 1048576 ∧ ∀ z ∈ zs, z.row.length ≤ 1048576 ∧ ∀ v ∈ z.row, v.t.size ≤ 1048576
def lensT (rows : List (List GV)) : Prop := rows.length ≤ 1048576 ∧ ∀ r ∈ rows, r.length ≤ 1048576 ∧ ∀ v ∈ r, v.t.size ≤ 1048576
theorem DV.to_ {w w' : World} {v : Value} {zs : List GDiff} (h : DV w v zs) (hb : Below w.heap.size w w') : DV w' v zs := by
  obtain ⟨A, c, e, hd⟩ := h; exact ⟨A, c, e, hd.to_ hb⟩
theorem TV.to_ {w w' : World} {v : Value} {rows : List (List GV)} (h : TV w v rows) (hb : Below w.heap.size w w') : TV w' v rows := by
  obtain ⟨A, c, e, hd⟩ := h; exact ⟨A, c, e, hd.to_ hb⟩
theorem lens_max {zs : List GDiff} (h : lensD zs) : ∀ z ∈ zs, z.row.length ≤ 1048576 ∧ ∀ v ∈ z.row, v.t.size ≤ maxLen := fun z hz => ⟨(h.2 z hz).1, fun v hv => by have := (h.2 z hz).2 v hv; unfold maxLen; omega⟩
theorem lensT_max {rows : List (List GV)} (h : lensT rows) : ∀ r ∈ rows, r.length ≤ 1048576 ∧ ∀ v ∈ r, v.t.size ≤ maxLen := fun r hr => ⟨(h.2 r hr).1, fun v hv => by have := (h.2 r hr).2 v hv; unfold maxLen; omega⟩
theorem lens_ok {zs : List GDiff} (h : zs = [] ∨ diffOkB zs = true) : lensD zs := by
  rcases h with rfl | h
  · exact ⟨by simp, fun z hz => by simp at hz⟩
  · obtain ⟨h1, _, h3⟩ := ok_small h
    exact ⟨by omega, fun z hz => ⟨by have := (h3 z hz).1; omega, fun v hv => by have := (h3 z hz).2 v hv; omega⟩⟩
theorem lens_drawn {zs : List GDiff} (h : drawnD zs) : lensD zs := drawn_lens h
theorem lensT_table {rows : List (List GV)} (h : tableOkB rows = true) : lensT rows := by
  obtain ⟨h1, h3⟩ := table_small h
  exact ⟨by omega, fun z hz => ⟨by have := (h3 z hz).1; omega, fun v hv => by have := (h3 z hz).2 v hv; omega⟩⟩
theorem lensT_pos (zs : List GDiff) : lensT (posD zs) := lensT_table (posD_ok zs)
theorem negD_ok (a : List GDiff) : negD a = [] ∨ diffOkB (negD a) = true := by
  by_cases h : diffOkB a = true
  · right
    have hn : negD a = negL a := by unfold negD; rw [if_pos h]
    rw [hn]
    obtain ⟨h1, h2, h3⟩ := diffOk_asc h
    have hcn : Canon (negL a) (negL a) := by
      refine ⟨?_, fun z hz => ?_, fun r => rfl⟩
      · unfold AscD negL; rw [List.pairwise_map]; exact h1
      · obtain ⟨y, hy, rfl⟩ := List.mem_map.1 hz
        have := h2 y hy
        show -y.count ≠ 0
        omega
    exact canon_ok hcn (negL_rows (P := fun r => goodRow (wid (rowsD a)) r = true) (fun z hz => (h3 z hz).1)) (by rw [negL_len]; exact (ok_small h).1) (fun z hz => by
      obtain ⟨y, hy, rfl⟩ := List.mem_map.1 hz
      have h4 := (h3 y hy).2
      have h5 := h2 y hy
      unfold cntB at h4 ⊢
      simp only [Bool.and_eq_true, decide_eq_true_eq, bne_iff_ne, ne_eq] at h4 ⊢
      show ((¬ -y.count = 0) ∧ -1000000 ≤ -y.count) ∧ -y.count ≤ 1000000
      omega)
  · left; unfold negD; rw [if_neg h]
/-- What a function that answers a list of differences leaves. -/
def VD (w : World) (zs : List GDiff) (e : Ending) (w' : World) : Prop := ∃ v, e = .returned v ∧ DV w' v zs ∧ Below w.heap.size w w'
def VT (w : World) (rows : List (List GV)) (e : Ending) (w' : World) : Prop := ∃ v, e = .returned v ∧ TV w' v rows ∧ Below w.heap.size w w'
theorem IPost.vd {w : World} {zs : List GDiff} {e : Ending} {w' : World} (h : IPost w zs e w') : VD w zs e w' := by
  obtain ⟨A, c, ps, rfl, rfl, hG, hb⟩ := h
  exact ⟨_, rfl, ⟨A, c, by simp, hG.diffs⟩, hb⟩
theorem ITPost.vt {w : World} {rows : List (List GV)} {e : Ending} {w' : World} (h : ITPost w rows e w') (hl : lensT rows) : VT w rows e w' := by
  obtain ⟨A, c, ps, rfl, rfl, hG, hb⟩ := h
  exact ⟨_, rfl, ⟨A, c, by simp, hG.tabC (fun p hp => (hl.2 p.2 (List.mem_map.2 ⟨p, hp, rfl⟩)).1)⟩, hb⟩
theorem v_add {va vb : Value} {a b : List GDiff} (w : World) (ha : DV w va a) (hb : DV w vb b) (la : lensD a) (lb : lensD b) :
    Calls Try.prog 14 #[va, vb] w (VD w (addDD a b)) := by
  obtain ⟨A, c, rfl, hA⟩ := ha
  obtain ⟨B, d, rfl, hB⟩ := hb
  exact (impl_addDiffs A B c d a b w hA hB la.1 lb.1 (lens_max la) (lens_max lb)).mono fun _ _ h => h.vd
theorem v_neg {va : Value} {a : List GDiff} (w : World) (ha : DV w va a) (la : lensD a) :
    Calls Try.prog 41 #[va] w (VD w (negD a)) := by
  obtain ⟨A, c, rfl, hA⟩ := ha
  exact (impl_negDiff A c a w hA la.1 la.2).mono fun _ _ h => h.vd
theorem v_flips {va vb : Value} {a b : List GDiff} (w : World) (ha : DV w va a) (hb : DV w vb b) (la : lensD a) (lb : lensD b) :
    Calls Try.prog 25 #[va, vb] w (VD w (flipsD a b)) := by
  obtain ⟨A, c, rfl, hA⟩ := ha
  obtain ⟨B, d, rfl, hB⟩ := hb
  exact (impl_flips A B c d a b w hA hB la.1 lb.1 (lens_max la) (lens_max lb)).mono fun _ _ h => h.vd
theorem v_distinct {va : Value} {a : List GDiff} (w : World) (ha : DV w va a) (la : lensD a) :
    Calls Try.prog 35 #[va] w (VT w (posD a)) := by
  obtain ⟨A, c, rfl, hA⟩ := ha
  exact (impl_distinct A c a w hA la.1 la.2).mono fun _ _ h => h.vt (lensT_pos a)
theorem v_diffOf {va vb : Value} {a b : List (List GV)} (w : World) (ha : TV w va a) (hb : TV w vb b) (la : lensT a) (lb : lensT b) :
    Calls Try.prog 21 #[va, vb] w (VD w (diffOfD a b)) := by
  obtain ⟨A, c, rfl, hA⟩ := ha
  obtain ⟨B, d, rfl, hB⟩ := hb
  exact (impl_diffOf A B c d a b w hA hB la.1 lb.1 (lensT_max la) (lensT_max lb)).mono fun _ _ h => h.vd
theorem v_sameT {va vb : Value} {a : List (List GV)} (w : World) (ha : TV w va a) (hb : TV w vb a) (la : lensT a) :
    Calls Try.prog 37 #[va, vb] w fun e w' => e = .returned (.bool true) ∧ Below w.heap.size w w' := by
  obtain ⟨A, c, rfl, hA⟩ := ha
  obtain ⟨B, d, rfl, hB⟩ := hb
  exact same_table A B c d a w hA.tab hB.tab la.1 (fun r hr => (la.2 r hr).1)
theorem v_sameD {va vb : Value} {a : List GDiff} (w : World) (ha : DV w va a) (hb : DV w vb a) (la : lensD a) :
    Calls Try.prog 39 #[va, vb] w fun e w' => e = .returned (.bool true) ∧ Below w.heap.size w w' := by
  obtain ⟨A, c, rfl, hA⟩ := ha
  obtain ⟨B, d, rfl, hB⟩ := hb
  exact same_diffs A B c d a w hA hB la.1 (fun z hz => (la.2 z hz).1)
theorem v_ok {va : Value} {a : List GDiff} (b : Bool) (w : World) (hb : diffOkB a = b) (ha : DV w va a) (la : lensD a) :
    Calls Try.prog 40 #[va] w fun e w' => e = .returned (.bool b) ∧ Below w.heap.size w w' := by
  obtain ⟨A, c, rfl, hA⟩ := ha
  rw [← hb]
  exact impl_diffOk A c a w hA la.1 (lens_max la)
/-- The laws' own small difference. -/
def oneZ : List GDiff := [⟨[⟨1, 0, ByteArray.empty⟩], 1⟩]
theorem one_at (w : World) : DV ((w.alloc (.cells #[.int .i64 1, .int .i64 0, .string ByteArray.empty] 52)).alloc (.cells #[.slice (some ⟨w.heap.size, 0, none⟩) 1 1, .int .i64 1] 55)) (.slice (some ⟨w.heap.size + 1, 0, none⟩) 1 1) oneZ := by
  have e : (w.alloc (.cells #[.int .i64 1, .int .i64 0, .string ByteArray.empty] 52)).heap.size = w.heap.size + 1 := by simp
  have h1 := Whole.new w 52 [.int .i64 1, .int .i64 0, .string ByteArray.empty]
  have h2 := Whole.new (w.alloc (.cells #[.int .i64 1, .int .i64 0, .string ByteArray.empty] 52)) 55 [.slice (some ⟨w.heap.size, 0, none⟩) 1 1, .int .i64 1]
  rw [e] at h2
  have h3 := h1.below ((Below.refl (w.heap.size + 1) (w.alloc (.cells #[.int .i64 1, .int .i64 0, .string ByteArray.empty] 52))).alloc (by rw [e]; exact Nat.le_refl _) (.cells #[.slice (some ⟨w.heap.size, 0, none⟩) 1 1, .int .i64 1] 55)) (Nat.lt_succ_self _)
  refine ⟨_, 1, rfl, .inr ⟨w.heap.size + 1, 0, rfl, Nat.zero_le _, by simp, fun i z hz => ?_⟩⟩
  have hi : i = 0 := by have := (List.getElem?_eq_some_iff.1 hz).1; simp [oneZ] at this; exact this
  subst hi
  simp [oneZ] at hz
  subst hz
  refine ⟨⟨some ⟨w.heap.size, 0, none⟩, 1, ⟨h2.cell 0, by simp [CapOk]⟩, .inr ⟨w.heap.size, 0, rfl, Nat.zero_le _, by simp; omega, fun j v hv => ?_⟩⟩, h2.cell 1⟩
  have hj : j = 0 := by have := (List.getElem?_eq_some_iff.1 hv).1; simp at this; exact this
  subst hj
  simp at hv
  subst hv
  exact ⟨h3.cell 0, h3.cell 1, h3.cell 2⟩
theorem one_ok : diffOkB oneZ = true := by decide +kernel
theorem one_lens : lensD oneZ := lens_ok (.inr one_ok)
theorem one_pos : (posD oneZ).length = 1 := by unfold posD; rw [if_pos one_ok]; rfl
end Go.Proofs.Ytggkggaihfcjmaa
