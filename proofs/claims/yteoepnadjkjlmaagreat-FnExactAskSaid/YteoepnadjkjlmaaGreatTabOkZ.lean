/-
  Contracts of the comparisons: cmp.Compare at int64 and string, cmp.Or at int, spec.l1Sign, spec.CompareValues, impl.CompareValues. Contract of impl.CompareRows. Contracts of impl.rowsOk, impl.TableOk and spec.TableOk.
-/
import Derived.Test.YteoepnadjkjlmaaGreatValueOkZ
import Derived.Test.YteoepnadjkjlmaaGreatTabOkMZ
import Derived.Test.YteoepnadjkjlmaaGreatDigitsZ
import Derived.Test.YteoepnadjkjlmaaGreatRowOkZ
namespace Go.Proofs.YteoepnadjkjlmaaGreat
open Go.RowKit
set_option linter.unusedVariables false

theorem nan_int (a : Int) (w : World) :
    Calls Tryz.prog 106 #[.int .i64 a] w fun e w' => e = .returned (.bool false) ∧ w = w' := by
  go_enter Tryz.func106, Tryz.ntmps106
  go_wp2
  go_ret
  exact ⟨ret_bool (by simp), rfl⟩
theorem nan_text (a : ByteArray) (w : World) :
    Calls Tryz.prog 107 #[.string a] w fun e w' => e = .returned (.bool false) ∧ w = w' := by
  go_enter Tryz.func107, Tryz.ntmps107
  go_wp2
  go_ret
  exact ⟨ret_bool (by simp), rfl⟩
theorem compare_int (a b : Int) (w : World) :
    Calls Tryz.prog 103 #[.int .i64 a, .int .i64 b] w fun e w' => e = .returned (.int .i64 (cmpI a b)) ∧ w = w' := by
  go_enter Tryz.func103, Tryz.ntmps103
  go_wp2_with (go_at_call 106; refine (nan_int _ _).mono ?_; rintro e w' ⟨rfl, rfl⟩)
  all_goals go_ret
  all_goals refine ⟨ret_int ?_, rfl⟩
  all_goals unfold cmpI
  · rw [if_pos (by assumption)]
  · rw [if_neg (by omega), if_pos (by omega)]
  · rw [if_neg (by omega), if_neg (by omega)]
theorem compare_text (a b : ByteArray) (w : World) :
    Calls Tryz.prog 104 #[.string a, .string b] w fun e w' => e = .returned (.int .i64 (cmpT a b)) ∧ w = w' := by
  by_cases he : a = b
  · subst he
    by_cases hl : Op.bytesLess a.toList a.toList = true
    · have H := Lib.hid (show cmpT a a = -1 by simp [cmpT, ltT, hl])
      go_enter Tryz.func104, Tryz.ntmps104
      go_wp2_with (go_at_call 107; refine (nan_text _ _).mono ?_; rintro e w' ⟨rfl, rfl⟩)
      go_ret
      exact ⟨ret_int (by rw [H.out]), rfl⟩
    · have H := Lib.hid (show cmpT a a = 0 by simp [cmpT, ltT, hl])
      simp only [Bool.not_eq_true] at hl
      go_enter Tryz.func104, Tryz.ntmps104
      go_wp2_with (go_at_call 107; refine (nan_text _ _).mono ?_; rintro e w' ⟨rfl, rfl⟩)
      go_ret
      exact ⟨ret_int (by rw [H.out]), rfl⟩
  · have he2 : (a.toList == b.toList) = false := by
      rw [beq_eq_false_iff_ne]
      intro h
      rw [Lib.toList_data, Lib.toList_data] at h
      exact he (ByteArray.ext (Array.toList_inj.1 h))
    by_cases hl : Op.bytesLess a.toList b.toList = true
    · have H := Lib.hid (show cmpT a b = -1 by simp [cmpT, ltT, hl])
      go_enter Tryz.func104, Tryz.ntmps104
      go_wp2_with (go_at_call 107; refine (nan_text _ _).mono ?_; rintro e w' ⟨rfl, rfl⟩)
      go_ret
      exact ⟨ret_int (by rw [H.out]), rfl⟩
    · have H := Lib.hid (show cmpT a b = 1 by simp [cmpT, ltT, hl, he])
      simp only [Bool.not_eq_true] at hl
      go_enter Tryz.func104, Tryz.ntmps104
      go_wp2_with (go_at_call 107; refine (nan_text _ _).mono ?_; rintro e w' ⟨rfl, rfl⟩)
      go_ret
      exact ⟨ret_int (by rw [H.out]), rfl⟩

set_option maxHeartbeats 400000 in
theorem or_ints (g c : Nat) (a0 a1 a2 : Int) (w : World) (h0 : w.cell? ⟨g, 0, none⟩ = some (.int .i64 a0)) (h1 : w.cell? ⟨g, 1, none⟩ = some (.int .i64 a1)) (h2 : w.cell? ⟨g, 2, none⟩ = some (.int .i64 a2)) :
    Calls Tryz.prog 102 #[.slice (some ⟨g, 0, none⟩) 3 c] w fun e w' => e = .returned (.int .i64 (or3 a0 a1 a2)) ∧ w = w' := by
  go_enter Tryz.func102, Tryz.ntmps102
  go_wp2
  go_loop [8] (fun i => ∃ k : Nat, k ≤ 3 ∧ i = .int .i64 k ∧ Hid ((0 < k → a0 = 0) ∧ (1 < k → a1 = 0) ∧ (2 < k → a2 = 0))) (fun i => 3 - (intOf i).toNat)
  case atStart => exact ⟨0, Nat.zero_le _, rfl, Lib.hid ⟨by omega, by omega, by omega⟩⟩
  case round =>
    obtain ⟨k, hk, rfl, hz⟩ := hrel
    have hk' : k = 0 ∨ k = 1 ∨ k = 2 ∨ k = 3 := by omega
    rcases hk' with rfl | rfl | rfl | rfl
    · by_cases h : a0 = 0
      · have hb : (a0 != 0) = false := by simp [h]
        have H := Lib.hid h
        clear h
        go_wp2
        go_round
        case rel => exact ⟨1, by omega, by go_num, Lib.hid ⟨fun _ => H.out, by omega, by omega⟩⟩
        case measure => simp [intOf]
      · have hb : (a0 != 0) = true := by simp [h]
        have H := Lib.hid (show or3 a0 a1 a2 = a0 by simp [or3, h])
        clear h
        go_wp2
        go_ret
        exact ⟨ret_int (by rw [H.out]), rfl⟩
    · by_cases h : a1 = 0
      · have hb : (a1 != 0) = false := by simp [h]
        have H := Lib.hid h
        clear h
        go_wp2
        go_round
        case rel => exact ⟨2, by omega, by go_num, Lib.hid ⟨fun _ => hz.out.1 (by omega), fun _ => H.out, by omega⟩⟩
        case measure => simp [intOf]
      · have hb : (a1 != 0) = true := by simp [h]
        have H := Lib.hid (show or3 a0 a1 a2 = a1 by simp [or3, h, hz.out.1 (by omega)])
        clear h
        go_wp2
        go_ret
        exact ⟨ret_int (by rw [H.out]), rfl⟩
    · by_cases h : a2 = 0
      · have hb : (a2 != 0) = false := by simp [h]
        have H := Lib.hid h
        clear h
        go_wp2
        go_round
        case rel => exact ⟨3, by omega, by go_num, Lib.hid ⟨fun _ => hz.out.1 (by omega), fun _ => hz.out.2.1 (by omega), fun _ => H.out⟩⟩
        case measure => simp [intOf]
      · have hb : (a2 != 0) = true := by simp [h]
        have H := Lib.hid (show or3 a0 a1 a2 = a2 by simp [or3, hz.out.1 (by omega), hz.out.2.1 (by omega)])
        clear h
        go_wp2
        go_ret
        exact ⟨ret_int (by rw [H.out]), rfl⟩
    · have H := Lib.hid (show or3 a0 a1 a2 = 0 by simp [or3, hz.out.1 (by omega), hz.out.2.1 (by omega), hz.out.2.2 (by omega)])
      go_wp2
      go_ret
      exact ⟨ret_int (by rw [H.out]), rfl⟩

set_option maxHeartbeats 1000000 in
theorem impl_compare (k n : Int) (t : ByteArray) (k' n' : Int) (t' : ByteArray) (w : World) :
    Calls Tryz.prog 96 #[.agg #[.int .i64 k, .int .i64 n, .string t], .agg #[.int .i64 k', .int .i64 n', .string t']] w fun e w' => e = .returned (.int .i64 (cmpV k n t k' n' t')) ∧ Below w.heap.size w w' := by
  go_enter Tryz.func96, Tryz.ntmps96
  go_wp2_with fail
  go_region_held3 (fun w' => w'.cell? ⟨w.heap.size, 0, none⟩ = some (.int .i64 k) ∧ w'.cell? ⟨w.heap.size, 1, none⟩ = some (.int .i64 n) ∧ w'.cell? ⟨w.heap.size, 2, none⟩ = some (.string t) ∧
      w'.cell? ⟨w.heap.size + 1, 0, none⟩ = some (.int .i64 k') ∧ w'.cell? ⟨w.heap.size + 1, 1, none⟩ = some (.int .i64 n') ∧ w'.cell? ⟨w.heap.size + 1, 2, none⟩ = some (.string t'))
    (first | go_keep)
    (first
      | (go_at_call 103; refine (compare_int _ _ _).mono ?_; rintro e w' ⟨rfl, rfl⟩)
      | (go_at_call 104; refine (compare_text _ _ _).mono ?_; rintro e w' ⟨rfl, rfl⟩)
      | (go_at_call 102; refine (or_ints _ _ (cmpI k k') (cmpI n n') (cmpT t t') _ (by go_simp) (by go_simp) (by go_simp)).mono ?_; rintro e w' ⟨rfl, rfl⟩))
  go_wp2
  go_ret
  exact ⟨rfl, ((((Below.refl _ _).alloc (Nat.le_refl _) _).alloc (by simp) _).alloc (by simp; omega) _).drew⟩
end Go.Proofs.YteoepnadjkjlmaaGreat
namespace Go.Proofs.YteoepnadjkjlmaaGreat
open Go.RowKit
set_option linter.unusedVariables false

theorem nan_i (a : Int) (w : World) :
    Calls Tryz.prog 105 #[.int .i64 a] w fun e w' => e = .returned (.bool false) ∧ w = w' := by
  go_enter Tryz.func105, Tryz.ntmps105
  go_wp2
  go_ret
  exact ⟨ret_bool (by simp), rfl⟩
theorem compare_i (a b : Int) (w : World) :
    Calls Tryz.prog 97 #[.int .i64 a, .int .i64 b] w fun e w' => e = .returned (.int .i64 (cmpI a b)) ∧ w = w' := by
  go_enter Tryz.func97, Tryz.ntmps97
  go_wp2_with (go_at_call 105; refine (nan_i _ _).mono ?_; rintro e w' ⟨rfl, rfl⟩)
  all_goals go_ret
  all_goals refine ⟨ret_int ?_, rfl⟩
  all_goals unfold cmpI
  · rw [if_pos (by assumption)]
  · rw [if_neg (by omega), if_pos (by omega)]
  · rw [if_neg (by omega), if_neg (by omega)]

set_option maxHeartbeats 800000 in
theorem impl_rows_m (A A' : Option Addr) (c c' : Nat) (vs us : List GV) (w : World) (hr : RowAt w w.heap.size A vs) (hr' : RowAt w w.heap.size A' us) (hl : vs.length ≤ 1048576) (hl' : us.length ≤ 1048576) :
    Calls Tryz.prog 88 #[.slice A vs.length c, .slice A' us.length c'] w fun e w' => e = .returned (.int .i64 (cmpR vs us)) ∧ Below w.heap.size w w' := by
  go_enter Tryz.func88, Tryz.ntmps88
  go_wp2
  go_loopw [12] (fun i w' => ∃ k : Nat, k ≤ vs.length ∧ k ≤ us.length ∧ i = .int .i64 k ∧ Hid (cmpR (vs.drop k) (us.drop k) = cmpR vs us) ∧ Below w.heap.size w w') (fun i _ => vs.length - (intOf i).toNat)
  case atStart => exact ⟨0, Nat.zero_le _, Nat.zero_le _, rfl, Lib.hid rfl, Below.refl _ _⟩
  case round =>
    obtain ⟨k, hk, hk', rfl, hrec, hB⟩ := hrel
    by_cases hlt : k < vs.length ∧ k < us.length
    · obtain ⟨hlt, hlt'⟩ := hlt
      have hstep := Lib.hid (cmpR_step hlt hlt')
      obtain ⟨g, o, rfl, hg, c0, c1, c2⟩ := (hr.below hB (Nat.le_refl _)).at_ hlt
      obtain ⟨g', o', rfl, hg', d0, d1, d2⟩ := (hr'.below hB (Nat.le_refl _)).at_ hlt'
      have hi0 : (0 : Int) ≤ (k : Int) := Int.natCast_nonneg _
      have hi1 : (k : Int) < (vs.length : Int) := by omega
      have hi2 : (k : Int) < (us.length : Int) := by omega
      have hi3 : (k : Int) < min (vs.length : Int) (us.length : Int) := by omega
      go_wp2_with fail
      go_region_held3 (fun w' => w'.cell? ⟨g, o + k * 3, none⟩ = some (.int .i64 vs[k].k) ∧ w'.cell? ⟨g, o + k * 3 + 1, none⟩ = some (.int .i64 vs[k].n) ∧ w'.cell? ⟨g, o + k * 3 + 2, none⟩ = some (.string vs[k].t) ∧
          w'.cell? ⟨g', o' + k * 3, none⟩ = some (.int .i64 us[k].k) ∧ w'.cell? ⟨g', o' + k * 3 + 1, none⟩ = some (.int .i64 us[k].n) ∧ w'.cell? ⟨g', o' + k * 3 + 2, none⟩ = some (.string us[k].t) ∧ w.heap.size ≤ w'.heap.size ∧ Below w.heap.size w w')
        (first | (go_split_ands; exact ⟨by assumption, by assumption, by assumption, by assumption, by assumption, by assumption, hB.size, hB.drew⟩)
               | (go_split_ands; refine ⟨?_, ?_, ?_, ?_, ?_, ?_, ?_, ?_⟩; all_goals first | (have := hbx.size; omega) | (rw [hcx _ _ (by omega)]; assumption) | exact below_next (by assumption) hbx rfl rfl))
        (first
          | (go_at_call 96; refine (impl_compare _ _ _ _ _ _ _).mono ?_; rintro e wx ⟨rfl, hbx⟩; obtain ⟨hcx, hfx⟩ := bcell hbx))
      have hB2 : Below w.heap.size w wx := by go_split_ands; assumption
      clear hcx hfx hbx c0 c1 c2 d0 d1 d2
      by_cases hc : cmpG vs[k] us[k] = 0
      · have hcb : (cmpV vs[k].k vs[k].n vs[k].t us[k].k us[k].n us[k].t != 0) = false := by simpa [cmpG] using hc
        have H := Lib.hid (show cmpR (vs.drop (k + 1)) (us.drop (k + 1)) = cmpR vs us by have h1 := hstep.out; rw [if_pos hc] at h1; rw [← h1]; exact hrec.out)
        clear hc
        go_wp2_with fail
        go_roundw
        case rel => exact ⟨k + 1, by omega, by omega, by go_num, H, hB2⟩
        case measure => simp [intOf]; omega
      · have hcb : (cmpV vs[k].k vs[k].n vs[k].t us[k].k us[k].n us[k].t != 0) = true := by simpa [cmpG] using hc
        have H := Lib.hid (show cmpR vs us = cmpV vs[k].k vs[k].n vs[k].t us[k].k us[k].n us[k].t by have h1 := hstep.out; rw [if_neg hc] at h1; rw [← hrec.out, h1]; rfl)
        clear hc
        go_wp2_with fail
        go_ret
        exact ⟨ret_int (by rw [H.out]), hB2⟩
    · have H := Lib.hid (show cmpR vs us = cmpI vs.length us.length by rw [← hrec.out, cmpR_end hk hk' (by omega)])
      have hi3 : ¬ (k : Int) < min (vs.length : Int) (us.length : Int) := by omega
      have hi4 : decide ((k : Int) < min (vs.length : Int) (us.length : Int)) = false := by simpa using hi3
      clear hlt
      go_wp2_with (go_at_call 97; refine (compare_i _ _ _).mono ?_; rintro e w' ⟨rfl, rfl⟩)
      go_ret
      exact ⟨ret_int (by rw [H.out]), hB⟩

theorem impl_rows (A A' : Option Addr) (c c' : Nat) (vs us : List GV) (w : World) (hr : RowAt w w.heap.size A vs) (hr' : RowAt w w.heap.size A' us) (hl : vs.length ≤ 1048576) (hl' : us.length ≤ 1048576) :
    Calls Tryz.prog 74 #[.slice A vs.length c, .slice A' us.length c'] w fun e w' => e = .returned (.int .i64 (cmpR vs us)) ∧ Below w.heap.size w w' := by
  go_enter Tryz.func74, Tryz.ntmps74
  go_wp2_with fail
  refine (impl_rows_m A A' c c' vs us _ hr hr' hl hl').mono ?_
  rintro e w1 ⟨rfl, hb1⟩
  go_wp2_with fail
  go_ret
  exact ⟨rfl, hb1⟩
end Go.Proofs.YteoepnadjkjlmaaGreat
namespace Go.Proofs.YteoepnadjkjlmaaGreat
open Go.RowKit
set_option linter.unusedVariables false

set_option maxHeartbeats 800000 in
theorem impl_rowsOk (A : Option Addr) (c : Nat) (rows : List (List GV)) (w : World) (hr : TabAt w w.heap.size A rows) (hl : rows.length ≤ 1048576) (hlr : ∀ r ∈ rows, r.length ≤ 1048576 ∧ ∀ v ∈ r, v.t.size ≤ maxLen) :
    Calls Tryz.prog 73 #[.slice A rows.length c] w fun e w' => e = .returned (.bool (rowsOkB rows)) ∧ Below w.heap.size w w' := by
  by_cases h8 : (3000 : Int) < rows.length
  · have H := Lib.hid (show rowsOkB rows = false by unfold rowsOkB; simp; omega)
    go_enter Tryz.func73, Tryz.ntmps73
    go_wp2
    go_ret
    exact ⟨ret_bool (by rw [H.out]), Below.refl _ _⟩
  go_enter Tryz.func73, Tryz.ntmps73
  go_wp2
  go_loopw [10] (fun i w' => ∃ k : Nat, k ≤ rows.length ∧ i = .int .i64 k ∧ Hid ((rows.take k).all (goodRow (wid rows)) = true) ∧ Below w.heap.size w w') (fun i _ => rows.length - (intOf i).toNat)
  case atStart => exact ⟨0, Nat.zero_le _, rfl, Lib.hid rfl, Below.refl _ _⟩
  case round =>
    obtain ⟨k, hk, rfl, hal, hB⟩ := hrel
    by_cases hlt : k < rows.length
    · obtain ⟨g0, o0, A0, c0, hA0, hg0, hcell0, hrow0⟩ := (hr.to_ hB).at_ (i := 0) (by omega)
      obtain ⟨g, o, A', c', rfl, hg, hcell, hrow⟩ := (hr.to_ hB).at_ hlt
      simp at hA0
      obtain ⟨rfl, rfl⟩ := hA0
      simp only [Nat.add_zero] at hcell0
      have hm := hlr _ (List.getElem_mem hlt)
      have hw0 := Lib.hid (wid_eq (rows := rows) (by omega))
      have hsn := Lib.hid (allr_snoc (wid rows) rows k hlt)
      have hi0 : (0 : Int) < (rows.length : Int) := by omega
      go_wp2_with fail
      refine (impl_row A' c' rows[k] _ hrow hm.1 hm.2).mono ?_
      rintro e w2 ⟨rfl, hb2⟩
      have hB2 := below_next hB hb2 rfl rfl
      have hcell2 : w2.cell? ⟨g, o, none⟩ = some (.slice A0 rows[0].length c0) := (hb2.cell (p := ⟨g, o, none⟩) hg).trans hcell0
      clear hcell hcell0
      by_cases hok : rowOkB rows[k] = true
      · by_cases hln : rows[k].length = rows[0].length
        · have hb : ((rows[k].length : Int) != (rows[0].length : Int)) = false := by simp [hln]
          have H := Lib.hid (show (rows.take (k + 1)).all (goodRow (wid rows)) = true by rw [hsn.out, hal.out, goodRow, hok, hw0.out, hln]; simp)
          have HLN := Lib.hid hln
          clear hln
          go_wp2_with fail
          go_roundw
          case rel => exact ⟨k + 1, by omega, by go_num, H, hB2⟩
          case measure => simp [intOf]; omega
        · have hb : ((rows[k].length : Int) != (rows[0].length : Int)) = true := by simp; omega
          have H := Lib.hid (show rowsOkB rows = false by unfold rowsOkB; rw [allr_bad _ rows k hlt (by rw [goodRow, hok, hw0.out]; simp [hln])]; rfl)
          clear hln
          go_wp2_with fail
          go_ret
          exact ⟨ret_bool (by rw [H.out]), hB2⟩
      · rw [Bool.not_eq_true] at hok
        have H := Lib.hid (show rowsOkB rows = false by unfold rowsOkB; rw [allr_bad _ rows k hlt (by rw [goodRow, hok]; rfl)]; rfl)
        go_wp2_with fail
        go_ret
        exact ⟨ret_bool (by rw [H.out]), hB2⟩
    · have H := Lib.hid (show rowsOkB rows = true by
        have h := hal.out
        rw [List.take_of_length_le (by omega)] at h
        unfold rowsOkB; rw [h]; simp; omega)
      go_wp2_with fail
      go_ret
      exact ⟨ret_bool (by rw [H.out]), hB⟩

set_option maxHeartbeats 800000 in
theorem impl_tableOk (A : Option Addr) (c : Nat) (rows : List (List GV)) (w : World) (hr : TabAt w w.heap.size A rows) (hl : rows.length ≤ 1048576) (hlr : ∀ r ∈ rows, r.length ≤ 1048576 ∧ ∀ v ∈ r, v.t.size ≤ maxLen) :
    Calls Tryz.prog 51 #[.slice A rows.length c] w fun e w' => e = .returned (.bool (tableOkB rows)) ∧ Below w.heap.size w w' := by
  go_enter Tryz.func51, Tryz.ntmps51
  go_wp2_with fail
  refine (impl_rowsOk A c rows _ hr hl hlr).mono ?_
  rintro e w1 ⟨rfl, hb1⟩
  by_cases hok : rowsOkB rows = true
  · go_wp2_with fail
    go_loopw [3] (fun i w' => ∃ k : Nat, 1 ≤ k ∧ k ≤ rows.length + 1 ∧ i = .int .i64 k ∧ Hid (ascB (rows.take k) = true) ∧ Below w.heap.size w w') (fun i _ => rows.length + 1 - (intOf i).toNat)
    case atStart => exact ⟨1, Nat.le_refl _, by omega, rfl, Lib.hid (asc_one rows), hb1⟩
    case round =>
      obtain ⟨k, hk1, hk, rfl, hal, hB⟩ := hrel
      by_cases hlt : k < rows.length
      · obtain ⟨j, hkj⟩ : ∃ j, k = j + 1 := ⟨k - 1, by omega⟩
        have hj : j < rows.length := by omega
        obtain ⟨g0, o0, A0, c0, hA0, hg0, hcell0, hrow0⟩ := (hr.to_ hB).at_ hj
        obtain ⟨g, o, A', c', rfl, hg, hcell, hrow⟩ := (hr.to_ hB).at_ hlt
        simp at hA0
        obtain ⟨rfl, rfl⟩ := hA0
        have hm0 := hlr _ (List.getElem_mem hj)
        have hm := hlr _ (List.getElem_mem hlt)
        have hsn := Lib.hid (show ascB (rows.take (k + 1)) = (ascB (rows.take k) && decide (cmpR rows[j] rows[k] < 0)) by subst hkj; exact asc_snoc rows j hlt)
        have hbd := Lib.hid (show 0 ≤ cmpR rows[j] rows[k] → ascB rows = false by subst hkj; exact fun h => asc_bad rows j hlt (by omega))
        have hi0 : (0 : Int) ≤ (j : Int) := Int.natCast_nonneg _
        have hi1 : (j : Int) < (rows.length : Int) := by omega
        have hi2 : (0 : Int) ≤ (k : Int) := by omega
        have hi3 : (k : Int) < (rows.length : Int) := by omega
        go_wp2_with fail
        have e1 : IntKind.i64.wrap ((k : Int) - 1) = (j : Int) := by rw [IntKind.wrap_i64]; omega
        have e5 : IntKind.i64.wrap (j : Int) = (j : Int) := by rw [IntKind.wrap_i64]; omega
        have e2 : ((j : Int) + 1).toNat = k := by omega
        have e3 : (0 : Int) ≤ (j : Int) + 1 := by omega
        have e4 : (j : Int) + 1 < (rows.length : Int) := by omega
        have HKJ := Lib.hid hkj
        clear hkj
        go_region_held3 (fun w' => w'.cell? ⟨g, o + j, none⟩ = some (.slice A0 rows[j].length c0) ∧ w'.cell? ⟨g, o + k, none⟩ = some (.slice A' rows[k].length c') ∧ RowAt w' w'.heap.size A0 rows[j] ∧ RowAt w' w'.heap.size A' rows[k] ∧ wr.heap.size ≤ w'.heap.size ∧ Below w.heap.size w w')
          (first | (go_split_ands; exact ⟨by assumption, by assumption, by assumption, by assumption, Nat.le_refl _, hB.drew⟩)
                 | (go_split_ands; refine ⟨?_, ?_, ?_, ?_, ?_, ?_⟩; all_goals first | (have := hbx.size; omega) | (rw [hcx _ _ (by omega)]; assumption) | exact RowAt.to_ (by assumption) hbx | exact below_next (by assumption) hbx rfl rfl))
          (first
            | (go_at_call 74; refine (impl_rows A0 A' c0 c' rows[j] rows[k] _ (by go_split_ands; assumption) (by go_split_ands; assumption) hm0.1 hm.1).mono ?_; rintro e wx ⟨rfl, hbx⟩; obtain ⟨hcx, hfx⟩ := bcell hbx))
        have hB2 : Below w.heap.size w wx := by go_split_ands; assumption
        clear hcx hfx hbx hcell hcell0 e1 e2 e3 e4 e5
        by_cases hc : cmpR rows[j] rows[k] < 0
        · have hcb : decide (0 ≤ cmpR rows[j] rows[k]) = false := by simp; omega
          have H := Lib.hid (show ascB (rows.take (k + 1)) = true by have h := hsn.out; rw [hal.out] at h; rw [h]; simp [hc])
          go_wp2_with fail
          go_roundw
          case rel => exact ⟨k + 1, by omega, by omega, by (have h := HKJ.out; subst h; go_num), H, hB2⟩
          case measure => have h := HKJ.out; simp [intOf]; omega
        · have hcb : decide (0 ≤ cmpR rows[j] rows[k]) = true := by simp; omega
          have H := Lib.hid (show tableOkB rows = false by unfold tableOkB; rw [hbd.out (by omega)]; simp)
          go_wp2_with fail
          go_ret
          exact ⟨ret_bool (by rw [H.out]), hB2⟩
      · have H := Lib.hid (show tableOkB rows = true by
          have h := hal.out
          rw [List.take_of_length_le (by omega)] at h
          unfold tableOkB; rw [h, hok]; rfl)
        go_wp2_with fail
        go_ret
        exact ⟨ret_bool (by rw [H.out]), hB⟩
  · rw [Bool.not_eq_true] at hok
    have H := Lib.hid (show tableOkB rows = false by unfold tableOkB; rw [hok]; rfl)
    go_wp2_with fail
    go_ret
    exact ⟨ret_bool (by rw [H.out]), hb1⟩
end Go.Proofs.YteoepnadjkjlmaaGreat
