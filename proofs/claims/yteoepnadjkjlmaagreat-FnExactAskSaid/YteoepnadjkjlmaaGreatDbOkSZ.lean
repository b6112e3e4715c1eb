/-
  Contract of spec.TableOk. spec.DbOk.
-/
import Derived.Test.YteoepnadjkjlmaaGreatTabOkMZ
import Derived.Test.YteoepnadjkjlmaaGreatDigitsZ
import Derived.Test.YteoepnadjkjlmaaGreatRowCmpSZ
import Derived.Lib.QuietBelow
import Derived.BigQuiet
import Derived.Test.YteoepnadjkjlmaaGreatDbOkMZ
import Derived.Lib.Strings
import Derived.Laws.Cover1
namespace Go.Proofs.YteoepnadjkjlmaaGreat
open Go.RowKit Go.Sort
set_option linter.unusedVariables false

set_option maxHeartbeats 1600000 in
theorem spec_tableOk (A : Option Addr) (c : Nat) (rows : List (List GV)) (w : World) (hr : TabAt w w.heap.size A rows) (hl : rows.length ≤ 1048576) (hlr : ∀ r ∈ rows, r.length ≤ 1048576 ∧ ∀ v ∈ r, v.t.size ≤ maxLen) :
    Calls Tryz.prog 43 #[.slice A rows.length c] w fun e w' => e = .returned (.bool (tableOkB rows)) ∧ Below w.heap.size w w' := by
  by_cases h8 : (3000 : Int) < rows.length
  · have H := Lib.hid (show tableOkB rows = false by unfold tableOkB rowsOkB; simp; omega)
    go_enter Tryz.func43, Tryz.ntmps43
    go_wp2
    go_ret
    exact ⟨ret_bool (by rw [H.out]), Below.refl _ _⟩
  go_enter Tryz.func43, Tryz.ntmps43
  go_wp2
  go_loopw [3] (fun i w' => ∃ k : Nat, k ≤ rows.length ∧ i = .int .i64 k ∧ Hid ((rows.take k).all (goodRow (wid rows)) = true) ∧ Hid (ascB (rows.take k) = true) ∧ Below w.heap.size w w') (fun i _ => rows.length - (intOf i).toNat)
  case atStart => exact ⟨0, Nat.zero_le _, rfl, Lib.hid rfl, Lib.hid rfl, Below.refl _ _⟩
  case round =>
    obtain ⟨k, hk, rfl, hal, has, hB⟩ := hrel
    by_cases hlt : k < rows.length
    · obtain ⟨g0, o0, A0, c0, hA0, hg0, hcell0, hrow0⟩ := (hr.to_ hB).at_ (i := 0) (by omega)
      obtain ⟨g, o, A', c', rfl, hg, hcell, hrow⟩ := (hr.to_ hB).at_ hlt
      simp at hA0
      obtain ⟨rfl, rfl⟩ := hA0
      simp only [Nat.add_zero] at hcell0
      have hm := hlr _ (List.getElem_mem hlt)
      have hw0 := Lib.hid (wid_eq (rows := rows) (by omega))
      have hsn := Lib.hid (allr_snoc (wid rows) rows k hlt)
      have hi0 : (0 : Int) < (rows.length : Int) := by omega
      have hi2 : (0 : Int) ≤ (k : Int) := by omega
      have hi3 : (k : Int) < (rows.length : Int) := by omega
      have q0 := cell_regrown hcell0
      have q1 := cell_regrown hcell
      by_cases hok : rowOkB rows[k] = true
      · by_cases hln : rows[k].length = rows[0].length
        · have hb : ((rows[k].length : Int) != (rows[0].length : Int)) = false := by simp [hln]
          have hgood := Lib.hid (show (rows.take (k + 1)).all (goodRow (wid rows)) = true by rw [hsn.out, hal.out, goodRow, hok, hw0.out, hln]; simp)
          have HLN := Lib.hid hln
          clear hln
          by_cases hk0 : k = 0
          · have hd : decide ((0 : Int) < (k : Int)) = false := by simp; omega
            have hdn : decide (0 < k) = false := by simp; omega
            have H := Lib.hid (show ascB (rows.take (k + 1)) = true by subst hk0; exact asc_one rows)
            have HK0 := Lib.hid hk0
            clear hk0
            go_wp2_with fail
            refine wp_region_quiet_below (by kernel_rfl) (by kernel_rfl) ?_
            repeat (go_big_quiet_step (first
              | (go_at_call 66; exact Calls.regrown_of (spec_row_is _ A' c' rows[k] _ hok (hrow.to_ (below_regrown wr _ _)) hm.1 hm.2))))
            refine wpQuiet_nil ?_
            intro _ hw'
            obtain ⟨⟨dq, osq⟩, hw''⟩ := hw'
            subst hw''
            have hB2 := below_next hB (below_regrown wr dq osq) rfl rfl
            generalize grow (redrawn wr dq) osq = wx at *
            clear q0 q1
            go_wp2_with fail
            go_roundw
            case rel => exact ⟨k + 1, by omega, by go_num, hgood, H, hB2⟩
            case measure => simp [intOf]; omega
          · have hd : decide ((0 : Int) < (k : Int)) = true := by simp; omega
            have hdn : 0 < k := by omega
            obtain ⟨j, hkj⟩ : ∃ j, k = j + 1 := ⟨k - 1, by omega⟩
            have hj : j < rows.length := by omega
            obtain ⟨g1, o1, A1, c1, hA1, hg1, hcell1, hrow1⟩ := (hr.to_ hB).at_ hj
            simp at hA1
            obtain ⟨rfl, rfl⟩ := hA1
            have hm1 := hlr _ (List.getElem_mem hj)
            have q2 := cell_regrown hcell1
            have hsn2 := Lib.hid (show ascB (rows.take (k + 1)) = (ascB (rows.take k) && decide (cmpR rows[j] rows[k] < 0)) by subst hkj; exact asc_snoc rows j hlt)
            have hbd := Lib.hid (show 0 ≤ cmpR rows[j] rows[k] → ascB rows = false by subst hkj; exact fun h => asc_bad rows j hlt (by omega))
            have hi4 : (0 : Int) ≤ (j : Int) := Int.natCast_nonneg _
            have hi5 : (j : Int) < (rows.length : Int) := by omega
            have hi6 : (1 : Int) ≤ (k : Int) := by omega
            have e1 : (k : Int) - 1 = (j : Int) := by omega
            have HKJ := Lib.hid hkj
            clear hkj hk0
            by_cases hc : cmpR rows[j] rows[k] < 0
            · have hcb : decide (0 ≤ cmpR rows[j] rows[k]) = false := by simp; omega
              have H := Lib.hid (show ascB (rows.take (k + 1)) = true by have h := hsn2.out; rw [has.out] at h; rw [h]; simp [hc])
              go_wp2_with fail
              refine wp_region_quiet_below (by kernel_rfl) (by kernel_rfl) ?_
              repeat (go_big_quiet_step (first
                | (go_at_call 66; exact Calls.regrown_of (spec_row_is _ A' c' rows[k] _ hok (hrow.to_ (below_regrown wr _ _)) hm.1 hm.2))
                | (go_at_call 67; exact Calls.regrown_of (spec_rows A1 A' c1 c' rows[j] rows[k] _ (hrow1.to_ (below_regrown wr _ _)) (hrow.to_ (below_regrown wr _ _)) hm1.1 hm.1))))
              refine wpQuiet_nil ?_
              intro _ hw'
              obtain ⟨⟨dq, osq⟩, hw''⟩ := hw'
              subst hw''
              have hB2 := below_next hB (below_regrown wr dq osq) rfl rfl
              generalize grow (redrawn wr dq) osq = wx at *
              clear q0 q1 q2 e1
              go_wp2_with fail
              go_roundw
              case rel => exact ⟨k + 1, by omega, by go_num, hgood, H, hB2⟩
              case measure => simp [intOf]; omega
            · have hcb : decide (0 ≤ cmpR rows[j] rows[k]) = true := by simp; omega
              have H := Lib.hid (table_asc (hbd.out (by omega)))
              go_wp2_with fail
              refine wp_region_quiet_below (by kernel_rfl) (by kernel_rfl) ?_
              repeat (go_big_quiet_step (first
                | (go_at_call 66; exact Calls.regrown_of (spec_row_is _ A' c' rows[k] _ hok (hrow.to_ (below_regrown wr _ _)) hm.1 hm.2))
                | (go_at_call 67; exact Calls.regrown_of (spec_rows A1 A' c1 c' rows[j] rows[k] _ (hrow1.to_ (below_regrown wr _ _)) (hrow.to_ (below_regrown wr _ _)) hm1.1 hm.1))))
              refine wpQuiet_nil ?_
              intro _ hw'
              obtain ⟨⟨dq, osq⟩, hw''⟩ := hw'
              subst hw''
              have hB2 := below_next hB (below_regrown wr dq osq) rfl rfl
              generalize grow (redrawn wr dq) osq = wx at *
              clear q0 q1 q2 e1
              go_wp2_with fail
              go_ret
              exact ⟨ret_bool (by rw [H.out]), hB2⟩
        · have hb : ((rows[k].length : Int) != (rows[0].length : Int)) = true := by simp; omega
          have H := Lib.hid (table_bad (allr_bad _ rows k hlt (by rw [goodRow, hok, hw0.out]; simp [hln])))
          clear hln
          go_wp2_with fail
          refine wp_region_quiet_below (by kernel_rfl) (by kernel_rfl) ?_
          repeat (go_big_quiet_step (first
            | (go_at_call 66; exact Calls.regrown_of (spec_row_is _ A' c' rows[k] _ hok (hrow.to_ (below_regrown wr _ _)) hm.1 hm.2))))
          refine wpQuiet_nil ?_
          intro _ hw'
          obtain ⟨⟨dq, osq⟩, hw''⟩ := hw'
          subst hw''
          have hB2 := below_next hB (below_regrown wr dq osq) rfl rfl
          generalize grow (redrawn wr dq) osq = wx at *
          clear q0 q1
          go_wp2_with fail
          go_ret
          exact ⟨ret_bool (by rw [H.out]), hB2⟩
      · rw [Bool.not_eq_true] at hok
        have H := Lib.hid (table_bad (allr_bad _ rows k hlt (by rw [goodRow, hok]; rfl)))
        go_wp2_with fail
        refine wp_region_quiet_below (by kernel_rfl) (by kernel_rfl) ?_
        repeat (go_big_quiet_step (first
          | (go_at_call 66; exact Calls.regrown_of (spec_row_is _ A' c' rows[k] _ hok (hrow.to_ (below_regrown wr _ _)) hm.1 hm.2))))
        refine wpQuiet_nil ?_
        intro _ hw'
        obtain ⟨⟨dq, osq⟩, hw''⟩ := hw'
        subst hw''
        have hB2 := below_next hB (below_regrown wr dq osq) rfl rfl
        generalize grow (redrawn wr dq) osq = wx at *
        clear q0 q1
        go_wp2_with fail
        go_ret
        exact ⟨ret_bool (by rw [H.out]), hB2⟩
    · have H := Lib.hid (show tableOkB rows = true by
        have h := hal.out
        have h2 := has.out
        rw [List.take_of_length_le (by omega)] at h h2
        unfold tableOkB rowsOkB; rw [h, h2]; simp; omega)
      go_wp2_with fail
      go_ret
      exact ⟨ret_bool (by rw [H.out]), hB⟩
end Go.Proofs.YteoepnadjkjlmaaGreat
namespace Go.Proofs.YteoepnadjkjlmaaGreat
open Go.RowKit Go.Sort
set_option linter.unusedVariables false

theorem spec_word_b (b : Bool) (s : ByteArray) (w : World) (hs : s.size ≤ maxLen) (h : wordB s = b) :
    Calls Tryz.prog 42 #[.string s] w fun e w' => e = .returned (.bool b) ∧ Below w.heap.size w w' :=
  (spec_word s w hs).mono fun e w' ⟨he, hw⟩ => ⟨by rw [he, h], by subst hw; exact Below.refl _ _⟩
theorem spec_tableOk_is (b : Bool) (A : Option Addr) (c : Nat) (rows : List (List GV)) (w : World) (h : tableOkB rows = b) (hr : TabAt w w.heap.size A rows) (hl : rows.length ≤ 1048576) (hlr : ∀ r ∈ rows, r.length ≤ 1048576 ∧ ∀ v ∈ r, v.t.size ≤ 1048576) :
    Calls Tryz.prog 43 #[.slice A rows.length c] w fun e w' => e = .returned (.bool b) ∧ Below w.heap.size w w' := by
  subst h; exact spec_tableOk A c rows w hr hl (fun r h' => ⟨(hlr r h').1, fun v hv => Nat.le_trans ((hlr r h').2 v hv) (by unfold maxLen; omega)⟩)
set_option maxRecDepth 100000 in
set_option maxHeartbeats 3200000 in
theorem spec_dbOk {lo : Nat} (A : Option Addr) (c : Nat) (xs : List GRel) (w : World) (hf : fitRels xs) (hk : costRels xs ≤ 1048576) (hr : RelsAt w lo w.heap.size A xs) :
    Calls Tryz.prog 19 #[.slice A xs.length c] w fun e w' => e = .returned (.bool (dbOkB xs)) ∧ Below w.heap.size w w' := by
  have hl : xs.length ≤ 1048576 := by unfold costRels at hk; omega
  have HFIT := Lib.hid (db_fit hk)
  have HF := Lib.hid hf.2
  have HR := Lib.hid hr
  clear hf hr hk
  by_cases h6 : (60 : Int) < (xs.length : Int)
  · have H := Lib.hid (show dbOkB xs = false by unfold dbOkB; simp; omega)
    go_enter Tryz.func19, Tryz.ntmps19
    go_wp2_with fail
    go_ret
    exact ⟨ret_bool (by rw [H.out]), Below.refl _ _⟩
  go_enter Tryz.func19, Tryz.ntmps19
  go_wp2_with fail
  go_loopw [3] (fun i w' => ∃ k : Nat, k ≤ xs.length ∧ i = .int .i64 k ∧ Hid (dbTo xs k = true) ∧ Below w.heap.size w w') (fun i _ => xs.length - (intOf i).toNat)
  case atStart => exact ⟨0, Nat.zero_le _, rfl, Lib.hid rfl, Below.refl _ _⟩
  case round =>
    obtain ⟨k, hk, rfl, hT, hB⟩ := hrel
    by_cases hlt : k < xs.length
    · obtain ⟨g, o, rfl, hg0, hg, c0, A', c', ⟨c1, _⟩, s1⟩ := (HR.out.to_ hB).at_ hlt
      have hfit := HFIT.out _ (List.getElem_mem hlt)
      have hnm := (HF.out _ (List.getElem_mem hlt)).1
      have HRow := Lib.hid s1.tab
      have hi2 : (0 : Int) ≤ (k : Int) := by omega
      have hi3 : (k : Int) < (xs.length : Int) := by omega
      have q0 := cell_regrown c0
      have q1 := cell_regrown c1
      clear s1
      have HN := Lib.hid (show dbTo xs (k + 1) = (dbTo xs k && relAtB xs k) from rfl)
      have HBD := Lib.hid (db_bad xs k hlt)
      obtain ⟨bw, hbw⟩ : ∃ b, wordB xs[k].name = b := ⟨_, rfl⟩
      obtain ⟨bt, hbt⟩ : ∃ b, tableOkB xs[k].rows = b := ⟨_, rfl⟩
      have HW := Lib.hid hbw
      have HT := Lib.hid hbt
      have HRB := Lib.hid (show relB xs[k] = (bw && bt) by unfold relB; rw [hbw, hbt])
      clear hbw hbt
      by_cases hk0 : k = 0
      · have hd : decide ((0 : Int) < (k : Int)) = false := by simp; omega
        have hdn : decide (0 < k) = false := by simp; omega
        have HRA := Lib.hid (show relAtB xs k = (bw && bt) by rw [← HRB.out]; subst hk0; exact relAt_zero xs hlt)
        clear hk0 HRB
        cases bw with
        | false =>
          have HX := Lib.hid (HBD.out (HRA.out.trans (by simp)))
          go_wp2_with fail
          refine wp_region_quiet_below (by kernel_rfl) (by kernel_rfl) ?_
          repeat (go_big_quiet_step (first
            | (go_at_call 42; exact Calls.regrown_of (spec_word_b _ _ _ hnm HW.out))))
          refine wpQuiet_nil ?_
          intro _ hw'
          obtain ⟨⟨dq, osq⟩, hw''⟩ := hw'
          subst hw''
          have hB2 := below_next hB (below_regrown wr dq osq) rfl rfl
          generalize grow (redrawn wr dq) osq = wx at *
          clear q0 q1
          go_wp2_with fail
          go_ret
          exact ⟨ret_bool (by rw [HX.out]), hB2⟩
        | true =>
          cases bt with
          | false =>
            have HX := Lib.hid (HBD.out (HRA.out.trans (by simp)))
            go_wp2_with fail
            refine wp_region_quiet_below (by kernel_rfl) (by kernel_rfl) ?_
            repeat (go_big_quiet_step (first
              | (go_at_call 42; exact Calls.regrown_of (spec_word_b _ _ _ hnm HW.out))
              | (go_at_call 43; exact Calls.regrown_of (spec_tableOk_is _ A' c' xs[k].rows _ HT.out ((HRow.out).to_ (below_regrown wr _ _)) hfit.1 hfit.2))))
            refine wpQuiet_nil ?_
            intro _ hw'
            obtain ⟨⟨dq, osq⟩, hw''⟩ := hw'
            subst hw''
            have hB2 := below_next hB (below_regrown wr dq osq) rfl rfl
            generalize grow (redrawn wr dq) osq = wx at *
            clear q0 q1
            go_wp2_with fail
            go_ret
            exact ⟨ret_bool (by rw [HX.out]), hB2⟩
          | true =>
            have HX := Lib.hid (show dbTo xs (k + 1) = true by rw [HN.out, hT.out, HRA.out]; simp)
            go_wp2_with fail
            refine wp_region_quiet_below (by kernel_rfl) (by kernel_rfl) ?_
            repeat (go_big_quiet_step (first
              | (go_at_call 42; exact Calls.regrown_of (spec_word_b _ _ _ hnm HW.out))
              | (go_at_call 43; exact Calls.regrown_of (spec_tableOk_is _ A' c' xs[k].rows _ HT.out ((HRow.out).to_ (below_regrown wr _ _)) hfit.1 hfit.2))))
            refine wpQuiet_nil ?_
            intro _ hw'
            obtain ⟨⟨dq, osq⟩, hw''⟩ := hw'
            subst hw''
            have hB2 := below_next hB (below_regrown wr dq osq) rfl rfl
            generalize grow (redrawn wr dq) osq = wx at *
            clear q0 q1
            go_wp2_with fail
            go_roundw
            case rel => exact ⟨k + 1, by omega, by go_num, HX, hB2⟩
            case measure => simp [intOf]; omega
      · have hd : decide ((0 : Int) < (k : Int)) = true := by simp; omega
        have hdn : 0 < k := by omega
        obtain ⟨j, hkj⟩ : ∃ j, k = j + 1 := ⟨k - 1, by omega⟩
        have hj : j < xs.length := by omega
        obtain ⟨g2, o2, he2, hg2, hg2', d0, _⟩ := (HR.out.to_ hB).at_ hj
        cases he2
        have q2 := cell_regrown d0
        obtain ⟨bl, hbl⟩ : ∃ b, Op.bytesLess xs[j].name.toList xs[k].name.toList = b := ⟨_, rfl⟩
        have HRA := Lib.hid (show relAtB xs k = (bw && bt && bl) by rw [← HRB.out, ← hbl]; subst hkj; exact relAt_succ xs j hlt hj)
        have hi4 : (0 : Int) ≤ (j : Int) := Int.natCast_nonneg _
        have hi5 : (j : Int) < (xs.length : Int) := by omega
        have hi6 : (1 : Int) ≤ (k : Int) := by omega
        have e1 : (k : Int) - 1 = (j : Int) := by omega
        have HKJ := Lib.hid hkj
        clear hkj hk0 HRB
        cases bw with
        | false =>
          have HRA := Lib.hid (show relAtB xs k = false from HRA.out.trans (by simp))
          have HX := Lib.hid (HBD.out (HRA.out.trans (by simp)))
          go_wp2_with fail
          refine wp_region_quiet_below (by kernel_rfl) (by kernel_rfl) ?_
          repeat (go_big_quiet_step (first
            | (go_at_call 42; exact Calls.regrown_of (spec_word_b _ _ _ hnm HW.out))))
          refine wpQuiet_nil ?_
          intro _ hw'
          obtain ⟨⟨dq, osq⟩, hw''⟩ := hw'
          subst hw''
          have hB2 := below_next hB (below_regrown wr dq osq) rfl rfl
          generalize grow (redrawn wr dq) osq = wx at *
          clear q0 q1 q2 e1
          go_wp2_with fail
          go_ret
          exact ⟨ret_bool (by rw [HX.out]), hB2⟩
        | true =>
          cases bl with
          | false =>
            have HRA := Lib.hid (show relAtB xs k = false from HRA.out.trans (by simp))
            have HX := Lib.hid (HBD.out (HRA.out.trans (by simp)))
            go_wp2_with fail
            refine wp_region_quiet_below (by kernel_rfl) (by kernel_rfl) ?_
            repeat (go_big_quiet_step (first
              | (go_at_call 42; exact Calls.regrown_of (spec_word_b _ _ _ hnm HW.out))))
            refine wpQuiet_nil ?_
            intro _ hw'
            obtain ⟨⟨dq, osq⟩, hw''⟩ := hw'
            subst hw''
            have hB2 := below_next hB (below_regrown wr dq osq) rfl rfl
            generalize grow (redrawn wr dq) osq = wx at *
            clear q0 q1 q2 e1
            go_wp2_with fail
            go_ret
            exact ⟨ret_bool (by rw [HX.out]), hB2⟩
          | true =>
            cases bt with
            | false =>
              have HX := Lib.hid (HBD.out (HRA.out.trans (by simp)))
              go_wp2_with fail
              refine wp_region_quiet_below (by kernel_rfl) (by kernel_rfl) ?_
              repeat (go_big_quiet_step (first
                | (go_at_call 42; exact Calls.regrown_of (spec_word_b _ _ _ hnm HW.out))
                | (go_at_call 43; exact Calls.regrown_of (spec_tableOk_is _ A' c' xs[k].rows _ HT.out ((HRow.out).to_ (below_regrown wr _ _)) hfit.1 hfit.2))))
              refine wpQuiet_nil ?_
              intro _ hw'
              obtain ⟨⟨dq, osq⟩, hw''⟩ := hw'
              subst hw''
              have hB2 := below_next hB (below_regrown wr dq osq) rfl rfl
              generalize grow (redrawn wr dq) osq = wx at *
              clear q0 q1 q2 e1
              go_wp2_with fail
              go_ret
              exact ⟨ret_bool (by rw [HX.out]), hB2⟩
            | true =>
              have HX := Lib.hid (show dbTo xs (k + 1) = true by rw [HN.out, hT.out, HRA.out]; simp)
              go_wp2_with fail
              refine wp_region_quiet_below (by kernel_rfl) (by kernel_rfl) ?_
              repeat (go_big_quiet_step (first
                | (go_at_call 42; exact Calls.regrown_of (spec_word_b _ _ _ hnm HW.out))
                | (go_at_call 43; exact Calls.regrown_of (spec_tableOk_is _ A' c' xs[k].rows _ HT.out ((HRow.out).to_ (below_regrown wr _ _)) hfit.1 hfit.2))))
              refine wpQuiet_nil ?_
              intro _ hw'
              obtain ⟨⟨dq, osq⟩, hw''⟩ := hw'
              subst hw''
              have hB2 := below_next hB (below_regrown wr dq osq) rfl rfl
              generalize grow (redrawn wr dq) osq = wx at *
              clear q0 q1 q2 e1
              go_wp2_with fail
              go_roundw
              case rel => exact ⟨k + 1, by omega, by go_num, HX, hB2⟩
              case measure => simp [intOf]; omega
    · have H := Lib.hid (show dbOkB xs = true by
        have h := hT.out
        rw [show k = xs.length by omega] at h
        unfold dbOkB; rw [h]; simp; omega)
      go_wp2_with fail
      go_ret
      exact ⟨ret_bool (by rw [H.out]), hB⟩
end Go.Proofs.YteoepnadjkjlmaaGreat
