/-
  spec.DbOk.
-/
import Derived.Test.YtpipikjkhmhmhaaDbOkMZ
import Derived.Test.YtpipikjkhmhmhaaTabOkS
import Derived.Lib.QuietBelow
import Derived.BigQuiet
import Derived.Lib.Strings
import Derived.Laws.Cover1
namespace Go.Proofs.Ytpipikjkhmhmhaa
open Go.RowKit Go.Sort
set_option linter.unusedVariables false

theorem spec_word_b (b : Bool) (s : ByteArray) (w : World) (hs : s.size ≤ maxLen) (h : wordB s = b) :
    Calls Try.prog 56 #[.string s] w fun e w' => e = .returned (.bool b) ∧ Below w.heap.size w w' :=
  (spec_word s w hs).mono fun e w' ⟨he, hw⟩ => ⟨by rw [he, h], by subst hw; exact Below.refl _ _⟩
theorem spec_tableOk_is (b : Bool) (A : Option Addr) (c : Nat) (rows : List (List GV)) (w : World) (h : tableOkB rows = b) (hr : TabAt w w.heap.size A rows) (hl : rows.length ≤ 1048576) (hlr : ∀ r ∈ rows, r.length ≤ 1048576 ∧ ∀ v ∈ r, v.t.size ≤ 1048576) :
    Calls Try.prog 57 #[.slice A rows.length c] w fun e w' => e = .returned (.bool b) ∧ Below w.heap.size w w' := by
  subst h; exact spec_tableOk A c rows w hr hl (fun r h' => ⟨(hlr r h').1, fun v hv => Nat.le_trans ((hlr r h').2 v hv) (by unfold maxLen; omega)⟩)
set_option maxRecDepth 100000 in
set_option maxHeartbeats 3200000 in
theorem spec_dbOk {lo : Nat} (A : Option Addr) (c : Nat) (xs : List GRel) (w : World) (hf : fitRels xs) (hk : costRels xs ≤ 1048576) (hr : RelsAt w lo w.heap.size A xs) :
    Calls Try.prog 17 #[.slice A xs.length c] w fun e w' => e = .returned (.bool (dbOkB xs)) ∧ Below w.heap.size w w' := by
  have hl : xs.length ≤ 1048576 := by unfold costRels at hk; omega
  have HFIT := Lib.hid (db_fit hk)
  have HF := Lib.hid hf.2
  have HR := Lib.hid hr
  clear hf hr hk
  by_cases h6 : (60 : Int) < (xs.length : Int)
  · have H := Lib.hid (show dbOkB xs = false by unfold dbOkB; simp; omega)
    go_enter Try.func17, Try.ntmps17
    go_wp2_with fail
    go_ret
    exact ⟨ret_bool (by rw [H.out]), Below.refl _ _⟩
  go_enter Try.func17, Try.ntmps17
  go_wp2_with fail
  go_loopw [3] (fun i w' => ∃ k : Nat, k ≤ xs.length ∧ i = .int .i64 k ∧ Hid (dbTo xs k = true) ∧ Below w.heap.size w w') (fun i _ => xs.length - (intOf i).toNat)
  case atStart => exact ⟨0, Nat.zero_le _, rfl, Lib.hid rfl, Below.refl _ _⟩
  case round =>
    obtain ⟨k, hk, rfl, hT, hB⟩ := hrel
    by_cases hlt : k < xs.length
    · obtain ⟨g, o, rfl, hg0, hg, c0, A', c', ⟨c1, _⟩, s1⟩ := (HR.out.to_ hB).at_ hlt
      have hfit := HFIT.out _ (List.getElem_mem hlt)
      have hnm := (HF.out _ (List.getElem_mem hlt)).1
      have HRow := Lib.hid s1.tab
      have hi2 : (0 : Int) ≤ (k : Int) := by omega
      have hi3 : (k : Int) < (xs.length : Int) := by omega
      have q0 := cell_regrown c0
      have q1 := cell_regrown c1
      clear s1
      have HN := Lib.hid (show dbTo xs (k + 1) = (dbTo xs k && relAtB xs k) from rfl)
      have HBD := Lib.hid (db_bad xs k hlt)
      obtain ⟨bw, hbw⟩ : ∃ b, wordB xs[k].name = b := ⟨_, rfl⟩
      obtain ⟨bt, hbt⟩ : ∃ b, tableOkB xs[k].rows = b := ⟨_, rfl⟩
      have HW := Lib.hid hbw
      have HT := Lib.hid hbt
      have HRB := Lib.hid (show relB xs[k] = (bw && bt) by unfold relB; rw [hbw, hbt])
      clear hbw hbt
      by_cases hk0 : k = 0
      · have hd : decide ((0 : Int) < (k : Int)) = false := by simp; omega
        have hdn : decide (0 < k) = false := by simp; omega
        have HRA := Lib.hid (show relAtB xs k = (bw && bt) by rw [← HRB.out]; subst hk0; exact relAt_zero xs hlt)
        clear hk0 HRB
        cases bw with
        | false =>
          have HX := Lib.hid (HBD.out (HRA.out.trans (by simp)))
          go_wp2_with fail
          refine wp_region_quiet_below (by kernel_rfl) (by kernel_rfl) ?_
          repeat (go_big_quiet_step (first
            | (go_at_call 56; exact Calls.regrown_of (spec_word_b _ _ _ hnm HW.out))))
          refine wpQuiet_nil ?_
          intro _ hw'
          obtain ⟨⟨dq, osq⟩, hw''⟩ := hw'
          subst hw''
          have hB2 := below_next hB (below_regrown wr dq osq) rfl rfl
          generalize grow (redrawn wr dq) osq = wx at *
          clear q0 q1
          go_wp2_with fail
          go_ret
          exact ⟨ret_bool (by rw [HX.out]), hB2⟩
        | true =>
          cases bt with
          | false =>
            have HX := Lib.hid (HBD.out (HRA.out.trans (by simp)))
            go_wp2_with fail
            refine wp_region_quiet_below (by kernel_rfl) (by kernel_rfl) ?_
            repeat (go_big_quiet_step (first
              | (go_at_call 56; exact Calls.regrown_of (spec_word_b _ _ _ hnm HW.out))
              | (go_at_call 57; exact Calls.regrown_of (spec_tableOk_is _ A' c' xs[k].rows _ HT.out ((HRow.out).to_ (below_regrown wr _ _)) hfit.1 hfit.2))))
            refine wpQuiet_nil ?_
            intro _ hw'
            obtain ⟨⟨dq, osq⟩, hw''⟩ := hw'
            subst hw''
            have hB2 := below_next hB (below_regrown wr dq osq) rfl rfl
            generalize grow (redrawn wr dq) osq = wx at *
            clear q0 q1
            go_wp2_with fail
            go_ret
            exact ⟨ret_bool (by rw [HX.out]), hB2⟩
          | true =>
            have HX := Lib.hid (show dbTo xs (k + 1) = true by rw [HN.out, hT.out, HRA.out]; simp)
            go_wp2_with fail
            refine wp_region_quiet_below (by kernel_rfl) (by kernel_rfl) ?_
            repeat (go_big_quiet_step (first
              | (go_at_call 56; exact Calls.regrown_of (spec_word_b _ _ _ hnm HW.out))
              | (go_at_call 57; exact Calls.regrown_of (spec_tableOk_is _ A' c' xs[k].rows _ HT.out ((HRow.out).to_ (below_regrown wr _ _)) hfit.1 hfit.2))))
            refine wpQuiet_nil ?_
            intro _ hw'
            obtain ⟨⟨dq, osq⟩, hw''⟩ := hw'
            subst hw''
            have hB2 := below_next hB (below_regrown wr dq osq) rfl rfl
            generalize grow (redrawn wr dq) osq = wx at *
            clear q0 q1
            go_wp2_with fail
            go_roundw
            case rel => exact ⟨k + 1, by omega, by go_num, HX, hB2⟩
            case measure => simp [intOf]; omega
      · have hd : decide ((0 : Int) < (k : Int)) = true := by simp; omega
        have hdn : 0 < k := by omega
        obtain ⟨j, hkj⟩ : ∃ j, k = j + 1 := ⟨k - 1, by omega⟩
        have hj : j < xs.length := by omega
        obtain ⟨g2, o2, he2, hg2, hg2', d0, _⟩ := (HR.out.to_ hB).at_ hj
        cases he2
        have q2 := cell_regrown d0
        obtain ⟨bl, hbl⟩ : ∃ b, Op.bytesLess xs[j].name.toList xs[k].name.toList = b := ⟨_, rfl⟩
        have HRA := Lib.hid (show relAtB xs k = (bw && bt && bl) by rw [← HRB.out, ← hbl]; subst hkj; exact relAt_succ xs j hlt hj)
        have hi4 : (0 : Int) ≤ (j : Int) := Int.natCast_nonneg _
        have hi5 : (j : Int) < (xs.length : Int) := by omega
        have hi6 : (1 : Int) ≤ (k : Int) := by omega
        have e1 : (k : Int) - 1 = (j : Int) := by omega
        have HKJ := Lib.hid hkj
        clear hkj hk0 HRB
        cases bw with
        | false =>
          have HRA := Lib.hid (show relAtB xs k = false from HRA.out.trans (by simp))
          have HX := Lib.hid (HBD.out (HRA.out.trans (by simp)))
          go_wp2_with fail
          refine wp_region_quiet_below (by kernel_rfl) (by kernel_rfl) ?_
          repeat (go_big_quiet_step (first
            | (go_at_call 56; exact Calls.regrown_of (spec_word_b _ _ _ hnm HW.out))))
          refine wpQuiet_nil ?_
          intro _ hw'
          obtain ⟨⟨dq, osq⟩, hw''⟩ := hw'
          subst hw''
          have hB2 := below_next hB (below_regrown wr dq osq) rfl rfl
          generalize grow (redrawn wr dq) osq = wx at *
          clear q0 q1 q2 e1
          go_wp2_with fail
          go_ret
          exact ⟨ret_bool (by rw [HX.out]), hB2⟩
        | true =>
          cases bl with
          | false =>
            have HRA := Lib.hid (show relAtB xs k = false from HRA.out.trans (by simp))
            have HX := Lib.hid (HBD.out (HRA.out.trans (by simp)))
            go_wp2_with fail
            refine wp_region_quiet_below (by kernel_rfl) (by kernel_rfl) ?_
            repeat (go_big_quiet_step (first
              | (go_at_call 56; exact Calls.regrown_of (spec_word_b _ _ _ hnm HW.out))))
            refine wpQuiet_nil ?_
            intro _ hw'
            obtain ⟨⟨dq, osq⟩, hw''⟩ := hw'
            subst hw''
            have hB2 := below_next hB (below_regrown wr dq osq) rfl rfl
            generalize grow (redrawn wr dq) osq = wx at *
            clear q0 q1 q2 e1
            go_wp2_with fail
            go_ret
            exact ⟨ret_bool (by rw [HX.out]), hB2⟩
          | true =>
            cases bt with
            | false =>
              have HX := Lib.hid (HBD.out (HRA.out.trans (by simp)))
              go_wp2_with fail
              refine wp_region_quiet_below (by kernel_rfl) (by kernel_rfl) ?_
              repeat (go_big_quiet_step (first
                | (go_at_call 56; exact Calls.regrown_of (spec_word_b _ _ _ hnm HW.out))
                | (go_at_call 57; exact Calls.regrown_of (spec_tableOk_is _ A' c' xs[k].rows _ HT.out ((HRow.out).to_ (below_regrown wr _ _)) hfit.1 hfit.2))))
              refine wpQuiet_nil ?_
              intro _ hw'
              obtain ⟨⟨dq, osq⟩, hw''⟩ := hw'
              subst hw''
              have hB2 := below_next hB (below_regrown wr dq osq) rfl rfl
              generalize grow (redrawn wr dq) osq = wx at *
              clear q0 q1 q2 e1
              go_wp2_with fail
              go_ret
              exact ⟨ret_bool (by rw [HX.out]), hB2⟩
            | true =>
              have HX := Lib.hid (show dbTo xs (k + 1) = true by rw [HN.out, hT.out, HRA.out]; simp)
              go_wp2_with fail
              refine wp_region_quiet_below (by kernel_rfl) (by kernel_rfl) ?_
              repeat (go_big_quiet_step (first
                | (go_at_call 56; exact Calls.regrown_of (spec_word_b _ _ _ hnm HW.out))
                | (go_at_call 57; exact Calls.regrown_of (spec_tableOk_is _ A' c' xs[k].rows _ HT.out ((HRow.out).to_ (below_regrown wr _ _)) hfit.1 hfit.2))))
              refine wpQuiet_nil ?_
              intro _ hw'
              obtain ⟨⟨dq, osq⟩, hw''⟩ := hw'
              subst hw''
              have hB2 := below_next hB (below_regrown wr dq osq) rfl rfl
              generalize grow (redrawn wr dq) osq = wx at *
              clear q0 q1 q2 e1
              go_wp2_with fail
              go_roundw
              case rel => exact ⟨k + 1, by omega, by go_num, HX, hB2⟩
              case measure => simp [intOf]; omega
    · have H := Lib.hid (show dbOkB xs = true by
        have h := hT.out
        rw [show k = xs.length by omega] at h
        unfold dbOkB; rw [h]; simp; omega)
      go_wp2_with fail
      go_ret
      exact ⟨ret_bool (by rw [H.out]), hB⟩
end Go.Proofs.Ytpipikjkhmhmhaa
