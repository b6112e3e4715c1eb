/-
  impl.DbOk. impl.rowsOf.
-/
import Derived.Test.YteoepnadjkjlmaaGreatDbOkMZ
import Derived.Test.YteoepnadjkjlmaaGreatTabOkZ
import Derived.Lib.QuietBelow
import Derived.BigQuiet
import Derived.Lib.Strings
import Derived.Laws.Cover1
import Derived.Test.YteoepnadjkjlmaaGreatAtomOkZ
namespace Go.Proofs.YteoepnadjkjlmaaGreat
open Go.RowKit Go.Sort
set_option linter.unusedVariables false

theorem impl_word_b (b : Bool) (s : ByteArray) (w : World) (hs : s.size ≤ maxLen) (h : wordB s = b) :
    Calls Tryz.prog 50 #[.string s] w fun e w' => e = .returned (.bool b) ∧ w = w' := by subst h; exact impl_word s w hs
theorem impl_word_bb (b : Bool) (s : ByteArray) (w : World) (hs : s.size ≤ maxLen) (h : wordB s = b) :
    Calls Tryz.prog 50 #[.string s] w fun e w' => e = .returned (.bool b) ∧ Below w.heap.size w w' :=
  (impl_word_b b s w hs h).mono fun e w' ⟨he, hw⟩ => ⟨he, by subst hw; exact Below.refl _ _⟩
theorem impl_tableOk_is (b : Bool) (A : Option Addr) (c : Nat) (rows : List (List GV)) (w : World) (h : tableOkB rows = b) (hr : TabAt w w.heap.size A rows) (hl : rows.length ≤ 1048576) (hlr : ∀ r ∈ rows, r.length ≤ 1048576 ∧ ∀ v ∈ r, v.t.size ≤ 1048576) :
    Calls Tryz.prog 51 #[.slice A rows.length c] w fun e w' => e = .returned (.bool b) ∧ Below w.heap.size w w' := by
  subst h; exact impl_tableOk A c rows w hr hl (fun r h' => ⟨(hlr r h').1, fun v hv => Nat.le_trans ((hlr r h').2 v hv) (by unfold maxLen; omega)⟩)
set_option maxRecDepth 100000 in
set_option maxHeartbeats 3200000 in
theorem impl_dbOk {lo : Nat} (A : Option Addr) (c : Nat) (xs : List GRel) (w : World) (hf : fitRels xs) (hk : costRels xs ≤ 1048576) (hr : RelsAt w lo w.heap.size A xs) :
    Calls Tryz.prog 25 #[.slice A xs.length c] w fun e w' => e = .returned (.bool (dbOkB xs)) ∧ Below w.heap.size w w' := by
  have hl : xs.length ≤ 1048576 := by unfold costRels at hk; omega
  have HFIT := Lib.hid (db_fit hk)
  have HF := Lib.hid hf.2
  have HR := Lib.hid hr
  clear hf hr hk
  by_cases h6 : (60 : Int) < (xs.length : Int)
  · have H := Lib.hid (show dbOkB xs = false by unfold dbOkB; simp; omega)
    go_enter Tryz.func25, Tryz.ntmps25
    go_wp2_with fail
    go_ret
    exact ⟨ret_bool (by rw [H.out]), Below.refl _ _⟩
  go_enter Tryz.func25, Tryz.ntmps25
  go_wp2_with fail
  go_loopw [10] (fun i w' => ∃ k : Nat, k ≤ xs.length ∧ i = .int .i64 k ∧ Hid (dbTo xs k = true) ∧ Below w.heap.size w w') (fun i _ => xs.length - (intOf i).toNat)
  case atStart => exact ⟨0, Nat.zero_le _, rfl, Lib.hid rfl, Below.refl _ _⟩
  case round =>
    obtain ⟨k, hk, rfl, hT, hB⟩ := hrel
    by_cases hlt : k < xs.length
    · obtain ⟨g, o, rfl, hg0, hg, c0, A', c', ⟨c1, _⟩, s1⟩ := (HR.out.to_ hB).at_ hlt
      have hfit := HFIT.out _ (List.getElem_mem hlt)
      have hnm := (HF.out _ (List.getElem_mem hlt)).1
      have HRow := Lib.hid s1.tab
      have hi2 : (0 : Int) ≤ (k : Int) := by omega
      have hi3 : (k : Int) < (xs.length : Int) := by omega
      have HN := Lib.hid (show dbTo xs (k + 1) = (dbTo xs k && relAtB xs k) from rfl)
      have HBD := Lib.hid (db_bad xs k hlt)
      obtain ⟨bw, hbw⟩ : ∃ b, wordB xs[k].name = b := ⟨_, rfl⟩
      obtain ⟨bt, hbt⟩ : ∃ b, tableOkB xs[k].rows = b := ⟨_, rfl⟩
      have HW := Lib.hid hbw
      have HT := Lib.hid hbt
      have HRB := Lib.hid (show relB xs[k] = (bw && bt) by unfold relB; rw [hbw, hbt])
      have HRA0 := Lib.hid (show (bw && bt) = false → relAtB xs k = false by
        intro h0
        by_cases hz : k = 0
        · subst hz; rw [relAt_zero xs hlt, HRB.out, h0]
        · obtain ⟨j, hj⟩ : ∃ j, k = j + 1 := ⟨k - 1, by omega⟩
          have h1 := HRB.out
          subst hj
          rw [relAt_succ xs j hlt (by omega), h1, h0]; rfl)
      clear hbw hbt
      have hBa : Below wr.heap.size wr (wr.alloc (.cells #[.string xs[k].name, .slice A' xs[k].rows.length c'] 59)) := (Below.refl _ _).alloc (Nat.le_refl _) _
      have hB1 := below_next hB hBa rfl rfl
      have HP := Lib.hid (Whole.new wr 59 [.string xs[k].name, .slice A' xs[k].rows.length c'])
      have HRw := Lib.hid (HRow.out.to_ hBa)
      have HRs := Lib.hid ((HR.out.to_ hB).to_ hBa)
      go_wp2_with fail
      clear c0 c1 s1 hBa hB
      have hPn : wr.heap.size < wr.heap.size + 1 := Nat.lt_succ_self _
      generalize hW1 : wr.alloc (.cells #[.string xs[k].name, .slice A' xs[k].rows.length c'] 59) = W1 at *
      have p0 : W1.cell? ⟨wr.heap.size, 0, none⟩ = some (.string xs[k].name) := HP.out.cell 0
      have p1 : W1.cell? ⟨wr.heap.size, 1, none⟩ = some (.slice A' xs[k].rows.length c') := HP.out.cell 1
      have q0 := cell_regrown p0
      have q1 := cell_regrown p1
      clear hW1
      generalize wr.heap.size = n1 at *
      by_cases hk0 : k = 0
      · have hd : decide ((0 : Int) < (k : Int)) = false := by simp; omega
        have hdn : decide (0 < k) = false := by simp; omega
        have HRA := Lib.hid (show relAtB xs k = (bw && bt) by rw [← HRB.out]; subst hk0; exact relAt_zero xs hlt)
        clear hk0 HRB
        cases bw with
        | false =>
          have HX := Lib.hid (HBD.out (HRA.out.trans (by simp)))
          go_wp2_with fail
          refine wp_region_quiet_below (by kernel_rfl) (by kernel_rfl) ?_
          repeat (go_big_quiet_step (first
            | (go_at_call 50; exact Calls.regrown_of (impl_word_bb _ _ _ hnm HW.out))))
          refine wpQuiet_nil ?_
          intro _ hw'
          obtain ⟨⟨dq, osq⟩, hw''⟩ := hw'
          subst hw''
          have hB2 := below_next hB1 (below_regrown W1 dq osq) rfl rfl
          generalize grow (redrawn W1 dq) osq = wx at *
          clear q0 q1 p0 p1
          go_wp2_with fail
          go_ret
          exact ⟨ret_bool (by rw [HX.out]), hB2⟩
        | true =>
          cases bt with
          | false =>
            have HX := Lib.hid (HBD.out (HRA.out.trans (by simp)))
            go_wp2_with fail
            refine wp_region_quiet_below (by kernel_rfl) (by kernel_rfl) ?_
            repeat (go_big_quiet_step (first
              | (go_at_call 50; exact Calls.regrown_of (impl_word_bb _ _ _ hnm HW.out))
              | (go_at_call 51; exact Calls.regrown_of (impl_tableOk_is _ A' c' xs[k].rows _ HT.out ((HRw.out).to_ (below_regrown W1 _ _)) hfit.1 hfit.2))))
            refine wpQuiet_nil ?_
            intro _ hw'
            obtain ⟨⟨dq, osq⟩, hw''⟩ := hw'
            subst hw''
            have hB2 := below_next hB1 (below_regrown W1 dq osq) rfl rfl
            generalize grow (redrawn W1 dq) osq = wx at *
            clear q0 q1 p0 p1
            go_wp2_with fail
            go_ret
            exact ⟨ret_bool (by rw [HX.out]), hB2⟩
          | true =>
            have HX := Lib.hid (show dbTo xs (k + 1) = true by rw [HN.out, hT.out, HRA.out]; simp)
            go_wp2_with fail
            refine wp_region_quiet_below (by kernel_rfl) (by kernel_rfl) ?_
            repeat (go_big_quiet_step (first
              | (go_at_call 50; exact Calls.regrown_of (impl_word_bb _ _ _ hnm HW.out))
              | (go_at_call 51; exact Calls.regrown_of (impl_tableOk_is _ A' c' xs[k].rows _ HT.out ((HRw.out).to_ (below_regrown W1 _ _)) hfit.1 hfit.2))))
            refine wpQuiet_nil ?_
            intro _ hw'
            obtain ⟨⟨dq, osq⟩, hw''⟩ := hw'
            subst hw''
            have hB2 := below_next hB1 (below_regrown W1 dq osq) rfl rfl
            generalize grow (redrawn W1 dq) osq = wx at *
            clear q0 q1 p0 p1
            go_wp2_with fail
            go_roundw
            case rel => exact ⟨k + 1, by omega, by go_num, HX, hB2⟩
            case measure => simp [intOf]; omega
      · have hd : decide ((0 : Int) < (k : Int)) = true := by simp; omega
        have hdn : 0 < k := by omega
        obtain ⟨j, hkj⟩ : ∃ j, k = j + 1 := ⟨k - 1, by omega⟩
        have hj : j < xs.length := by omega
        obtain ⟨g2, o2, he2, hg2, hg2', d0, _⟩ := HRs.out.at_ hj
        cases he2
        have q2 := cell_regrown d0
        obtain ⟨bl, hbl⟩ : ∃ b, Op.bytesLess xs[j].name.toList xs[k].name.toList = b := ⟨_, rfl⟩
        have HRA := Lib.hid (show relAtB xs k = (bw && bt && bl) by rw [← HRB.out, ← hbl]; subst hkj; exact relAt_succ xs j hlt hj)
        have hi4 : (0 : Int) ≤ (j : Int) := Int.natCast_nonneg _
        have hi5 : (j : Int) < (xs.length : Int) := by omega
        have hi6 : (1 : Int) ≤ (k : Int) := by omega
        have e1 : (k : Int) - 1 = (j : Int) := by omega
        have HKJ := Lib.hid hkj
        clear hkj hk0 HRB
        cases bw with
        | false =>
          have HX := Lib.hid (HBD.out (HRA.out.trans (by simp)))
          go_wp2_with fail
          refine wp_region_quiet_below (by kernel_rfl) (by kernel_rfl) ?_
          repeat (go_big_quiet_step (first
            | (go_at_call 50; exact Calls.regrown_of (impl_word_bb _ _ _ hnm HW.out))))
          refine wpQuiet_nil ?_
          intro _ hw'
          obtain ⟨⟨dq, osq⟩, hw''⟩ := hw'
          subst hw''
          have hB2 := below_next hB1 (below_regrown W1 dq osq) rfl rfl
          generalize grow (redrawn W1 dq) osq = wx at *
          clear q0 q1 q2 p0 p1 d0 e1
          go_wp2_with fail
          go_ret
          exact ⟨ret_bool (by rw [HX.out]), hB2⟩
        | true =>
          cases bt with
          | false =>
            have HX := Lib.hid (HBD.out (HRA.out.trans (by simp)))
            go_wp2_with fail
            refine wp_region_quiet_below (by kernel_rfl) (by kernel_rfl) ?_
            repeat (go_big_quiet_step (first
              | (go_at_call 50; exact Calls.regrown_of (impl_word_bb _ _ _ hnm HW.out))
              | (go_at_call 51; exact Calls.regrown_of (impl_tableOk_is _ A' c' xs[k].rows _ HT.out ((HRw.out).to_ (below_regrown W1 _ _)) hfit.1 hfit.2))))
            refine wpQuiet_nil ?_
            intro _ hw'
            obtain ⟨⟨dq, osq⟩, hw''⟩ := hw'
            subst hw''
            have hB2 := below_next hB1 (below_regrown W1 dq osq) rfl rfl
            generalize grow (redrawn W1 dq) osq = wx at *
            clear q0 q1 q2 p0 p1 d0 e1
            go_wp2_with fail
            go_ret
            exact ⟨ret_bool (by rw [HX.out]), hB2⟩
          | true =>
            cases bl with
            | false =>
              have HX := Lib.hid (HBD.out (HRA.out.trans (by simp)))
              go_wp2_with fail
              refine wp_region_quiet_below (by kernel_rfl) (by kernel_rfl) ?_
              repeat (go_big_quiet_step (first
                | (go_at_call 50; exact Calls.regrown_of (impl_word_bb _ _ _ hnm HW.out))
                | (go_at_call 51; exact Calls.regrown_of (impl_tableOk_is _ A' c' xs[k].rows _ HT.out ((HRw.out).to_ (below_regrown W1 _ _)) hfit.1 hfit.2))))
              refine wpQuiet_nil ?_
              intro _ hw'
              obtain ⟨⟨dq, osq⟩, hw''⟩ := hw'
              subst hw''
              have hB2 := below_next hB1 (below_regrown W1 dq osq) rfl rfl
              generalize grow (redrawn W1 dq) osq = wx at *
              clear q0 q1 q2 p0 p1 d0 e1
              go_wp2_with fail
              go_ret
              exact ⟨ret_bool (by rw [HX.out]), hB2⟩
            | true =>
              have HX := Lib.hid (show dbTo xs (k + 1) = true by rw [HN.out, hT.out, HRA.out]; simp)
              go_wp2_with fail
              refine wp_region_quiet_below (by kernel_rfl) (by kernel_rfl) ?_
              repeat (go_big_quiet_step (first
                | (go_at_call 50; exact Calls.regrown_of (impl_word_bb _ _ _ hnm HW.out))
                | (go_at_call 51; exact Calls.regrown_of (impl_tableOk_is _ A' c' xs[k].rows _ HT.out ((HRw.out).to_ (below_regrown W1 _ _)) hfit.1 hfit.2))))
              refine wpQuiet_nil ?_
              intro _ hw'
              obtain ⟨⟨dq, osq⟩, hw''⟩ := hw'
              subst hw''
              have hB2 := below_next hB1 (below_regrown W1 dq osq) rfl rfl
              generalize grow (redrawn W1 dq) osq = wx at *
              clear q0 q1 q2 p0 p1 d0 e1
              go_wp2_with fail
              go_roundw
              case rel => exact ⟨k + 1, by omega, by go_num, HX, hB2⟩
              case measure => simp [intOf]; omega
    · have hi3 : ¬ (k : Int) < (xs.length : Int) := by omega
      have H := Lib.hid (show dbOkB xs = true by
        have h := hT.out
        rw [show k = xs.length by omega] at h
        unfold dbOkB; rw [h]; simp; omega)
      go_wp2_with fail
      go_ret
      exact ⟨ret_bool (by rw [H.out]), hB⟩
end Go.Proofs.YteoepnadjkjlmaaGreat
namespace Go.Proofs.YteoepnadjkjlmaaGreat
open Go.RowKit Go.Sort
set_option linter.unusedVariables false

set_option maxRecDepth 100000 in
set_option maxHeartbeats 1600000 in
theorem impl_relRows {lo : Nat} (A : Option Addr) (c : Nat) (xs : List GRel) (s : ByteArray) (w : World) (hl : xs.length ≤ 1048576) (hr : RelsAt w lo w.heap.size A xs) :
    Calls Tryz.prog 27 #[.slice A xs.length c, .string s] w (RowsAns w xs s) := by
  have HR := Lib.hid hr
  clear hr
  go_enter Tryz.func27, Tryz.ntmps27
  go_wp2_with fail
  go_loopw [9] (fun i w' => ∃ k : Nat, k ≤ xs.length ∧ i = .int .i64 k ∧ Hid (k ≤ findR xs s) ∧ Below w.heap.size w w') (fun i _ => xs.length - (intOf i).toNat)
  case atStart => exact ⟨0, Nat.zero_le _, rfl, Lib.hid (Nat.zero_le _), Below.refl _ _⟩
  case round =>
    obtain ⟨k, hk, rfl, hT, hB⟩ := hrel
    by_cases hlt : k < xs.length
    · obtain ⟨g, o, rfl, hg0, hg, c0, A', c', ⟨c1, hcap⟩, s1⟩ := (HR.out.to_ hB).at_ hlt
      have hi2 : (0 : Int) ≤ (k : Int) := by omega
      have hi3 : (k : Int) < (xs.length : Int) := by omega
      obtain ⟨b, hb⟩ : ∃ b, (xs[k].name.toList == s.toList) = b := ⟨_, rfl⟩
      have HAT := Lib.hid (findR_at xs s k hlt hT.out)
      have HNX := Lib.hid (findR_next xs s k hlt hT.out)
      have hBa : Below wr.heap.size wr (wr.alloc (.cells #[.string xs[k].name, .slice A' xs[k].rows.length c'] 59)) := (Below.refl _ _).alloc (Nat.le_refl _) _
      have hB1 := below_next hB hBa rfl rfl
      cases b with
      | true =>
        have hE := Lib.hid (rowsR_hit xs s k hlt (HAT.out hb))
        have hP : Hid (RowsAns w xs s (.returned (.slice A' xs[k].rows.length c')) (wr.alloc (.cells #[.string xs[k].name, .slice A' xs[k].rows.length c'] 59))) := Lib.hid ⟨A', c', by rw [hE.out], by rw [hE.out]; exact hcap, by rw [hE.out]; exact s1.tabC.to_ hBa, hB1⟩
        clear s1
        go_wp2_with fail
        go_ret
        exact hP.out
      | false =>
        have hT2 := Lib.hid (HNX.out hb)
        clear s1
        go_wp2_with fail
        go_roundw
        case rel => exact ⟨k + 1, by omega, by go_num, hT2, hB1⟩
        case measure => simp [intOf]; omega
    · have hi3 : ¬ (k : Int) < (xs.length : Int) := by omega
      have hE := Lib.hid (rowsR_none xs s (by have := hT.out; omega))
      go_wp2_with fail
      go_ret
      exact ⟨_, _, by rw [hE.out]; rfl, by rw [hE.out]; exact ⟨Nat.le_refl _, Nat.zero_le _⟩, by rw [hE.out]; exact .inl rfl, hB⟩
end Go.Proofs.YteoepnadjkjlmaaGreat
