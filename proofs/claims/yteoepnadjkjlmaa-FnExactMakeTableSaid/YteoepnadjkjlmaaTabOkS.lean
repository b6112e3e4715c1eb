/-
  Contract of spec.TableOk.
-/
import Derived.Test.YteoepnadjkjlmaaTabOkM
import Derived.Test.YteoepnadjkjlmaaTabM
import Derived.Test.YteoepnadjkjlmaaRowCmpS
import Derived.Lib.QuietBelow
import Derived.BigQuiet
namespace Go.Proofs.Yteoepnadjkjlmaa
open Go.RowKit Go.Sort
set_option linter.unusedVariables false

set_option maxHeartbeats 1600000 in
theorem spec_tableOk (A : Option Addr) (c : Nat) (rows : List (List GV)) (w : World) (hr : TabAt w w.heap.size A rows) (hl : rows.length ≤ 1048576) (hlr : ∀ r ∈ rows, r.length ≤ 1048576 ∧ ∀ v ∈ r, v.t.size ≤ maxLen) :
    Calls Try.prog 16 #[.slice A rows.length c] w fun e w' => e = .returned (.bool (tableOkB rows)) ∧ Below w.heap.size w w' := by
  by_cases h8 : (3000 : Int) < rows.length
  · have H := Lib.hid (show tableOkB rows = false by unfold tableOkB rowsOkB; simp; omega)
    go_enter Try.func16, Try.ntmps16
    go_wp2
    go_ret
    exact ⟨ret_bool (by rw [H.out]), Below.refl _ _⟩
  go_enter Try.func16, Try.ntmps16
  go_wp2
  go_loopw [3] (fun i w' => ∃ k : Nat, k ≤ rows.length ∧ i = .int .i64 k ∧ Hid ((rows.take k).all (goodRow (wid rows)) = true) ∧ Hid (ascB (rows.take k) = true) ∧ Below w.heap.size w w') (fun i _ => rows.length - (intOf i).toNat)
  case atStart => exact ⟨0, Nat.zero_le _, rfl, Lib.hid rfl, Lib.hid rfl, Below.refl _ _⟩
  case round =>
    obtain ⟨k, hk, rfl, hal, has, hB⟩ := hrel
    by_cases hlt : k < rows.length
    · obtain ⟨g0, o0, A0, c0, hA0, hg0, hcell0, hrow0⟩ := (hr.to_ hB).at_ (i := 0) (by omega)
      obtain ⟨g, o, A', c', rfl, hg, hcell, hrow⟩ := (hr.to_ hB).at_ hlt
      simp at hA0
      obtain ⟨rfl, rfl⟩ := hA0
      simp only [Nat.add_zero] at hcell0
      have hm := hlr _ (List.getElem_mem hlt)
      have hw0 := Lib.hid (wid_eq (rows := rows) (by omega))
      have hsn := Lib.hid (allr_snoc (wid rows) rows k hlt)
      have hi0 : (0 : Int) < (rows.length : Int) := by omega
      have hi2 : (0 : Int) ≤ (k : Int) := by omega
      have hi3 : (k : Int) < (rows.length : Int) := by omega
      have q0 := cell_regrown hcell0
      have q1 := cell_regrown hcell
      by_cases hok : rowOkB rows[k] = true
      · by_cases hln : rows[k].length = rows[0].length
        · have hb : ((rows[k].length : Int) != (rows[0].length : Int)) = false := by simp [hln]
          have hgood := Lib.hid (show (rows.take (k + 1)).all (goodRow (wid rows)) = true by rw [hsn.out, hal.out, goodRow, hok, hw0.out, hln]; simp)
          have HLN := Lib.hid hln
          clear hln
          by_cases hk0 : k = 0
          · have hd : decide ((0 : Int) < (k : Int)) = false := by simp; omega
            have hdn : decide (0 < k) = false := by simp; omega
            have H := Lib.hid (show ascB (rows.take (k + 1)) = true by subst hk0; exact asc_one rows)
            have HK0 := Lib.hid hk0
            clear hk0
            go_wp2_with fail
            refine wp_region_quiet_below (by kernel_rfl) (by kernel_rfl) ?_
            repeat (go_big_quiet_step (first
              | (go_at_call 21; exact Calls.regrown_of (spec_row_is _ A' c' rows[k] _ hok (hrow.to_ (below_regrown wr _ _)) hm.1 hm.2))))
            refine wpQuiet_nil ?_
            intro _ hw'
            obtain ⟨⟨dq, osq⟩, hw''⟩ := hw'
            subst hw''
            have hB2 := below_next hB (below_regrown wr dq osq) rfl rfl
            generalize grow (redrawn wr dq) osq = wx at *
            clear q0 q1
            go_wp2_with fail
            go_roundw
            case rel => exact ⟨k + 1, by omega, by go_num, hgood, H, hB2⟩
            case measure => simp [intOf]; omega
          · have hd : decide ((0 : Int) < (k : Int)) = true := by simp; omega
            have hdn : 0 < k := by omega
            obtain ⟨j, hkj⟩ : ∃ j, k = j + 1 := ⟨k - 1, by omega⟩
            have hj : j < rows.length := by omega
            obtain ⟨g1, o1, A1, c1, hA1, hg1, hcell1, hrow1⟩ := (hr.to_ hB).at_ hj
            simp at hA1
            obtain ⟨rfl, rfl⟩ := hA1
            have hm1 := hlr _ (List.getElem_mem hj)
            have q2 := cell_regrown hcell1
            have hsn2 := Lib.hid (show ascB (rows.take (k + 1)) = (ascB (rows.take k) && decide (cmpR rows[j] rows[k] < 0)) by subst hkj; exact asc_snoc rows j hlt)
            have hbd := Lib.hid (show 0 ≤ cmpR rows[j] rows[k] → ascB rows = false by subst hkj; exact fun h => asc_bad rows j hlt (by omega))
            have hi4 : (0 : Int) ≤ (j : Int) := Int.natCast_nonneg _
            have hi5 : (j : Int) < (rows.length : Int) := by omega
            have hi6 : (1 : Int) ≤ (k : Int) := by omega
            have e1 : (k : Int) - 1 = (j : Int) := by omega
            have HKJ := Lib.hid hkj
            clear hkj hk0
            by_cases hc : cmpR rows[j] rows[k] < 0
            · have hcb : decide (0 ≤ cmpR rows[j] rows[k]) = false := by simp; omega
              have H := Lib.hid (show ascB (rows.take (k + 1)) = true by have h := hsn2.out; rw [has.out] at h; rw [h]; simp [hc])
              go_wp2_with fail
              refine wp_region_quiet_below (by kernel_rfl) (by kernel_rfl) ?_
              repeat (go_big_quiet_step (first
                | (go_at_call 21; exact Calls.regrown_of (spec_row_is _ A' c' rows[k] _ hok (hrow.to_ (below_regrown wr _ _)) hm.1 hm.2))
                | (go_at_call 35; exact Calls.regrown_of (spec_rows A1 A' c1 c' rows[j] rows[k] _ (hrow1.to_ (below_regrown wr _ _)) (hrow.to_ (below_regrown wr _ _)) hm1.1 hm.1))))
              refine wpQuiet_nil ?_
              intro _ hw'
              obtain ⟨⟨dq, osq⟩, hw''⟩ := hw'
              subst hw''
              have hB2 := below_next hB (below_regrown wr dq osq) rfl rfl
              generalize grow (redrawn wr dq) osq = wx at *
              clear q0 q1 q2 e1
              go_wp2_with fail
              go_roundw
              case rel => exact ⟨k + 1, by omega, by go_num, hgood, H, hB2⟩
              case measure => simp [intOf]; omega
            · have hcb : decide (0 ≤ cmpR rows[j] rows[k]) = true := by simp; omega
              have H := Lib.hid (table_asc (hbd.out (by omega)))
              go_wp2_with fail
              refine wp_region_quiet_below (by kernel_rfl) (by kernel_rfl) ?_
              repeat (go_big_quiet_step (first
                | (go_at_call 21; exact Calls.regrown_of (spec_row_is _ A' c' rows[k] _ hok (hrow.to_ (below_regrown wr _ _)) hm.1 hm.2))
                | (go_at_call 35; exact Calls.regrown_of (spec_rows A1 A' c1 c' rows[j] rows[k] _ (hrow1.to_ (below_regrown wr _ _)) (hrow.to_ (below_regrown wr _ _)) hm1.1 hm.1))))
              refine wpQuiet_nil ?_
              intro _ hw'
              obtain ⟨⟨dq, osq⟩, hw''⟩ := hw'
              subst hw''
              have hB2 := below_next hB (below_regrown wr dq osq) rfl rfl
              generalize grow (redrawn wr dq) osq = wx at *
              clear q0 q1 q2 e1
              go_wp2_with fail
              go_ret
              exact ⟨ret_bool (by rw [H.out]), hB2⟩
        · have hb : ((rows[k].length : Int) != (rows[0].length : Int)) = true := by simp; omega
          have H := Lib.hid (table_bad (allr_bad _ rows k hlt (by rw [goodRow, hok, hw0.out]; simp [hln])))
          clear hln
          go_wp2_with fail
          refine wp_region_quiet_below (by kernel_rfl) (by kernel_rfl) ?_
          repeat (go_big_quiet_step (first
            | (go_at_call 21; exact Calls.regrown_of (spec_row_is _ A' c' rows[k] _ hok (hrow.to_ (below_regrown wr _ _)) hm.1 hm.2))))
          refine wpQuiet_nil ?_
          intro _ hw'
          obtain ⟨⟨dq, osq⟩, hw''⟩ := hw'
          subst hw''
          have hB2 := below_next hB (below_regrown wr dq osq) rfl rfl
          generalize grow (redrawn wr dq) osq = wx at *
          clear q0 q1
          go_wp2_with fail
          go_ret
          exact ⟨ret_bool (by rw [H.out]), hB2⟩
      · rw [Bool.not_eq_true] at hok
        have H := Lib.hid (table_bad (allr_bad _ rows k hlt (by rw [goodRow, hok]; rfl)))
        go_wp2_with fail
        refine wp_region_quiet_below (by kernel_rfl) (by kernel_rfl) ?_
        repeat (go_big_quiet_step (first
          | (go_at_call 21; exact Calls.regrown_of (spec_row_is _ A' c' rows[k] _ hok (hrow.to_ (below_regrown wr _ _)) hm.1 hm.2))))
        refine wpQuiet_nil ?_
        intro _ hw'
        obtain ⟨⟨dq, osq⟩, hw''⟩ := hw'
        subst hw''
        have hB2 := below_next hB (below_regrown wr dq osq) rfl rfl
        generalize grow (redrawn wr dq) osq = wx at *
        clear q0 q1
        go_wp2_with fail
        go_ret
        exact ⟨ret_bool (by rw [H.out]), hB2⟩
    · have H := Lib.hid (show tableOkB rows = true by
        have h := hal.out
        have h2 := has.out
        rw [List.take_of_length_le (by omega)] at h h2
        unfold tableOkB rowsOkB; rw [h, h2]; simp; omega)
      go_wp2_with fail
      go_ret
      exact ⟨ret_bool (by rw [H.out]), hB⟩
end Go.Proofs.Yteoepnadjkjlmaa
