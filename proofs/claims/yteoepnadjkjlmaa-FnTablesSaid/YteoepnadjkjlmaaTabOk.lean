/-
  Contracts of impl.rowsOk, impl.TableOk and spec.TableOk.
-/
import Derived.Test.YteoepnadjkjlmaaRowOkZ
import Derived.Test.YteoepnadjkjlmaaRowCmp
import Derived.Test.YteoepnadjkjlmaaTabMZ
import Derived.Test.YteoepnadjkjlmaaTabOkM
namespace Go.Proofs.Yteoepnadjkjlmaa
open Go.RowKit
set_option linter.unusedVariables false

set_option maxHeartbeats 800000 in
theorem impl_rowsOk (A : Option Addr) (c : Nat) (rows : List (List GV)) (w : World) (hr : TabAt w w.heap.size A rows) (hl : rows.length ≤ 1048576) (hlr : ∀ r ∈ rows, r.length ≤ 1048576 ∧ ∀ v ∈ r, v.t.size ≤ maxLen) :
    Calls Try.prog 25 #[.slice A rows.length c] w fun e w' => e = .returned (.bool (rowsOkB rows)) ∧ Below w.heap.size w w' := by
  by_cases h8 : (3000 : Int) < rows.length
  · have H := Lib.hid (show rowsOkB rows = false by unfold rowsOkB; simp; omega)
    go_enter Try.func25, Try.ntmps25
    go_wp2
    go_ret
    exact ⟨ret_bool (by rw [H.out]), Below.refl _ _⟩
  go_enter Try.func25, Try.ntmps25
  go_wp2
  go_loopw [10] (fun i w' => ∃ k : Nat, k ≤ rows.length ∧ i = .int .i64 k ∧ Hid ((rows.take k).all (goodRow (wid rows)) = true) ∧ Below w.heap.size w w') (fun i _ => rows.length - (intOf i).toNat)
  case atStart => exact ⟨0, Nat.zero_le _, rfl, Lib.hid rfl, Below.refl _ _⟩
  case round =>
    obtain ⟨k, hk, rfl, hal, hB⟩ := hrel
    by_cases hlt : k < rows.length
    · obtain ⟨g0, o0, A0, c0, hA0, hg0, hcell0, hrow0⟩ := (hr.to_ hB).at_ (i := 0) (by omega)
      obtain ⟨g, o, A', c', rfl, hg, hcell, hrow⟩ := (hr.to_ hB).at_ hlt
      simp at hA0
      obtain ⟨rfl, rfl⟩ := hA0
      simp only [Nat.add_zero] at hcell0
      have hm := hlr _ (List.getElem_mem hlt)
      have hw0 := Lib.hid (wid_eq (rows := rows) (by omega))
      have hsn := Lib.hid (allr_snoc (wid rows) rows k hlt)
      have hi0 : (0 : Int) < (rows.length : Int) := by omega
      go_wp2_with fail
      refine (impl_row A' c' rows[k] _ hrow hm.1 hm.2).mono ?_
      rintro e w2 ⟨rfl, hb2⟩
      have hB2 := below_next hB hb2 rfl rfl
      have hcell2 : w2.cell? ⟨g, o, none⟩ = some (.slice A0 rows[0].length c0) := (hb2.cell (p := ⟨g, o, none⟩) hg).trans hcell0
      clear hcell hcell0
      by_cases hok : rowOkB rows[k] = true
      · by_cases hln : rows[k].length = rows[0].length
        · have hb : ((rows[k].length : Int) != (rows[0].length : Int)) = false := by simp [hln]
          have H := Lib.hid (show (rows.take (k + 1)).all (goodRow (wid rows)) = true by rw [hsn.out, hal.out, goodRow, hok, hw0.out, hln]; simp)
          have HLN := Lib.hid hln
          clear hln
          go_wp2_with fail
          go_roundw
          case rel => exact ⟨k + 1, by omega, by go_num, H, hB2⟩
          case measure => simp [intOf]; omega
        · have hb : ((rows[k].length : Int) != (rows[0].length : Int)) = true := by simp; omega
          have H := Lib.hid (show rowsOkB rows = false by unfold rowsOkB; rw [allr_bad _ rows k hlt (by rw [goodRow, hok, hw0.out]; simp [hln])]; rfl)
          clear hln
          go_wp2_with fail
          go_ret
          exact ⟨ret_bool (by rw [H.out]), hB2⟩
      · rw [Bool.not_eq_true] at hok
        have H := Lib.hid (show rowsOkB rows = false by unfold rowsOkB; rw [allr_bad _ rows k hlt (by rw [goodRow, hok]; rfl)]; rfl)
        go_wp2_with fail
        go_ret
        exact ⟨ret_bool (by rw [H.out]), hB2⟩
    · have H := Lib.hid (show rowsOkB rows = true by
        have h := hal.out
        rw [List.take_of_length_le (by omega)] at h
        unfold rowsOkB; rw [h]; simp; omega)
      go_wp2_with fail
      go_ret
      exact ⟨ret_bool (by rw [H.out]), hB⟩

set_option maxHeartbeats 800000 in
theorem impl_tableOk (A : Option Addr) (c : Nat) (rows : List (List GV)) (w : World) (hr : TabAt w w.heap.size A rows) (hl : rows.length ≤ 1048576) (hlr : ∀ r ∈ rows, r.length ≤ 1048576 ∧ ∀ v ∈ r, v.t.size ≤ maxLen) :
    Calls Try.prog 14 #[.slice A rows.length c] w fun e w' => e = .returned (.bool (tableOkB rows)) ∧ Below w.heap.size w w' := by
  go_enter Try.func14, Try.ntmps14
  go_wp2_with fail
  refine (impl_rowsOk A c rows _ hr hl hlr).mono ?_
  rintro e w1 ⟨rfl, hb1⟩
  by_cases hok : rowsOkB rows = true
  · go_wp2_with fail
    go_loopw [3] (fun i w' => ∃ k : Nat, 1 ≤ k ∧ k ≤ rows.length + 1 ∧ i = .int .i64 k ∧ Hid (ascB (rows.take k) = true) ∧ Below w.heap.size w w') (fun i _ => rows.length + 1 - (intOf i).toNat)
    case atStart => exact ⟨1, Nat.le_refl _, by omega, rfl, Lib.hid (asc_one rows), hb1⟩
    case round =>
      obtain ⟨k, hk1, hk, rfl, hal, hB⟩ := hrel
      by_cases hlt : k < rows.length
      · obtain ⟨j, hkj⟩ : ∃ j, k = j + 1 := ⟨k - 1, by omega⟩
        have hj : j < rows.length := by omega
        obtain ⟨g0, o0, A0, c0, hA0, hg0, hcell0, hrow0⟩ := (hr.to_ hB).at_ hj
        obtain ⟨g, o, A', c', rfl, hg, hcell, hrow⟩ := (hr.to_ hB).at_ hlt
        simp at hA0
        obtain ⟨rfl, rfl⟩ := hA0
        have hm0 := hlr _ (List.getElem_mem hj)
        have hm := hlr _ (List.getElem_mem hlt)
        have hsn := Lib.hid (show ascB (rows.take (k + 1)) = (ascB (rows.take k) && decide (cmpR rows[j] rows[k] < 0)) by subst hkj; exact asc_snoc rows j hlt)
        have hbd := Lib.hid (show 0 ≤ cmpR rows[j] rows[k] → ascB rows = false by subst hkj; exact fun h => asc_bad rows j hlt (by omega))
        have hi0 : (0 : Int) ≤ (j : Int) := Int.natCast_nonneg _
        have hi1 : (j : Int) < (rows.length : Int) := by omega
        have hi2 : (0 : Int) ≤ (k : Int) := by omega
        have hi3 : (k : Int) < (rows.length : Int) := by omega
        go_wp2_with fail
        have e1 : IntKind.i64.wrap ((k : Int) - 1) = (j : Int) := by rw [IntKind.wrap_i64]; omega
        have e5 : IntKind.i64.wrap (j : Int) = (j : Int) := by rw [IntKind.wrap_i64]; omega
        have e2 : ((j : Int) + 1).toNat = k := by omega
        have e3 : (0 : Int) ≤ (j : Int) + 1 := by omega
        have e4 : (j : Int) + 1 < (rows.length : Int) := by omega
        have HKJ := Lib.hid hkj
        clear hkj
        go_region_held3 (fun w' => w'.cell? ⟨g, o + j, none⟩ = some (.slice A0 rows[j].length c0) ∧ w'.cell? ⟨g, o + k, none⟩ = some (.slice A' rows[k].length c') ∧ RowAt w' w'.heap.size A0 rows[j] ∧ RowAt w' w'.heap.size A' rows[k] ∧ wr.heap.size ≤ w'.heap.size ∧ Below w.heap.size w w')
          (first | (go_split_ands; exact ⟨by assumption, by assumption, by assumption, by assumption, Nat.le_refl _, hB.drew⟩)
                 | (go_split_ands; refine ⟨?_, ?_, ?_, ?_, ?_, ?_⟩; all_goals first | (have := hbx.size; omega) | (rw [hcx _ _ (by omega)]; assumption) | exact RowAt.to_ (by assumption) hbx | exact below_next (by assumption) hbx rfl rfl))
          (first
            | (go_at_call 33; refine (impl_rows A0 A' c0 c' rows[j] rows[k] _ (by go_split_ands; assumption) (by go_split_ands; assumption) hm0.1 hm.1).mono ?_; rintro e wx ⟨rfl, hbx⟩; obtain ⟨hcx, hfx⟩ := bcell hbx))
        have hB2 : Below w.heap.size w wx := by go_split_ands; assumption
        clear hcx hfx hbx hcell hcell0 e1 e2 e3 e4 e5
        by_cases hc : cmpR rows[j] rows[k] < 0
        · have hcb : decide (0 ≤ cmpR rows[j] rows[k]) = false := by simp; omega
          have H := Lib.hid (show ascB (rows.take (k + 1)) = true by have h := hsn.out; rw [hal.out] at h; rw [h]; simp [hc])
          go_wp2_with fail
          go_roundw
          case rel => exact ⟨k + 1, by omega, by omega, by (have h := HKJ.out; subst h; go_num), H, hB2⟩
          case measure => have h := HKJ.out; simp [intOf]; omega
        · have hcb : decide (0 ≤ cmpR rows[j] rows[k]) = true := by simp; omega
          have H := Lib.hid (show tableOkB rows = false by unfold tableOkB; rw [hbd.out (by omega)]; simp)
          go_wp2_with fail
          go_ret
          exact ⟨ret_bool (by rw [H.out]), hB2⟩
      · have H := Lib.hid (show tableOkB rows = true by
          have h := hal.out
          rw [List.take_of_length_le (by omega)] at h
          unfold tableOkB; rw [h, hok]; rfl)
        go_wp2_with fail
        go_ret
        exact ⟨ret_bool (by rw [H.out]), hB⟩
  · rw [Bool.not_eq_true] at hok
    have H := Lib.hid (show tableOkB rows = false by unfold tableOkB; rw [hok]; rfl)
    go_wp2_with fail
    go_ret
    exact ⟨ret_bool (by rw [H.out]), hb1⟩
end Go.Proofs.Yteoepnadjkjlmaa
