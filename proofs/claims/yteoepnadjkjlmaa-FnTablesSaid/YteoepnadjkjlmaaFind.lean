/-
  Contracts of sort.Find at its closure, impl.findRow, impl.HasRow.
-/
import Derived.Test.YteoepnadjkjlmaaTabOk
import Derived.Test.YteoepnadjkjlmaaFindM
import Derived.Lib.QuietBelow
import Derived.BigQuiet
namespace Go.Proofs.Yteoepnadjkjlmaa
open Go.RowKit Go.Sort
set_option linter.unusedVariables false

set_option maxHeartbeats 800000 in
theorem closure_cmp (g0 g1 : Nat) (A A' : Option Addr) (c c' i : Nat) (rows : List (List GV)) (r : List GV) (w : World) (h0 : w.cell? ⟨g0, 0, none⟩ = some (.slice A rows.length c)) (h1 : w.cell? ⟨g1, 0, none⟩ = some (.func (.func 38) #[.slice A' r.length c'] #[]))
    (hr : TabAt w w.heap.size A rows) (hr' : RowAt w w.heap.size A' r) (hl : rows.length ≤ 1048576) (hl' : r.length ≤ 1048576) (hlr : ∀ r ∈ rows, r.length ≤ 1048576) (hi : i < rows.length) :
    Calls Try.prog 58 #[.int .i64 i, .pointer (some ⟨g1, 0, none⟩), .pointer (some ⟨g0, 0, none⟩)] w fun e w' => e = .returned (.int .i64 (cmpR r rows[i])) ∧ Below w.heap.size w w' := by
  obtain ⟨g, o, A1, c1, rfl, hg, hcell, hrow⟩ := hr.at_ hi
  have hm := hlr _ (List.getElem_mem hi)
  have hi0 : (0 : Int) ≤ (i : Int) := by omega
  have hi1 : (i : Int) < (rows.length : Int) := by omega
  have q0 := cell_regrown h0
  have q1 := cell_regrown h1
  have q2 := cell_regrown hcell
  go_enter Try.func58, Try.ntmps58
  go_wp2_with fail
  refine wp_region_quiet_below (by kernel_rfl) (by kernel_rfl) ?_
  repeat (go_big_quiet_step (first
    | (go_at_call 38; exact Calls.regrown_of (impl_rows_m A' A1 c' c1 r rows[i] _ (hr'.to_ (below_regrown w _ _)) (hrow.to_ (below_regrown w _ _)) hl' hm))))
  refine wpQuiet_nil ?_
  intro _ hw'
  obtain ⟨⟨dq, osq⟩, hw''⟩ := hw'
  subst hw''
  go_wp2_with fail
  go_ret
  exact ⟨rfl, below_regrown w dq osq⟩

set_option maxHeartbeats 800000 in
theorem sort_find (g0 g1 : Nat) (A A' : Option Addr) (c c' : Nat) (rows : List (List GV)) (r : List GV) (w : World) (h0 : w.cell? ⟨g0, 0, none⟩ = some (.slice A rows.length c)) (h1 : w.cell? ⟨g1, 0, none⟩ = some (.func (.func 38) #[.slice A' r.length c'] #[]))
    (hr : TabAt w w.heap.size A rows) (hr' : RowAt w w.heap.size A' r) (hl : rows.length ≤ 1048576) (hl' : r.length ≤ 1048576) (hlr : ∀ r ∈ rows, r.length ≤ 1048576) (ha : ascB rows = true) :
    Calls Try.prog 57 #[.int .i64 rows.length, .func (.func 58) #[] #[.pointer (some ⟨g1, 0, none⟩), .pointer (some ⟨g0, 0, none⟩)]] w (PlacePost w (hasB rows r)) := by
  have HA := Lib.hid ha
  have H0 := Lib.hid h0
  have H1 := Lib.hid h1
  have l0 := World.block_lt_of_cell? w ⟨g0, 0, none⟩ h0
  have l1 := World.block_lt_of_cell? w ⟨g1, 0, none⟩ h1
  clear ha h0 h1
  go_enter Try.func57, Try.ntmps57
  go_wp2
  go_loopw [4, 6] (fun a b w' => ∃ lo hi : Nat, lo ≤ hi ∧ hi ≤ rows.length ∧ a = .int .i64 lo ∧ b = .int .i64 hi ∧ Hid (Bounds rows r lo hi) ∧ Below w.heap.size w w') (fun a b _ => (intOf b).toNat - (intOf a).toNat)
  case atStart => exact ⟨0, rows.length, Nat.zero_le _, Nat.le_refl _, rfl, rfl, Lib.hid (bounds_start rows r), Below.refl _ _⟩
  case round =>
    obtain ⟨lo, hi, hle, hhi, rfl, rfl, hbd, hB⟩ := hrel
    by_cases hlt : lo < hi
    · obtain ⟨m, hm⟩ : ∃ m, m = (lo + hi) / 2 := ⟨_, rfl⟩
      have hm1 : lo ≤ m := by omega
      have hm2 : m < hi := by omega
      have hm3 : m < rows.length := by omega
      have e1 : ((lo : Int) + (hi : Int)) / 2 = (m : Int) := by omega
      have HM := Lib.hid hm
      clear hm
      go_wp2_with fail
      refine (closure_cmp g0 g1 A A' c c' m rows r _ ((hB.cell (p := ⟨g0, 0, none⟩) l0).trans H0.out) ((hB.cell (p := ⟨g1, 0, none⟩) l1).trans H1.out) (hr.to_ hB) (hr'.to_ hB) hl hl' hlr hm3).mono ?_
      rintro e w2 ⟨rfl, hb2⟩
      have hB2 := below_next hB hb2 rfl rfl
      have han := Lib.hid (good_cmpR.anti rows[m] r)
      by_cases hc : cmpR rows[m] r < 0
      · have hbd2 := Lib.hid (bounds_up HA.out hbd.out hm3 hc)
        have hc2 : 0 < cmpR r rows[m] := by have := han.out; omega
        go_wp2_with fail
        go_roundw
        case rel => exact ⟨m + 1, hi, by omega, hhi, by go_num, rfl, hbd2, hB2⟩
        case measure => simp [intOf]; omega
      · have hbd2 := Lib.hid (bounds_down HA.out hbd.out hm3 hc)
        have hc2 : ¬ 0 < cmpR r rows[m] := by have := han.out; omega
        go_wp2_with fail
        go_roundw
        case rel => exact ⟨lo, m, by omega, by omega, rfl, by go_num, hbd2, hB2⟩
        case measure => simp [intOf]; omega
    · obtain rfl : lo = hi := by omega
      by_cases hln : lo < rows.length
      · have han := Lib.hid (good_cmpR.anti rows[lo] r)
        have H := Lib.hid (show hasB rows r = (cmpR r rows[lo] == 0) by
          rw [has_in HA.out hbd.out hln]
          show decide _ = decide _
          have := han.out
          by_cases h : cmpR rows[lo] r = 0
          · rw [decide_eq_true h, decide_eq_true (by omega)]
          · rw [decide_eq_false h, decide_eq_false (by omega)])
        go_wp2_with fail
        refine (closure_cmp g0 g1 A A' c c' lo rows r _ ((hB.cell (p := ⟨g0, 0, none⟩) l0).trans H0.out) ((hB.cell (p := ⟨g1, 0, none⟩) l1).trans H1.out) (hr.to_ hB) (hr'.to_ hB) hl hl' hlr hln).mono ?_
        rintro e w2 ⟨rfl, hb2⟩
        have hB2 := below_next hB hb2 rfl rfl
        go_wp2_with fail
        go_ret2
        exact ⟨⟨lo, by rw [H.out]; rfl⟩, hB2⟩
      · have H := Lib.hid (has_out hbd.out (by omega))
        go_wp2_with fail
        go_ret2
        exact ⟨⟨lo, by rw [H.out]; rfl⟩, hB⟩

set_option maxHeartbeats 400000 in
theorem impl_find (A A' : Option Addr) (c c' : Nat) (rows : List (List GV)) (r : List GV) (w : World)
    (hr : TabAt w w.heap.size A rows) (hr' : RowAt w w.heap.size A' r) (hl : rows.length ≤ 1048576) (hl' : r.length ≤ 1048576) (hlr : ∀ r ∈ rows, r.length ≤ 1048576) (ha : ascB rows = true) :
    Calls Try.prog 37 #[.slice A rows.length c, .func (.func 38) #[.slice A' r.length c'] #[]] w fun e w' => e = .returned (.bool (hasB rows r)) ∧ Below w.heap.size w w' := by
  have HA := Lib.hid ha
  clear ha
  go_enter Try.func37, Try.ntmps37
  go_wp2_with fail
  have hB : Below w.heap.size w ((w.alloc (.cells #[.slice A rows.length c] 24)).alloc (.cells #[.func (.func 38) #[.slice A' r.length c'] #[]] 48)) :=
    ((Below.refl _ _).alloc (Nat.le_refl _) _).alloc (by simp) _
  refine (sort_find w.heap.size (w.heap.size + 1) A A' c c' rows r _ (by go_simp) (by go_simp) (hr.to_ hB) (hr'.to_ hB) hl hl' hlr HA.out).mono ?_
  rintro e w1 ⟨⟨n, rfl⟩, hb1⟩
  have hB1 := below_next hB hb1 rfl rfl
  go_wp2_with fail
  go_ret
  exact ⟨rfl, hB1⟩

theorem impl_hasRow (A A' : Option Addr) (c c' : Nat) (rows : List (List GV)) (r : List GV) (w : World) (hr : TabAt w w.heap.size A rows) (hr' : RowAt w w.heap.size A' r) (hl : rows.length ≤ 1048576) (hl' : r.length ≤ 1048576) (hlr : ∀ r ∈ rows, r.length ≤ 1048576 ∧ ∀ v ∈ r, v.t.size ≤ maxLen) :
    Calls Try.prog 19 #[.slice A rows.length c, .slice A' r.length c'] w fun e w' => e = .returned (.bool (hasRowB rows r)) ∧ Below w.heap.size w w' := by
  by_cases hok : tableOkB rows = true
  · have H := Lib.hid (show hasRowB rows r = hasB rows r by unfold hasRowB; rw [hok]; rfl)
    go_enter Try.func19, Try.ntmps19
    go_wp2_with fail
    refine (impl_tableOk A c rows _ hr hl hlr).mono ?_
    rintro e w1 ⟨rfl, hb1⟩
    go_wp2_with fail
    refine (impl_find A A' c c' rows r _ (hr.to_ hb1) (hr'.to_ hb1) hl hl' (fun r h => (hlr r h).1) (asc_of_ok hok)).mono ?_
    rintro e w2 ⟨rfl, hb2⟩
    go_wp2_with fail
    go_ret
    exact ⟨ret_bool (by rw [H.out]), below_next hb1 hb2 rfl rfl⟩
  · rw [Bool.not_eq_true] at hok
    have H := Lib.hid (show hasRowB rows r = false by unfold hasRowB; rw [hok]; rfl)
    go_enter Try.func19, Try.ntmps19
    go_wp2_with fail
    refine (impl_tableOk A c rows _ hr hl hlr).mono ?_
    rintro e w1 ⟨rfl, hb1⟩
    go_wp2_with fail
    go_ret
    exact ⟨ret_bool (by rw [H.out]), hb1⟩
end Go.Proofs.Yteoepnadjkjlmaa
