/-
  Contract of impl.CompareRows.
-/
import Derived.Test.YteoepnadjkjlmaaRowEq
import Derived.Test.YteoepnadjkjlmaaCmp
import Derived.Test.YteoepnadjkjlmaaRowCmpM
namespace Go.Proofs.Yteoepnadjkjlmaa
open Go.RowKit
set_option linter.unusedVariables false

theorem nan_i (a : Int) (w : World) :
    Calls Try.prog 72 #[.int .i64 a] w fun e w' => e = .returned (.bool false) ∧ w = w' := by
  go_enter Try.func72, Try.ntmps72
  go_wp2
  go_ret
  exact ⟨ret_bool (by simp), rfl⟩
theorem compare_i (a b : Int) (w : World) :
    Calls Try.prog 60 #[.int .i64 a, .int .i64 b] w fun e w' => e = .returned (.int .i64 (cmpI a b)) ∧ w = w' := by
  go_enter Try.func60, Try.ntmps60
  go_wp2_with (go_at_call 72; refine (nan_i _ _).mono ?_; rintro e w' ⟨rfl, rfl⟩)
  all_goals go_ret
  all_goals refine ⟨ret_int ?_, rfl⟩
  all_goals unfold cmpI
  · rw [if_pos (by assumption)]
  · rw [if_neg (by omega), if_pos (by omega)]
  · rw [if_neg (by omega), if_neg (by omega)]

set_option maxHeartbeats 800000 in
theorem impl_rows_m (A A' : Option Addr) (c c' : Nat) (vs us : List GV) (w : World) (hr : RowAt w w.heap.size A vs) (hr' : RowAt w w.heap.size A' us) (hl : vs.length ≤ 1048576) (hl' : us.length ≤ 1048576) :
    Calls Try.prog 38 #[.slice A vs.length c, .slice A' us.length c'] w fun e w' => e = .returned (.int .i64 (cmpR vs us)) ∧ Below w.heap.size w w' := by
  go_enter Try.func38, Try.ntmps38
  go_wp2
  go_loopw [12] (fun i w' => ∃ k : Nat, k ≤ vs.length ∧ k ≤ us.length ∧ i = .int .i64 k ∧ Hid (cmpR (vs.drop k) (us.drop k) = cmpR vs us) ∧ Below w.heap.size w w') (fun i _ => vs.length - (intOf i).toNat)
  case atStart => exact ⟨0, Nat.zero_le _, Nat.zero_le _, rfl, Lib.hid rfl, Below.refl _ _⟩
  case round =>
    obtain ⟨k, hk, hk', rfl, hrec, hB⟩ := hrel
    by_cases hlt : k < vs.length ∧ k < us.length
    · obtain ⟨hlt, hlt'⟩ := hlt
      have hstep := Lib.hid (cmpR_step hlt hlt')
      obtain ⟨g, o, rfl, hg, c0, c1, c2⟩ := (hr.below hB (Nat.le_refl _)).at_ hlt
      obtain ⟨g', o', rfl, hg', d0, d1, d2⟩ := (hr'.below hB (Nat.le_refl _)).at_ hlt'
      have hi0 : (0 : Int) ≤ (k : Int) := Int.natCast_nonneg _
      have hi1 : (k : Int) < (vs.length : Int) := by omega
      have hi2 : (k : Int) < (us.length : Int) := by omega
      have hi3 : (k : Int) < min (vs.length : Int) (us.length : Int) := by omega
      go_wp2_with fail
      go_region_held3 (fun w' => w'.cell? ⟨g, o + k * 3, none⟩ = some (.int .i64 vs[k].k) ∧ w'.cell? ⟨g, o + k * 3 + 1, none⟩ = some (.int .i64 vs[k].n) ∧ w'.cell? ⟨g, o + k * 3 + 2, none⟩ = some (.string vs[k].t) ∧
          w'.cell? ⟨g', o' + k * 3, none⟩ = some (.int .i64 us[k].k) ∧ w'.cell? ⟨g', o' + k * 3 + 1, none⟩ = some (.int .i64 us[k].n) ∧ w'.cell? ⟨g', o' + k * 3 + 2, none⟩ = some (.string us[k].t) ∧ w.heap.size ≤ w'.heap.size ∧ Below w.heap.size w w')
        (first | (go_split_ands; exact ⟨by assumption, by assumption, by assumption, by assumption, by assumption, by assumption, hB.size, hB.drew⟩)
               | (go_split_ands; refine ⟨?_, ?_, ?_, ?_, ?_, ?_, ?_, ?_⟩; all_goals first | (have := hbx.size; omega) | (rw [hcx _ _ (by omega)]; assumption) | exact below_next (by assumption) hbx rfl rfl))
        (first
          | (go_at_call 59; refine (impl_compare _ _ _ _ _ _ _).mono ?_; rintro e wx ⟨rfl, hbx⟩; obtain ⟨hcx, hfx⟩ := bcell hbx))
      have hB2 : Below w.heap.size w wx := by go_split_ands; assumption
      clear hcx hfx hbx c0 c1 c2 d0 d1 d2
      by_cases hc : cmpG vs[k] us[k] = 0
      · have hcb : (cmpV vs[k].k vs[k].n vs[k].t us[k].k us[k].n us[k].t != 0) = false := by simpa [cmpG] using hc
        have H := Lib.hid (show cmpR (vs.drop (k + 1)) (us.drop (k + 1)) = cmpR vs us by have h1 := hstep.out; rw [if_pos hc] at h1; rw [← h1]; exact hrec.out)
        clear hc
        go_wp2_with fail
        go_roundw
        case rel => exact ⟨k + 1, by omega, by omega, by go_num, H, hB2⟩
        case measure => simp [intOf]; omega
      · have hcb : (cmpV vs[k].k vs[k].n vs[k].t us[k].k us[k].n us[k].t != 0) = true := by simpa [cmpG] using hc
        have H := Lib.hid (show cmpR vs us = cmpV vs[k].k vs[k].n vs[k].t us[k].k us[k].n us[k].t by have h1 := hstep.out; rw [if_neg hc] at h1; rw [← hrec.out, h1]; rfl)
        clear hc
        go_wp2_with fail
        go_ret
        exact ⟨ret_int (by rw [H.out]), hB2⟩
    · have H := Lib.hid (show cmpR vs us = cmpI vs.length us.length by rw [← hrec.out, cmpR_end hk hk' (by omega)])
      have hi3 : ¬ (k : Int) < min (vs.length : Int) (us.length : Int) := by omega
      have hi4 : decide ((k : Int) < min (vs.length : Int) (us.length : Int)) = false := by simpa using hi3
      clear hlt
      go_wp2_with (go_at_call 60; refine (compare_i _ _ _).mono ?_; rintro e w' ⟨rfl, rfl⟩)
      go_ret
      exact ⟨ret_int (by rw [H.out]), hB⟩

theorem impl_rows (A A' : Option Addr) (c c' : Nat) (vs us : List GV) (w : World) (hr : RowAt w w.heap.size A vs) (hr' : RowAt w w.heap.size A' us) (hl : vs.length ≤ 1048576) (hl' : us.length ≤ 1048576) :
    Calls Try.prog 33 #[.slice A vs.length c, .slice A' us.length c'] w fun e w' => e = .returned (.int .i64 (cmpR vs us)) ∧ Below w.heap.size w w' := by
  go_enter Try.func33, Try.ntmps33
  go_wp2_with fail
  refine (impl_rows_m A A' c c' vs us _ hr hr' hl hl').mono ?_
  rintro e w1 ⟨rfl, hb1⟩
  go_wp2_with fail
  go_ret
  exact ⟨rfl, hb1⟩
end Go.Proofs.Yteoepnadjkjlmaa
