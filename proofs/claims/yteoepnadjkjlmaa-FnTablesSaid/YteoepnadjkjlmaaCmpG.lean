/-
  The comparison of rows, the draws counted.
-/
import Derived.Test.YteoepnadjkjlmaaOrder
import Derived.Test.YteoepnadjkjlmaaRowCmp
import Derived.Lib.QuietBelow
import Derived.Sort.Grow
namespace Go.Proofs.Yteoepnadjkjlmaa
open Go.RowKit Go.Sort
set_option linter.unusedVariables false

def Grows (w w' : World) : Prop := Below w.heap.size w w' ∧ w.drawn ≤ w'.drawn
theorem Grows.refl (w : World) : Grows w w := ⟨Below.refl _ _, Nat.le_refl _⟩
theorem Grows.next {a b c : World} (h : Grows a b) (k : Grows b c) : Grows a c := ⟨below_next h.1 k.1 rfl rfl, Nat.le_trans h.2 k.2⟩
theorem Grows.drew {a b : World} (h : Grows a b) : Grows a b.drew := ⟨h.1.drew, by have := h.2; simp; omega⟩
theorem Grows.out {w w' : World} (h : Grows w w') : ∃ q os, w' = grow (w.drewN q) os := by
  obtain ⟨⟨d, os⟩, rfl⟩ := regrown_of_below h.1
  have hd : w.drawn ≤ d := h.2
  refine ⟨d - w.drawn, os, ?_⟩
  have : redrawn w d = w.drewN (d - w.drawn) := by
    unfold redrawn World.drewN
    rw [show w.drawn + (d - w.drawn) = d by omega]
  rw [this]

set_option maxHeartbeats 1000000 in
theorem impl_compare_d (k n : Int) (t : ByteArray) (k' n' : Int) (t' : ByteArray) (w : World) :
    Calls Try.prog 59 #[.agg #[.int .i64 k, .int .i64 n, .string t], .agg #[.int .i64 k', .int .i64 n', .string t']] w fun e w' => e = .returned (.int .i64 (cmpV k n t k' n' t')) ∧ Grows w w' := by
  go_enter Try.func59, Try.ntmps59
  go_wp2_with fail
  go_region_held3 (fun w' => w'.cell? ⟨w.heap.size, 0, none⟩ = some (.int .i64 k) ∧ w'.cell? ⟨w.heap.size, 1, none⟩ = some (.int .i64 n) ∧ w'.cell? ⟨w.heap.size, 2, none⟩ = some (.string t) ∧
      w'.cell? ⟨w.heap.size + 1, 0, none⟩ = some (.int .i64 k') ∧ w'.cell? ⟨w.heap.size + 1, 1, none⟩ = some (.int .i64 n') ∧ w'.cell? ⟨w.heap.size + 1, 2, none⟩ = some (.string t'))
    (first | go_keep)
    (first
      | (go_at_call 70; refine (compare_int _ _ _).mono ?_; rintro e w' ⟨rfl, rfl⟩)
      | (go_at_call 71; refine (compare_text _ _ _).mono ?_; rintro e w' ⟨rfl, rfl⟩)
      | (go_at_call 69; refine (or_ints _ _ (cmpI k k') (cmpI n n') (cmpT t t') _ (by go_simp) (by go_simp) (by go_simp)).mono ?_; rintro e w' ⟨rfl, rfl⟩))
  go_wp2
  go_ret
  exact ⟨rfl, ((((Below.refl _ _).alloc (Nat.le_refl _) _).alloc (by simp) _).alloc (by simp; omega) _).drew, by simp⟩

set_option maxHeartbeats 800000 in
theorem impl_rows_md (A A' : Option Addr) (c c' : Nat) (vs us : List GV) (w : World) (hr : RowAt w w.heap.size A vs) (hr' : RowAt w w.heap.size A' us) (hl : vs.length ≤ 1048576) (hl' : us.length ≤ 1048576) :
    Calls Try.prog 38 #[.slice A vs.length c, .slice A' us.length c'] w fun e w' => e = .returned (.int .i64 (cmpR vs us)) ∧ Grows w w' := by
  go_enter Try.func38, Try.ntmps38
  go_wp2
  go_loopw [12] (fun i w' => ∃ k : Nat, k ≤ vs.length ∧ k ≤ us.length ∧ i = .int .i64 k ∧ Hid (cmpR (vs.drop k) (us.drop k) = cmpR vs us) ∧ Grows w w') (fun i _ => vs.length - (intOf i).toNat)
  case atStart => exact ⟨0, Nat.zero_le _, Nat.zero_le _, rfl, Lib.hid rfl, Grows.refl _⟩
  case round =>
    obtain ⟨k, hk, hk', rfl, hrec, hD⟩ := hrel
    have hB := hD.1
    by_cases hlt : k < vs.length ∧ k < us.length
    · obtain ⟨hlt, hlt'⟩ := hlt
      have hstep := Lib.hid (cmpR_step hlt hlt')
      obtain ⟨g, o, rfl, hg, c0, c1, c2⟩ := (hr.below hB (Nat.le_refl _)).at_ hlt
      obtain ⟨g', o', rfl, hg', d0, d1, d2⟩ := (hr'.below hB (Nat.le_refl _)).at_ hlt'
      have hi0 : (0 : Int) ≤ (k : Int) := Int.natCast_nonneg _
      have hi1 : (k : Int) < (vs.length : Int) := by omega
      have hi2 : (k : Int) < (us.length : Int) := by omega
      have hi3 : (k : Int) < min (vs.length : Int) (us.length : Int) := by omega
      go_wp2_with fail
      go_region_held3 (fun w' => w'.cell? ⟨g, o + k * 3, none⟩ = some (.int .i64 vs[k].k) ∧ w'.cell? ⟨g, o + k * 3 + 1, none⟩ = some (.int .i64 vs[k].n) ∧ w'.cell? ⟨g, o + k * 3 + 2, none⟩ = some (.string vs[k].t) ∧
          w'.cell? ⟨g', o' + k * 3, none⟩ = some (.int .i64 us[k].k) ∧ w'.cell? ⟨g', o' + k * 3 + 1, none⟩ = some (.int .i64 us[k].n) ∧ w'.cell? ⟨g', o' + k * 3 + 2, none⟩ = some (.string us[k].t) ∧ w.heap.size ≤ w'.heap.size ∧ Grows w w')
        (first | (go_split_ands; exact ⟨by assumption, by assumption, by assumption, by assumption, by assumption, by assumption, hB.size, hD.drew⟩)
               | (go_split_ands; refine ⟨?_, ?_, ?_, ?_, ?_, ?_, ?_, ?_⟩; all_goals first | (have := hbx.1.size; omega) | (rw [hcx _ _ (by omega)]; assumption) | exact Grows.next (by assumption) hbx))
        (first
          | (go_at_call 59; refine (impl_compare_d _ _ _ _ _ _ _).mono ?_; rintro e wx ⟨rfl, hbx⟩; obtain ⟨hcx, hfx⟩ := bcell hbx.1))
      have hD2 : Grows w wx := by go_split_ands; assumption
      clear hcx hfx hbx c0 c1 c2 d0 d1 d2
      by_cases hc : cmpG vs[k] us[k] = 0
      · have hcb : (cmpV vs[k].k vs[k].n vs[k].t us[k].k us[k].n us[k].t != 0) = false := by simpa [cmpG] using hc
        have H := Lib.hid (show cmpR (vs.drop (k + 1)) (us.drop (k + 1)) = cmpR vs us by have h1 := hstep.out; rw [if_pos hc] at h1; rw [← h1]; exact hrec.out)
        clear hc
        go_wp2_with fail
        go_roundw
        case rel => exact ⟨k + 1, by omega, by omega, by go_num, H, hD2⟩
        case measure => simp [intOf]; omega
      · have hcb : (cmpV vs[k].k vs[k].n vs[k].t us[k].k us[k].n us[k].t != 0) = true := by simpa [cmpG] using hc
        have H := Lib.hid (show cmpR vs us = cmpV vs[k].k vs[k].n vs[k].t us[k].k us[k].n us[k].t by have h1 := hstep.out; rw [if_neg hc] at h1; rw [← hrec.out, h1]; rfl)
        clear hc
        go_wp2_with fail
        go_ret
        exact ⟨ret_int (by rw [H.out]), hD2⟩
    · have H := Lib.hid (show cmpR vs us = cmpI vs.length us.length by rw [← hrec.out, cmpR_end hk hk' (by omega)])
      have hi3 : ¬ (k : Int) < min (vs.length : Int) (us.length : Int) := by omega
      have hi4 : decide ((k : Int) < min (vs.length : Int) (us.length : Int)) = false := by simpa using hi3
      clear hlt
      go_wp2_with (go_at_call 60; refine (compare_i _ _ _).mono ?_; rintro e w' ⟨rfl, rfl⟩)
      go_ret
      exact ⟨ret_int (by rw [H.out]), hD⟩

theorem impl_rows_d (A A' : Option Addr) (c c' : Nat) (vs us : List GV) (w : World) (hr : RowAt w w.heap.size A vs) (hr' : RowAt w w.heap.size A' us) (hl : vs.length ≤ 1048576) (hl' : us.length ≤ 1048576) :
    Calls Try.prog 33 #[.slice A vs.length c, .slice A' us.length c'] w fun e w' => e = .returned (.int .i64 (cmpR vs us)) ∧ Grows w w' := by
  go_enter Try.func33, Try.ntmps33
  go_wp2_with fail
  refine (impl_rows_md A A' c c' vs us _ hr hr' hl hl').mono ?_
  rintro e w1 ⟨rfl, hb1⟩
  go_wp2_with fail
  go_ret
  exact ⟨rfl, hb1⟩
end Go.Proofs.Yteoepnadjkjlmaa
