/-
  Contracts of laws.eqValue and laws.eqValueS at equal values.
-/
import Derived.Test.YteoepnadjkjlmaaMake
import Derived.Deep.RegionHeld3
namespace Go.Proofs.Yteoepnadjkjlmaa
open Go.RowKit
set_option linter.unusedVariables false

set_option maxHeartbeats 400000 in
theorem eq_value (v : GV) (w : World) :
    Calls Try.prog 48 #[.agg #[.int .i64 v.k, .int .i64 v.n, .string v.t], .agg #[.int .i64 v.k, .int .i64 v.n, .string v.t]] w fun e w' => e = .returned (.bool true) ∧ Below w.heap.size w w' := by
  go_enter Try.func48, Try.ntmps48
  go_wp2
  go_ret
  exact ⟨rfl, ((Below.refl _ _).alloc (Nat.le_refl _) _).alloc (by simp) _⟩

set_option maxHeartbeats 800000 in
theorem eq_values (A A' : Option Addr) (c c' : Nat) (vs : List GV) (w : World) (hr : RowAt w w.heap.size A vs) (hr' : RowAt w w.heap.size A' vs) (hl : vs.length ≤ 1048576) :
    Calls Try.prog 28 #[.slice A vs.length c, .slice A' vs.length c'] w fun e w' => e = .returned (.bool true) ∧ Below w.heap.size w w' := by
  go_enter Try.func28, Try.ntmps28
  go_wp2
  go_loopw [5] (fun i w' => ∃ k : Nat, k ≤ vs.length ∧ i = .int .i64 k ∧ Below w.heap.size w w') (fun i _ => vs.length - (intOf i).toNat)
  case atStart => exact ⟨0, Nat.zero_le _, rfl, Below.refl _ _⟩
  case round =>
    obtain ⟨k, hk, rfl, hB⟩ := hrel
    by_cases hlt : k < vs.length
    · obtain ⟨g, o, rfl, hg, c0, c1, c2⟩ := (hr.below hB (Nat.le_refl _)).at_ hlt
      obtain ⟨g', o', rfl, hg', d0, d1, d2⟩ := (hr'.below hB (Nat.le_refl _)).at_ hlt
      have hi0 : (0 : Int) ≤ (k : Int) := Int.natCast_nonneg _
      have hi1 : (k : Int) < (vs.length : Int) := by omega
      go_wp2_with fail
      go_region_held3 (fun w' => w'.cell? ⟨g, o + k * 3, none⟩ = some (.int .i64 vs[k].k) ∧ w'.cell? ⟨g, o + k * 3 + 1, none⟩ = some (.int .i64 vs[k].n) ∧ w'.cell? ⟨g, o + k * 3 + 2, none⟩ = some (.string vs[k].t) ∧
          w'.cell? ⟨g', o' + k * 3, none⟩ = some (.int .i64 vs[k].k) ∧ w'.cell? ⟨g', o' + k * 3 + 1, none⟩ = some (.int .i64 vs[k].n) ∧ w'.cell? ⟨g', o' + k * 3 + 2, none⟩ = some (.string vs[k].t) ∧ w.heap.size ≤ w'.heap.size ∧ Below w.heap.size w w')
        (first | (go_split_ands; exact ⟨by assumption, by assumption, by assumption, by assumption, by assumption, by assumption, hB.size, hB.drew⟩)
               | (go_split_ands; refine ⟨?_, ?_, ?_, ?_, ?_, ?_, ?_, ?_⟩; all_goals first | (have := hbx.size; omega) | (rw [hcx _ _ (by omega)]; assumption) | exact below_next (by assumption) hbx rfl rfl))
        (first
          | (go_at_call 48; refine (eq_value vs[k] _).mono ?_; rintro e wx ⟨rfl, hbx⟩; obtain ⟨hcx, hfx⟩ := bcell hbx))
      have hB2 : Below w.heap.size w wx := by go_split_ands; assumption
      clear hcx hfx hbx c0 c1 c2 d0 d1 d2
      go_wp2_with fail
      go_roundw
      case rel => exact ⟨k + 1, by omega, by go_num, hB2⟩
      case measure => simp [intOf]; omega
    · go_wp2_with fail
      go_ret
      exact ⟨rfl, hB⟩
end Go.Proofs.Yteoepnadjkjlmaa
