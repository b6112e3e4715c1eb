/-
  laws.eqValueSS. Tables in memory: all together.
-/
import Derived.Test.YteoepnadjkjlmaaTabMZ
import Derived.Test.YteoepnadjkjlmaaSzTZ
namespace Go.Proofs.Yteoepnadjkjlmaa
open Go.RowKit
set_option linter.unusedVariables false

set_option maxHeartbeats 800000 in
theorem eq_tables (A A' : Option Addr) (c c' : Nat) (rows : List (List GV)) (w : World) (hr : TabAt w w.heap.size A rows) (hr' : TabAt w w.heap.size A' rows) (hl : rows.length ≤ 1048576) (hlr : ∀ r ∈ rows, r.length ≤ 1048576) :
    Calls Try.prog 9 #[.slice A rows.length c, .slice A' rows.length c'] w fun e w' => e = .returned (.bool true) ∧ Below w.heap.size w w' := by
  go_enter Try.func9, Try.ntmps9
  go_wp2
  go_loopw [5] (fun i w' => ∃ k : Nat, k ≤ rows.length ∧ i = .int .i64 k ∧ Below w.heap.size w w') (fun i _ => rows.length - (intOf i).toNat)
  case atStart => exact ⟨0, Nat.zero_le _, rfl, Below.refl _ _⟩
  case round =>
    obtain ⟨k, hk, rfl, hB⟩ := hrel
    by_cases hlt : k < rows.length
    · obtain ⟨g, o, A1, c1, rfl, hg, hc1, hr1⟩ := (hr.to_ hB).at_ hlt
      obtain ⟨g', o', A2, c2, rfl, hg', hc2, hr2⟩ := (hr'.to_ hB).at_ hlt
      have hi0 : (0 : Int) ≤ (k : Int) := Int.natCast_nonneg _
      have hi1 : (k : Int) < (rows.length : Int) := by omega
      have hm := hlr _ (List.getElem_mem hlt)
      go_wp2_with fail
      go_region_held3 (fun w' => w'.cell? ⟨g, o + k, none⟩ = some (.slice A1 rows[k].length c1) ∧ w'.cell? ⟨g', o' + k, none⟩ = some (.slice A2 rows[k].length c2) ∧ RowAt w' w'.heap.size A1 rows[k] ∧ RowAt w' w'.heap.size A2 rows[k] ∧ wr.heap.size ≤ w'.heap.size ∧ Below w.heap.size w w')
        (first | (go_split_ands; exact ⟨by assumption, by assumption, by assumption, by assumption, Nat.le_refl _, hB.drew⟩)
               | (go_split_ands; refine ⟨?_, ?_, ?_, ?_, ?_, ?_⟩; all_goals first | (have := hbx.size; omega) | (rw [hcx _ _ (by omega)]; assumption) | exact RowAt.to_ (by assumption) hbx | exact below_next (by assumption) hbx rfl rfl))
        (first
          | (go_at_call 28; refine (eq_values A1 A2 c1 c2 rows[k] _ (by go_split_ands; assumption) (by go_split_ands; assumption) hm).mono ?_; rintro e wx ⟨rfl, hbx⟩; obtain ⟨hcx, hfx⟩ := bcell hbx))
      have hB2 : Below w.heap.size w wx := by go_split_ands; assumption
      clear hcx hfx hbx hc1 hc2
      go_wp2_with fail
      go_roundw
      case rel => exact ⟨k + 1, by omega, by go_num, hB2⟩
      case measure => simp [intOf]; omega
    · go_wp2_with fail
      go_ret
      exact ⟨rfl, hB⟩
end Go.Proofs.Yteoepnadjkjlmaa
namespace Go.Proofs.Yteoepnadjkjlmaa
open Go.RowKit
set_option linter.unusedVariables false

end Go.Proofs.Yteoepnadjkjlmaa
