/-
  laws.heldValueSS over tables whose rows are blocks of their own. laws.heldValueSS on a table that an answer owns. laws.eqValueSS.
-/
import Derived.Test.YteoepnadjkjlmaaGreatTyZ
import Derived.Test.YteoepnadjkjlmaaGreatTGAZ
import Derived.Test.YteoepnadjkjlmaaGreatDigitsZ
namespace Go.Proofs.YteoepnadjkjlmaaGreat
open Go.RowKit Go.Sort
set_option linter.unusedVariables false

set_option maxRecDepth 100000 in
set_option maxHeartbeats 1600000 in
theorem held_table (A : Option Addr) (cap k : Nat) (ps : List PR) (w : World) (h : TabG w A (markP k ps)) (hk : 1 ≤ k) (hk2 : k ≤ 1000) (hn : ps.length ≤ 1048576) (hs : sumP ps ≤ 1048576) :
    Calls Tryz.prog 16 #[.slice A ps.length cap, .int .i64 k] w fun e w' => e = .returned (.int .i64 ((k + 3 * sumP ps : Nat) : Int)) ∧ Below w.heap.size w w' := by
  have HT := Lib.hid h.tab
  clear h
  go_enter Tryz.func16, Tryz.ntmps16
  go_wp2_with fail
  go_loopw [1, 5] (fun kk i w' => ∃ j K : Nat, j ≤ ps.length ∧ Hid (K = k + 3 * sumP (ps.take j)) ∧ K ≤ 4000000 ∧ 1 ≤ K ∧ kk = .int .i64 K ∧ i = .int .i64 j ∧ Below w.heap.size w w') (fun _ i _ => ps.length - (intOf i).toNat)
  case atStart => exact ⟨0, k, Nat.zero_le _, Lib.hid (by simp [sumP]), by omega, hk, rfl, rfl, Below.refl _ _⟩
  case round =>
    obtain ⟨j, K, hj, hK, hK1, hK2, rfl, rfl, hB⟩ := hrel
    by_cases hlt : j < ps.length
    · have hst := sumP_take ps j hlt
      have hle := sumP_take_le ps (j + 1)
      have hKo := hK.out
      obtain ⟨g, o, A', c', rfl, hg, hcell, hrow⟩ := (HT.out.to_ hB).at_ (i := j) (by simp [markP_len]; exact hlt)
      have e1 : ((markP k ps).map (·.2))[j]'(by simp [markP_len]; exact hlt) = marked K ps[j].2.length := by
        rw [List.getElem_map, markP_at k ps j hlt, hKo]
      rw [e1] at hcell hrow
      rw [marked_len] at hcell
      have hcon := held_row A' c' ps[j].2.length K wr hrow hK2 (by omega) (by omega)
      have HN := Lib.hid (show K + 3 * ps[j].2.length = k + 3 * sumP (ps.take (j + 1)) by omega)
      have hn1 : K + 3 * ps[j].2.length ≤ 4000000 := by omega
      have hi1 : (j : Int) < (ps.length : Int) := by omega
      clear hst hle hKo e1 hrow
      go_wp2_with fail
      refine hcon.mono ?_
      rintro e w2 ⟨rfl, hb2⟩
      have hB2 := below_next hB hb2 rfl rfl
      have hnn : ¬ (((K + 3 * ps[j].2.length : Nat) : Int) < 0) := by omega
      have hnd : decide (((K + 3 * ps[j].2.length : Nat) : Int) < 0) = false := by simpa using hnn
      clear hcon hcell
      go_wp2_with fail
      go_roundw
      case rel => exact ⟨j + 1, K + 3 * ps[j].2.length, by omega, HN, hn1, by omega, rfl, by go_num, hB2⟩
      case measure => simp [intOf]; omega
    · have hi1 : ¬ (j : Int) < (ps.length : Int) := by omega
      have hKo := hK.out
      rw [List.take_of_length_le (by omega)] at hKo
      have HK := Lib.hid hKo
      clear hKo
      go_wp2_with fail
      go_ret
      exact ⟨ret_int (by have := HK.out; omega), hB⟩
end Go.Proofs.YteoepnadjkjlmaaGreat
namespace Go.Proofs.YteoepnadjkjlmaaGreat
open Go.RowKit Go.Sort
set_option linter.unusedVariables false

theorem held_tab {B : Nat} (A : Option Addr) (cap k : Nat) (ps : List PR) (w : World) (h : TGA B w A (markP k ps)) (hk : 1 ≤ k) (hk2 : k ≤ 1000) (hn : ps.length ≤ 1048576) (hs : sumP ps ≤ 1048576) :
    Calls Tryz.prog 16 #[.slice A ps.length cap, .int .i64 k] w fun e w' => e = .returned (.int .i64 ((k + 3 * sumP ps : Nat) : Int)) ∧ Below w.heap.size w w' := held_table A cap k ps w h.tabG hk hk2 hn hs
end Go.Proofs.YteoepnadjkjlmaaGreat
namespace Go.Proofs.YteoepnadjkjlmaaGreat
open Go.RowKit
set_option linter.unusedVariables false

set_option maxHeartbeats 800000 in
theorem eq_tables (A A' : Option Addr) (c c' : Nat) (rows : List (List GV)) (w : World) (hr : TabAt w w.heap.size A rows) (hr' : TabAt w w.heap.size A' rows) (hl : rows.length ≤ 1048576) (hlr : ∀ r ∈ rows, r.length ≤ 1048576) :
    Calls Tryz.prog 10 #[.slice A rows.length c, .slice A' rows.length c'] w fun e w' => e = .returned (.bool true) ∧ Below w.heap.size w w' := by
  go_enter Tryz.func10, Tryz.ntmps10
  go_wp2
  go_loopw [5] (fun i w' => ∃ k : Nat, k ≤ rows.length ∧ i = .int .i64 k ∧ Below w.heap.size w w') (fun i _ => rows.length - (intOf i).toNat)
  case atStart => exact ⟨0, Nat.zero_le _, rfl, Below.refl _ _⟩
  case round =>
    obtain ⟨k, hk, rfl, hB⟩ := hrel
    by_cases hlt : k < rows.length
    · obtain ⟨g, o, A1, c1, rfl, hg, hc1, hr1⟩ := (hr.to_ hB).at_ hlt
      obtain ⟨g', o', A2, c2, rfl, hg', hc2, hr2⟩ := (hr'.to_ hB).at_ hlt
      have hi0 : (0 : Int) ≤ (k : Int) := Int.natCast_nonneg _
      have hi1 : (k : Int) < (rows.length : Int) := by omega
      have hm := hlr _ (List.getElem_mem hlt)
      go_wp2_with fail
      go_region_held3 (fun w' => w'.cell? ⟨g, o + k, none⟩ = some (.slice A1 rows[k].length c1) ∧ w'.cell? ⟨g', o' + k, none⟩ = some (.slice A2 rows[k].length c2) ∧ RowAt w' w'.heap.size A1 rows[k] ∧ RowAt w' w'.heap.size A2 rows[k] ∧ wr.heap.size ≤ w'.heap.size ∧ Below w.heap.size w w')
        (first | (go_split_ands; exact ⟨by assumption, by assumption, by assumption, by assumption, Nat.le_refl _, hB.drew⟩)
               | (go_split_ands; refine ⟨?_, ?_, ?_, ?_, ?_, ?_⟩; all_goals first | (have := hbx.size; omega) | (rw [hcx _ _ (by omega)]; assumption) | exact RowAt.to_ (by assumption) hbx | exact below_next (by assumption) hbx rfl rfl))
        (first
          | (go_at_call 33; refine (eq_values A1 A2 c1 c2 rows[k] _ (by go_split_ands; assumption) (by go_split_ands; assumption) hm).mono ?_; rintro e wx ⟨rfl, hbx⟩; obtain ⟨hcx, hfx⟩ := bcell hbx))
      have hB2 : Below w.heap.size w wx := by go_split_ands; assumption
      clear hcx hfx hbx hc1 hc2
      go_wp2_with fail
      go_roundw
      case rel => exact ⟨k + 1, by omega, by go_num, hB2⟩
      case measure => simp [intOf]; omega
    · go_wp2_with fail
      go_ret
      exact ⟨rfl, hB⟩
end Go.Proofs.YteoepnadjkjlmaaGreat
