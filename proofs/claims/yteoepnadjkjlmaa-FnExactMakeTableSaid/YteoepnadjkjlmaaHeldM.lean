/-
  laws.heldValueSS over tables whose rows are blocks of their own.
-/
import Derived.Test.YteoepnadjkjlmaaMarkT
namespace Go.Proofs.Yteoepnadjkjlmaa
open Go.RowKit Go.Sort
set_option linter.unusedVariables false

set_option maxRecDepth 100000 in
set_option maxHeartbeats 1600000 in
theorem held_table (A : Option Addr) (cap k : Nat) (ps : List PR) (w : World) (h : TabG w A (markP k ps)) (hk : 1 ≤ k) (hk2 : k ≤ 1000) (hn : ps.length ≤ 1048576) (hs : sumP ps ≤ 1048576) :
    Calls Try.prog 11 #[.slice A ps.length cap, .int .i64 k] w fun e w' => e = .returned (.int .i64 ((k + 3 * sumP ps : Nat) : Int)) ∧ Below w.heap.size w w' := by
  have HT := Lib.hid h.tab
  clear h
  go_enter Try.func11, Try.ntmps11
  go_wp2_with fail
  go_loopw [1, 5] (fun kk i w' => ∃ j K : Nat, j ≤ ps.length ∧ Hid (K = k + 3 * sumP (ps.take j)) ∧ K ≤ 4000000 ∧ 1 ≤ K ∧ kk = .int .i64 K ∧ i = .int .i64 j ∧ Below w.heap.size w w') (fun _ i _ => ps.length - (intOf i).toNat)
  case atStart => exact ⟨0, k, Nat.zero_le _, Lib.hid (by simp [sumP]), by omega, hk, rfl, rfl, Below.refl _ _⟩
  case round =>
    obtain ⟨j, K, hj, hK, hK1, hK2, rfl, rfl, hB⟩ := hrel
    by_cases hlt : j < ps.length
    · have hst := sumP_take ps j hlt
      have hle := sumP_take_le ps (j + 1)
      have hKo := hK.out
      obtain ⟨g, o, A', c', rfl, hg, hcell, hrow⟩ := (HT.out.to_ hB).at_ (i := j) (by simp [markP_len]; exact hlt)
      have e1 : ((markP k ps).map (·.2))[j]'(by simp [markP_len]; exact hlt) = marked K ps[j].2.length := by
        rw [List.getElem_map, markP_at k ps j hlt, hKo]
      rw [e1] at hcell hrow
      rw [marked_len] at hcell
      have hcon := held_row A' c' ps[j].2.length K wr hrow hK2 (by omega) (by omega)
      have HN := Lib.hid (show K + 3 * ps[j].2.length = k + 3 * sumP (ps.take (j + 1)) by omega)
      have hn1 : K + 3 * ps[j].2.length ≤ 4000000 := by omega
      have hi1 : (j : Int) < (ps.length : Int) := by omega
      clear hst hle hKo e1 hrow
      go_wp2_with fail
      refine hcon.mono ?_
      rintro e w2 ⟨rfl, hb2⟩
      have hB2 := below_next hB hb2 rfl rfl
      have hnn : ¬ (((K + 3 * ps[j].2.length : Nat) : Int) < 0) := by omega
      have hnd : decide (((K + 3 * ps[j].2.length : Nat) : Int) < 0) = false := by simpa using hnn
      clear hcon hcell
      go_wp2_with fail
      go_roundw
      case rel => exact ⟨j + 1, K + 3 * ps[j].2.length, by omega, HN, hn1, by omega, rfl, by go_num, hB2⟩
      case measure => simp [intOf]; omega
    · have hi1 : ¬ (j : Int) < (ps.length : Int) := by omega
      have hKo := hK.out
      rw [List.take_of_length_le (by omega)] at hKo
      have HK := Lib.hid hKo
      clear hKo
      go_wp2_with fail
      go_ret
      exact ⟨ret_int (by have := HK.out; omega), hB⟩
end Go.Proofs.Yteoepnadjkjlmaa
