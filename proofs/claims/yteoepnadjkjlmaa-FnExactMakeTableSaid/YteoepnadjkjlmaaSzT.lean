/-
  laws.szValueSS.
-/
import Derived.Test.YteoepnadjkjlmaaTabM
namespace Go.Proofs.Yteoepnadjkjlmaa
open Go.RowKit
set_option linter.unusedVariables false

set_option maxHeartbeats 800000 in
theorem sz_tables (A : Option Addr) (c : Nat) (rows : List (List GV)) (left : Int) (w : World) (hr : TabAt w w.heap.size A rows) (hl : rows.length ≤ maxLen) (hv : ∀ r ∈ rows, r.length ≤ maxLen ∧ ∀ v ∈ r, v.t.size ≤ maxLen) (h0 : 0 ≤ left) (h1 : left ≤ 1048576) :
    Calls Try.prog 5 #[.slice A rows.length c, .int .i64 left] w fun e w' => e = .returned (.int .i64 (szC (costT rows) left)) ∧ Below w.heap.size w w' := by
  unfold maxLen at hl
  by_cases hlen : left - rows.length < 0
  · have H := Lib.hid (show szC (costT rows) left = -1 by unfold szC costT; rw [if_pos (by omega)])
    go_enter Try.func5, Try.ntmps5
    go_wp2
    go_ret
    exact ⟨ret_int (by rw [H.out]), Below.refl _ _⟩
  go_enter Try.func5, Try.ntmps5
  go_wp2
  go_loopw [1, 5] (fun l i w' => ∃ k : Nat, k ≤ rows.length ∧ i = .int .i64 k ∧ l = .int .i64 (left - rows.length - costS (rows.take k)) ∧ 0 ≤ left - rows.length - costS (rows.take k) ∧ Below w.heap.size w w') (fun _ i _ => rows.length - (intOf i).toNat)
  case atStart => exact ⟨0, Nat.zero_le _, rfl, by simp [costS], by simp [costS]; omega, Below.refl _ _⟩
  case round =>
    obtain ⟨k, hk, rfl, rfl, hp, hB⟩ := hrel
    by_cases hlt : k < rows.length
    · obtain ⟨g, o, A', c', rfl, hg, hcell, hrow⟩ := (hr.to_ hB).at_ hlt
      have hct := Lib.hid (costS_take rows k hlt)
      have htot := costS_take_le rows (k + 1)
      have hm := hv _ (List.getElem_mem hlt)
      go_wp2_with fail
      refine (sz_values A' c' rows[k] _ _ hrow hm.1 hm.2 hp (by omega)).mono ?_
      rintro e w2 ⟨rfl, hb2⟩
      have hB2 := below_next hB hb2 rfl rfl
      clear hcell
      by_cases hneg : left - rows.length - costS (rows.take k) - cost rows[k] < 0
      · have hs : szC (cost rows[k]) (left - rows.length - costS (rows.take k)) = -1 := by unfold szC; rw [if_pos hneg]
        have H := Lib.hid (show szC (costT rows) left = -1 by have := hct.out; unfold szC costT; rw [if_pos (by omega)])
        rw [hs]
        clear hs
        go_wp2_with fail
        go_ret
        exact ⟨ret_int (by rw [H.out]), hB2⟩
      · have hs : szC (cost rows[k]) (left - rows.length - costS (rows.take k)) = left - rows.length - costS (rows.take (k + 1)) := by
          have := hct.out
          unfold szC; rw [if_neg hneg]; omega
        have hp2 : 0 ≤ left - rows.length - costS (rows.take (k + 1)) := by have := hct.out; omega
        rw [hs]
        clear hs
        go_wp2_with fail
        go_roundw
        case rel => exact ⟨k + 1, by omega, by go_num, rfl, hp2, hB2⟩
        case measure => simp [intOf]; omega
    · have H := Lib.hid (show szC (costT rows) left = left - rows.length - costS (rows.take k) by
        rw [List.take_of_length_le (by omega)] at hp ⊢
        unfold szC costT; rw [if_neg (by omega)]; omega)
      go_wp2_with fail
      go_ret
      exact ⟨ret_int (by rw [H.out]), hB⟩

end Go.Proofs.Yteoepnadjkjlmaa
