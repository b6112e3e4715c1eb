/-
  laws.toValue and laws.szValue. How the laws measure a row.
-/
import Derived.Test.YteoepnadjkjlmaaRetZ
import Derived.WalkKit
import Derived.ProofKit
import Derived.Below
import Derived.Lib.Hide
import Derived.Test.YteoepnadjkjlmaaMemB
namespace Go.Proofs.Yteoepnadjkjlmaa
open Go.RowKit
set_option linter.unusedVariables false

set_option maxHeartbeats 400000 in
theorem to_value (k n : Int) (t : ByteArray) (w : World) :
    Calls Try.prog 41 #[.agg #[.int .i64 k, .int .i64 n, .string t]] w fun e w' => e = .returned (.agg #[.int .i64 k, .int .i64 n, .string t]) ∧ Below w.heap.size w w' := by
  go_enter Try.func41, Try.ntmps41
  go_wp2
  refine bodyPost_ret (v := .agg #[.int .i64 k, .int .i64 n, .string t]) (by simp [results, Try.results41, go_sem]) rfl ⟨rfl, ?_⟩
  exact (((Below.refl _ _).alloc (Nat.le_refl _) _).alloc (by simp) _).alloc (by simp; omega) _

/-- What laws.szValue leaves of a number. -/
def szV (t : ByteArray) (left : Int) : Int := if left - t.size < 0 then -1 else left - t.size
theorem szV_le (t : ByteArray) (left : Int) : szV t left ≤ left ∨ szV t left = -1 := by unfold szV; split <;> omega
set_option maxHeartbeats 400000 in
theorem sz_value (k n : Int) (t : ByteArray) (left : Int) (w : World) (ht : t.size ≤ maxLen) (h0 : 0 ≤ left) (h1 : left ≤ 1048576) :
    Calls Try.prog 39 #[.agg #[.int .i64 k, .int .i64 n, .string t], .int .i64 left] w fun e w' => e = .returned (.int .i64 (szV t left)) ∧ Below w.heap.size w w' := by
  unfold maxLen at ht
  go_enter Try.func39, Try.ntmps39
  go_wp2
  all_goals go_ret
  all_goals refine ⟨ret_int ?_, (Below.refl _ _).alloc (Nat.le_refl _) _⟩
  all_goals unfold szV
  · rw [if_pos (by omega)]
  · rw [if_neg (by omega)]
end Go.Proofs.Yteoepnadjkjlmaa
namespace Go.Proofs.Yteoepnadjkjlmaa
open Go.RowKit
set_option linter.unusedVariables false

set_option maxHeartbeats 800000 in
theorem sz_values (A : Option Addr) (c : Nat) (vs : List GV) (left : Int) (w : World) (hr : RowAt w w.heap.size A vs) (hl : vs.length ≤ maxLen) (hv : ∀ v ∈ vs, v.t.size ≤ maxLen) (h0 : 0 ≤ left) (h1 : left ≤ 1048576) :
    Calls Try.prog 20 #[.slice A vs.length c, .int .i64 left] w fun e w' => e = .returned (.int .i64 (szC (cost vs) left)) ∧ Below w.heap.size w w' := by
  unfold maxLen at hl
  by_cases hlen : left - vs.length < 0
  · have H := Lib.hid (show szC (cost vs) left = -1 by unfold szC cost; rw [if_pos (by omega)])
    go_enter Try.func20, Try.ntmps20
    go_wp2
    go_ret
    exact ⟨ret_int (by rw [H.out]), Below.refl _ _⟩
  go_enter Try.func20, Try.ntmps20
  go_wp2
  go_loopw [1, 5] (fun l i w' => ∃ k : Nat, k ≤ vs.length ∧ i = .int .i64 k ∧ l = .int .i64 (left - vs.length - costV (vs.take k)) ∧ 0 ≤ left - vs.length - costV (vs.take k) ∧ Below w.heap.size w w') (fun _ i _ => vs.length - (intOf i).toNat)
  case atStart => exact ⟨0, Nat.zero_le _, rfl, by simp [costV], by simp [costV]; omega, Below.refl _ _⟩
  case round =>
    obtain ⟨k, hk, rfl, rfl, hp, hB⟩ := hrel
    by_cases hlt : k < vs.length
    · obtain ⟨g, o, rfl, hg, c0, c1, c2⟩ := (hr.below hB (Nat.le_refl _)).at_ hlt
      have hct := Lib.hid (costV_take vs k hlt)
      have htot := costV_take_le vs (k + 1)
      have hm : vs[k].t.size ≤ maxLen := hv _ (List.getElem_mem hlt)
      go_wp2_with fail
      refine (sz_value _ _ _ _ _ hm hp (by omega)).mono ?_
      rintro e w2 ⟨rfl, hb2⟩
      have hB2 := below_next hB hb2 rfl rfl
      clear c0 c1 c2
      by_cases hneg : left - vs.length - costV (vs.take k) - vs[k].t.size < 0
      · have hs : szV vs[k].t (left - vs.length - costV (vs.take k)) = -1 := by unfold szV; rw [if_pos hneg]
        have H := Lib.hid (show szC (cost vs) left = -1 by have := hct.out; unfold szC cost; rw [if_pos (by omega)])
        rw [hs]
        clear hs
        go_wp2_with fail
        go_ret
        exact ⟨ret_int (by rw [H.out]), hB2⟩
      · have hs : szV vs[k].t (left - vs.length - costV (vs.take k)) = left - vs.length - costV (vs.take (k + 1)) := by
          have := hct.out
          unfold szV; rw [if_neg hneg]; omega
        have hp2 : 0 ≤ left - vs.length - costV (vs.take (k + 1)) := by have := hct.out; omega
        rw [hs]
        clear hs
        go_wp2_with fail
        go_roundw
        case rel => exact ⟨k + 1, by omega, by go_num, rfl, hp2, hB2⟩
        case measure => simp [intOf]; omega
    · have H := Lib.hid (show szC (cost vs) left = left - vs.length - costV (vs.take k) by
        rw [List.take_of_length_le (by omega)] at hp ⊢
        unfold szC cost; rw [if_neg (by omega)]; omega)
      go_wp2_with fail
      go_ret
      exact ⟨ret_int (by rw [H.out]), hB⟩
end Go.Proofs.Yteoepnadjkjlmaa
