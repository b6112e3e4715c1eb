/-
  laws.toValue and laws.szValue.
-/
import Derived.Test.YteoepnadjkjlmaaRet
import Derived.WalkKit
import Derived.ProofKit
import Derived.Below
import Derived.Lib.Hide
namespace Go.Proofs.Yteoepnadjkjlmaa
open Go.RowKit
set_option linter.unusedVariables false

set_option maxHeartbeats 400000 in
theorem to_value (k n : Int) (t : ByteArray) (w : World) :
    Calls Try.prog 41 #[.agg #[.int .i64 k, .int .i64 n, .string t]] w fun e w' => e = .returned (.agg #[.int .i64 k, .int .i64 n, .string t]) ∧ Below w.heap.size w w' := by
  go_enter Try.func41, Try.ntmps41
  go_wp2
  refine bodyPost_ret (v := .agg #[.int .i64 k, .int .i64 n, .string t]) (by simp [results, Try.results41, go_sem]) rfl ⟨rfl, ?_⟩
  exact (((Below.refl _ _).alloc (Nat.le_refl _) _).alloc (by simp) _).alloc (by simp; omega) _

/-- What laws.szValue leaves of a number. -/
def szV (t : ByteArray) (left : Int) : Int := if left - t.size < 0 then -1 else left - t.size
theorem szV_le (t : ByteArray) (left : Int) : szV t left ≤ left ∨ szV t left = -1 := by unfold szV; split <;> omega
set_option maxHeartbeats 400000 in
theorem sz_value (k n : Int) (t : ByteArray) (left : Int) (w : World) (ht : t.size ≤ maxLen) (h0 : 0 ≤ left) (h1 : left ≤ 1048576) :
    Calls Try.prog 39 #[.agg #[.int .i64 k, .int .i64 n, .string t], .int .i64 left] w fun e w' => e = .returned (.int .i64 (szV t left)) ∧ Below w.heap.size w w' := by
  unfold maxLen at ht
  go_enter Try.func39, Try.ntmps39
  go_wp2
  all_goals go_ret
  all_goals refine ⟨ret_int ?_, (Below.refl _ _).alloc (Nat.le_refl _) _⟩
  all_goals unfold szV
  · rw [if_pos (by omega)]
  · rw [if_neg (by omega)]
end Go.Proofs.Yteoepnadjkjlmaa
