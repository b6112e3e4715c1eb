/-
  spec.ValueOk.
-/
import Derived.Test.YteoepnadjkjlmaaTextS
namespace Go.Proofs.Yteoepnadjkjlmaa
open Go.RowKit
set_option linter.unusedVariables false

def valueOkB (k n : Int) (t : ByteArray) : Bool :=
  if k = 1 then decide (-1000000000 ≤ n) && decide (n ≤ 1000000000) && t.toList.isEmpty
  else if k = 2 then decide (n = 0) && textOkB t
  else if k = 3 then decide (1 ≤ n) && decide (n ≤ 1000000000) && t.toList.isEmpty
  else false

set_option maxHeartbeats 400000 in
theorem spec_value (k n : Int) (t : ByteArray) (w : World) (ht : t.size ≤ maxLen) :
    Calls Try.prog 40 #[.agg #[.int .i64 k, .int .i64 n, .string t]] w fun e w' => e = .returned (.bool (valueOkB k n t)) ∧ Below w.heap.size w w' := by
  go_enter Try.func40, Try.ntmps40
  go_wp2_with (go_at_call 61; refine (spec_text _ _ ht).mono ?_; rintro e w' ⟨rfl, rfl⟩)
  all_goals go_ret
  all_goals refine ⟨ret_bool ?_, (Below.refl _ _).alloc (Nat.le_refl _) _⟩
  all_goals simp_all [valueOkB]
  all_goals omega
end Go.Proofs.Yteoepnadjkjlmaa
