/-
  Contracts of spec.ValueOk and impl.ValueOk: both answer valueOkB; of laws.szValue and laws.toValue.
-/
import Derived.Test.YtiphediekhkmbaaText
import Derived.Test.YtiphediekhkmbaaValueOkS
import Derived.Test.YtiphediekhkmbaaValueL
namespace Go.Proofs.Ytiphediekhkmbaa
open Go.RowKit
set_option linter.unusedVariables false

set_option maxHeartbeats 400000 in
theorem impl_value (k n : Int) (t : ByteArray) (w : World) (ht : t.size ≤ maxLen) :
    Calls Try.prog 64 #[.agg #[.int .i64 k, .int .i64 n, .string t]] w fun e w' => e = .returned (.bool (valueOkB k n t)) ∧ Below w.heap.size w w' := by
  go_enter Try.func64, Try.ntmps64
  go_wp2_with (go_at_call 82; refine (impl_text _ _ ht).mono ?_; rintro e w' ⟨rfl, rfl⟩)
  all_goals go_ret
  all_goals refine ⟨ret_bool ?_, (Below.refl _ _).alloc (Nat.le_refl _) _⟩
  all_goals simp_all [valueOkB]
  all_goals omega
end Go.Proofs.Ytiphediekhkmbaa
