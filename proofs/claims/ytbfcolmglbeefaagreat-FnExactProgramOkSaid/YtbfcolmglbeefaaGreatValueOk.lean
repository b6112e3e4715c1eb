/-
  Contracts of spec.ValueOk and impl.ValueOk: both answer valueOkB; of laws.szValue and laws.toValue.
-/
import Derived.Test.YtbfcolmglbeefaaGreatText
namespace Go.Proofs.YtbfcolmglbeefaaGreat
open Go.RowKit
set_option linter.unusedVariables false

def valueOkB (k n : Int) (t : ByteArray) : Bool :=
  if k = 1 then decide (-1000000000 ≤ n) && decide (n ≤ 1000000000) && t.toList.isEmpty
  else if k = 2 then decide (n = 0) && textOkB t
  else if k = 3 then decide (1 ≤ n) && decide (n ≤ 1000000000) && t.toList.isEmpty
  else false

set_option maxHeartbeats 400000 in
theorem spec_value (k n : Int) (t : ByteArray) (w : World) (ht : t.size ≤ maxLen) :
    Calls Tryz.prog 83 #[.agg #[.int .i64 k, .int .i64 n, .string t]] w fun e w' => e = .returned (.bool (valueOkB k n t)) ∧ Below w.heap.size w w' := by
  go_enter Tryz.func83, Tryz.ntmps83
  go_wp2_with (go_at_call 93; refine (spec_text _ _ ht).mono ?_; rintro e w' ⟨rfl, rfl⟩)
  all_goals go_ret
  all_goals refine ⟨ret_bool ?_, (Below.refl _ _).alloc (Nat.le_refl _) _⟩
  all_goals simp_all [valueOkB]
  all_goals omega

set_option maxHeartbeats 400000 in
theorem impl_value (k n : Int) (t : ByteArray) (w : World) (ht : t.size ≤ maxLen) :
    Calls Tryz.prog 95 #[.agg #[.int .i64 k, .int .i64 n, .string t]] w fun e w' => e = .returned (.bool (valueOkB k n t)) ∧ Below w.heap.size w w' := by
  go_enter Tryz.func95, Tryz.ntmps95
  go_wp2_with (go_at_call 99; refine (impl_text _ _ ht).mono ?_; rintro e w' ⟨rfl, rfl⟩)
  all_goals go_ret
  all_goals refine ⟨ret_bool ?_, (Below.refl _ _).alloc (Nat.le_refl _) _⟩
  all_goals simp_all [valueOkB]
  all_goals omega

set_option maxHeartbeats 400000 in
theorem to_value (k n : Int) (t : ByteArray) (w : World) :
    Calls Tryz.prog 98 #[.agg #[.int .i64 k, .int .i64 n, .string t]] w fun e w' => e = .returned (.agg #[.int .i64 k, .int .i64 n, .string t]) ∧ Below w.heap.size w w' := by
  go_enter Tryz.func98, Tryz.ntmps98
  go_wp2
  refine bodyPost_ret (v := .agg #[.int .i64 k, .int .i64 n, .string t]) (by simp [results, Tryz.results98, go_sem]) rfl ⟨rfl, ?_⟩
  exact (((Below.refl _ _).alloc (Nat.le_refl _) _).alloc (by simp) _).alloc (by simp; omega) _

/-- What laws.szValue leaves of a number. -/
def szV (t : ByteArray) (left : Int) : Int := if left - t.size < 0 then -1 else left - t.size
theorem szV_le (t : ByteArray) (left : Int) : szV t left ≤ left ∨ szV t left = -1 := by unfold szV; split <;> omega
set_option maxHeartbeats 400000 in
theorem sz_value (k n : Int) (t : ByteArray) (left : Int) (w : World) (ht : t.size ≤ maxLen) (h0 : 0 ≤ left) (h1 : left ≤ 1048576) :
    Calls Tryz.prog 97 #[.agg #[.int .i64 k, .int .i64 n, .string t], .int .i64 left] w fun e w' => e = .returned (.int .i64 (szV t left)) ∧ Below w.heap.size w w' := by
  unfold maxLen at ht
  go_enter Tryz.func97, Tryz.ntmps97
  go_wp2
  all_goals go_ret
  all_goals refine ⟨ret_int ?_, (Below.refl _ _).alloc (Nat.le_refl _) _⟩
  all_goals unfold szV
  · rw [if_pos (by omega)]
  · rw [if_neg (by omega)]
end Go.Proofs.YtbfcolmglbeefaaGreat
