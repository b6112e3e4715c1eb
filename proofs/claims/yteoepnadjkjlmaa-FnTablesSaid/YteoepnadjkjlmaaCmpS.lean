/-
  Contracts of spec.l1Sign and spec.CompareValues.
-/
import Derived.Test.YteoepnadjkjlmaaRowCmpMZ
namespace Go.Proofs.Yteoepnadjkjlmaa
open Go.RowKit
set_option linter.unusedVariables false

theorem sign_any (b : Bool) (w : World) :
    Calls Try.prog 56 #[.bool b] w fun e w' => e = .returned (.int .i64 (signB b)) ∧ w = w' := by
  cases b <;> (go_enter Try.func56, Try.ntmps56; go_wp2; go_ret; exact ⟨rfl, rfl⟩)

set_option maxHeartbeats 400000 in
theorem spec_compare (k n : Int) (t : ByteArray) (k' n' : Int) (t' : ByteArray) (w : World) :
    Calls Try.prog 55 #[.agg #[.int .i64 k, .int .i64 n, .string t], .agg #[.int .i64 k', .int .i64 n', .string t']] w fun e w' => e = .returned (.int .i64 (cmpV k n t k' n' t')) ∧ Below w.heap.size w w' := by
  by_cases hk : k = k'
  · subst hk
    by_cases hn : n = n'
    · subst hn
      by_cases ht : t = t'
      · subst ht
        have H := Lib.hid (cmpV_self k n t)
        go_enter Try.func55, Try.ntmps55
        go_wp2_with (go_at_call 56; refine (sign_any _ _).mono ?_; rintro e w' ⟨rfl, rfl⟩)
        go_ret
        exact ⟨ret_int (by rw [H.out]), ((Below.refl _ _).alloc (Nat.le_refl _) _).alloc (by simp) _⟩
      · have H := Lib.hid (cmpV_t k n t t' ht)
        have hb : (t.toList == t'.toList) = false := by
          rw [beq_eq_false_iff_ne]
          intro h
          rw [Lib.toList_data, Lib.toList_data] at h
          exact ht (ByteArray.ext (Array.toList_inj.1 h))
        clear ht
        go_enter Try.func55, Try.ntmps55
        go_wp2_with (go_at_call 56; refine (sign_any _ _).mono ?_; rintro e w' ⟨rfl, rfl⟩)
        go_ret
        exact ⟨ret_int (by rw [H.out]), ((Below.refl _ _).alloc (Nat.le_refl _) _).alloc (by simp) _⟩
    · have H := Lib.hid (cmpV_n k n n' t t' hn)
      have hb : (n != n') = true := by simp [hn]
      clear hn
      go_enter Try.func55, Try.ntmps55
      go_wp2_with (go_at_call 56; refine (sign_any _ _).mono ?_; rintro e w' ⟨rfl, rfl⟩)
      go_ret
      exact ⟨ret_int (by rw [H.out]), ((Below.refl _ _).alloc (Nat.le_refl _) _).alloc (by simp) _⟩
  · have H := Lib.hid (cmpV_k k n k' n' t t' hk)
    have hb : (k != k') = true := by simp [hk]
    clear hk
    go_enter Try.func55, Try.ntmps55
    go_wp2_with (go_at_call 56; refine (sign_any _ _).mono ?_; rintro e w' ⟨rfl, rfl⟩)
    go_ret
    exact ⟨ret_int (by rw [H.out]), ((Below.refl _ _).alloc (Nat.le_refl _) _).alloc (by simp) _⟩
end Go.Proofs.Yteoepnadjkjlmaa
