/-
  How the laws measure a value.
-/
import Derived.Test.YtpipikjkhmhmhaaTyVal
namespace Go.Proofs.Ytpipikjkhmhmhaa
open Go.RowKit Go.Sort
set_option linter.unusedVariables false

set_option maxHeartbeats 1600000 in
theorem sz_Value (x : GV) (left : Int) (w : World) (hf : fitValue x) (h0 : 0 ≤ left) (h1 : left ≤ 1048576) :
    Calls Try.prog 70 #[.agg #[.int .i64 x.k, .int .i64 x.n, .string x.t], .int .i64 left] w fun e w' => e = .returned (.int .i64 (szC (costValue x) left)) ∧ Below w.heap.size w w' := by
  have F := Lib.hid hf
  clear hf
  have m2 : x.t.size ≤ 9223372036854775807 := by have h := F.out.2.2; unfold maxLen at h; exact h
  have hct := Lib.hid (show costValue x = x.t.size from rfl)
  have hB0 : Below w.heap.size w (w.alloc (.cells #[.int .i64 x.k, .int .i64 x.n, .string x.t] 102)) := (Below.refl _ _).alloc (Nat.le_refl _) _
  have hP := Lib.hid (Whole.new w 102 [.int .i64 x.k, .int .i64 x.n, .string x.t])
  by_cases hn0 : left - (x.t.size : Nat) < 0
  · have H := Lib.hid (show szC (costValue x) left = -1 by rw [hct.out]; unfold szC; rw [if_pos (by omega)])
    go_enter Try.func70, Try.ntmps70
    go_wp2_with fail
    go_ret
    exact ⟨ret_int (by rw [H.out]), hB0⟩
  go_enter Try.func70, Try.ntmps70
  have H := Lib.hid (show szC (costValue x) left = left - (x.t.size : Nat) by rw [hct.out]; unfold szC; rw [if_neg (by omega)] <;> omega)
  go_wp2_with fail
  go_ret
  exact ⟨ret_int (by rw [H.out]), hB0⟩

end Go.Proofs.Ytpipikjkhmhmhaa
