/-
  laws.eqValue, at equal data.
-/
import Derived.Test.YtpipikjkhmhmhaaTyVal
namespace Go.Proofs.Ytpipikjkhmhmhaa
open Go.RowKit Go.Sort
set_option linter.unusedVariables false

set_option maxHeartbeats 1600000 in
theorem eq_Value (x : GV) (w : World) :
    Calls Try.prog 35 #[.agg #[.int .i64 x.k, .int .i64 x.n, .string x.t], .agg #[.int .i64 x.k, .int .i64 x.n, .string x.t]] w (EqYes w) := by
  obtain ⟨hP, hQ, hB, hZ⟩ := two_new w #[.int .i64 x.k, .int .i64 x.n, .string x.t] #[.int .i64 x.k, .int .i64 x.n, .string x.t] 28
  have HP := Lib.hid hP
  have HQ := Lib.hid hQ
  have HZ := Lib.hid hZ
  clear hP hQ hZ
  go_enter Try.func35, Try.ntmps35
  go_wp2_with fail
  go_ret
  exact ⟨rfl, hB⟩

end Go.Proofs.Ytpipikjkhmhmhaa
