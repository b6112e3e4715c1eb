/-
  laws.eqValue, at equal data.
-/
import Derived.Test.YtkkgiojgejfhlaaTyVal
namespace Go.Proofs.Ytkkgiojgejfhlaa
open Go.RowKit Go.Sort
set_option linter.unusedVariables false

set_option maxHeartbeats 1600000 in
theorem eq_Value (x : GV) (w : World) :
    Calls Try.prog 44 #[.agg #[.int .i64 x.k, .int .i64 x.n, .string x.t], .agg #[.int .i64 x.k, .int .i64 x.n, .string x.t]] w (EqYes w) := by
  obtain ⟨hP, hQ, hB, hZ⟩ := two_new w #[.int .i64 x.k, .int .i64 x.n, .string x.t] #[.int .i64 x.k, .int .i64 x.n, .string x.t] 55
  have HP := Lib.hid hP
  have HQ := Lib.hid hQ
  have HZ := Lib.hid hZ
  clear hP hQ hZ
  go_enter Try.func44, Try.ntmps44
  go_wp2_with fail
  go_ret
  exact ⟨rfl, hB⟩

end Go.Proofs.Ytkkgiojgejfhlaa
