/-
  The closures of impl.ascend.
-/
import Derived.Test.YteoepnadjkjlmaaCmpG
import Derived.Shelf.SlSortCmp.Whole1
namespace Go.Proofs.Yteoepnadjkjlmaa
open Go.RowKit Go.Sort
set_option linter.unusedVariables false

theorem sort_closure (A A' : Option Addr) (c c' : Nat) (vs us : List GV) (w : World) (hr : RowAt w w.heap.size A vs) (hr' : RowAt w w.heap.size A' us) (hl : vs.length ≤ 1048576) (hl' : us.length ≤ 1048576) :
    Calls Try.prog 44 #[.slice A vs.length c, .slice A' us.length c'] w fun e w' => e = .returned (.int .i64 (cmpR vs us)) ∧ Grows w w' := by
  go_enter Try.func44, Try.ntmps44
  go_wp2_with fail
  refine (impl_rows_d A A' c c' vs us _ hr hr' hl hl').mono ?_
  rintro e w1 ⟨rfl, hb1⟩
  go_wp2_with fail
  go_ret
  exact ⟨rfl, hb1⟩

theorem same_closure (A A' : Option Addr) (c c' : Nat) (vs us : List GV) (w : World) (hr : RowAt w w.heap.size A vs) (hr' : RowAt w w.heap.size A' us) (hl : vs.length ≤ 1048576) (hl' : us.length ≤ 1048576) :
    Calls Try.prog 46 #[.slice A vs.length c, .slice A' us.length c'] w fun e w' => e = .returned (.bool (cmpR vs us == 0)) ∧ Below w.heap.size w w' := by
  go_enter Try.func46, Try.ntmps46
  go_wp2_with fail
  refine (impl_rows_d A A' c c' vs us _ hr hr' hl hl').mono ?_
  rintro e w1 ⟨rfl, hb1⟩
  go_wp2_with fail
  go_ret
  exact ⟨rfl, hb1.1⟩
end Go.Proofs.Yteoepnadjkjlmaa
