/-
  laws.toValue.
-/
import Derived.Test.YtpipikjkhmhmhaaTyVal
namespace Go.Proofs.Ytpipikjkhmhmhaa
open Go.RowKit Go.Sort
set_option linter.unusedVariables false

def ToValue (w : World) (x : GV) (e : Ending) (w' : World) : Prop := e = .returned (.agg #[.int .i64 x.k, .int .i64 x.n, .string x.t]) ∧ UF w' w.heap.size w'.heap.size ∧ Below w.heap.size w w'
set_option maxRecDepth 100000 in
set_option maxHeartbeats 3200000 in
theorem to_Value (x : GV) (w : World) :
    Calls Try.prog 75 #[.agg #[.int .i64 x.k, .int .i64 x.n, .string x.t]] w (ToValue w x) := by
  go_enter Try.func75, Try.ntmps75
  go_wp2
  refine bodyPost_ret (v := .agg #[.int .i64 x.k, .int .i64 x.n, .string x.t]) (by simp [results, Try.results75, go_sem]) rfl ⟨rfl, ?_, ?_⟩
  · exact (((UF.start w).alloc _ _).alloc _ _).alloc _ _
  · exact (((Below.refl _ _).alloc (Nat.le_refl _) _).alloc (by simp) _).alloc (by simp; omega) _

end Go.Proofs.Ytpipikjkhmhmhaa
