/-
  spec.l2ExprOk.
-/
import Derived.Test.YtpipikjkhmhmhaaSpecOk
namespace Go.Proofs.Ytpipikjkhmhmhaa
open Go.RowKit Go.Sort
set_option linter.unusedVariables false

set_option maxRecDepth 100000 in
set_option maxHeartbeats 1600000 in
theorem sp_expr_is {lo : Nat} (b : Bool) (A : Option Addr) (c : Nat) (es : List GNode) (w : World) (h : exprB es = b) (hk : costNodes es ≤ 1048576) (q : CapOk es.length c) (hf : fitNodes es) (hr : NodesAt w lo w.heap.size A es) :
    Calls Try.prog 71 #[.slice A es.length c] w fun e w' => e = .returned (.bool b) ∧ Below w.heap.size w w' := by
  have hl : es.length ≤ 1048576 := by unfold costNodes at hk; omega
  by_cases h100 : (es.length : Int) ≤ 100
  · have hE := Lib.hid (show okM (es.length + 1) es = b by rw [okM_eq _ _ (by omega), ← h]; unfold exprB; rw [decide_eq_true (by omega)]; rfl)
    clear h
    go_enter Try.func71, Try.ntmps71
    go_wp2_with fail
    refine (spec_ok (es.length + 1) A c es _ (by omega) (by omega) q hf hr).mono ?_
    rintro e w1 ⟨rfl, hb1⟩
    rw [hE.out]
    go_wp2_with fail
    go_ret
    exact ⟨rfl, hb1⟩
  · have hd : decide ((es.length : Int) ≤ 100) = false := by simpa using h100
    have H := Lib.hid (show false = b by rw [← h]; unfold exprB; rw [decide_eq_false (by omega)]; rfl)
    clear h
    go_enter Try.func71, Try.ntmps71
    go_wp2_with fail
    go_ret
    exact ⟨ret_bool H.out, Below.refl _ _⟩
end Go.Proofs.Ytpipikjkhmhmhaa
