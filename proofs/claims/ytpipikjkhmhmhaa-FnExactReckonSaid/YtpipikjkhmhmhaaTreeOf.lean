/-
  impl.treeOf; the tree of an expression.
-/
import Derived.Test.YtpipikjkhmhmhaaOkMath
namespace Go.Proofs.Ytpipikjkhmhmhaa
open Go.RowKit Go.Sort
set_option linter.unusedVariables false

/-- The tree of an expression. -/
def treeT (es : List GNode) : Tr := match growM (es.length + 1) es with
  | some (t, _) => t
  | none => .any
theorem treeT_is (t : Tr) (h : Wf t) : treeT (treeN t) = t := by
  have h1 := growM_tree t h ((treeN t).length + 1) [] (by omega)
  rw [List.append_nil] at h1
  unfold treeT
  rw [h1]
theorem expr_tree {es : List GNode} (h : exprB es = true) : ∃ t, Wf t ∧ treeN t = es ∧ treeT es = t ∧ es.length ≤ 100 := by
  unfold exprB at h
  simp only [Bool.and_eq_true, decide_eq_true_eq] at h
  obtain ⟨t, ht, e⟩ := (treeB_iff es).1 h.2
  exact ⟨t, ht, e, by rw [← e]; exact treeT_is t ht, h.1⟩
theorem impl_treeOf {lo : Nat} (t : Tr) (A : Option Addr) (c : Nat) (w : World) (ht : Wf t) (hl : (treeN t).length ≤ 1000) (hc : CapOk (treeN t).length c) (hf : fitNodes (treeN t)) (hr : NodesAt w lo w.heap.size A (treeN t)) :
    Calls Try.prog 80 #[.slice A (treeN t).length c] w fun e w' => e = .returned (TV t) ∧ Below w.heap.size w w' := by
  have hg := growM_tree t ht ((treeN t).length + 1) [] (by omega)
  rw [List.append_nil] at hg
  have HG := Lib.hid (impl_grow ((treeN t).length + 1) A c (treeN t) w (by omega) hl hc.1 hc.2 hf hr)
  have HM := Lib.hid hg
  obtain ⟨T1, v1, hT⟩ := TV_iface t
  have HT := Lib.hid hT
  clear hg hr hT
  go_enter Try.func80, Try.ntmps80
  go_wp2_with fail
  refine HG.out.mono ?_
  rintro e w1 ⟨hb1, he⟩
  rw [HM.out] at he
  obtain ⟨A2, c2, rfl, _⟩ := he
  rw [HT.out]
  go_wp2_with fail
  go_ret
  exact ⟨by rw [HT.out]; rfl, hb1⟩
end Go.Proofs.Ytpipikjkhmhmhaa
