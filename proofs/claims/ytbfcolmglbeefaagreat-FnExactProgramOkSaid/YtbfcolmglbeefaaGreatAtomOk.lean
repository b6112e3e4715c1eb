/-
  impl.atomOk.
-/
import Derived.Test.YtbfcolmglbeefaaGreatAllExpr
import Derived.Test.YtbfcolmglbeefaaGreatDeclOk
namespace Go.Proofs.YtbfcolmglbeefaaGreat
open Go.RowKit Go.Sort
set_option linter.unusedVariables false

def atomB (x : GAtom) : Bool := wordB x.name && decide (x.args.length ≤ 8) && x.args.all exprB
set_option maxHeartbeats 1600000 in
theorem ok_atom {lo : Nat} (x : GAtom) (A1 : Option Addr) (c1 : Nat) (w : World) (hf : fitAtom x) (hk : costAtom x ≤ 1048576) (s1 : NodeSsAt w lo w.heap.size A1 x.args) :
    Calls Tryz.prog 37 #[.agg #[.string x.name, .slice A1 x.args.length c1]] w fun e w' => e = .returned (.bool (atomB x)) ∧ Below w.heap.size w w' := by
  have hB0 : Below w.heap.size w (w.alloc (.cells #[.string x.name, .slice A1 x.args.length c1] 44)) := (Below.refl _ _).alloc (Nat.le_refl _) _
  obtain ⟨f0, f1⟩ := hf
  have hkt : costNodeSs x.args ≤ 1048576 := by unfold costAtom at hk; omega
  obtain ⟨b, hb⟩ : ∃ b, wordB x.name = b := ⟨_, rfl⟩
  have HB := Lib.hid hb
  clear hb
  go_enter Tryz.func37, Tryz.ntmps37
  go_wp2_with fail
  refine (impl_word_is b _ _ f0 HB.out).mono ?_
  rintro e w1 ⟨rfl, rfl⟩
  cases b with
  | false =>
    have H := Lib.hid (show atomB x = false by unfold atomB; rw [HB.out]; rfl)
    go_wp2_with fail
    go_ret
    exact ⟨ret_bool (by rw [H.out]), hB0⟩
  | true =>
    by_cases h8 : (x.args.length : Int) ≤ 8
    · have H := Lib.hid (show atomB x = x.args.all exprB by unfold atomB; rw [HB.out, decide_eq_true (show x.args.length ≤ 8 by omega)]; rfl)
      go_wp2_with fail
      refine (all_NodeS A1 c1 x.args _ f1 hkt (s1.to_ hB0)).mono ?_
      rintro e w2 ⟨rfl, hb2⟩
      have hB2 := below_next hB0 hb2 rfl rfl
      go_wp2_with fail
      go_ret
      exact ⟨ret_bool (by rw [H.out]), hB2⟩
    · have h8d : decide ((x.args.length : Int) ≤ 8) = false := by simpa using h8
      have h8n : decide (x.args.length ≤ 8) = false := by simp; omega
      have H := Lib.hid (show atomB x = false by unfold atomB; rw [h8n]; simp)
      clear h8n
      go_wp2_with fail
      go_ret
      exact ⟨ret_bool (by rw [H.out]), hB0⟩
end Go.Proofs.YtbfcolmglbeefaaGreat
