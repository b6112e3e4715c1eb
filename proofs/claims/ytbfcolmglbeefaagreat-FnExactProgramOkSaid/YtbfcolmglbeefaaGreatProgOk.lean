/-
  impl.ProgramOk.
-/
import Derived.Test.YtbfcolmglbeefaaGreatAllRule
import Derived.Test.YtbfcolmglbeefaaGreatAscend
import Derived.Test.YtbfcolmglbeefaaGreatAllDecl
import Derived.Test.YtbfcolmglbeefaaGreatTyProg
namespace Go.Proofs.YtbfcolmglbeefaaGreat
open Go.RowKit Go.Sort
set_option linter.unusedVariables false

def progB (x : GProgram) : Bool := decide (x.decls.length ≤ 40) && decide (x.rules.length ≤ 100) && x.decls.all declB && ascB x.decls && x.rules.all ruleB
theorem all_Decl_is {lo : Nat} (b : Bool) (A : Option Addr) (c : Nat) (xs : List GDecl) (w : World) (h : xs.all declB = b) (hf : fitDecls xs) (hk : costDecls xs ≤ 1048576) (hr : DeclsAt w lo w.heap.size A xs) :
    Calls Tryz.prog 15 #[.slice A xs.length c, .func (.func 16) #[] #[]] w fun e w' => e = .returned (.bool b) ∧ Below w.heap.size w w' := by subst h; exact all_Decl A c xs w hf hk hr
theorem ok_ascend_is {lo : Nat} (b : Bool) (A : Option Addr) (c : Nat) (xs : List GDecl) (w : World) (h : ascB xs = b) (hl : xs.length ≤ 1048576) (hr : DeclsAt w lo w.heap.size A xs) :
    Calls Tryz.prog 17 #[.slice A xs.length c] w fun e w' => e = .returned (.bool b) ∧ Below w.heap.size w w' := by subst h; exact ok_ascend A c xs w hl hr
set_option maxRecDepth 100000 in
set_option maxHeartbeats 1600000 in
theorem ok_prog {lo : Nat} (x : GProgram) (A0 : Option Addr) (c0 : Nat) (A1 : Option Addr) (c1 : Nat) (w : World) (hf : fitProgram x) (hk : costProgram x ≤ 1048576) (s0 : DeclsAt w lo w.heap.size A0 x.decls) (s1 : RulesAt w lo w.heap.size A1 x.rules) :
    Calls Tryz.prog 7 #[.agg #[.slice A0 x.decls.length c0, .slice A1 x.rules.length c1]] w fun e w' => e = .returned (.bool (progB x)) ∧ Below w.heap.size w w' := by
  have hB0 : Below w.heap.size w (w.alloc (.cells #[.slice A0 x.decls.length c0, .slice A1 x.rules.length c1] 31)) := (Below.refl _ _).alloc (Nat.le_refl _) _
  have hP := Lib.hid (Whole.new w 31 [.slice A0 x.decls.length c0, .slice A1 x.rules.length c1])
  obtain ⟨f0, f1⟩ := hf
  unfold costProgram at hk
  have hkd : costDecls x.decls ≤ 1048576 := by omega
  have hkr : costRules x.rules ≤ 1048576 := by omega
  have hld : x.decls.length ≤ 1048576 := by unfold costDecls at hkd; omega
  have hlr : x.rules.length ≤ 1048576 := by unfold costRules at hkr; omega
  clear hk
  by_cases h40 : (x.decls.length : Int) ≤ 40
  · by_cases h100 : (x.rules.length : Int) ≤ 100
    · have hN := Lib.hid (show progB x = (x.decls.all declB && ascB x.decls && x.rules.all ruleB) by unfold progB; rw [decide_eq_true (show x.decls.length ≤ 40 by omega), decide_eq_true (show x.rules.length ≤ 100 by omega)]; rfl)
      obtain ⟨b1, hb1⟩ : ∃ b, x.decls.all declB = b := ⟨_, rfl⟩
      obtain ⟨b2, hb2⟩ : ∃ b, ascB x.decls = b := ⟨_, rfl⟩
      have H1 := Lib.hid hb1
      have H2 := Lib.hid hb2
      clear hb1 hb2
      go_enter Tryz.func7, Tryz.ntmps7
      go_wp2_with fail
      refine (all_Decl_is b1 A0 c0 x.decls _ H1.out f0 hkd (s0.to_ hB0)).mono ?_
      rintro e w1 ⟨rfl, hb1⟩
      have hB1 := below_next hB0 hb1 rfl rfl
      have P1 := hP.out.below hb1 hP.out.lt
      have p0 : w1.cell? ⟨w.heap.size, 0, none⟩ = some (.slice A0 x.decls.length c0) := P1.cell 0
      have p1 : w1.cell? ⟨w.heap.size, 1, none⟩ = some (.slice A1 x.rules.length c1) := P1.cell 1
      have hP1 := Lib.hid P1
      clear P1
      cases b1 with
      | false =>
        have H := Lib.hid (show progB x = false by rw [hN.out, H1.out]; rfl)
        go_wp2_with fail
        go_ret
        exact ⟨ret_bool (by rw [H.out]), hB1⟩
      | true =>
        go_wp2_with fail
        refine (ok_ascend_is b2 A0 c0 x.decls _ H2.out hld (s0.to_ hB1)).mono ?_
        rintro e w2 ⟨rfl, hb2⟩
        have hB2 := below_next hB1 hb2 rfl rfl
        have P2 := hP1.out.below hb2 hP1.out.lt
        have r1 : w2.cell? ⟨w.heap.size, 1, none⟩ = some (.slice A1 x.rules.length c1) := P2.cell 1
        clear P2 p0 p1
        cases b2 with
        | false =>
          have H := Lib.hid (show progB x = false by rw [hN.out, H2.out]; simp)
          go_wp2_with fail
          go_ret
          exact ⟨ret_bool (by rw [H.out]), hB2⟩
        | true =>
          have H := Lib.hid (show progB x = x.rules.all ruleB by rw [hN.out, H1.out, H2.out]; rfl)
          go_wp2_with fail
          refine (all_Rule A1 c1 x.rules _ f1 hkr (s1.to_ hB2)).mono ?_
          rintro e w3 ⟨rfl, hb3⟩
          have hB3 := below_next hB2 hb3 rfl rfl
          go_wp2_with fail
          go_ret
          exact ⟨ret_bool (by rw [H.out]), hB3⟩
    · have hd : decide ((x.rules.length : Int) ≤ 100) = false := by simpa using h100
      have H := Lib.hid (show progB x = false by unfold progB; rw [decide_eq_false (show ¬ x.rules.length ≤ 100 by omega)]; simp)
      go_enter Tryz.func7, Tryz.ntmps7
      go_wp2_with fail
      go_ret
      exact ⟨ret_bool (by rw [H.out]), hB0⟩
  · have hd : decide ((x.decls.length : Int) ≤ 40) = false := by simpa using h40
    have H := Lib.hid (show progB x = false by unfold progB; rw [decide_eq_false (show ¬ x.decls.length ≤ 40 by omega)]; simp)
    go_enter Tryz.func7, Tryz.ntmps7
    go_wp2_with fail
    go_ret
    exact ⟨ret_bool (by rw [H.out]), hB0⟩
end Go.Proofs.YtbfcolmglbeefaaGreat
