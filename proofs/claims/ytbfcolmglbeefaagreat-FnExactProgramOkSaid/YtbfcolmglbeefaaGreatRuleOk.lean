/-
  impl.ruleOk.
-/
import Derived.Test.YtbfcolmglbeefaaGreatAllLit
import Derived.Test.YtbfcolmglbeefaaGreatAggs
namespace Go.Proofs.YtbfcolmglbeefaaGreat
open Go.RowKit Go.Sort
set_option linter.unusedVariables false

def ruleB (x : GRule) : Bool := atomB x.head && aggsB x && decide (x.body.length ≤ 12) && x.body.all litB
theorem exprB_ne (es : List GNode) (h : exprB es = true) : es ≠ [] := by
  rintro rfl
  exact absurd h (by decide)
theorem atomB_ne (x : GAtom) (h : atomB x = true) : ∀ es ∈ x.args, es ≠ [] := by
  unfold atomB at h
  simp only [Bool.and_eq_true, List.all_eq_true] at h
  exact fun es he => exprB_ne es (h.2 es he)
theorem ok_aggs_is {lo : Nat} (b : Bool) (x : GRule) (A1 : Option Addr) (c1 : Nat) (A2 : Option Addr) (c2 : Nat) (A3 : Option Addr) (c3 : Nat) (w : World) (h : aggsB x = b) (hka : x.aggs.length ≤ 1048576) (hkr : x.head.args.length ≤ 1048576) (s1 : NodeSsAt w lo w.heap.size A1 x.head.args) (s2 : StrsAt w lo w.heap.size A2 x.aggs) (hne : ∀ es ∈ x.head.args, es ≠ []) :
    Calls Tryz.prog 38 #[.agg #[.string x.head.name, .slice A1 x.head.args.length c1, .slice A2 x.aggs.length c2, .slice A3 x.body.length c3]] w fun e w' => e = .returned (.bool b) ∧ Below w.heap.size w w' := by subst h; exact ok_aggs x A1 c1 A2 c2 A3 c3 w hka hkr s1 s2 hne
set_option maxRecDepth 100000 in
set_option maxHeartbeats 1600000 in
theorem ok_rule {lo : Nat} (x : GRule) (A1 : Option Addr) (c1 : Nat) (A2 : Option Addr) (c2 : Nat) (A3 : Option Addr) (c3 : Nat) (w : World) (hf : fitRule x) (hk : costRule x ≤ 1048576) (s1 : NodeSsAt w lo w.heap.size A1 x.head.args) (s2 : StrsAt w lo w.heap.size A2 x.aggs) (s3 : LitsAt w lo w.heap.size A3 x.body) :
    Calls Tryz.prog 19 #[.agg #[.string x.head.name, .slice A1 x.head.args.length c1, .slice A2 x.aggs.length c2, .slice A3 x.body.length c3]] w fun e w' => e = .returned (.bool (ruleB x)) ∧ Below w.heap.size w w' := by
  have hB0 : Below w.heap.size w (w.alloc (.cells #[.string x.head.name, .slice A1 x.head.args.length c1, .slice A2 x.aggs.length c2, .slice A3 x.body.length c3] 47)) := (Below.refl _ _).alloc (Nat.le_refl _) _
  have hP := Lib.hid (Whole.new w 47 [.string x.head.name, .slice A1 x.head.args.length c1, .slice A2 x.aggs.length c2, .slice A3 x.body.length c3])
  obtain ⟨f0, f1, f2, f3⟩ := hf
  unfold costRule at hk
  have hkb : costLits x.body ≤ 1048576 := by omega
  have hka : x.aggs.length ≤ 1048576 := by unfold costStrs at hk; omega
  have hkr : x.head.args.length ≤ 1048576 := by unfold costAtom costNodeSs at hk; omega
  have hkh : costAtom x.head ≤ 1048576 := by omega
  have hbl : x.body.length ≤ 1048576 := by unfold costLits at hkb; omega
  obtain ⟨b1, hb1⟩ : ∃ b, atomB x.head = b := ⟨_, rfl⟩
  obtain ⟨b2, hb2⟩ : ∃ b, aggsB x = b := ⟨_, rfl⟩
  have H1 := Lib.hid hb1
  have H2 := Lib.hid hb2
  clear hb1 hb2
  go_enter Tryz.func19, Tryz.ntmps19
  go_wp2_with fail
  refine (ok_atom_is b1 x.head A1 c1 _ H1.out ⟨f0, f1⟩ hkh (s1.to_ hB0)).mono ?_
  rintro e w1 ⟨rfl, hb1⟩
  have hB1 := below_next hB0 hb1 rfl rfl
  have P1 := hP.out.below hb1 hP.out.lt
  have p0 : w1.cell? ⟨w.heap.size, 0, none⟩ = some (.string x.head.name) := P1.cell 0
  have p1 : w1.cell? ⟨w.heap.size, 1, none⟩ = some (.slice A1 x.head.args.length c1) := P1.cell 1
  have p2 : w1.cell? ⟨w.heap.size, 2, none⟩ = some (.slice A2 x.aggs.length c2) := P1.cell 2
  have p3 : w1.cell? ⟨w.heap.size, 3, none⟩ = some (.slice A3 x.body.length c3) := P1.cell 3
  have hP1 := Lib.hid P1
  clear P1
  cases b1 with
  | false =>
    have H := Lib.hid (show ruleB x = false by unfold ruleB; rw [H1.out]; rfl)
    go_wp2_with fail
    go_ret
    exact ⟨ret_bool (by rw [H.out]), hB1⟩
  | true =>
    have hne := atomB_ne x.head H1.out
    go_wp2_with fail
    refine (ok_aggs_is b2 x A1 c1 A2 c2 A3 c3 _ H2.out hka hkr (s1.to_ hB1) (s2.to_ hB1) hne).mono ?_
    rintro e w2 ⟨rfl, hb2⟩
    have hB2 := below_next hB1 hb2 rfl rfl
    have P2 := hP1.out.below hb2 hP1.out.lt
    have r3 : w2.cell? ⟨w.heap.size, 3, none⟩ = some (.slice A3 x.body.length c3) := P2.cell 3
    clear P2 p0 p1 p2 p3 hne
    cases b2 with
    | false =>
      have H := Lib.hid (show ruleB x = false by unfold ruleB; rw [H2.out]; simp)
      go_wp2_with fail
      go_ret
      exact ⟨ret_bool (by rw [H.out]), hB2⟩
    | true =>
      by_cases h8 : (x.body.length : Int) ≤ 12
      · have H := Lib.hid (show ruleB x = x.body.all litB by unfold ruleB; rw [H1.out, H2.out, decide_eq_true (show x.body.length ≤ 12 by omega)]; rfl)
        go_wp2_with fail
        refine (all_Lit A3 c3 x.body _ f3 hkb (s3.to_ hB2)).mono ?_
        rintro e w3 ⟨rfl, hb3⟩
        have hB3 := below_next hB2 hb3 rfl rfl
        go_wp2_with fail
        go_ret
        exact ⟨ret_bool (by rw [H.out]), hB3⟩
      · have h8d : decide ((x.body.length : Int) ≤ 12) = false := by simpa using h8
        have H := Lib.hid (show ruleB x = false by unfold ruleB; rw [decide_eq_false (show ¬ x.body.length ≤ 12 by omega)]; simp)
        go_wp2_with fail
        go_ret
        exact ⟨ret_bool (by rw [H.out]), hB2⟩
end Go.Proofs.YtbfcolmglbeefaaGreat
