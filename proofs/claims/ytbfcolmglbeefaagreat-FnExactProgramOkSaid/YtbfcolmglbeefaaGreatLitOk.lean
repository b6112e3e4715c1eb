/-
  impl.litOk.
-/
import Derived.Test.YtbfcolmglbeefaaGreatAtomOk
import Derived.Test.YtbfcolmglbeefaaGreatTyRule
namespace Go.Proofs.YtbfcolmglbeefaaGreat
open Go.RowKit Go.Sort
set_option linter.unusedVariables false

def litAtomB (x : GLit) : Bool := atomB x.atom && isT x.op [] && decide (x.left.length = 0) && decide (x.right.length = 0)
def litTestB (x : GLit) : Bool := isT x.atom.name [] && decide (x.atom.args.length = 0) && opB x.op && exprB x.left && exprB x.right
def litB (x : GLit) : Bool := if x.k = 1 ∨ x.k = 2 then litAtomB x else if x.k = 3 then litTestB x else false
theorem ok_atom_is {lo : Nat} (b : Bool) (x : GAtom) (A1 : Option Addr) (c1 : Nat) (w : World) (h : atomB x = b) (hf : fitAtom x) (hk : costAtom x ≤ 1048576) (s1 : NodeSsAt w lo w.heap.size A1 x.args) :
    Calls Tryz.prog 37 #[.agg #[.string x.name, .slice A1 x.args.length c1]] w fun e w' => e = .returned (.bool b) ∧ Below w.heap.size w w' := by subst h; exact ok_atom x A1 c1 w hf hk s1
theorem ok_expr_is {lo : Nat} (b : Bool) (A : Option Addr) (c : Nat) (es : List GNode) (w : World) (h : exprB es = b) (hk : costNodes es ≤ 1048576) (q : CapOk es.length c) (hf : fitNodes es) (hr : NodesAt w lo w.heap.size A es) :
    Calls Tryz.prog 58 #[.slice A es.length c] w fun e w' => e = .returned (.bool b) ∧ Below w.heap.size w w' := by subst h; exact ok_expr A c es w (by unfold costNodes at hk; omega) q.1 q.2 hf hr
theorem impl_op_is (b : Bool) (s : ByteArray) (w : World) (h : opB s = b) :
    Calls Tryz.prog 62 #[.string s] w fun e w' => e = .returned (.bool b) ∧ w = w' := by subst h; exact impl_op s w
set_option maxRecDepth 100000 in
set_option maxHeartbeats 1600000 in
theorem ok_lit_ {lo : Nat} (k : Int) (at_ : GAtom) (op : ByteArray) (left right : List GNode) (A2 : Option Addr) (c2 : Nat) (A4 : Option Addr) (c4 : Nat) (A5 : Option Addr) (c5 : Nat) (w : World) (f1 : at_.name.size ≤ maxLen) (f2 : fitNodeSs at_.args) (f3 : op.size ≤ maxLen) (f4 : fitNodes left) (f5 : fitNodes right) (hka : costAtom at_ ≤ 1048576) (hkl : costNodes left ≤ 1048576) (hkr : costNodes right ≤ 1048576) (s2 : NodeSsAt w lo w.heap.size A2 at_.args) (q4 : CapOk left.length c4) (s4 : NodesAt w lo w.heap.size A4 left) (q5 : CapOk right.length c5) (s5 : NodesAt w lo w.heap.size A5 right) :
    Calls Tryz.prog 40 #[.agg #[.int .i64 k, .string at_.name, .slice A2 at_.args.length c2, .string op, .slice A4 left.length c4, .slice A5 right.length c5]] w fun e w' => e = .returned (.bool (litB ⟨k, at_, op, left, right⟩)) ∧ Below w.heap.size w w' := by
  have hll : left.length ≤ 1048576 := by unfold costNodes at hkl; omega
  have hlr : right.length ≤ 1048576 := by unfold costNodes at hkr; omega
  have hla : at_.args.length ≤ 1048576 := by unfold costAtom costNodeSs at hka; omega
  have hB0 : Below w.heap.size w (w.alloc (.cells #[.int .i64 k, .string at_.name, .slice A2 at_.args.length c2, .string op, .slice A4 left.length c4, .slice A5 right.length c5] 73)) := (Below.refl _ _).alloc (Nat.le_refl _) _
  have hP := Lib.hid (Whole.new w 73 [.int .i64 k, .string at_.name, .slice A2 at_.args.length c2, .string op, .slice A4 left.length c4, .slice A5 right.length c5])
  by_cases hat : k = 1 ∨ k = 2
  · have hL := Lib.hid (show litB ⟨k, at_, op, left, right⟩ = (atomB at_ && isT op [] && decide (left.length = 0) && decide (right.length = 0)) by unfold litB; rw [if_pos hat]; rfl)
    obtain ⟨b, hb⟩ : ∃ b, atomB at_ = b := ⟨_, rfl⟩
    have HB := Lib.hid hb
    clear hb
    rcases hat with rfl | rfl
    all_goals go_enter Tryz.func40, Tryz.ntmps40
    all_goals go_wp2_with fail
    all_goals refine (ok_atom_is b at_ A2 c2 _ HB.out ⟨f1, f2⟩ hka (s2.to_ hB0)).mono ?_
    all_goals rintro e w1 ⟨rfl, hb1⟩
    all_goals have hB1 := below_next hB0 hb1 rfl rfl
    all_goals have P1 := hP.out.below hb1 hP.out.lt
    all_goals have p3 : w1.cell? ⟨w.heap.size, 3, none⟩ = some (.string op) := P1.cell 3
    all_goals have p4 : w1.cell? ⟨w.heap.size, 4, none⟩ = some (.slice A4 left.length c4) := P1.cell 4
    all_goals have p5 : w1.cell? ⟨w.heap.size, 5, none⟩ = some (.slice A5 right.length c5) := P1.cell 5
    all_goals clear P1
    all_goals cases b
    all_goals go_wp2_with fail
    all_goals go_ret
    all_goals refine ⟨ret_bool ?_, hB1⟩
    all_goals rw [hL.out, HB.out]
    all_goals simp_all [isT]
    all_goals (rw [Bool.eq_iff_iff]; simp)
  · by_cases h3 : k = 3
    · subst h3
      have hL := Lib.hid (show litB ⟨3, at_, op, left, right⟩ = (isT at_.name [] && decide (at_.args.length = 0) && opB op && exprB left && exprB right) from rfl)
      obtain ⟨b1, hb1⟩ : ∃ b, opB op = b := ⟨_, rfl⟩
      obtain ⟨b2, hb2⟩ : ∃ b, exprB left = b := ⟨_, rfl⟩
      obtain ⟨b3, hb3⟩ : ∃ b, exprB right = b := ⟨_, rfl⟩
      have H1 := Lib.hid hb1
      have H2 := Lib.hid hb2
      have H3 := Lib.hid hb3
      clear hb1 hb2 hb3 hat
      by_cases hn : (at_.name.toList == []) = true
      · by_cases ha : (at_.args.length : Int) = 0
        · go_enter Tryz.func40, Tryz.ntmps40
          go_wp2_with fail
          refine (impl_op_is b1 op _ H1.out).mono ?_
          rintro e w1 ⟨rfl, rfl⟩
          cases b1 with
          | false =>
            have H := Lib.hid (show litB ⟨3, at_, op, left, right⟩ = false by rw [hL.out, H1.out]; simp)
            go_wp2_with fail
            go_ret
            exact ⟨ret_bool (by rw [H.out]), hB0⟩
          | true =>
            go_wp2_with fail
            refine (ok_expr_is b2 A4 c4 left _ H2.out hkl q4 f4 (s4.to_ hB0)).mono ?_
            rintro e w2 ⟨rfl, hb2⟩
            have hB2 := below_next hB0 hb2 rfl rfl
            have P1 := hP.out.below hb2 hP.out.lt
            have p5 : w2.cell? ⟨w.heap.size, 5, none⟩ = some (.slice A5 right.length c5) := P1.cell 5
            clear P1
            cases b2 with
            | false =>
              have H := Lib.hid (show litB ⟨3, at_, op, left, right⟩ = false by rw [hL.out, H2.out]; simp)
              go_wp2_with fail
              go_ret
              exact ⟨ret_bool (by rw [H.out]), hB2⟩
            | true =>
              have H := Lib.hid (show litB ⟨3, at_, op, left, right⟩ = b3 by rw [hL.out, H1.out, H2.out, H3.out, isT, hn, decide_eq_true (show at_.args.length = 0 by omega)]; simp)
              go_wp2_with fail
              refine (ok_expr_is b3 A5 c5 right _ H3.out hkr q5 f5 (s5.to_ hB2)).mono ?_
              rintro e w3 ⟨rfl, hb3⟩
              have hB3 := below_next hB2 hb3 rfl rfl
              go_wp2_with fail
              go_ret
              exact ⟨ret_bool (by rw [H.out]), hB3⟩
        · have H := Lib.hid (show litB ⟨3, at_, op, left, right⟩ = false by rw [hL.out, decide_eq_false (show ¬ at_.args.length = 0 by omega)]; simp)
          have had : ((at_.args.length : Int) == 0) = false := by simpa using ha
          clear ha
          go_enter Tryz.func40, Tryz.ntmps40
          go_wp2_with fail
          go_ret
          exact ⟨ret_bool (by rw [H.out]), hB0⟩
      · rw [Bool.not_eq_true] at hn
        have H := Lib.hid (show litB ⟨3, at_, op, left, right⟩ = false by rw [hL.out, isT, hn]; simp)
        go_enter Tryz.func40, Tryz.ntmps40
        go_wp2_with fail
        go_ret
        exact ⟨ret_bool (by rw [H.out]), hB0⟩
    · have H := Lib.hid (show litB ⟨k, at_, op, left, right⟩ = false by unfold litB; rw [if_neg hat, if_neg h3])
      have k1 : ¬ k = 1 := fun h => hat (.inl h)
      have k2 : ¬ k = 2 := fun h => hat (.inr h)
      clear hat
      go_enter Tryz.func40, Tryz.ntmps40
      go_wp2_with fail
      go_ret
      exact ⟨ret_bool (by rw [H.out]), hB0⟩
theorem ok_lit {lo : Nat} (x : GLit) (A2 : Option Addr) (c2 : Nat) (A4 : Option Addr) (c4 : Nat) (A5 : Option Addr) (c5 : Nat) (w : World) (hf : fitLit x) (hk : costLit x ≤ 1048576) (s2 : NodeSsAt w lo w.heap.size A2 x.atom.args) (q4 : CapOk x.left.length c4) (s4 : NodesAt w lo w.heap.size A4 x.left) (q5 : CapOk x.right.length c5) (s5 : NodesAt w lo w.heap.size A5 x.right) :
    Calls Tryz.prog 40 #[.agg #[.int .i64 x.k, .string x.atom.name, .slice A2 x.atom.args.length c2, .string x.op, .slice A4 x.left.length c4, .slice A5 x.right.length c5]] w fun e w' => e = .returned (.bool (litB x)) ∧ Below w.heap.size w w' := by
  obtain ⟨f0, f1, f2, f3, f4, f5⟩ := hf
  unfold costLit at hk
  exact ok_lit_ x.k x.atom x.op x.left x.right A2 c2 A4 c4 A5 c5 w f1 f2 f3 f4 f5 (by omega) (by omega) (by omega) s2 q4 s4 q5 s5
end Go.Proofs.YtbfcolmglbeefaaGreat
