/-
  How the laws measure rules.
-/
import Derived.Test.YtmbdccbgcobflaaSzNode
import Derived.Test.YtmbdccbgcobflaaTyRule
namespace Go.Proofs.Ytmbdccbgcobflaa
open Go.RowKit Go.Sort
set_option linter.unusedVariables false

set_option maxHeartbeats 1600000 in
theorem sz_Atom {lo : Nat} (x : GAtom) (A1 : Option Addr) (c1 : Nat) (left : Int) (w : World) (hf : fitAtom x) (s1 : NodeSsAt w lo w.heap.size A1 x.args) (h0 : 0 ≤ left) (h1 : left ≤ 1048576) :
    Calls Try.prog 13 #[.agg #[.string x.name, .slice A1 x.args.length c1], .int .i64 left] w fun e w' => e = .returned (.int .i64 (szC (costAtom x) left)) ∧ Below w.heap.size w w' := by
  have F := Lib.hid hf
  clear hf
  have m0 : x.name.size ≤ 9223372036854775807 := by have h := F.out.1; unfold maxLen at h; exact h
  have hct := Lib.hid (show costAtom x = x.name.size + costNodeSs x.args from rfl)
  have hB0 : Below w.heap.size w (w.alloc (.cells #[.string x.name, .slice A1 x.args.length c1] 24)) := (Below.refl _ _).alloc (Nat.le_refl _) _
  have hP := Lib.hid (Whole.new w 24 [.string x.name, .slice A1 x.args.length c1])
  by_cases hn0 : left - (x.name.size : Nat) < 0
  · have H := Lib.hid (show szC (costAtom x) left = -1 by rw [hct.out]; unfold szC; rw [if_pos (by omega)])
    go_enter Try.func13, Try.ntmps13
    go_wp2_with fail
    go_ret
    exact ⟨ret_int (by rw [H.out]), hB0⟩
  go_enter Try.func13, Try.ntmps13
  go_wp2_with fail
  refine (sz_NodeSs A1 c1 x.args _ _ F.out.2 (s1.to_ hB0) (by omega) (by omega)).mono ?_
  rintro e w1 ⟨rfl, hb1⟩
  have hB1' := below_next hB0 hb1 rfl rfl
  by_cases hn1 : left - (x.name.size : Nat) - (costNodeSs x.args : Nat) < 0
  · have hs : szC (costNodeSs x.args) (left - (x.name.size : Nat)) = -1 := by unfold szC; rw [if_pos hn1]
    have H := Lib.hid (show szC (costAtom x) left = -1 by rw [hct.out]; unfold szC; rw [if_pos (by omega)])
    rw [hs]
    clear hs
    go_wp2_with fail
    go_ret
    exact ⟨ret_int (by rw [H.out]), hB1'⟩
  have hs1 : szC (costNodeSs x.args) (left - (x.name.size : Nat)) = left - (x.name.size : Nat) - (costNodeSs x.args : Nat) := by unfold szC; rw [if_neg hn1]
  rw [hs1]
  clear hs1
  have H := Lib.hid (show szC (costAtom x) left = left - (x.name.size : Nat) - (costNodeSs x.args : Nat) by rw [hct.out]; unfold szC; rw [if_neg (by omega)] <;> omega)
  go_wp2_with fail
  go_ret
  exact ⟨ret_int (by rw [H.out]), hB1'⟩

set_option maxHeartbeats 1600000 in
theorem sz_Lit {lo : Nat} (x : GLit) (A2 : Option Addr) (c2 : Nat) (A4 : Option Addr) (c4 : Nat) (A5 : Option Addr) (c5 : Nat) (left : Int) (w : World) (hf : fitLit x) (s2 : NodeSsAt w lo w.heap.size A2 x.atom.args) (s4 : NodesAt w lo w.heap.size A4 x.left) (s5 : NodesAt w lo w.heap.size A5 x.right) (h0 : 0 ≤ left) (h1 : left ≤ 1048576) :
    Calls Try.prog 31 #[.agg #[.int .i64 x.k, .string x.atom.name, .slice A2 x.atom.args.length c2, .string x.op, .slice A4 x.left.length c4, .slice A5 x.right.length c5], .int .i64 left] w fun e w' => e = .returned (.int .i64 (szC (costLit x) left)) ∧ Below w.heap.size w w' := by
  have F := Lib.hid hf
  clear hf
  have m1 : x.atom.name.size ≤ 9223372036854775807 := by have h := F.out.2.1; unfold maxLen at h; exact h
  have m3 : x.op.size ≤ 9223372036854775807 := by have h := F.out.2.2.2.1; unfold maxLen at h; exact h
  have hct := Lib.hid (show costLit x = costAtom x.atom + x.op.size + costNodes x.left + costNodes x.right from rfl)
  have hB0 : Below w.heap.size w (w.alloc (.cells #[.int .i64 x.k, .string x.atom.name, .slice A2 x.atom.args.length c2, .string x.op, .slice A4 x.left.length c4, .slice A5 x.right.length c5] 69)) := (Below.refl _ _).alloc (Nat.le_refl _) _
  have hP := Lib.hid (Whole.new w 69 [.int .i64 x.k, .string x.atom.name, .slice A2 x.atom.args.length c2, .string x.op, .slice A4 x.left.length c4, .slice A5 x.right.length c5])
  go_enter Try.func31, Try.ntmps31
  go_wp2_with fail
  refine (sz_Atom x.atom A2 c2 _ _ ⟨F.out.2.1, F.out.2.2.1⟩ (s2.to_ hB0) (by omega) (by omega)).mono ?_
  rintro e w0 ⟨rfl, hb0⟩
  have hB0' := below_next hB0 hb0 rfl rfl
  have P0 := hP.out.below hb0 hP.out.lt
  have p0_0 : w0.cell? ⟨w.heap.size, 0, none⟩ = some (.int .i64 x.k) := P0.cell 0
  have p0_1 : w0.cell? ⟨w.heap.size, 1, none⟩ = some (.string x.atom.name) := P0.cell 1
  have p0_2 : w0.cell? ⟨w.heap.size, 2, none⟩ = some (.slice A2 x.atom.args.length c2) := P0.cell 2
  have p0_3 : w0.cell? ⟨w.heap.size, 3, none⟩ = some (.string x.op) := P0.cell 3
  have p0_4 : w0.cell? ⟨w.heap.size, 4, none⟩ = some (.slice A4 x.left.length c4) := P0.cell 4
  have p0_5 : w0.cell? ⟨w.heap.size, 5, none⟩ = some (.slice A5 x.right.length c5) := P0.cell 5
  have hP0 := Lib.hid P0
  clear P0
  by_cases hn0 : left - (costAtom x.atom : Nat) < 0
  · have hs : szC (costAtom x.atom) (left) = -1 := by unfold szC; rw [if_pos hn0]
    have H := Lib.hid (show szC (costLit x) left = -1 by rw [hct.out]; unfold szC; rw [if_pos (by omega)])
    rw [hs]
    clear hs
    go_wp2_with fail
    go_ret
    exact ⟨ret_int (by rw [H.out]), hB0'⟩
  have hs0 : szC (costAtom x.atom) (left) = left - (costAtom x.atom : Nat) := by unfold szC; rw [if_neg hn0]
  rw [hs0]
  clear hs0
  by_cases hn1 : left - (costAtom x.atom : Nat) - (x.op.size : Nat) < 0
  · have H := Lib.hid (show szC (costLit x) left = -1 by rw [hct.out]; unfold szC; rw [if_pos (by omega)])
    go_wp2_with fail
    go_ret
    exact ⟨ret_int (by rw [H.out]), hB0'⟩
  go_wp2_with fail
  refine (sz_Nodes A4 c4 x.left _ _ F.out.2.2.2.2.1 (s4.to_ hB0') (by omega) (by omega)).mono ?_
  rintro e w2 ⟨rfl, hb2⟩
  have hB2' := below_next hB0' hb2 rfl rfl
  clear p0_0 p0_1 p0_2 p0_3 p0_4 p0_5
  have P2 := hP0.out.below hb2 hP0.out.lt
  have p2_0 : w2.cell? ⟨w.heap.size, 0, none⟩ = some (.int .i64 x.k) := P2.cell 0
  have p2_1 : w2.cell? ⟨w.heap.size, 1, none⟩ = some (.string x.atom.name) := P2.cell 1
  have p2_2 : w2.cell? ⟨w.heap.size, 2, none⟩ = some (.slice A2 x.atom.args.length c2) := P2.cell 2
  have p2_3 : w2.cell? ⟨w.heap.size, 3, none⟩ = some (.string x.op) := P2.cell 3
  have p2_4 : w2.cell? ⟨w.heap.size, 4, none⟩ = some (.slice A4 x.left.length c4) := P2.cell 4
  have p2_5 : w2.cell? ⟨w.heap.size, 5, none⟩ = some (.slice A5 x.right.length c5) := P2.cell 5
  have hP2 := Lib.hid P2
  clear P2
  by_cases hn2 : left - (costAtom x.atom : Nat) - (x.op.size : Nat) - (costNodes x.left : Nat) < 0
  · have hs : szC (costNodes x.left) (left - (costAtom x.atom : Nat) - (x.op.size : Nat)) = -1 := by unfold szC; rw [if_pos hn2]
    have H := Lib.hid (show szC (costLit x) left = -1 by rw [hct.out]; unfold szC; rw [if_pos (by omega)])
    rw [hs]
    clear hs
    go_wp2_with fail
    go_ret
    exact ⟨ret_int (by rw [H.out]), hB2'⟩
  have hs2 : szC (costNodes x.left) (left - (costAtom x.atom : Nat) - (x.op.size : Nat)) = left - (costAtom x.atom : Nat) - (x.op.size : Nat) - (costNodes x.left : Nat) := by unfold szC; rw [if_neg hn2]
  rw [hs2]
  clear hs2
  go_wp2_with fail
  refine (sz_Nodes A5 c5 x.right _ _ F.out.2.2.2.2.2 (s5.to_ hB2') (by omega) (by omega)).mono ?_
  rintro e w3 ⟨rfl, hb3⟩
  have hB3' := below_next hB2' hb3 rfl rfl
  clear p2_0 p2_1 p2_2 p2_3 p2_4 p2_5
  by_cases hn3 : left - (costAtom x.atom : Nat) - (x.op.size : Nat) - (costNodes x.left : Nat) - (costNodes x.right : Nat) < 0
  · have hs : szC (costNodes x.right) (left - (costAtom x.atom : Nat) - (x.op.size : Nat) - (costNodes x.left : Nat)) = -1 := by unfold szC; rw [if_pos hn3]
    have H := Lib.hid (show szC (costLit x) left = -1 by rw [hct.out]; unfold szC; rw [if_pos (by omega)])
    rw [hs]
    clear hs
    go_wp2_with fail
    go_ret
    exact ⟨ret_int (by rw [H.out]), hB3'⟩
  have hs3 : szC (costNodes x.right) (left - (costAtom x.atom : Nat) - (x.op.size : Nat) - (costNodes x.left : Nat)) = left - (costAtom x.atom : Nat) - (x.op.size : Nat) - (costNodes x.left : Nat) - (costNodes x.right : Nat) := by unfold szC; rw [if_neg hn3]
  rw [hs3]
  clear hs3
  have H := Lib.hid (show szC (costLit x) left = left - (costAtom x.atom : Nat) - (x.op.size : Nat) - (costNodes x.left : Nat) - (costNodes x.right : Nat) by rw [hct.out]; unfold szC; rw [if_neg (by omega)] <;> omega)
  go_wp2_with fail
  go_ret
  exact ⟨ret_int (by rw [H.out]), hB3'⟩

set_option maxHeartbeats 1600000 in
theorem sz_Lits {lo : Nat} (A : Option Addr) (c : Nat) (xs : List (GLit)) (left : Int) (w : World) (hf : fitLits xs) (hr : LitsAt w lo w.heap.size A xs) (h0 : 0 ≤ left) (h1 : left ≤ 1048576) :
    Calls Try.prog 15 #[.slice A xs.length c, .int .i64 left] w fun e w' => e = .returned (.int .i64 (szC (costLits xs) left)) ∧ Below w.heap.size w w' := by
  have hl : xs.length ≤ 9223372036854775807 := by have h := hf.1; unfold maxLen at h; exact h
  have FX := Lib.hid hf.2
  clear hf
  have hct := Lib.hid (show costLits xs = xs.length + sumC costLit xs from rfl)
  have HR := Lib.hid hr
  clear hr
  by_cases hlen : left - xs.length < 0
  · have H := Lib.hid (show szC (costLits xs) left = -1 by rw [hct.out]; unfold szC; rw [if_pos (by omega)])
    go_enter Try.func15, Try.ntmps15
    go_wp2_with fail
    go_ret
    exact ⟨ret_int (by rw [H.out]), Below.refl _ _⟩
  go_enter Try.func15, Try.ntmps15
  go_wp2_with fail
  go_loopw [1, 5] (fun l i w' => ∃ k : Nat, k ≤ xs.length ∧ i = .int .i64 k ∧ l = .int .i64 (left - xs.length - (sumC costLit (xs.take k) : Nat)) ∧ 0 ≤ left - xs.length - (sumC costLit (xs.take k) : Nat) ∧ Below w.heap.size w w') (fun _ i _ => xs.length - (intOf i).toNat)
  case atStart => exact ⟨0, Nat.zero_le _, rfl, by simp [sumC], by simp [sumC]; omega, Below.refl _ _⟩
  case round =>
    obtain ⟨k, hk, rfl, rfl, hp, hB⟩ := hrel
    by_cases hlt : k < xs.length
    · obtain ⟨g, o, rfl, hg0, hg, he⟩ := (HR.out.to_ hB).at_ hlt
      have hst := Lib.hid (sumC_take costLit xs k hlt)
      have htot := sumC_le costLit xs (k + 1)
      have hm := FX.out _ (List.getElem_mem hlt)
      have hi1 : (k : Int) < (xs.length : Int) := by omega
      have hi0 : (0 : Int) ≤ (k : Int) := by omega
      obtain ⟨h0x, h1x, h2x, h3x, h4x, h5x⟩ := he
      obtain ⟨A2, c2, h2y, s2⟩ := h2x
      obtain ⟨A4, c4, ⟨h4y, q4⟩, s4⟩ := h4x
      obtain ⟨A5, c5, ⟨h5y, q5⟩, s5⟩ := h5x
      go_wp2_with fail
      refine (sz_Lit xs[k] A2 c2 A4 c4 A5 c5 _ _ hm s2 s4 s5 hp (by omega)).mono ?_
      rintro e w2 ⟨rfl, hb2⟩
      have hB2 := below_next hB hb2 rfl rfl
      clear h0x h1x h2y h3x h4y h5y
      by_cases hneg : left - xs.length - (sumC costLit (xs.take k) : Nat) - (costLit xs[k] : Nat) < 0
      · have hs : szC (costLit xs[k]) (left - xs.length - (sumC costLit (xs.take k) : Nat)) = -1 := by unfold szC; rw [if_pos hneg]
        have H := Lib.hid (show szC (costLits xs) left = -1 by have := hst.out; rw [hct.out]; unfold szC; rw [if_pos (by omega)])
        rw [hs]
        clear hs
        go_wp2_with fail
        go_ret
        exact ⟨ret_int (by rw [H.out]), hB2⟩
      · have hs : szC (costLit xs[k]) (left - xs.length - (sumC costLit (xs.take k) : Nat)) = left - xs.length - (sumC costLit (xs.take (k + 1)) : Nat) := by have := hst.out; unfold szC; rw [if_neg hneg]; omega
        have hp2 : 0 ≤ left - xs.length - (sumC costLit (xs.take (k + 1)) : Nat) := by have := hst.out; omega
        rw [hs]
        clear hs
        go_wp2_with fail
        go_roundw
        case rel => exact ⟨k + 1, by omega, by go_num, rfl, hp2, hB2⟩
        case measure => simp [intOf]; omega
    · have H := Lib.hid (show szC (costLits xs) left = left - xs.length - (sumC costLit (xs.take k) : Nat) by
        rw [List.take_of_length_le (by omega)] at hp ⊢
        rw [hct.out]; unfold szC; rw [if_neg (by omega)]; omega)
      have hi1 : ¬ (k : Int) < (xs.length : Int) := by omega
      go_wp2_with fail
      go_ret
      exact ⟨ret_int (by rw [H.out]), hB⟩

set_option maxHeartbeats 1600000 in
theorem sz_Rule {lo : Nat} (x : GRule) (A1 : Option Addr) (c1 : Nat) (A2 : Option Addr) (c2 : Nat) (A3 : Option Addr) (c3 : Nat) (left : Int) (w : World) (hf : fitRule x) (s1 : NodeSsAt w lo w.heap.size A1 x.head.args) (s2 : StrsAt w lo w.heap.size A2 x.aggs) (s3 : LitsAt w lo w.heap.size A3 x.body) (h0 : 0 ≤ left) (h1 : left ≤ 1048576) :
    Calls Try.prog 4 #[.agg #[.string x.head.name, .slice A1 x.head.args.length c1, .slice A2 x.aggs.length c2, .slice A3 x.body.length c3], .int .i64 left] w fun e w' => e = .returned (.int .i64 (szC (costRule x) left)) ∧ Below w.heap.size w w' := by
  have F := Lib.hid hf
  clear hf
  have m0 : x.head.name.size ≤ 9223372036854775807 := by have h := F.out.1; unfold maxLen at h; exact h
  have hct := Lib.hid (show costRule x = costAtom x.head + costStrs x.aggs + costLits x.body from rfl)
  have hB0 : Below w.heap.size w (w.alloc (.cells #[.string x.head.name, .slice A1 x.head.args.length c1, .slice A2 x.aggs.length c2, .slice A3 x.body.length c3] 28)) := (Below.refl _ _).alloc (Nat.le_refl _) _
  have hP := Lib.hid (Whole.new w 28 [.string x.head.name, .slice A1 x.head.args.length c1, .slice A2 x.aggs.length c2, .slice A3 x.body.length c3])
  go_enter Try.func4, Try.ntmps4
  go_wp2_with fail
  refine (sz_Atom x.head A1 c1 _ _ ⟨F.out.1, F.out.2.1⟩ (s1.to_ hB0) (by omega) (by omega)).mono ?_
  rintro e w0 ⟨rfl, hb0⟩
  have hB0' := below_next hB0 hb0 rfl rfl
  have P0 := hP.out.below hb0 hP.out.lt
  have p0_0 : w0.cell? ⟨w.heap.size, 0, none⟩ = some (.string x.head.name) := P0.cell 0
  have p0_1 : w0.cell? ⟨w.heap.size, 1, none⟩ = some (.slice A1 x.head.args.length c1) := P0.cell 1
  have p0_2 : w0.cell? ⟨w.heap.size, 2, none⟩ = some (.slice A2 x.aggs.length c2) := P0.cell 2
  have p0_3 : w0.cell? ⟨w.heap.size, 3, none⟩ = some (.slice A3 x.body.length c3) := P0.cell 3
  have hP0 := Lib.hid P0
  clear P0
  by_cases hn0 : left - (costAtom x.head : Nat) < 0
  · have hs : szC (costAtom x.head) (left) = -1 := by unfold szC; rw [if_pos hn0]
    have H := Lib.hid (show szC (costRule x) left = -1 by rw [hct.out]; unfold szC; rw [if_pos (by omega)])
    rw [hs]
    clear hs
    go_wp2_with fail
    go_ret
    exact ⟨ret_int (by rw [H.out]), hB0'⟩
  have hs0 : szC (costAtom x.head) (left) = left - (costAtom x.head : Nat) := by unfold szC; rw [if_neg hn0]
  rw [hs0]
  clear hs0
  go_wp2_with fail
  refine (sz_Strs A2 c2 x.aggs _ _ F.out.2.2.1 (s2.to_ hB0') (by omega) (by omega)).mono ?_
  rintro e w1 ⟨rfl, hb1⟩
  have hB1' := below_next hB0' hb1 rfl rfl
  clear p0_0 p0_1 p0_2 p0_3
  have P1 := hP0.out.below hb1 hP0.out.lt
  have p1_0 : w1.cell? ⟨w.heap.size, 0, none⟩ = some (.string x.head.name) := P1.cell 0
  have p1_1 : w1.cell? ⟨w.heap.size, 1, none⟩ = some (.slice A1 x.head.args.length c1) := P1.cell 1
  have p1_2 : w1.cell? ⟨w.heap.size, 2, none⟩ = some (.slice A2 x.aggs.length c2) := P1.cell 2
  have p1_3 : w1.cell? ⟨w.heap.size, 3, none⟩ = some (.slice A3 x.body.length c3) := P1.cell 3
  have hP1 := Lib.hid P1
  clear P1
  by_cases hn1 : left - (costAtom x.head : Nat) - (costStrs x.aggs : Nat) < 0
  · have hs : szC (costStrs x.aggs) (left - (costAtom x.head : Nat)) = -1 := by unfold szC; rw [if_pos hn1]
    have H := Lib.hid (show szC (costRule x) left = -1 by rw [hct.out]; unfold szC; rw [if_pos (by omega)])
    rw [hs]
    clear hs
    go_wp2_with fail
    go_ret
    exact ⟨ret_int (by rw [H.out]), hB1'⟩
  have hs1 : szC (costStrs x.aggs) (left - (costAtom x.head : Nat)) = left - (costAtom x.head : Nat) - (costStrs x.aggs : Nat) := by unfold szC; rw [if_neg hn1]
  rw [hs1]
  clear hs1
  go_wp2_with fail
  refine (sz_Lits A3 c3 x.body _ _ F.out.2.2.2 (s3.to_ hB1') (by omega) (by omega)).mono ?_
  rintro e w2 ⟨rfl, hb2⟩
  have hB2' := below_next hB1' hb2 rfl rfl
  clear p1_0 p1_1 p1_2 p1_3
  by_cases hn2 : left - (costAtom x.head : Nat) - (costStrs x.aggs : Nat) - (costLits x.body : Nat) < 0
  · have hs : szC (costLits x.body) (left - (costAtom x.head : Nat) - (costStrs x.aggs : Nat)) = -1 := by unfold szC; rw [if_pos hn2]
    have H := Lib.hid (show szC (costRule x) left = -1 by rw [hct.out]; unfold szC; rw [if_pos (by omega)])
    rw [hs]
    clear hs
    go_wp2_with fail
    go_ret
    exact ⟨ret_int (by rw [H.out]), hB2'⟩
  have hs2 : szC (costLits x.body) (left - (costAtom x.head : Nat) - (costStrs x.aggs : Nat)) = left - (costAtom x.head : Nat) - (costStrs x.aggs : Nat) - (costLits x.body : Nat) := by unfold szC; rw [if_neg hn2]
  rw [hs2]
  clear hs2
  have H := Lib.hid (show szC (costRule x) left = left - (costAtom x.head : Nat) - (costStrs x.aggs : Nat) - (costLits x.body : Nat) by rw [hct.out]; unfold szC; rw [if_neg (by omega)] <;> omega)
  go_wp2_with fail
  go_ret
  exact ⟨ret_int (by rw [H.out]), hB2'⟩

end Go.Proofs.Ytmbdccbgcobflaa
