/-
  spec.VarsOf.
-/
import Derived.Test.YtmbdccbgcobflaaSVars
namespace Go.Proofs.Ytmbdccbgcobflaa
open Go.RowKit Go.Sort
set_option linter.unusedVariables false

def varsB (x : GLit) : List ByteArray := varsA x.atom.args ++ varsL x.left ++ varsL x.right
def varsR (x : GRule) : List ByteArray := varsA x.head.args ++ x.body.flatMap varsB
theorem varsB_snoc (es : List GLit) (k : Nat) (h : k < es.length) : (es.take (k + 1)).flatMap varsB = (es.take k).flatMap varsB ++ varsB es[k] := by
  rw [List.take_succ_eq_append_getElem h, List.flatMap_append]; simp
theorem varsB_length (xs : List GLit) : (xs.flatMap varsB).length ≤ sumC costLit xs := by
  unfold sumC
  induction xs with
  | nil => simp
  | cons x r ih =>
    simp only [List.flatMap_cons, List.length_append, List.map_cons, List.sum_cons]
    have h1 := varsA_length x.atom.args
    have h2 := varsL_length x.left
    have h3 := varsL_length x.right
    have h4 : (varsB x).length ≤ costLit x := by
      unfold varsB costLit costAtom costNodeSs costNodes
      simp only [List.length_append]
      omega
    omega
set_option maxRecDepth 100000 in
set_option maxHeartbeats 3200000 in
theorem spec_varsOf {lo : Nat} (x : GRule) (A1 : Option Addr) (c1 : Nat) (A2 : Option Addr) (c2 : Nat) (A3 : Option Addr) (c3 : Nat) (w : World) (hk : costRule x ≤ 1048576) (s1 : NodeSsAt w lo w.heap.size A1 x.head.args) (s3 : LitsAt w lo w.heap.size A3 x.body) :
    Calls Try.prog 5 #[.agg #[.string x.head.name, .slice A1 x.head.args.length c1, .slice A2 x.aggs.length c2, .slice A3 x.body.length c3]] w (VarsPost w (addAll [] (varsR x))) := by
  have hB0 : Below w.heap.size w (w.alloc (.cells #[.string x.head.name, .slice A1 x.head.args.length c1, .slice A2 x.aggs.length c2, .slice A3 x.body.length c3] 36)) := (Below.refl _ _).alloc (Nat.le_refl _) _
  have hP := Lib.hid (Whole.new w 36 [.string x.head.name, .slice A1 x.head.args.length c1, .slice A2 x.aggs.length c2, .slice A3 x.body.length c3])
  unfold costRule at hk
  have hkh : costAtom x.head ≤ 1048576 := by omega
  have hbl : x.body.length ≤ 1048576 := by unfold costLits at hk; omega
  have HK := Lib.hid hk
  have HS3 := Lib.hid s3
  clear hk s3
  go_enter Try.func5, Try.ntmps5
  go_wp2_with fail
  have hb1 : Below (w.alloc (.cells #[.string x.head.name, .slice A1 x.head.args.length c1, .slice A2 x.aggs.length c2, .slice A3 x.body.length c3] 36)).heap.size (w.alloc (.cells #[.string x.head.name, .slice A1 x.head.args.length c1, .slice A2 x.aggs.length c2, .slice A3 x.body.length c3] 36)) ((w.alloc (.cells #[.string x.head.name, .slice A1 x.head.args.length c1, .slice A2 x.aggs.length c2, .slice A3 x.body.length c3] 36)).alloc (.cells #[] 9)) := (Below.refl _ _).alloc (Nat.le_refl _) _
  have hB1 := below_next hB0 hb1 rfl rfl
  have hP1 := Lib.hid (hP.out.below hb1 hP.out.lt)
  have hv0 : SL ((w.alloc (.cells #[.string x.head.name, .slice A1 x.head.args.length c1, .slice A2 x.aggs.length c2, .slice A3 x.body.length c3] 36)).alloc (.cells #[] 9)) (.slice (some ⟨w.heap.size + 1, 0, none⟩) 0 0) [] := ⟨_, _, 0, rfl, ⟨Nat.le_refl _, Nat.zero_le _⟩, by simp, fun i x hx => by simp at hx⟩
  refine (spec_atomVars x.head A1 c1 _ [] _ (by unfold costAtom at hkh; simp; omega) (s1.to_ hB1) hv0).mono ?_
  rintro e w2 ⟨v2, rfl, hS2, hb2⟩
  have hB2 := below_next hB1 hb2 rfl rfl
  have hP2 := Lib.hid (hP1.out.below hb2 hP1.out.lt)
  have HS2 := Lib.hid hS2
  clear hS2 hv0 hb1 hb2
  go_wp2_with fail
  go_loopw [3, 4] (fun out i w' => ∃ (k : Nat) (L : List ByteArray), k ≤ x.body.length ∧ i = .int .i64 k ∧ Hid (L = addAll [] (varsA x.head.args ++ (x.body.take k).flatMap varsB)) ∧ Hid (SL w' out L) ∧ Hid (Whole w' w.heap.size 36 [.string x.head.name, .slice A1 x.head.args.length c1, .slice A2 x.aggs.length c2, .slice A3 x.body.length c3]) ∧ Below w.heap.size w w') (fun _ i _ => x.body.length - (intOf i).toNat)
  case atStart => exact ⟨0, _, Nat.zero_le _, rfl, Lib.hid (by simp), HS2, hP2, hB2⟩
  case round =>
    obtain ⟨k, L, hk, rfl, hL, hS, hPr, hB⟩ := hrel
    have p3 : wr.cell? ⟨w.heap.size, 3, none⟩ = some (.slice A3 x.body.length c3) := hPr.out.cell 3
    by_cases hlt : k < x.body.length
    · obtain ⟨g, o, rfl, hg0, hg, h0, h1, ⟨B2, d2, h2y, t2⟩, h3, ⟨B4, d4, ⟨h4y, q4⟩, t4⟩, ⟨B5, d5, ⟨h5y, q5⟩, t5⟩⟩ := (HS3.out.to_ hB).at_ hlt
      have hi0 : (0 : Int) ≤ (k : Int) := by omega
      have hi1 : (k : Int) < (x.body.length : Int) := by omega
      have hst := Lib.hid (show addAll (addAll (addAll L (varsA x.body[k].atom.args)) (varsL x.body[k].left)) (varsL x.body[k].right) = addAll [] (varsA x.head.args ++ (x.body.take (k + 1)).flatMap varsB) by rw [varsB_snoc x.body k hlt, ← List.append_assoc, addAll_append, ← hL.out, varsB, addAll_append, addAll_append])
      have hbd : L.length + costNodeSs x.body[k].atom.args + x.body[k].left.length + x.body[k].right.length ≤ 1048576 := by
        have h1 := HK.out
        have h2 := addAll_length (varsA x.head.args ++ (x.body.take k).flatMap varsB) []
        rw [← hL.out, List.length_append] at h2
        have h3 := varsA_length x.head.args
        have h4 := varsB_length (x.body.take k)
        have h5 := sumC_take costLit x.body k hlt
        have h6 := sumC_le costLit x.body (k + 1)
        have h7 : costLit x.body[k] = x.body[k].atom.name.size + costNodeSs x.body[k].atom.args + x.body[k].op.size + costNodes x.body[k].left + costNodes x.body[k].right := by unfold costLit costAtom; omega
        have h8 : x.body[k].left.length ≤ costNodes x.body[k].left := by unfold costNodes; omega
        have h9 : x.body[k].right.length ≤ costNodes x.body[k].right := by unfold costNodes; omega
        have h10 : costAtom x.head = x.head.name.size + costNodeSs x.head.args := rfl
        have h11 : sumC costNodeS x.head.args ≤ costNodeSs x.head.args := by unfold costNodeSs; omega
        have h12 : costLits x.body = x.body.length + sumC costLit x.body := rfl
        rw [List.length_nil, Nat.zero_add] at h2
        omega
      go_wp2_with fail
      refine (spec_atomVars x.body[k].atom B2 d2 _ L _ (by omega) t2 hS.out).mono ?_
      rintro e w3 ⟨v3, rfl, hS3, hb3⟩
      have hB3 := below_next hB hb3 rfl rfl
      have hP3 := Lib.hid (hPr.out.below hb3 hPr.out.lt)
      have hl3 : (addAll L (varsA x.body[k].atom.args)).length ≤ L.length + costNodeSs x.body[k].atom.args := by
        have h1 := addAll_length (varsA x.body[k].atom.args) L
        have h2 := varsA_length x.body[k].atom.args
        unfold costNodeSs
        omega
      generalize addAll L (varsA x.body[k].atom.args) = L3 at hS3 hst hl3
      clear h0 h1 h2y h3 h4y h5y p3
      have p3 : w3.cell? ⟨w.heap.size, 3, none⟩ = some (.slice (some ⟨g, o, none⟩) x.body.length c3) := hP3.out.cell 3
      obtain ⟨g', o', he', _, _, _, _, _, _, ⟨C4, f4, ⟨h4y, _⟩, u4⟩, _⟩ := (HS3.out.to_ hB3).at_ hlt
      cases he'
      go_wp2_with fail
      refine (spec_vars C4 f4 x.body[k].left _ L3 _ (by omega) u4 hS3).mono ?_
      rintro e w4 ⟨v4, rfl, hS4, hb4⟩
      have hB4 := below_next hB3 hb4 rfl rfl
      have hP4 := Lib.hid (hP3.out.below hb4 hP3.out.lt)
      have hl4 : (addAll L3 (varsL x.body[k].left)).length ≤ L3.length + x.body[k].left.length := by
        have h1 := addAll_length (varsL x.body[k].left) L3
        have h2 := varsL_length x.body[k].left
        omega
      generalize addAll L3 (varsL x.body[k].left) = L4 at hS4 hst hl4
      clear h4y p3
      have p3 : w4.cell? ⟨w.heap.size, 3, none⟩ = some (.slice (some ⟨g, o, none⟩) x.body.length c3) := hP4.out.cell 3
      obtain ⟨g', o', he', _, _, _, _, _, _, _, ⟨C5, f5, ⟨h5y, _⟩, u5⟩⟩ := (HS3.out.to_ hB4).at_ hlt
      cases he'
      go_wp2_with fail
      refine (spec_vars C5 f5 x.body[k].right _ L4 _ (by omega) u5 hS4).mono ?_
      rintro e w5 ⟨v5, rfl, hS5, hb5⟩
      have hB5 := below_next hB4 hb5 rfl rfl
      have hP5 := Lib.hid (hP4.out.below hb5 hP4.out.lt)
      have HS5 := Lib.hid hS5
      clear h5y p3 hS5
      go_wp2_with fail
      go_roundw
      case rel => exact ⟨k + 1, _, by omega, by go_num, hst, HS5, hP5, hB5⟩
      case measure => simp [intOf]; omega
    · have hi1 : ¬ (k : Int) < (x.body.length : Int) := by omega
      have HX := Lib.hid (show L = addAll [] (varsR x) by have h := hL.out; rwa [List.take_of_length_le (by omega)] at h)
      go_wp2_with fail
      go_ret
      exact ⟨_, rfl, by rw [← HX.out]; exact hS.out, hB⟩
end Go.Proofs.Ytmbdccbgcobflaa
