/-
  spec.l2RuleOk.
-/
import Derived.Test.YtbfcolmglbeefaaGreatSpecLit
import Derived.Test.YtbfcolmglbeefaaGreatRuleOk
namespace Go.Proofs.YtbfcolmglbeefaaGreat
open Go.RowKit Go.Sort
set_option linter.unusedVariables false

theorem sp_lit_is {lo : Nat} (b : Bool) (x : GLit) (A2 : Option Addr) (c2 : Nat) (A4 : Option Addr) (c4 : Nat) (A5 : Option Addr) (c5 : Nat) (w : World) (h : litB x = b) (hf : fitLit x) (hk : costLit x ≤ 1048576) (s2 : NodeSsAt w lo w.heap.size A2 x.atom.args) (q4 : CapOk x.left.length c4) (s4 : NodesAt w lo w.heap.size A4 x.left) (q5 : CapOk x.right.length c5) (s5 : NodesAt w lo w.heap.size A5 x.right) :
    Calls Tryz.prog 27 #[.agg #[.int .i64 x.k, .string x.atom.name, .slice A2 x.atom.args.length c2, .string x.op, .slice A4 x.left.length c4, .slice A5 x.right.length c5]] w fun e w' => e = .returned (.bool b) ∧ Below w.heap.size w w' := by subst h; exact sp_lit x A2 c2 A4 c4 A5 c5 w hf hk s2 q4 s4 q5 s5
set_option maxRecDepth 100000 in
set_option maxHeartbeats 3200000 in
theorem sp_rule {lo : Nat} (x : GRule) (A1 : Option Addr) (c1 : Nat) (A2 : Option Addr) (c2 : Nat) (A3 : Option Addr) (c3 : Nat) (w : World) (hf : fitRule x) (hk : costRule x ≤ 1048576) (s1 : NodeSsAt w lo w.heap.size A1 x.head.args) (s2 : StrsAt w lo w.heap.size A2 x.aggs) (s3 : LitsAt w lo w.heap.size A3 x.body) :
    Calls Tryz.prog 12 #[.agg #[.string x.head.name, .slice A1 x.head.args.length c1, .slice A2 x.aggs.length c2, .slice A3 x.body.length c3]] w fun e w' => e = .returned (.bool (ruleB x)) ∧ Below w.heap.size w w' := by
  have hB0 : Below w.heap.size w (w.alloc (.cells #[.string x.head.name, .slice A1 x.head.args.length c1, .slice A2 x.aggs.length c2, .slice A3 x.body.length c3] 47)) := (Below.refl _ _).alloc (Nat.le_refl _) _
  have hP := Lib.hid (Whole.new w 47 [.string x.head.name, .slice A1 x.head.args.length c1, .slice A2 x.aggs.length c2, .slice A3 x.body.length c3])
  obtain ⟨f0, f1, f2, f3⟩ := hf
  unfold costRule at hk
  have hkb : costLits x.body ≤ 1048576 := by omega
  have hka : x.aggs.length ≤ 1048576 := by unfold costStrs at hk; omega
  have hkr : x.head.args.length ≤ 1048576 := by unfold costAtom costNodeSs at hk; omega
  have hkh : costAtom x.head ≤ 1048576 := by omega
  have hbl : x.body.length ≤ 1048576 := by unfold costLits at hkb; omega
  clear hk
  obtain ⟨b1, hb1⟩ : ∃ b, atomB x.head = b := ⟨_, rfl⟩
  have H1 := Lib.hid hb1
  clear hb1
  have HAT := Lib.hid (sp_atom_is b1 x.head A1 c1 _ H1.out ⟨f0, f1⟩ hkh (s1.to_ hB0))
  cases b1 with
  | false =>
    have H := Lib.hid (show ruleB x = false by unfold ruleB; rw [H1.out]; rfl)
    go_enter Tryz.func12, Tryz.ntmps12
    go_wp2_with fail
    refine HAT.out.mono ?_
    rintro e w1 ⟨rfl, hb1⟩
    have hB1 := below_next hB0 hb1 rfl rfl
    go_wp2_with fail
    go_ret
    exact ⟨ret_bool (by rw [H.out]), hB1⟩
  | true =>
    by_cases hlen : (x.aggs.length : Int) = x.head.args.length
    · by_cases h12 : (12 : Int) < (x.body.length : Int)
      · have H := Lib.hid (show ruleB x = false by unfold ruleB; rw [decide_eq_false (show ¬ x.body.length ≤ 12 by omega)]; simp)
        have hd : (((x.aggs.length : Int) != (x.head.args.length : Int)) = false) := by simpa using hlen
        clear hlen
        go_enter Tryz.func12, Tryz.ntmps12
        go_wp2_with fail
        refine HAT.out.mono ?_
        rintro e w1 ⟨rfl, hb1⟩
        have hB1 := below_next hB0 hb1 rfl rfl
        have P1 := hP.out.below hb1 hP.out.lt
        have p1 : w1.cell? ⟨w.heap.size, 1, none⟩ = some (.slice A1 x.head.args.length c1) := P1.cell 1
        have p2 : w1.cell? ⟨w.heap.size, 2, none⟩ = some (.slice A2 x.aggs.length c2) := P1.cell 2
        have p3 : w1.cell? ⟨w.heap.size, 3, none⟩ = some (.slice A3 x.body.length c3) := P1.cell 3
        clear P1
        go_wp2_with fail
        go_ret
        exact ⟨ret_bool (by rw [H.out]), hB1⟩
      · have hN := Lib.hid (show ruleB x = (aggsAll x.aggs x.head.args x.aggs.length && decide (sumC aggOn x.aggs ≤ 1) && x.body.all litB) by unfold ruleB aggsB; rw [H1.out, decide_eq_true (show x.aggs.length = x.head.args.length by omega), decide_eq_true (show x.body.length ≤ 12 by omega)]; simp)
        have HL := Lib.hid (show x.aggs.length = x.head.args.length by omega)
        have hd : (((x.aggs.length : Int) != (x.head.args.length : Int)) = false) := by simpa using hlen
        have h12d : decide ((12 : Int) < (x.body.length : Int)) = false := by simpa using h12
        have HNE := Lib.hid (atomB_ne x.head H1.out)
        have HS1 := Lib.hid s1
        have HS2 := Lib.hid s2
        have HS3 := Lib.hid s3
        clear s1 s2 s3 hlen
        go_enter Tryz.func12, Tryz.ntmps12
        go_wp2_with fail
        refine HAT.out.mono ?_
        rintro e w1 ⟨rfl, hb1⟩
        have hB1 := below_next hB0 hb1 rfl rfl
        have P1 := hP.out.below hb1 hP.out.lt
        have p1 : w1.cell? ⟨w.heap.size, 1, none⟩ = some (.slice A1 x.head.args.length c1) := P1.cell 1
        have p2 : w1.cell? ⟨w.heap.size, 2, none⟩ = some (.slice A2 x.aggs.length c2) := P1.cell 2
        have p3 : w1.cell? ⟨w.heap.size, 3, none⟩ = some (.slice A3 x.body.length c3) := P1.cell 3
        have hP1 := Lib.hid P1
        clear P1
        go_wp2_with fail
        clear p1 p2 p3 HAT
        go_loopw [3, 4] (fun n i w' => ∃ k : Nat, k ≤ x.aggs.length ∧ i = .int .i64 k ∧ n = .int .i64 (sumC aggOn (x.aggs.take k) : Nat) ∧ sumC aggOn (x.aggs.take k) ≤ k ∧ Hid (aggsAll x.aggs x.head.args k = true) ∧ Hid (Whole w' w.heap.size 47 [.string x.head.name, .slice A1 x.head.args.length c1, .slice A2 x.aggs.length c2, .slice A3 x.body.length c3]) ∧ Below w.heap.size w w') (fun n i _ => x.aggs.length - (intOf i).toNat)
        case atStart => exact ⟨0, Nat.zero_le _, rfl, rfl, by simp [sumC], Lib.hid rfl, hP1, hB1⟩
        case round =>
          obtain ⟨k, hk, rfl, rfl, hn, hal, hPr, hBr⟩ := hrel
          have p1 : wr.cell? ⟨w.heap.size, 1, none⟩ = some (.slice A1 x.head.args.length c1) := hPr.out.cell 1
          have p2 : wr.cell? ⟨w.heap.size, 2, none⟩ = some (.slice A2 x.aggs.length c2) := hPr.out.cell 2
          have p3 : wr.cell? ⟨w.heap.size, 3, none⟩ = some (.slice A3 x.body.length c3) := hPr.out.cell 3
          by_cases hlt : k < x.aggs.length
          · have hlt' : k < x.head.args.length := by have := HL.out; omega
            obtain ⟨g, o, rfl, hg0, hg, he⟩ := (HS2.out.to_ hBr).at_ hlt
            have h0 : wr.cell? ⟨g, o + k, none⟩ = some (.string x.aggs[k]) := he
            clear he
            obtain ⟨g', o', rfl, hg0', hg', A0, c0, ⟨h0y, _⟩, s0⟩ := (HS1.out.to_ hBr).at_ hlt'
            have hpos : 0 < x.head.args[k].length := List.length_pos_iff.2 (HNE.out _ (List.getElem_mem hlt'))
            obtain ⟨g1, o1, rfl, hg10, hg1, hn0, _⟩ := s0.at_ hpos
            rw [Nat.zero_mul, Nat.add_zero] at hn0
            have hfk := Lib.hid (show firstK x.head.args[k] = x.head.args[k][0].k by
              generalize x.head.args[k] = es at hpos
              cases es with
              | nil => simp at hpos
              | cons a l => rfl)
            have hi0 : (0 : Int) ≤ (k : Int) := by omega
            have hi1 : (k : Int) < (x.aggs.length : Int) := by omega
            have hi2 : (k : Int) < (x.head.args.length : Int) := by omega
            have hi3 : (0 : Int) < (x.head.args[k].length : Int) := by omega
            have hsum := Lib.hid (sumC_take aggOn x.aggs k hlt)
            have hsn := Lib.hid (aggsAll_succ x.aggs x.head.args k hlt hlt')
            have hbad := Lib.hid (aggsAll_bad x.aggs x.head.args k hlt hlt')
            by_cases ha : (x.aggs[k].toList == []) = true
            · have hg2 := Lib.hid (show aggsAll x.aggs x.head.args (k + 1) = true by rw [hsn.out, hal.out, aggGood, isT, ha]; rfl)
              have hs2 := Lib.hid (show sumC aggOn (x.aggs.take (k + 1)) = sumC aggOn (x.aggs.take k) by rw [hsum.out, aggOn, isT, ha]; rfl)
              go_wp2_with fail
              go_roundw
              case rel => exact ⟨k + 1, by omega, by go_num, by rw [hs2.out], by rw [hs2.out]; omega, hg2, hPr, hBr⟩
              case measure => simp [intOf]; omega
            · rw [Bool.not_eq_true] at ha
              obtain ⟨b, hb⟩ : ∃ b, aggB x.aggs[k] = b := ⟨_, rfl⟩
              have HB := Lib.hid hb
              clear hb
              cases b with
              | false =>
                have H := Lib.hid (show ruleB x = false by rw [hN.out, hbad.out (by rw [aggGood, isT, ha, HB.out]; rfl)]; rfl)
                go_wp2_with (go_at_call 26; refine (spec_agg_is false _ _ HB.out).mono ?_; rintro e w' ⟨rfl, rfl⟩)
                go_ret
                exact ⟨ret_bool (by rw [H.out]), hBr⟩
              | true =>
                have hs2 := Lib.hid (show sumC aggOn (x.aggs.take (k + 1)) = sumC aggOn (x.aggs.take k) + 1 by rw [hsum.out, aggOn, isT, ha]; rfl)
                by_cases hcn : (x.aggs[k].toList == [99, 111, 117, 110, 116]) = true
                · by_cases h6 : x.head.args[k][0].k = 6
                  · have hg2 := Lib.hid (show aggsAll x.aggs x.head.args (k + 1) = true by rw [hsn.out, hal.out, aggGood, HB.out, hfk.out, decide_eq_true h6]; simp)
                    go_wp2_with (go_at_call 26; refine (spec_agg_is true _ _ HB.out).mono ?_; rintro e w' ⟨rfl, rfl⟩)
                    go_roundw
                    case rel => exact ⟨k + 1, by omega, by go_num, by rw [hs2.out]; go_num, by rw [hs2.out]; omega, hg2, hPr, hBr⟩
                    case measure => simp [intOf]; omega
                  · have H := Lib.hid (show ruleB x = false by rw [hN.out, hbad.out (by rw [aggGood, isT, isT, ha, hcn, hfk.out, decide_eq_false h6]; simp)]; rfl)
                    go_wp2_with (go_at_call 26; refine (spec_agg_is true _ _ HB.out).mono ?_; rintro e w' ⟨rfl, rfl⟩)
                    go_ret
                    exact ⟨ret_bool (by rw [H.out]), hBr⟩
                · rw [Bool.not_eq_true] at hcn
                  have hg2 := Lib.hid (show aggsAll x.aggs x.head.args (k + 1) = true by rw [hsn.out, hal.out, aggGood, HB.out, isT, isT, hcn]; simp)
                  go_wp2_with (go_at_call 26; refine (spec_agg_is true _ _ HB.out).mono ?_; rintro e w' ⟨rfl, rfl⟩)
                  go_roundw
                  case rel => exact ⟨k + 1, by omega, by go_num, by rw [hs2.out]; go_num, by rw [hs2.out]; omega, hg2, hPr, hBr⟩
                  case measure => simp [intOf]; omega
          · have hi1 : ¬ (k : Int) < (x.aggs.length : Int) := by omega
            have hT := Lib.hid (show ruleB x = (decide (((sumC aggOn (x.aggs.take k) : Nat) : Int) ≤ 1) && x.body.all litB) by
              have hke : k = x.aggs.length := by omega
              have h := hal.out
              rw [hke] at h
              rw [hN.out, h, List.take_of_length_le (by omega), show decide (sumC aggOn x.aggs ≤ 1) = decide (((sumC aggOn x.aggs : Nat) : Int) ≤ 1) from decide_eq_decide.2 (by omega)]
              simp)
            generalize hgn : sumC aggOn (x.aggs.take k) = n at hT hn
            clear hgn hN hal
            go_wp2_with fail
            clear p1 p2 p3
            go_loopw [5] (fun i w' => ∃ m : Nat, m ≤ x.body.length ∧ i = .int .i64 m ∧ Hid ((x.body.take m).all litB = true) ∧ Hid (Whole w' w.heap.size 47 [.string x.head.name, .slice A1 x.head.args.length c1, .slice A2 x.aggs.length c2, .slice A3 x.body.length c3]) ∧ Below w.heap.size w w') (fun i _ => x.body.length - (intOf i).toNat)
            case atStart => exact ⟨0, Nat.zero_le _, rfl, Lib.hid rfl, hPr, hBr⟩
            case round =>
              obtain ⟨m, hm, rfl, hal, hPs, hBs⟩ := hrel
              have p3 : wr.cell? ⟨w.heap.size, 3, none⟩ = some (.slice A3 x.body.length c3) := hPs.out.cell 3
              by_cases hlt2 : m < x.body.length
              · obtain ⟨g, o, rfl, hg0, hg, h0, h1, ⟨B2, d2, h2y, t2⟩, h3, ⟨B4, d4, ⟨h4y, q4⟩, t4⟩, ⟨B5, d5, ⟨h5y, q5⟩, t5⟩⟩ := (HS3.out.to_ hBs).at_ hlt2
                have hj0 : (0 : Int) ≤ (m : Int) := by omega
                have hj1 : (m : Int) < (x.body.length : Int) := by omega
                have hmf : fitLit x.body[m] := f3.2 _ (List.getElem_mem hlt2)
                have hck : costLit x.body[m] ≤ 1048576 := by have h2 := sumC_mem costLit x.body _ (List.getElem_mem hlt2); unfold costLits at hkb; omega
                have hsn := Lib.hid (all_Lit_snoc x.body m hlt2)
                have hbd := Lib.hid (all_Lit_bad x.body m hlt2)
                obtain ⟨b, hbx⟩ : ∃ b, litB x.body[m] = b := ⟨_, rfl⟩
                have HBX := Lib.hid hbx
                clear hbx
                go_wp2_with fail
                refine (sp_lit_is b x.body[m] B2 d2 B4 d4 B5 d5 _ HBX.out hmf hck t2 q4 t4 q5 t5).mono ?_
                rintro e w2 ⟨rfl, hb2⟩
                have hB2 := below_next hBs hb2 rfl rfl
                have hP2 := Lib.hid (hPs.out.below hb2 hPs.out.lt)
                clear h0 h1 h2y h3 h4y h5y p3
                cases b with
                | true =>
                  have HX := Lib.hid (show (x.body.take (m + 1)).all litB = true by rw [hsn.out, hal.out, HBX.out]; rfl)
                  go_wp2_with fail
                  go_roundw
                  case rel => exact ⟨m + 1, by omega, by go_num, HX, hP2, hB2⟩
                  case measure => simp [intOf]; omega
                | false =>
                  have HX := Lib.hid (show ruleB x = false by rw [hT.out, hbd.out HBX.out]; simp)
                  go_wp2_with fail
                  go_ret
                  exact ⟨ret_bool (by rw [HX.out]), hB2⟩
              · have hj1 : ¬ (m : Int) < (x.body.length : Int) := by omega
                have HX := Lib.hid (show ruleB x = decide ((n : Int) ≤ 1) by have h := hal.out; rw [List.take_of_length_le (by omega)] at h; rw [hT.out, h]; simp)
                go_wp2_with fail
                go_ret
                exact ⟨ret_bool (by rw [HX.out]), hBs⟩
    · have H := Lib.hid (show ruleB x = false by unfold ruleB aggsB; rw [decide_eq_false (show ¬ x.aggs.length = x.head.args.length by omega)]; simp)
      have hd : (((x.aggs.length : Int) != (x.head.args.length : Int)) = true) := by simpa using hlen
      clear hlen
      go_enter Tryz.func12, Tryz.ntmps12
      go_wp2_with fail
      refine HAT.out.mono ?_
      rintro e w1 ⟨rfl, hb1⟩
      have hB1 := below_next hB0 hb1 rfl rfl
      have P1 := hP.out.below hb1 hP.out.lt
      have p1 : w1.cell? ⟨w.heap.size, 1, none⟩ = some (.slice A1 x.head.args.length c1) := P1.cell 1
      have p2 : w1.cell? ⟨w.heap.size, 2, none⟩ = some (.slice A2 x.aggs.length c2) := P1.cell 2
      clear P1
      go_wp2_with fail
      go_ret
      exact ⟨ret_bool (by rw [H.out]), hB1⟩
theorem sp_rule_is {lo : Nat} (b : Bool) (x : GRule) (A1 : Option Addr) (c1 : Nat) (A2 : Option Addr) (c2 : Nat) (A3 : Option Addr) (c3 : Nat) (w : World) (h : ruleB x = b) (hf : fitRule x) (hk : costRule x ≤ 1048576) (s1 : NodeSsAt w lo w.heap.size A1 x.head.args) (s2 : StrsAt w lo w.heap.size A2 x.aggs) (s3 : LitsAt w lo w.heap.size A3 x.body) :
    Calls Tryz.prog 12 #[.agg #[.string x.head.name, .slice A1 x.head.args.length c1, .slice A2 x.aggs.length c2, .slice A3 x.body.length c3]] w fun e w' => e = .returned (.bool b) ∧ Below w.heap.size w w' := by subst h; exact sp_rule x A1 c1 A2 c2 A3 c3 w hf hk s1 s2 s3
end Go.Proofs.YtbfcolmglbeefaaGreat
