/-
  spec.ProgramOk.
-/
import Derived.Test.YtbfcolmglbeefaaGreatSpecRule
import Derived.Test.YtbfcolmglbeefaaGreatSpecDecl
import Derived.Test.YtbfcolmglbeefaaGreatProgOk
namespace Go.Proofs.YtbfcolmglbeefaaGreat
open Go.RowKit Go.Sort
set_option linter.unusedVariables false

set_option maxRecDepth 100000 in
set_option maxHeartbeats 3200000 in
theorem sp_prog {lo : Nat} (x : GProgram) (A0 : Option Addr) (c0 : Nat) (A1 : Option Addr) (c1 : Nat) (w : World) (hf : fitProgram x) (hk : costProgram x ≤ 1048576) (s0 : DeclsAt w lo w.heap.size A0 x.decls) (s1 : RulesAt w lo w.heap.size A1 x.rules) :
    Calls Tryz.prog 5 #[.agg #[.slice A0 x.decls.length c0, .slice A1 x.rules.length c1]] w fun e w' => e = .returned (.bool (progB x)) ∧ Below w.heap.size w w' := by
  have hB0 : Below w.heap.size w (w.alloc (.cells #[.slice A0 x.decls.length c0, .slice A1 x.rules.length c1] 31)) := (Below.refl _ _).alloc (Nat.le_refl _) _
  have hP := Lib.hid (Whole.new w 31 [.slice A0 x.decls.length c0, .slice A1 x.rules.length c1])
  obtain ⟨f0, f1⟩ := hf
  unfold costProgram at hk
  have hkd : costDecls x.decls ≤ 1048576 := by omega
  have hkr : costRules x.rules ≤ 1048576 := by omega
  have hld : x.decls.length ≤ 1048576 := by unfold costDecls at hkd; omega
  have hlr : x.rules.length ≤ 1048576 := by unfold costRules at hkr; omega
  clear hk
  by_cases h40 : (40 : Int) < (x.decls.length : Int)
  · have H := Lib.hid (show progB x = false by unfold progB; rw [decide_eq_false (show ¬ x.decls.length ≤ 40 by omega)]; simp)
    go_enter Tryz.func5, Tryz.ntmps5
    go_wp2_with fail
    go_ret
    exact ⟨ret_bool (by rw [H.out]), hB0⟩
  by_cases h100 : (100 : Int) < (x.rules.length : Int)
  · have hd : decide ((40 : Int) < (x.decls.length : Int)) = false := by simpa using h40
    have H := Lib.hid (show progB x = false by unfold progB; rw [decide_eq_false (show ¬ x.rules.length ≤ 100 by omega)]; simp)
    go_enter Tryz.func5, Tryz.ntmps5
    go_wp2_with fail
    go_ret
    exact ⟨ret_bool (by rw [H.out]), hB0⟩
  have hN := Lib.hid (show progB x = (x.decls.all declB && ascB x.decls && x.rules.all ruleB) by unfold progB; rw [decide_eq_true (show x.decls.length ≤ 40 by omega), decide_eq_true (show x.rules.length ≤ 100 by omega)]; rfl)
  have hd : decide ((40 : Int) < (x.decls.length : Int)) = false := by simpa using h40
  have hd2 : decide ((100 : Int) < (x.rules.length : Int)) = false := by simpa using h100
  have HS0 := Lib.hid s0
  have HS1 := Lib.hid s1
  have FD := Lib.hid f0.2
  have FR := Lib.hid f1.2
  clear s0 s1
  go_enter Tryz.func5, Tryz.ntmps5
  go_wp2_with fail
  go_loopw [3] (fun i w' => ∃ k : Nat, k ≤ x.decls.length ∧ i = .int .i64 k ∧ Hid ((x.decls.take k).all declB = true) ∧ Hid (ascTo x.decls (k - 1) = true) ∧ Hid (Whole w' w.heap.size 31 [.slice A0 x.decls.length c0, .slice A1 x.rules.length c1]) ∧ Below w.heap.size w w') (fun i _ => x.decls.length - (intOf i).toNat)
  case atStart => exact ⟨0, Nat.zero_le _, rfl, Lib.hid rfl, Lib.hid rfl, hP, hB0⟩
  case round =>
    obtain ⟨k, hk, rfl, hal, has, hPr, hBr⟩ := hrel
    have p0 : wr.cell? ⟨w.heap.size, 0, none⟩ = some (.slice A0 x.decls.length c0) := hPr.out.cell 0
    by_cases hlt : k < x.decls.length
    · obtain ⟨g, o, rfl, hg0, hg, h0, B1, d1, h1y, t1⟩ := (HS0.out.to_ hBr).at_ hlt
      have hi0 : (0 : Int) ≤ (k : Int) := by omega
      have hi1 : (k : Int) < (x.decls.length : Int) := by omega
      have hmf : fitDecl x.decls[k] := FD.out _ (List.getElem_mem hlt)
      have hck : costDecl x.decls[k] ≤ 1048576 := by have h2 := sumC_mem costDecl x.decls _ (List.getElem_mem hlt); unfold costDecls at hkd; omega
      have hsn := Lib.hid (all_Decl_snoc x.decls k hlt)
      have hbd := Lib.hid (all_Decl_bad x.decls k hlt)
      obtain ⟨b, hbx⟩ : ∃ b, declB x.decls[k] = b := ⟨_, rfl⟩
      have HBX := Lib.hid hbx
      clear hbx
      have qp := cell_regrown p0
      have q0 := cell_regrown h0
      have q1 := cell_regrown h1y
      cases b with
      | false =>
        have HX := Lib.hid (show progB x = false by rw [hN.out, hbd.out HBX.out]; simp)
        go_wp2_with fail
        refine wp_region_quiet_below (by kernel_rfl) (by kernel_rfl) ?_
        repeat (go_big_quiet_step (first | (go_at_call 11; exact Calls.regrown_of (sp_decl_is false x.decls[k] B1 d1 _ HBX.out hmf hck (t1.to_ (below_regrown wr _ _))))))
        refine wpQuiet_nil ?_
        intro _ hw'
        obtain ⟨⟨dq, osq⟩, hw''⟩ := hw'
        subst hw''
        have hB2 := below_next hBr (below_regrown wr dq osq) rfl rfl
        generalize grow (redrawn wr dq) osq = wx at *
        clear qp q0 q1 p0 h0 h1y
        go_wp2_with fail
        go_ret
        exact ⟨ret_bool (by rw [HX.out]), hB2⟩
      | true =>
        have HX := Lib.hid (show (x.decls.take (k + 1)).all declB = true by rw [hsn.out, hal.out, HBX.out]; rfl)
        rcases Nat.eq_zero_or_pos k with hz | hpos
        · have hg0' : ¬ (0 : Int) < (k : Int) := by omega
          have hg0d : decide ((0 : Int) < (k : Int)) = false := decide_eq_false hg0'
          have hg0p : decide (0 < k) = false := decide_eq_false (by omega)
          have HA := Lib.hid (show ascTo x.decls (k + 1 - 1) = true by rw [hz]; rfl)
          clear hz
          go_wp2_with fail
          refine wp_region_quiet_below (by kernel_rfl) (by kernel_rfl) ?_
          repeat (go_big_quiet_step (first | (go_at_call 11; exact Calls.regrown_of (sp_decl_is true x.decls[k] B1 d1 _ HBX.out hmf hck (t1.to_ (below_regrown wr _ _))))))
          refine wpQuiet_nil ?_
          intro _ hw'
          obtain ⟨⟨dq, osq⟩, hw''⟩ := hw'
          subst hw''
          have hB2 := below_next hBr (below_regrown wr dq osq) rfl rfl
          have hP2 := Lib.hid (hPr.out.below (below_regrown wr dq osq) hPr.out.lt)
          generalize grow (redrawn wr dq) osq = wx at *
          clear qp q0 q1 p0 h0 h1y
          go_wp2_with fail
          go_roundw
          case rel => exact ⟨k + 1, by omega, by go_num, HX, HA, hP2, hB2⟩
          case measure => simp [intOf]; omega
        · obtain ⟨j, rfl⟩ : ∃ j, k = j + 1 := ⟨k - 1, by omega⟩
          have hltj : j < x.decls.length := by omega
          obtain ⟨g', o', he', hg0', hg', e0, _⟩ := (HS0.out.to_ hBr).at_ hltj
          cases he'
          have q2 := cell_regrown e0
          have hgt : (0 : Int) < ((j + 1 : Nat) : Int) := by omega
          have hgt' : (0 : Int) < (j : Int) + 1 := by omega
          have hj0 : (0 : Int) ≤ (j : Int) := by omega
          have hj1 : (j : Int) < (x.decls.length : Int) := by omega
          have hj3 : (j : Int) + 1 < (x.decls.length : Int) := by omega
          have hj4 : (0 : Int) ≤ (j : Int) + 1 := by omega
          have e1 : IntKind.i64.wrap ((j : Int) + 1 - 1) = (j : Int) := by rw [IntKind.wrap_i64]; omega
          have e2 : ((j : Int) + 1).toNat = j + 1 := by omega
          have HN := Lib.hid (ascTo_next x.decls j hltj hlt)
          go_wp2_with fail
          refine wp_region_quiet_below (by kernel_rfl) (by kernel_rfl) ?_
          repeat (go_big_quiet_step (first | (go_at_call 11; exact Calls.regrown_of (sp_decl_is true x.decls[j + 1] B1 d1 _ HBX.out hmf hck (t1.to_ (below_regrown wr _ _))))))
          refine wpQuiet_nil ?_
          intro _ hw'
          obtain ⟨⟨dq, osq⟩, hw''⟩ := hw'
          subst hw''
          have hB2 := below_next hBr (below_regrown wr dq osq) rfl rfl
          have hP2 := Lib.hid (hPr.out.below (below_regrown wr dq osq) hPr.out.lt)
          generalize grow (redrawn wr dq) osq = wx at *
          clear qp q0 q1 q2 p0 h0 h1y e0
          have HL : Hid (∀ b, Op.bytesLess x.decls[j].name.toList x.decls[j + 1].name.toList = b → ascTo x.decls (j + 1) = b) := Lib.hid (fun b hb => by rw [HN.out, show ascTo x.decls j = true from has.out, lessD, hb]; rfl)
          clear HN
          generalize Op.bytesLess x.decls[j].name.toList x.decls[j + 1].name.toList = b at *
          cases b with
          | true =>
            have HT := Lib.hid (show ascTo x.decls (j + 1 + 1 - 1) = true from HL.out true rfl)
            clear HL
            go_wp2_with fail
            go_roundw
            case rel => exact ⟨j + 1 + 1, by omega, by go_num, HX, HT, hP2, hB2⟩
            case measure => simp [intOf]; omega
          | false =>
            have HT := Lib.hid (show progB x = false by rw [hN.out, show ascB x.decls = false from ascTo_false x.decls (j + 1) (HL.out false rfl) _ (by omega)]; simp)
            clear HL
            go_wp2_with fail
            go_ret
            exact ⟨ret_bool (by rw [HT.out]), hB2⟩
    · have hi1 : ¬ (k : Int) < (x.decls.length : Int) := by omega
      have hT := Lib.hid (show progB x = x.rules.all ruleB by
        have h := hal.out
        have h' := has.out
        rw [List.take_of_length_le (by omega)] at h
        have hke : k = x.decls.length := by omega
        rw [hke] at h'
        rw [hN.out, h, show ascB x.decls = true from h']
        rfl)
      clear hN hal has
      go_wp2_with fail
      clear p0
      go_loopw [4] (fun i w' => ∃ m : Nat, m ≤ x.rules.length ∧ i = .int .i64 m ∧ Hid ((x.rules.take m).all ruleB = true) ∧ Hid (Whole w' w.heap.size 31 [.slice A0 x.decls.length c0, .slice A1 x.rules.length c1]) ∧ Below w.heap.size w w') (fun i _ => x.rules.length - (intOf i).toNat)
      case atStart => exact ⟨0, Nat.zero_le _, rfl, Lib.hid rfl, hPr, hBr⟩
      case round =>
        obtain ⟨m, hm, rfl, hal, hPs, hBs⟩ := hrel
        have p1 : wr.cell? ⟨w.heap.size, 1, none⟩ = some (.slice A1 x.rules.length c1) := hPs.out.cell 1
        by_cases hlt2 : m < x.rules.length
        · obtain ⟨g, o, rfl, hg0, hg, h0, ⟨B1, d1, h1y, t1⟩, ⟨B2, d2, h2y, t2⟩, ⟨B3, d3, h3y, t3⟩⟩ := (HS1.out.to_ hBs).at_ hlt2
          have hj0 : (0 : Int) ≤ (m : Int) := by omega
          have hj1 : (m : Int) < (x.rules.length : Int) := by omega
          have hmf : fitRule x.rules[m] := FR.out _ (List.getElem_mem hlt2)
          have hck : costRule x.rules[m] ≤ 1048576 := by have h2 := sumC_mem costRule x.rules _ (List.getElem_mem hlt2); unfold costRules at hkr; omega
          have hsn := Lib.hid (all_Rule_snoc x.rules m hlt2)
          have hbd := Lib.hid (all_Rule_bad x.rules m hlt2)
          obtain ⟨b, hbx⟩ : ∃ b, ruleB x.rules[m] = b := ⟨_, rfl⟩
          have HBX := Lib.hid hbx
          clear hbx
          go_wp2_with fail
          refine (sp_rule_is b x.rules[m] B1 d1 B2 d2 B3 d3 _ HBX.out hmf hck t1 t2 t3).mono ?_
          rintro e w2 ⟨rfl, hb2⟩
          have hB2 := below_next hBs hb2 rfl rfl
          have hP2 := Lib.hid (hPs.out.below hb2 hPs.out.lt)
          clear h0 h1y h2y h3y p1
          cases b with
          | true =>
            have HX := Lib.hid (show (x.rules.take (m + 1)).all ruleB = true by rw [hsn.out, hal.out, HBX.out]; rfl)
            go_wp2_with fail
            go_roundw
            case rel => exact ⟨m + 1, by omega, by go_num, HX, hP2, hB2⟩
            case measure => simp [intOf]; omega
          | false =>
            have HX := Lib.hid (show progB x = false by rw [hT.out]; exact hbd.out HBX.out)
            go_wp2_with fail
            go_ret
            exact ⟨ret_bool (by rw [HX.out]), hB2⟩
        · have hj1 : ¬ (m : Int) < (x.rules.length : Int) := by omega
          have HX := Lib.hid (show progB x = true by have h := hal.out; rw [List.take_of_length_le (by omega)] at h; rw [hT.out, h])
          go_wp2_with fail
          go_ret
          exact ⟨ret_bool (by rw [HX.out]), hBs⟩
end Go.Proofs.YtbfcolmglbeefaaGreat
