/-
  spec.l2ExprOk. spec.l2ExprOk, spec.l2AtomOk, spec.l2DeclOk. append of a whole row to a new one. spec.l5Rows: the rows lie where the database lies.
-/
import Derived.Test.YteoepnadjkjlmaaGreatSpecOk
import Derived.Test.YteoepnadjkjlmaaGreatAtomOkZ
import Derived.Test.YteoepnadjkjlmaaGreatTGAZ
import Derived.Test.YteoepnadjkjlmaaGreatVIZ
namespace Go.Proofs.YteoepnadjkjlmaaGreat
open Go.RowKit Go.Sort
set_option linter.unusedVariables false

set_option maxRecDepth 100000 in
set_option maxHeartbeats 1600000 in
theorem sp_expr_is {lo : Nat} (b : Bool) (A : Option Addr) (c : Nat) (es : List GNode) (w : World) (h : exprB es = b) (hk : costNodes es ≤ 1048576) (q : CapOk es.length c) (hf : fitNodes es) (hr : NodesAt w lo w.heap.size A es) :
    Calls Tryz.prog 44 #[.slice A es.length c] w fun e w' => e = .returned (.bool b) ∧ Below w.heap.size w w' := by
  have hl : es.length ≤ 1048576 := by unfold costNodes at hk; omega
  by_cases h100 : (es.length : Int) ≤ 100
  · have hE := Lib.hid (show okM (es.length + 1) es = b by rw [okM_eq _ _ (by omega), ← h]; unfold exprB; rw [decide_eq_true (by omega)]; rfl)
    clear h
    go_enter Tryz.func44, Tryz.ntmps44
    go_wp2_with fail
    refine (spec_ok (es.length + 1) A c es _ (by omega) (by omega) q hf hr).mono ?_
    rintro e w1 ⟨rfl, hb1⟩
    rw [hE.out]
    go_wp2_with fail
    go_ret
    exact ⟨rfl, hb1⟩
  · have hd : decide ((es.length : Int) ≤ 100) = false := by simpa using h100
    have H := Lib.hid (show false = b by rw [← h]; unfold exprB; rw [decide_eq_false (by omega)]; rfl)
    clear h
    go_enter Tryz.func44, Tryz.ntmps44
    go_wp2_with fail
    go_ret
    exact ⟨ret_bool H.out, Below.refl _ _⟩
end Go.Proofs.YteoepnadjkjlmaaGreat
namespace Go.Proofs.YteoepnadjkjlmaaGreat
open Go.RowKit Go.Sort
set_option linter.unusedVariables false

set_option maxRecDepth 100000 in
set_option maxHeartbeats 1600000 in
theorem sp_atom {lo : Nat} (x : GAtom) (A1 : Option Addr) (c1 : Nat) (w : World) (hf : fitAtom x) (hk : costAtom x ≤ 1048576) (s1 : NodeSsAt w lo w.heap.size A1 x.args) :
    Calls Tryz.prog 20 #[.agg #[.string x.name, .slice A1 x.args.length c1]] w fun e w' => e = .returned (.bool (atomB x)) ∧ Below w.heap.size w w' := by
  have hB0 : Below w.heap.size w (w.alloc (.cells #[.string x.name, .slice A1 x.args.length c1] 34)) := (Below.refl _ _).alloc (Nat.le_refl _) _
  have hP := Lib.hid (Whole.new w 34 [.string x.name, .slice A1 x.args.length c1])
  obtain ⟨f0, f1⟩ := hf
  have hkt : costNodeSs x.args ≤ 1048576 := by unfold costAtom at hk; omega
  have hla : x.args.length ≤ 1048576 := by unfold costNodeSs at hkt; omega
  clear hk
  obtain ⟨b, hb⟩ : ∃ b, wordB x.name = b := ⟨_, rfl⟩
  have HB := Lib.hid hb
  clear hb
  have hWO : Calls Tryz.prog 42 #[.string x.name] (w.alloc (.cells #[.string x.name, .slice A1 x.args.length c1] 34)) fun e w' => e = .returned (.bool b) ∧ (w.alloc (.cells #[.string x.name, .slice A1 x.args.length c1] 34)) = w' := spec_word_is b _ _ f0 HB.out
  have HWO := Lib.hid hWO
  clear hWO
  cases b with
  | false =>
    have H := Lib.hid (show atomB x = false by unfold atomB; rw [HB.out]; rfl)
    go_enter Tryz.func20, Tryz.ntmps20
    go_wp2_with fail
    refine HWO.out.mono ?_
    rintro e w1 ⟨rfl, rfl⟩
    go_wp2_with fail
    go_ret
    exact ⟨ret_bool (by rw [H.out]), hB0⟩
  | true =>
    by_cases h8 : (8 : Int) < (x.args.length : Int)
    · have H := Lib.hid (show atomB x = false by unfold atomB; rw [decide_eq_false (show ¬ x.args.length ≤ 8 by omega)]; simp)
      go_enter Tryz.func20, Tryz.ntmps20
      go_wp2_with fail
      refine HWO.out.mono ?_
      rintro e w1 ⟨rfl, rfl⟩
      go_wp2_with fail
      go_ret
      exact ⟨ret_bool (by rw [H.out]), hB0⟩
    · have hN := Lib.hid (show atomB x = x.args.all exprB by unfold atomB; rw [HB.out, decide_eq_true (show x.args.length ≤ 8 by omega)]; rfl)
      have h8d : decide ((8 : Int) < (x.args.length : Int)) = false := by simpa using h8
      have HS1 := Lib.hid s1
      have FX := Lib.hid f1.2
      have HK := Lib.hid hkt
      clear s1 f1 hkt
      go_enter Tryz.func20, Tryz.ntmps20
      go_wp2_with fail
      refine HWO.out.mono ?_
      rintro e w1 ⟨rfl, rfl⟩
      go_wp2_with fail
      go_loopw [3] (fun i w' => ∃ k : Nat, k ≤ x.args.length ∧ i = .int .i64 k ∧ Hid ((x.args.take k).all exprB = true) ∧ Hid (Whole w' w.heap.size 34 [.string x.name, .slice A1 x.args.length c1]) ∧ Below w.heap.size w w') (fun i _ => x.args.length - (intOf i).toNat)
      case atStart => exact ⟨0, Nat.zero_le _, rfl, Lib.hid rfl, hP, hB0⟩
      case round =>
        obtain ⟨k, hk, rfl, hal, hPr, hBr⟩ := hrel
        have p1 : wr.cell? ⟨w.heap.size, 1, none⟩ = some (.slice A1 x.args.length c1) := hPr.out.cell 1
        by_cases hlt : k < x.args.length
        · obtain ⟨g, o, rfl, hg0, hg, A0, c0, ⟨h0y, q0⟩, s0⟩ := (HS1.out.to_ hBr).at_ hlt
          have hi0 : (0 : Int) ≤ (k : Int) := by omega
          have hi1 : (k : Int) < (x.args.length : Int) := by omega
          have hm : fitNodes x.args[k] := FX.out _ (List.getElem_mem hlt)
          have hck : costNodes x.args[k] ≤ 1048576 := by have h1 := HK.out; have h2 := sumC_mem costNodeS x.args _ (List.getElem_mem hlt); have h3 : costNodeS x.args[k] = costNodes x.args[k] := rfl; unfold costNodeSs at h1; omega
          have hsn := Lib.hid (all_NodeS_snoc x.args k hlt)
          have hbd := Lib.hid (all_NodeS_bad x.args k hlt)
          obtain ⟨b, hbx⟩ : ∃ b, exprB x.args[k] = b := ⟨_, rfl⟩
          have HBX := Lib.hid hbx
          clear hbx
          go_wp2_with fail
          refine (sp_expr_is b A0 c0 x.args[k] _ HBX.out hck q0 hm s0).mono ?_
          rintro e w2 ⟨rfl, hb2⟩
          have hB2 := below_next hBr hb2 rfl rfl
          have hP2 := Lib.hid (hPr.out.below hb2 hPr.out.lt)
          clear h0y p1
          cases b with
          | true =>
            have HX := Lib.hid (show (x.args.take (k + 1)).all exprB = true by rw [hsn.out, hal.out, HBX.out]; rfl)
            go_wp2_with fail
            go_roundw
            case rel => exact ⟨k + 1, by omega, by go_num, HX, hP2, hB2⟩
            case measure => simp [intOf]; omega
          | false =>
            have HX := Lib.hid (show atomB x = false by rw [hN.out]; exact hbd.out HBX.out)
            go_wp2_with fail
            go_ret
            exact ⟨ret_bool (by rw [HX.out]), hB2⟩
        · have hi1 : ¬ (k : Int) < (x.args.length : Int) := by omega
          have HX := Lib.hid (show atomB x = true by have h := hal.out; rw [hN.out]; rwa [List.take_of_length_le (by omega)] at h)
          go_wp2_with fail
          go_ret
          exact ⟨ret_bool (by rw [HX.out]), hBr⟩
theorem sp_atom_is {lo : Nat} (b : Bool) (x : GAtom) (A1 : Option Addr) (c1 : Nat) (w : World) (h : atomB x = b) (hf : fitAtom x) (hk : costAtom x ≤ 1048576) (s1 : NodeSsAt w lo w.heap.size A1 x.args) :
    Calls Tryz.prog 20 #[.agg #[.string x.name, .slice A1 x.args.length c1]] w fun e w' => e = .returned (.bool b) ∧ Below w.heap.size w w' := by subst h; exact sp_atom x A1 c1 w hf hk s1
end Go.Proofs.YteoepnadjkjlmaaGreat
namespace Go.Proofs.YteoepnadjkjlmaaGreat
open Go.RowKit Go.Sort
set_option linter.unusedVariables false

theorem wpList_vnew {ops : Array Oper} {rest : List Oper} {o : Oper} {a : Act} {Q : Exit → Act → World → Prop} (W : World) (hgd : o.guard = none) (s x : Operand)
    (hop : o.op = Op.call { callee := Callee.builtin Builtin.append, args := #[s, x], argTypes := #[52, 52] })
    (w : World) (v : Value) (hs : a.eval s = v) (hI : VI w W v [])
    (A : Option Addr) (c : Nat) (vs : List GV) (hx : a.eval x = .slice A vs.length c) (hr : RowAt w w.heap.size A vs) (hb : vs.length ≤ 4194304)
    (hK : ∀ v' W', VI w W' v' vs → wpList Tryz.prog ops Q rest (a.put o.dst v') W') : wpList Tryz.prog ops Q (o :: rest) a W := by
  obtain ⟨i0, hi, hz0, hz1, hz2⟩ := info_parts infoValue
  obtain ⟨h1, h2⟩ := row_src (hr.to_ hI.2.1)
  refine wpList_plain hgd fun _ hK' => wp_append_any W s x 52 hop w.heap.size 79 i0 _ 3 32 Tryz.underlying52 hi hz0 hz1 hz2 rfl (by decide) v 0 [] hs hI.1 A vs.length c (flat vs) hx (flat_length vs) h1 h2 (flat_one vs) (by unfold maxLen; omega) (by omega) hI.2.1.size (fun v' W' h3 h4 h5 => hK' _ _ (hK v' W' ⟨?_, ?_, h5 hI.2.2⟩))
  · show W'.ownsRow _ _ _ _ _ _
    simpa using h3
  · exact hI.2.1.grown h4 hI.2.1.size (fun k hk => (World.ownsRow.lt hI.1 k hk).1)

end Go.Proofs.YteoepnadjkjlmaaGreat
namespace Go.Proofs.YteoepnadjkjlmaaGreat
open Go.RowKit Go.Sort
set_option linter.unusedVariables false

def RowsAnsB (w : World) (B : Nat) (xs : List GRel) (s : ByteArray) (e : Ending) (w' : World) : Prop := ∃ A c, e = .returned (.slice A (rowsR xs s).length c) ∧ CapOk (rowsR xs s).length c ∧ TabC w' B A (rowsR xs s) ∧ Below w.heap.size w w'
set_option maxRecDepth 100000 in
set_option maxHeartbeats 1600000 in
theorem spec_relRowsB {lo B : Nat} (A : Option Addr) (c : Nat) (xs : List GRel) (s : ByteArray) (w : World) (hl : xs.length ≤ 1048576) (hBB : B ≤ w.heap.size) (hr : RelsAt w lo B A xs) :
    Calls Tryz.prog 21 #[.slice A xs.length c, .string s] w (RowsAnsB w B xs s) := by
  have HR := Lib.hid hr
  clear hr
  go_enter Tryz.func21, Tryz.ntmps21
  go_wp2_with fail
  go_loopw [5] (fun i w' => ∃ k : Nat, k ≤ xs.length ∧ i = .int .i64 k ∧ Hid (k ≤ findR xs s) ∧ Below w.heap.size w w') (fun i _ => xs.length - (intOf i).toNat)
  case atStart => exact ⟨0, Nat.zero_le _, rfl, Lib.hid (Nat.zero_le _), Below.refl _ _⟩
  case round =>
    obtain ⟨k, hk, rfl, hT, hB⟩ := hrel
    by_cases hlt : k < xs.length
    · obtain ⟨g, o, rfl, hg0, hg, c0, A', c', ⟨c1, hcap⟩, s1⟩ := (HR.out.keep (fun b _ h => hB.block b (Nat.lt_of_lt_of_le h hBB))).at_ hlt
      have hi2 : (0 : Int) ≤ (k : Int) := by omega
      have hi3 : (k : Int) < (xs.length : Int) := by omega
      obtain ⟨b, hb⟩ : ∃ b, (xs[k].name.toList == s.toList) = b := ⟨_, rfl⟩
      have HAT := Lib.hid (findR_at xs s k hlt hT.out)
      have HNX := Lib.hid (findR_next xs s k hlt hT.out)
      cases b with
      | true =>
        have hE := Lib.hid (rowsR_hit xs s k hlt (HAT.out hb))
        have hP : Hid (RowsAnsB w B xs s (.returned (.slice A' xs[k].rows.length c')) wr) := Lib.hid ⟨A', c', by rw [hE.out], by rw [hE.out]; exact hcap, by rw [hE.out]; exact s1.tabC, hB⟩
        clear s1
        go_wp2_with fail
        go_ret
        exact hP.out
      | false =>
        have hT2 := Lib.hid (HNX.out hb)
        clear s1
        go_wp2_with fail
        go_roundw
        case rel => exact ⟨k + 1, by omega, by go_num, hT2, hB⟩
        case measure => simp [intOf]; omega
    · have hi3 : ¬ (k : Int) < (xs.length : Int) := by omega
      have hE := Lib.hid (rowsR_none xs s (by have := hT.out; omega))
      go_wp2_with fail
      go_ret
      exact ⟨_, _, by rw [hE.out]; rfl, by rw [hE.out]; exact ⟨Nat.le_refl _, Nat.zero_le _⟩, by rw [hE.out]; exact .inl rfl, hB.alloc hB.size _⟩
end Go.Proofs.YteoepnadjkjlmaaGreat
