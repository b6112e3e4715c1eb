/-
  laws.toProgram and its like.
-/
import Derived.Test.YtbfcolmglbeefaaGreatToRule
import Derived.Test.YtbfcolmglbeefaaGreatTyProg
namespace Go.Proofs.YtbfcolmglbeefaaGreat
open Go.RowKit Go.Sort
set_option linter.unusedVariables false

theorem infoRule : (Tryz.prog.info? 47).map (fun i => (i.zero, i.size, i.bytes)) = some (some (.agg #[.string ByteArray.empty, .slice none 0 0, .slice none 0 0, .slice none 0 0]), 4, 88) := by kernel_rfl
/-- What laws.toRuleS leaves. -/
def ToRules (w : World) (xs : List (GRule)) (e : Ending) (w' : World) : Prop := ∃ (A : Option Addr) (c : Nat), e = .returned (.slice A xs.length c) ∧ RulesAt w' w.heap.size w'.heap.size A xs ∧ UF w' w.heap.size w'.heap.size ∧ Below w.heap.size w w'
def ToRulesSt (w : World) (xs : List (GRule)) (i : Nat) (w' : World) : Prop := ∃ l : List Value, l.length = xs.length * 4 ∧ Whole w' w.heap.size 47 l ∧ ∀ j x, j < i → xs[j]? = some x → RuleAt w' (w.heap.size + 1) w'.heap.size w.heap.size (0 + j * 4) x
theorem toRules_step {w w1 w2 : World} {xs : List (GRule)} {i : Nat} {E1 : Option Addr} {e1 : Nat} {E2 : Option Addr} {e2 : Nat} {E3 : Option Addr} {e3 : Nat} (h : ToRulesSt w xs i w1) (hi : i < xs.length) (hb : Below w1.heap.size w1 w2) (t1 : NodeSsAt w2 w1.heap.size w2.heap.size E1 xs[i].head.args) (t2 : StrsAt w2 w1.heap.size w2.heap.size E2 xs[i].aggs) (t3 : LitsAt w2 w1.heap.size w2.heap.size E3 xs[i].body) :
    (∀ j, j < 4 → ∃ u, w2.cell? ⟨w.heap.size, i * 4 + j, none⟩ = some u) ∧ (∀ j, w2.frozen? ⟨w.heap.size, j, none⟩ = false) ∧ ToRulesSt w xs (i + 1) (setW w2 w.heap.size (i * 4) [.string xs[i].head.name, .slice E1 xs[i].head.args.length e1, .slice E2 xs[i].aggs.length e2, .slice E3 xs[i].body.length e3]) := by
  obtain ⟨l, hl, hW, hA⟩ := h
  have hW2 := hW.below hb hW.lt
  have hg := hW.lt
  have hsz := setW_size [.string xs[i].head.name, .slice E1 xs[i].head.args.length e1, .slice E2 xs[i].aggs.length e2, .slice E3 xs[i].body.length e3] w2 w.heap.size (i * 4)
  have hz := hb.size
  refine ⟨fun j hj => ⟨l[i * 4 + j]'(by omega), by rw [hW2.cell, List.getElem?_eq_getElem (by omega)]⟩, fun j => hW2.frozen j, setL l (i * 4) [.string xs[i].head.name, .slice E1 xs[i].head.args.length e1, .slice E2 xs[i].aggs.length e2, .slice E3 xs[i].body.length e3], by rw [setL_len]; exact hl, setW_whole _ _ hW2, fun j x hj hx => ?_⟩
  have hW3 := setW_whole [.string xs[i].head.name, .slice E1 xs[i].head.args.length e1, .slice E2 xs[i].aggs.length e2, .slice E3 xs[i].body.length e3] (i * 4) hW2
  by_cases e : j = i
  · subst e
    rw [List.getElem?_eq_getElem hi] at hx; injection hx with hx; subst hx
    have hin : ∀ q u, ([.string xs[j].head.name, .slice E1 xs[j].head.args.length e1, .slice E2 xs[j].aggs.length e2, .slice E3 xs[j].body.length e3] : List Value)[q]? = some u → (setW w2 w.heap.size (j * 4) [.string xs[j].head.name, .slice E1 xs[j].head.args.length e1, .slice E2 xs[j].aggs.length e2, .slice E3 xs[j].body.length e3]).cell? ⟨w.heap.size, 0 + j * 4 + q, none⟩ = some u := fun q u hq => by
      rw [hW3.cell, Nat.zero_add]; exact setL_in _ _ _ _ _ (by simp; omega) hq
    exact ⟨hin 0 _ rfl, ⟨E1, e1, hin 1 _ rfl, (t1.keep (fun b h1 h2 => setW_block _ _ _ _ b (by omega))).mono (by omega) (by omega)⟩, ⟨E2, e2, hin 2 _ rfl, (t2.keep (fun b h1 h2 => setW_block _ _ _ _ b (by omega))).mono (by omega) (by omega)⟩, ⟨E3, e3, hin 3 _ rfl, (t3.keep (fun b h1 h2 => setW_block _ _ _ _ b (by omega))).mono (by omega) (by omega)⟩⟩
  · refine ((hA j x (by omega) hx).mono (Nat.le_refl _) (Nat.le_refl _)).same (fun q hq => ?_) (fun b h1 h2 => ?_) |>.mono (Nat.le_refl _) (by omega)
    · rw [hW3.cell, hW.cell]; exact setL_out _ _ _ _ (by simp; omega)
    · rw [setW_block _ _ _ _ b (by omega)]; exact hb.block b h2
set_option maxRecDepth 100000 in
set_option maxHeartbeats 1600000 in
theorem to_Rules {lo : Nat} (A : Option Addr) (c : Nat) (xs : List (GRule)) (w : World) (hk : costRules xs ≤ 1048576) (hr : RulesAt w lo w.heap.size A xs) :
    Calls Tryz.prog 14 #[.slice A xs.length c] w (ToRules w xs) := by
  obtain ⟨i0, hi0, hz0, hz1, hz2⟩ := info_parts infoRule
  have hl : xs.length ≤ 1048576 := by unfold costRules at hk; omega
  have hmk := fun W => run_make (P := Tryz.prog) W 29 47 i0 _ Tryz.underlying29 hi0 hz0 .i64 .i64 xs.length xs.length (by omega) (by omega) (by rw [hz2]; omega) (by omega)
  have HK := Lib.hid hk
  have HR := Lib.hid hr
  clear hk hr
  have HS0 := Lib.hid (show ToRulesSt w xs 0 (w.alloc (.cells (madeCells #[.string ByteArray.empty, .slice none 0 0, .slice none 0 0, .slice none 0 0] (xs.length * 4)) 47)) from ⟨(madeCells #[.string ByteArray.empty, .slice none 0 0, .slice none 0 0, .slice none 0 0] (xs.length * 4)).toList, by simp [size_madeCells], by have h := Whole.new w 47 (madeCells #[.string ByteArray.empty, .slice none 0 0, .slice none 0 0, .slice none 0 0] (xs.length * 4)).toList; rw [Array.toArray_toList] at h; exact h, fun j x hj => by omega⟩)
  go_enter Tryz.func14, Tryz.ntmps14
  go_wp2_with fail
  clear hmk
  go_loopw [4] (fun i w' => ∃ k : Nat, k ≤ xs.length ∧ i = .int .i64 k ∧ Hid (ToRulesSt w xs k w') ∧ w.heap.size < w'.heap.size ∧ Hid (UF w' w.heap.size w'.heap.size) ∧ Below w.heap.size w w') (fun i _ => xs.length - (intOf i).toNat)
  case atStart => exact ⟨0, Nat.zero_le _, rfl, HS0, by simp, Lib.hid ((UF.start w).alloc _ _), (Below.refl _ _).alloc (Nat.le_refl _) _⟩
  case round =>
    obtain ⟨k, hk, rfl, hS, hwz, hUF, hB⟩ := hrel
    by_cases hlt : k < xs.length
    · obtain ⟨g, o, rfl, hg0, hg, he⟩ := (HR.out.to_ hB).at_ hlt
      have hi0 : (0 : Int) ≤ (k : Int) := by omega
      have hi1 : (k : Int) < (xs.length : Int) := by omega
      have hck : costRule xs[k] ≤ 1048576 := by have h1 := HK.out; have h2 := sumC_mem costRule xs _ (List.getElem_mem hlt); unfold costRules at h1; omega
      obtain ⟨h0, h1, h2, h3⟩ := he
      obtain ⟨A1, c1, h1y, s1⟩ := h1
      obtain ⟨A2, c2, h2y, s2⟩ := h2
      obtain ⟨A3, c3, h3y, s3⟩ := h3
      go_wp2_with fail
      refine (to_Rule xs[k] A1 c1 A2 c2 A3 c3 _ hck s1 s2 s3).mono ?_
      rintro e w2 ⟨E1, e1, E2, e2, E3, e3, rfl, t1, t2, t3, uf2, hb2⟩
      clear h0 h1y h2y h3y
      obtain ⟨hc, hf, hst⟩ := toRules_step (E1 := E1) (e1 := e1) (E2 := E2) (e2 := e2) (E3 := E3) (e3 := e3) hS.out hlt hb2 t1 t2 t3
      obtain ⟨u0, q0⟩ := hc 0 (by omega)
      have r0 := hf (k * 4)
      obtain ⟨u1, q1⟩ := hc 1 (by omega)
      have r1 := hf (k * 4 + 1)
      obtain ⟨u2, q2⟩ := hc 2 (by omega)
      have r2 := hf (k * 4 + 2)
      obtain ⟨u3, q3⟩ := hc 3 (by omega)
      have r3 := hf (k * 4 + 3)
      rw [Nat.add_zero] at q0
      have HST := Lib.hid hst
      have hB2 := below_next hB hb2 rfl rfl
      have hz2' := hb2.size
      have hB3 := setW_below [.string xs[k].head.name, .slice E1 xs[k].head.args.length e1, .slice E2 xs[k].aggs.length e2, .slice E3 xs[k].body.length e3] w.heap.size (k * 4) hB2 (Nat.le_refl _)
      have hz3 : w.heap.size < (setW w2 w.heap.size (k * 4) [.string xs[k].head.name, .slice E1 xs[k].head.args.length e1, .slice E2 xs[k].aggs.length e2, .slice E3 xs[k].body.length e3]).heap.size := by rw [setW_size]; omega
      have hU3 := Lib.hid (show UF (setW w2 w.heap.size (k * 4) [.string xs[k].head.name, .slice E1 xs[k].head.args.length e1, .slice E2 xs[k].aggs.length e2, .slice E3 xs[k].body.length e3]) w.heap.size (setW w2 w.heap.size (k * 4) [.string xs[k].head.name, .slice E1 xs[k].head.args.length e1, .slice E2 xs[k].aggs.length e2, .slice E3 xs[k].body.length e3]).heap.size by rw [setW_size]; exact UF.setW _ _ _ (hUF.out.next hb2 uf2))
      clear hc hf hst hb2 uf2 t1 t2 t3
      go_wp2_with fail
      go_roundw
      case rel => exact ⟨k + 1, by omega, by go_num, HST, hz3, hU3, hB3⟩
      case measure => simp [intOf]; omega
    · have hi1 : ¬ (k : Int) < (xs.length : Int) := by omega
      go_wp2_with fail
      go_ret
      obtain ⟨l, h1, h2, h3⟩ := hS.out
      exact ⟨some ⟨w.heap.size, 0, none⟩, xs.length, rfl, .inr ⟨w.heap.size, 0, rfl, Nat.le_refl _, hwz, fun j x hx => (h3 j x (by have := (List.getElem?_eq_some_iff.1 hx).1; omega) hx).mono (by omega) (Nat.le_refl _)⟩, hUF.out, hB⟩

def ToDecl (w : World) (x : GDecl) (e : Ending) (w' : World) : Prop := ∃ (A1 : Option Addr) (c1 : Nat), e = .returned (.agg #[.string x.name, .slice A1 x.types.length c1]) ∧ StrsAt w' w.heap.size w'.heap.size A1 x.types ∧ UF w' w.heap.size w'.heap.size ∧ Below w.heap.size w w'
set_option maxRecDepth 100000 in
set_option maxHeartbeats 3200000 in
theorem to_Decl {lo : Nat} (x : GDecl) (A1 : Option Addr) (c1 : Nat) (w : World) (hk : costDecl x ≤ 1048576) (s1 : StrsAt w lo w.heap.size A1 x.types) :
    Calls Tryz.prog 28 #[.agg #[.string x.name, .slice A1 x.types.length c1]] w (ToDecl w x) := by
  unfold costDecl at hk
  obtain ⟨hP, hR, hO, hB, hZ, hF⟩ := three_new w #[.string x.name, .slice A1 x.types.length c1] 56 40 [.string ByteArray.empty, .slice none 0 0] [.string x.name, .slice none 0 0]
  have HP := Lib.hid hP
  have HR := Lib.hid hR
  have HO := Lib.hid hO
  have HB := Lib.hid hB
  have HZ := Lib.hid hZ
  have HF := Lib.hid hF
  clear hP hR hO hB hZ hF
  go_enter Tryz.func28, Tryz.ntmps28
  go_wp2_with fail
  refine (to_Strs A1 c1 x.types _ (by omega) (s1.to_ HB.out)).mono ?_
  rintro e w0 ⟨E1, e1, rfl, t1, uf0, hb0⟩
  have hZ := HZ.out
  have hz0 : w.heap.size + 3 ≤ w0.heap.size := Nat.le_trans (Nat.le_of_eq hZ.symm) hb0.size
  have O0 := HO.out.below hb0 (Nat.lt_of_lt_of_eq (show w.heap.size + 1 + 1 < w.heap.size + 3 by omega) hZ.symm)
  have R0 := HR.out.below hb0 (Nat.lt_of_lt_of_eq (show w.heap.size + 1 < w.heap.size + 3 by omega) hZ.symm)
  have P0 := HP.out.below hb0 (Nat.lt_of_lt_of_eq (show w.heap.size < w.heap.size + 3 by omega) hZ.symm)
  have B0 := HB.out.trans (hb0.mono (Nat.le_trans (show w.heap.size ≤ w.heap.size + 3 by omega) (Nat.le_of_eq hZ.symm)))
  have F0 := HF.out.next hb0 uf0
  have T1 := Lib.hid ((show StrsAt w0 (w.heap.size + 3) w0.heap.size E1 x.types from t1.mono (Nat.le_of_eq hZ.symm) (Nat.le_refl _)))
  clear hZ HZ HF uf0 hb0 t1
  have p0_0 : w0.cell? ⟨w.heap.size, 0, none⟩ = some (.string x.name) := P0.cell 0
  have o0_0 : w0.cell? ⟨w.heap.size + 1 + 1, 0, none⟩ = some (.string x.name) := O0.cell 0
  have r0_0 : w0.cell? ⟨w.heap.size + 1, 0, none⟩ = some (.string ByteArray.empty) := R0.cell 0
  have x0_0 : w0.frozen? ⟨w.heap.size + 1 + 1, 0, none⟩ = false := O0.frozen 0
  have y0_0 : w0.frozen? ⟨w.heap.size + 1, 0, none⟩ = false := R0.frozen 0
  have p0_1 : w0.cell? ⟨w.heap.size, 1, none⟩ = some (.slice A1 x.types.length c1) := P0.cell 1
  have o0_1 : w0.cell? ⟨w.heap.size + 1 + 1, 1, none⟩ = some (.slice none 0 0) := O0.cell 1
  have r0_1 : w0.cell? ⟨w.heap.size + 1, 1, none⟩ = some (.slice none 0 0) := R0.cell 1
  have x0_1 : w0.frozen? ⟨w.heap.size + 1 + 1, 1, none⟩ = false := O0.frozen 1
  have y0_1 : w0.frozen? ⟨w.heap.size + 1, 1, none⟩ = false := R0.frozen 1
  have HP0 := Lib.hid P0
  have HR0 := Lib.hid R0
  have HO0 := Lib.hid O0
  have HB0 := Lib.hid B0
  have HF0 := Lib.hid F0
  clear P0 R0 O0 B0 F0
  go_wp2_with fail
  clear p0_0 o0_0 r0_0 x0_0 y0_0 p0_1 o0_1 r0_1 x0_1 y0_1
  have WF : Whole (((w0.setCell ⟨w.heap.size + 1 + 1, 1, none⟩ (.slice E1 x.types.length e1)).setCell ⟨w.heap.size + 1, 0, none⟩ (.string x.name)).setCell ⟨w.heap.size + 1, 1, none⟩ (.slice E1 x.types.length e1)) (w.heap.size + 1) 40 [.string x.name, .slice E1 x.types.length e1] := setW_whole [.string x.name, .slice E1 x.types.length e1] 0 (HR0.out.offW (b := w.heap.size + 1 + 1) (o := 1) [.slice E1 x.types.length e1] (by omega))
  have d0 : (((w0.setCell ⟨w.heap.size + 1 + 1, 1, none⟩ (.slice E1 x.types.length e1)).setCell ⟨w.heap.size + 1, 0, none⟩ (.string x.name)).setCell ⟨w.heap.size + 1, 1, none⟩ (.slice E1 x.types.length e1)).cell? ⟨w.heap.size + 1, 0, none⟩ = some (.string x.name) := WF.cell 0
  have d1 : (((w0.setCell ⟨w.heap.size + 1 + 1, 1, none⟩ (.slice E1 x.types.length e1)).setCell ⟨w.heap.size + 1, 0, none⟩ (.string x.name)).setCell ⟨w.heap.size + 1, 1, none⟩ (.slice E1 x.types.length e1)).cell? ⟨w.heap.size + 1, 1, none⟩ = some (.slice E1 x.types.length e1) := WF.cell 1
  have zW : (((w0.setCell ⟨w.heap.size + 1 + 1, 1, none⟩ (.slice E1 x.types.length e1)).setCell ⟨w.heap.size + 1, 0, none⟩ (.string x.name)).setCell ⟨w.heap.size + 1, 1, none⟩ (.slice E1 x.types.length e1)).heap.size = w0.heap.size := (setW_size [.string x.name, .slice E1 x.types.length e1] _ (w.heap.size + 1) 0).trans (setW_size [.slice E1 x.types.length e1] w0 (w.heap.size + 1 + 1) 1)
  have hY : Below w.heap.size w (((w0.setCell ⟨w.heap.size + 1 + 1, 1, none⟩ (.slice E1 x.types.length e1)).setCell ⟨w.heap.size + 1, 0, none⟩ (.string x.name)).setCell ⟨w.heap.size + 1, 1, none⟩ (.slice E1 x.types.length e1)) := setW_below [.string x.name, .slice E1 x.types.length e1] (w.heap.size + 1) 0 (setW_below [.slice E1 x.types.length e1] (w.heap.size + 1 + 1) 1 HB0.out (by omega)) (by omega)
  have U1 : StrsAt (((w0.setCell ⟨w.heap.size + 1 + 1, 1, none⟩ (.slice E1 x.types.length e1)).setCell ⟨w.heap.size + 1, 0, none⟩ (.string x.name)).setCell ⟨w.heap.size + 1, 1, none⟩ (.slice E1 x.types.length e1)) w.heap.size (((w0.setCell ⟨w.heap.size + 1 + 1, 1, none⟩ (.slice E1 x.types.length e1)).setCell ⟨w.heap.size + 1, 0, none⟩ (.string x.name)).setCell ⟨w.heap.size + 1, 1, none⟩ (.slice E1 x.types.length e1)).heap.size E1 x.types := (T1.out.keep (fun b h1 h2 => (setW_block [.string x.name, .slice E1 x.types.length e1] _ (w.heap.size + 1) 0 b (by omega)).trans (setW_block [.slice E1 x.types.length e1] w0 (w.heap.size + 1 + 1) 1 b (by omega)))).mono (by omega) (Nat.le_of_eq zW.symm)
  have hF : UF (((w0.setCell ⟨w.heap.size + 1 + 1, 1, none⟩ (.slice E1 x.types.length e1)).setCell ⟨w.heap.size + 1, 0, none⟩ (.string x.name)).setCell ⟨w.heap.size + 1, 1, none⟩ (.slice E1 x.types.length e1)) w.heap.size (((w0.setCell ⟨w.heap.size + 1 + 1, 1, none⟩ (.slice E1 x.types.length e1)).setCell ⟨w.heap.size + 1, 0, none⟩ (.string x.name)).setCell ⟨w.heap.size + 1, 1, none⟩ (.slice E1 x.types.length e1)).heap.size := fun b h1 h2 o => UF.setW [.string x.name, .slice E1 x.types.length e1] (w.heap.size + 1) 0 (UF.setW [.slice E1 x.types.length e1] (w.heap.size + 1 + 1) 1 HF0.out) b h1 (by rw [← zW]; exact h2) o
  clear WF zW T1
  generalize (((w0.setCell ⟨w.heap.size + 1 + 1, 1, none⟩ (.slice E1 x.types.length e1)).setCell ⟨w.heap.size + 1, 0, none⟩ (.string x.name)).setCell ⟨w.heap.size + 1, 1, none⟩ (.slice E1 x.types.length e1)) = wf at d0 d1 hY hF U1 ⊢
  exact bodyPost_ret (v := .agg #[.string x.name, .slice E1 x.types.length e1]) (by simp [results, Tryz.results28, go_sem, d0, d1]) rfl ⟨_, _, rfl, U1, hF, hY⟩

theorem infoDecl : (Tryz.prog.info? 40).map (fun i => (i.zero, i.size, i.bytes)) = some (some (.agg #[.string ByteArray.empty, .slice none 0 0]), 2, 40) := by kernel_rfl
/-- What laws.toDeclS leaves. -/
def ToDecls (w : World) (xs : List (GDecl)) (e : Ending) (w' : World) : Prop := ∃ (A : Option Addr) (c : Nat), e = .returned (.slice A xs.length c) ∧ DeclsAt w' w.heap.size w'.heap.size A xs ∧ UF w' w.heap.size w'.heap.size ∧ Below w.heap.size w w'
def ToDeclsSt (w : World) (xs : List (GDecl)) (i : Nat) (w' : World) : Prop := ∃ l : List Value, l.length = xs.length * 2 ∧ Whole w' w.heap.size 40 l ∧ ∀ j x, j < i → xs[j]? = some x → DeclAt w' (w.heap.size + 1) w'.heap.size w.heap.size (0 + j * 2) x
theorem toDecls_step {w w1 w2 : World} {xs : List (GDecl)} {i : Nat} {E1 : Option Addr} {e1 : Nat} (h : ToDeclsSt w xs i w1) (hi : i < xs.length) (hb : Below w1.heap.size w1 w2) (t1 : StrsAt w2 w1.heap.size w2.heap.size E1 xs[i].types) :
    (∀ j, j < 2 → ∃ u, w2.cell? ⟨w.heap.size, i * 2 + j, none⟩ = some u) ∧ (∀ j, w2.frozen? ⟨w.heap.size, j, none⟩ = false) ∧ ToDeclsSt w xs (i + 1) (setW w2 w.heap.size (i * 2) [.string xs[i].name, .slice E1 xs[i].types.length e1]) := by
  obtain ⟨l, hl, hW, hA⟩ := h
  have hW2 := hW.below hb hW.lt
  have hg := hW.lt
  have hsz := setW_size [.string xs[i].name, .slice E1 xs[i].types.length e1] w2 w.heap.size (i * 2)
  have hz := hb.size
  refine ⟨fun j hj => ⟨l[i * 2 + j]'(by omega), by rw [hW2.cell, List.getElem?_eq_getElem (by omega)]⟩, fun j => hW2.frozen j, setL l (i * 2) [.string xs[i].name, .slice E1 xs[i].types.length e1], by rw [setL_len]; exact hl, setW_whole _ _ hW2, fun j x hj hx => ?_⟩
  have hW3 := setW_whole [.string xs[i].name, .slice E1 xs[i].types.length e1] (i * 2) hW2
  by_cases e : j = i
  · subst e
    rw [List.getElem?_eq_getElem hi] at hx; injection hx with hx; subst hx
    have hin : ∀ q u, ([.string xs[j].name, .slice E1 xs[j].types.length e1] : List Value)[q]? = some u → (setW w2 w.heap.size (j * 2) [.string xs[j].name, .slice E1 xs[j].types.length e1]).cell? ⟨w.heap.size, 0 + j * 2 + q, none⟩ = some u := fun q u hq => by
      rw [hW3.cell, Nat.zero_add]; exact setL_in _ _ _ _ _ (by simp; omega) hq
    exact ⟨hin 0 _ rfl, ⟨E1, e1, hin 1 _ rfl, (t1.keep (fun b h1 h2 => setW_block _ _ _ _ b (by omega))).mono (by omega) (by omega)⟩⟩
  · refine ((hA j x (by omega) hx).mono (Nat.le_refl _) (Nat.le_refl _)).same (fun q hq => ?_) (fun b h1 h2 => ?_) |>.mono (Nat.le_refl _) (by omega)
    · rw [hW3.cell, hW.cell]; exact setL_out _ _ _ _ (by simp; omega)
    · rw [setW_block _ _ _ _ b (by omega)]; exact hb.block b h2
set_option maxRecDepth 100000 in
set_option maxHeartbeats 1600000 in
theorem to_Decls {lo : Nat} (A : Option Addr) (c : Nat) (xs : List (GDecl)) (w : World) (hk : costDecls xs ≤ 1048576) (hr : DeclsAt w lo w.heap.size A xs) :
    Calls Tryz.prog 13 #[.slice A xs.length c] w (ToDecls w xs) := by
  obtain ⟨i0, hi0, hz0, hz1, hz2⟩ := info_parts infoDecl
  have hl : xs.length ≤ 1048576 := by unfold costDecls at hk; omega
  have hmk := fun W => run_make (P := Tryz.prog) W 28 40 i0 _ Tryz.underlying28 hi0 hz0 .i64 .i64 xs.length xs.length (by omega) (by omega) (by rw [hz2]; omega) (by omega)
  have HK := Lib.hid hk
  have HR := Lib.hid hr
  clear hk hr
  have HS0 := Lib.hid (show ToDeclsSt w xs 0 (w.alloc (.cells (madeCells #[.string ByteArray.empty, .slice none 0 0] (xs.length * 2)) 40)) from ⟨(madeCells #[.string ByteArray.empty, .slice none 0 0] (xs.length * 2)).toList, by simp [size_madeCells], by have h := Whole.new w 40 (madeCells #[.string ByteArray.empty, .slice none 0 0] (xs.length * 2)).toList; rw [Array.toArray_toList] at h; exact h, fun j x hj => by omega⟩)
  go_enter Tryz.func13, Tryz.ntmps13
  go_wp2_with fail
  clear hmk
  go_loopw [4] (fun i w' => ∃ k : Nat, k ≤ xs.length ∧ i = .int .i64 k ∧ Hid (ToDeclsSt w xs k w') ∧ w.heap.size < w'.heap.size ∧ Hid (UF w' w.heap.size w'.heap.size) ∧ Below w.heap.size w w') (fun i _ => xs.length - (intOf i).toNat)
  case atStart => exact ⟨0, Nat.zero_le _, rfl, HS0, by simp, Lib.hid ((UF.start w).alloc _ _), (Below.refl _ _).alloc (Nat.le_refl _) _⟩
  case round =>
    obtain ⟨k, hk, rfl, hS, hwz, hUF, hB⟩ := hrel
    by_cases hlt : k < xs.length
    · obtain ⟨g, o, rfl, hg0, hg, he⟩ := (HR.out.to_ hB).at_ hlt
      have hi0 : (0 : Int) ≤ (k : Int) := by omega
      have hi1 : (k : Int) < (xs.length : Int) := by omega
      have hck : costDecl xs[k] ≤ 1048576 := by have h1 := HK.out; have h2 := sumC_mem costDecl xs _ (List.getElem_mem hlt); unfold costDecls at h1; omega
      obtain ⟨h0, h1⟩ := he
      obtain ⟨A1, c1, h1y, s1⟩ := h1
      go_wp2_with fail
      refine (to_Decl xs[k] A1 c1 _ hck s1).mono ?_
      rintro e w2 ⟨E1, e1, rfl, t1, uf2, hb2⟩
      clear h0 h1y
      obtain ⟨hc, hf, hst⟩ := toDecls_step (E1 := E1) (e1 := e1) hS.out hlt hb2 t1
      obtain ⟨u0, q0⟩ := hc 0 (by omega)
      have r0 := hf (k * 2)
      obtain ⟨u1, q1⟩ := hc 1 (by omega)
      have r1 := hf (k * 2 + 1)
      rw [Nat.add_zero] at q0
      have HST := Lib.hid hst
      have hB2 := below_next hB hb2 rfl rfl
      have hz2' := hb2.size
      have hB3 := setW_below [.string xs[k].name, .slice E1 xs[k].types.length e1] w.heap.size (k * 2) hB2 (Nat.le_refl _)
      have hz3 : w.heap.size < (setW w2 w.heap.size (k * 2) [.string xs[k].name, .slice E1 xs[k].types.length e1]).heap.size := by rw [setW_size]; omega
      have hU3 := Lib.hid (show UF (setW w2 w.heap.size (k * 2) [.string xs[k].name, .slice E1 xs[k].types.length e1]) w.heap.size (setW w2 w.heap.size (k * 2) [.string xs[k].name, .slice E1 xs[k].types.length e1]).heap.size by rw [setW_size]; exact UF.setW _ _ _ (hUF.out.next hb2 uf2))
      clear hc hf hst hb2 uf2 t1
      go_wp2_with fail
      go_roundw
      case rel => exact ⟨k + 1, by omega, by go_num, HST, hz3, hU3, hB3⟩
      case measure => simp [intOf]; omega
    · have hi1 : ¬ (k : Int) < (xs.length : Int) := by omega
      go_wp2_with fail
      go_ret
      obtain ⟨l, h1, h2, h3⟩ := hS.out
      exact ⟨some ⟨w.heap.size, 0, none⟩, xs.length, rfl, .inr ⟨w.heap.size, 0, rfl, Nat.le_refl _, hwz, fun j x hx => (h3 j x (by have := (List.getElem?_eq_some_iff.1 hx).1; omega) hx).mono (by omega) (Nat.le_refl _)⟩, hUF.out, hB⟩

def ToProgram (w : World) (x : GProgram) (e : Ending) (w' : World) : Prop := ∃ (A0 : Option Addr) (c0 : Nat) (A1 : Option Addr) (c1 : Nat), e = .returned (.agg #[.slice A0 x.decls.length c0, .slice A1 x.rules.length c1]) ∧ DeclsAt w' w.heap.size w'.heap.size A0 x.decls ∧ RulesAt w' w.heap.size w'.heap.size A1 x.rules ∧ UF w' w.heap.size w'.heap.size ∧ Below w.heap.size w w'
set_option maxRecDepth 100000 in
set_option maxHeartbeats 3200000 in
theorem to_Program {lo : Nat} (x : GProgram) (A0 : Option Addr) (c0 : Nat) (A1 : Option Addr) (c1 : Nat) (w : World) (hk : costProgram x ≤ 1048576) (s0 : DeclsAt w lo w.heap.size A0 x.decls) (s1 : RulesAt w lo w.heap.size A1 x.rules) :
    Calls Tryz.prog 6 #[.agg #[.slice A0 x.decls.length c0, .slice A1 x.rules.length c1]] w (ToProgram w x) := by
  unfold costProgram at hk
  obtain ⟨hP, hR, hO, hB, hZ, hF⟩ := three_new w #[.slice A0 x.decls.length c0, .slice A1 x.rules.length c1] 25 31 [.slice none 0 0, .slice none 0 0] [.slice none 0 0, .slice none 0 0]
  have HP := Lib.hid hP
  have HR := Lib.hid hR
  have HO := Lib.hid hO
  have HB := Lib.hid hB
  have HZ := Lib.hid hZ
  have HF := Lib.hid hF
  clear hP hR hO hB hZ hF
  go_enter Tryz.func6, Tryz.ntmps6
  go_wp2_with fail
  refine (to_Decls A0 c0 x.decls _ (by omega) (s0.to_ HB.out)).mono ?_
  rintro e w0 ⟨E0, e0, rfl, t0, uf0, hb0⟩
  have hZ := HZ.out
  have hz0 : w.heap.size + 3 ≤ w0.heap.size := Nat.le_trans (Nat.le_of_eq hZ.symm) hb0.size
  have O0 := HO.out.below hb0 (Nat.lt_of_lt_of_eq (show w.heap.size + 1 + 1 < w.heap.size + 3 by omega) hZ.symm)
  have R0 := HR.out.below hb0 (Nat.lt_of_lt_of_eq (show w.heap.size + 1 < w.heap.size + 3 by omega) hZ.symm)
  have P0 := HP.out.below hb0 (Nat.lt_of_lt_of_eq (show w.heap.size < w.heap.size + 3 by omega) hZ.symm)
  have B0 := HB.out.trans (hb0.mono (Nat.le_trans (show w.heap.size ≤ w.heap.size + 3 by omega) (Nat.le_of_eq hZ.symm)))
  have F0 := HF.out.next hb0 uf0
  have T0 := Lib.hid ((show DeclsAt w0 (w.heap.size + 3) w0.heap.size E0 x.decls from t0.mono (Nat.le_of_eq hZ.symm) (Nat.le_refl _)))
  clear hZ HZ HF uf0 hb0 t0
  have p0_0 : w0.cell? ⟨w.heap.size, 0, none⟩ = some (.slice A0 x.decls.length c0) := P0.cell 0
  have o0_0 : w0.cell? ⟨w.heap.size + 1 + 1, 0, none⟩ = some (.slice none 0 0) := O0.cell 0
  have r0_0 : w0.cell? ⟨w.heap.size + 1, 0, none⟩ = some (.slice none 0 0) := R0.cell 0
  have x0_0 : w0.frozen? ⟨w.heap.size + 1 + 1, 0, none⟩ = false := O0.frozen 0
  have y0_0 : w0.frozen? ⟨w.heap.size + 1, 0, none⟩ = false := R0.frozen 0
  have p0_1 : w0.cell? ⟨w.heap.size, 1, none⟩ = some (.slice A1 x.rules.length c1) := P0.cell 1
  have o0_1 : w0.cell? ⟨w.heap.size + 1 + 1, 1, none⟩ = some (.slice none 0 0) := O0.cell 1
  have r0_1 : w0.cell? ⟨w.heap.size + 1, 1, none⟩ = some (.slice none 0 0) := R0.cell 1
  have x0_1 : w0.frozen? ⟨w.heap.size + 1 + 1, 1, none⟩ = false := O0.frozen 1
  have y0_1 : w0.frozen? ⟨w.heap.size + 1, 1, none⟩ = false := R0.frozen 1
  have HP0 := Lib.hid P0
  have HR0 := Lib.hid R0
  have HO0 := Lib.hid O0
  have HB0 := Lib.hid B0
  have HF0 := Lib.hid F0
  clear P0 R0 O0 B0 F0
  go_wp2_with fail
  refine (to_Rules A1 c1 x.rules _ (by omega) (s1.to_ (HB0.out.setCell (p := ⟨w.heap.size + 1 + 1, 0, none⟩) (by show w.heap.size ≤ w.heap.size + 1 + 1; omega) (.slice E0 x.decls.length e0)))).mono ?_
  rintro e w1 ⟨E1, e1, rfl, t1, uf1, hb1⟩
  clear p0_0 o0_0 r0_0 x0_0 y0_0 p0_1 o0_1 r0_1 x0_1 y0_1
  have zW : (w0.setCell ⟨w.heap.size + 1 + 1, 0, none⟩ (.slice E0 x.decls.length e0)).heap.size = w0.heap.size := setW_size [.slice E0 x.decls.length e0] w0 (w.heap.size + 1 + 1) 0
  have hz1 : w.heap.size + 3 ≤ w1.heap.size := Nat.le_trans hz0 (Nat.le_trans (Nat.le_of_eq zW.symm) hb1.size)
  have O1 : Whole w1 (w.heap.size + 1 + 1) 31 [.slice E0 x.decls.length e0, .slice none 0 0] := (setW_whole [.slice E0 x.decls.length e0] 0 HO0.out).below hb1 (Nat.lt_of_lt_of_le (show w.heap.size + 1 + 1 < w.heap.size + 3 by omega) (Nat.le_trans hz0 (Nat.le_of_eq zW.symm)))
  have R1 : Whole w1 (w.heap.size + 1) 31 [.slice none 0 0, .slice none 0 0] := (HR0.out.offW (b := w.heap.size + 1 + 1) (o := 0) [.slice E0 x.decls.length e0] (by omega)).below hb1 (Nat.lt_of_lt_of_le (show w.heap.size + 1 < w.heap.size + 3 by omega) (Nat.le_trans hz0 (Nat.le_of_eq zW.symm)))
  have P1 : Whole w1 w.heap.size 25 [.slice A0 x.decls.length c0, .slice A1 x.rules.length c1] := (HP0.out.offW (b := w.heap.size + 1 + 1) (o := 0) [.slice E0 x.decls.length e0] (by omega)).below hb1 (Nat.lt_of_lt_of_le (show w.heap.size < w.heap.size + 3 by omega) (Nat.le_trans hz0 (Nat.le_of_eq zW.symm)))
  have B1 : Below w.heap.size w w1 := (setW_below [.slice E0 x.decls.length e0] (w.heap.size + 1 + 1) 0 HB0.out (by omega)).trans (hb1.mono (Nat.le_trans (show w.heap.size ≤ w.heap.size + 3 by omega) (Nat.le_trans hz0 (Nat.le_of_eq zW.symm))))
  have F1 : UF w1 w.heap.size w1.heap.size := UF.next (show UF (w0.setCell ⟨w.heap.size + 1 + 1, 0, none⟩ (.slice E0 x.decls.length e0)) w.heap.size (w0.setCell ⟨w.heap.size + 1 + 1, 0, none⟩ (.slice E0 x.decls.length e0)).heap.size from fun b h1 h2 o => UF.setW [.slice E0 x.decls.length e0] (w.heap.size + 1 + 1) 0 HF0.out b h1 (by rw [← zW]; exact h2) o) hb1 uf1
  have T0_1 := Lib.hid (show DeclsAt w1 (w.heap.size + 3) w1.heap.size E0 x.decls from ((show DeclsAt (w0.setCell ⟨w.heap.size + 1 + 1, 0, none⟩ (.slice E0 x.decls.length e0)) (w.heap.size + 3) (w0.setCell ⟨w.heap.size + 1 + 1, 0, none⟩ (.slice E0 x.decls.length e0)).heap.size E0 x.decls from (T0.out.keep (fun b h1 h2 => setW_block [.slice E0 x.decls.length e0] w0 (w.heap.size + 1 + 1) 0 b (by omega))).mono (Nat.le_refl _) (Nat.le_of_eq zW.symm)).to_ hb1))
  clear T0
  have T0 := T0_1
  clear T0_1
  have T1 := Lib.hid (show RulesAt w1 (w.heap.size + 3) w1.heap.size E1 x.rules from t1.mono (Nat.le_trans hz0 (Nat.le_of_eq zW.symm)) (Nat.le_refl _))
  clear zW uf1 hb1 t1 HO0 HR0 HP0 HB0 HF0
  have p1_0 : w1.cell? ⟨w.heap.size, 0, none⟩ = some (.slice A0 x.decls.length c0) := P1.cell 0
  have o1_0 : w1.cell? ⟨w.heap.size + 1 + 1, 0, none⟩ = some (.slice E0 x.decls.length e0) := O1.cell 0
  have r1_0 : w1.cell? ⟨w.heap.size + 1, 0, none⟩ = some (.slice none 0 0) := R1.cell 0
  have x1_0 : w1.frozen? ⟨w.heap.size + 1 + 1, 0, none⟩ = false := O1.frozen 0
  have y1_0 : w1.frozen? ⟨w.heap.size + 1, 0, none⟩ = false := R1.frozen 0
  have p1_1 : w1.cell? ⟨w.heap.size, 1, none⟩ = some (.slice A1 x.rules.length c1) := P1.cell 1
  have o1_1 : w1.cell? ⟨w.heap.size + 1 + 1, 1, none⟩ = some (.slice none 0 0) := O1.cell 1
  have r1_1 : w1.cell? ⟨w.heap.size + 1, 1, none⟩ = some (.slice none 0 0) := R1.cell 1
  have x1_1 : w1.frozen? ⟨w.heap.size + 1 + 1, 1, none⟩ = false := O1.frozen 1
  have y1_1 : w1.frozen? ⟨w.heap.size + 1, 1, none⟩ = false := R1.frozen 1
  have HP1 := Lib.hid P1
  have HR1 := Lib.hid R1
  have HO1 := Lib.hid O1
  have HB1 := Lib.hid B1
  have HF1 := Lib.hid F1
  clear P1 R1 O1 B1 F1
  go_wp2_with fail
  clear p1_0 o1_0 r1_0 x1_0 y1_0 p1_1 o1_1 r1_1 x1_1 y1_1
  have WF : Whole (((w1.setCell ⟨w.heap.size + 1 + 1, 1, none⟩ (.slice E1 x.rules.length e1)).setCell ⟨w.heap.size + 1, 0, none⟩ (.slice E0 x.decls.length e0)).setCell ⟨w.heap.size + 1, 1, none⟩ (.slice E1 x.rules.length e1)) (w.heap.size + 1) 31 [.slice E0 x.decls.length e0, .slice E1 x.rules.length e1] := setW_whole [.slice E0 x.decls.length e0, .slice E1 x.rules.length e1] 0 (HR1.out.offW (b := w.heap.size + 1 + 1) (o := 1) [.slice E1 x.rules.length e1] (by omega))
  have d0 : (((w1.setCell ⟨w.heap.size + 1 + 1, 1, none⟩ (.slice E1 x.rules.length e1)).setCell ⟨w.heap.size + 1, 0, none⟩ (.slice E0 x.decls.length e0)).setCell ⟨w.heap.size + 1, 1, none⟩ (.slice E1 x.rules.length e1)).cell? ⟨w.heap.size + 1, 0, none⟩ = some (.slice E0 x.decls.length e0) := WF.cell 0
  have d1 : (((w1.setCell ⟨w.heap.size + 1 + 1, 1, none⟩ (.slice E1 x.rules.length e1)).setCell ⟨w.heap.size + 1, 0, none⟩ (.slice E0 x.decls.length e0)).setCell ⟨w.heap.size + 1, 1, none⟩ (.slice E1 x.rules.length e1)).cell? ⟨w.heap.size + 1, 1, none⟩ = some (.slice E1 x.rules.length e1) := WF.cell 1
  have zW : (((w1.setCell ⟨w.heap.size + 1 + 1, 1, none⟩ (.slice E1 x.rules.length e1)).setCell ⟨w.heap.size + 1, 0, none⟩ (.slice E0 x.decls.length e0)).setCell ⟨w.heap.size + 1, 1, none⟩ (.slice E1 x.rules.length e1)).heap.size = w1.heap.size := (setW_size [.slice E0 x.decls.length e0, .slice E1 x.rules.length e1] _ (w.heap.size + 1) 0).trans (setW_size [.slice E1 x.rules.length e1] w1 (w.heap.size + 1 + 1) 1)
  have hY : Below w.heap.size w (((w1.setCell ⟨w.heap.size + 1 + 1, 1, none⟩ (.slice E1 x.rules.length e1)).setCell ⟨w.heap.size + 1, 0, none⟩ (.slice E0 x.decls.length e0)).setCell ⟨w.heap.size + 1, 1, none⟩ (.slice E1 x.rules.length e1)) := setW_below [.slice E0 x.decls.length e0, .slice E1 x.rules.length e1] (w.heap.size + 1) 0 (setW_below [.slice E1 x.rules.length e1] (w.heap.size + 1 + 1) 1 HB1.out (by omega)) (by omega)
  have U0 : DeclsAt (((w1.setCell ⟨w.heap.size + 1 + 1, 1, none⟩ (.slice E1 x.rules.length e1)).setCell ⟨w.heap.size + 1, 0, none⟩ (.slice E0 x.decls.length e0)).setCell ⟨w.heap.size + 1, 1, none⟩ (.slice E1 x.rules.length e1)) w.heap.size (((w1.setCell ⟨w.heap.size + 1 + 1, 1, none⟩ (.slice E1 x.rules.length e1)).setCell ⟨w.heap.size + 1, 0, none⟩ (.slice E0 x.decls.length e0)).setCell ⟨w.heap.size + 1, 1, none⟩ (.slice E1 x.rules.length e1)).heap.size E0 x.decls := (T0.out.keep (fun b h1 h2 => (setW_block [.slice E0 x.decls.length e0, .slice E1 x.rules.length e1] _ (w.heap.size + 1) 0 b (by omega)).trans (setW_block [.slice E1 x.rules.length e1] w1 (w.heap.size + 1 + 1) 1 b (by omega)))).mono (by omega) (Nat.le_of_eq zW.symm)
  have U1 : RulesAt (((w1.setCell ⟨w.heap.size + 1 + 1, 1, none⟩ (.slice E1 x.rules.length e1)).setCell ⟨w.heap.size + 1, 0, none⟩ (.slice E0 x.decls.length e0)).setCell ⟨w.heap.size + 1, 1, none⟩ (.slice E1 x.rules.length e1)) w.heap.size (((w1.setCell ⟨w.heap.size + 1 + 1, 1, none⟩ (.slice E1 x.rules.length e1)).setCell ⟨w.heap.size + 1, 0, none⟩ (.slice E0 x.decls.length e0)).setCell ⟨w.heap.size + 1, 1, none⟩ (.slice E1 x.rules.length e1)).heap.size E1 x.rules := (T1.out.keep (fun b h1 h2 => (setW_block [.slice E0 x.decls.length e0, .slice E1 x.rules.length e1] _ (w.heap.size + 1) 0 b (by omega)).trans (setW_block [.slice E1 x.rules.length e1] w1 (w.heap.size + 1 + 1) 1 b (by omega)))).mono (by omega) (Nat.le_of_eq zW.symm)
  have hF : UF (((w1.setCell ⟨w.heap.size + 1 + 1, 1, none⟩ (.slice E1 x.rules.length e1)).setCell ⟨w.heap.size + 1, 0, none⟩ (.slice E0 x.decls.length e0)).setCell ⟨w.heap.size + 1, 1, none⟩ (.slice E1 x.rules.length e1)) w.heap.size (((w1.setCell ⟨w.heap.size + 1 + 1, 1, none⟩ (.slice E1 x.rules.length e1)).setCell ⟨w.heap.size + 1, 0, none⟩ (.slice E0 x.decls.length e0)).setCell ⟨w.heap.size + 1, 1, none⟩ (.slice E1 x.rules.length e1)).heap.size := fun b h1 h2 o => UF.setW [.slice E0 x.decls.length e0, .slice E1 x.rules.length e1] (w.heap.size + 1) 0 (UF.setW [.slice E1 x.rules.length e1] (w.heap.size + 1 + 1) 1 HF1.out) b h1 (by rw [← zW]; exact h2) o
  clear WF zW T0 T1
  generalize (((w1.setCell ⟨w.heap.size + 1 + 1, 1, none⟩ (.slice E1 x.rules.length e1)).setCell ⟨w.heap.size + 1, 0, none⟩ (.slice E0 x.decls.length e0)).setCell ⟨w.heap.size + 1, 1, none⟩ (.slice E1 x.rules.length e1)) = wf at d0 d1 hY hF U0 U1 ⊢
  exact bodyPost_ret (v := .agg #[.slice E0 x.decls.length e0, .slice E1 x.rules.length e1]) (by simp [results, Tryz.results6, go_sem, d0, d1]) rfl ⟨_, _, _, _, rfl, U0, U1, hF, hY⟩

end Go.Proofs.YtbfcolmglbeefaaGreat
