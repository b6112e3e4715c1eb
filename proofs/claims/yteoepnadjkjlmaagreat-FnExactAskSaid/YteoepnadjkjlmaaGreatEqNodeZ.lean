/-
  laws.toNodeSS. laws.toRule and its like. laws.eqNode and its like, at equal data.
-/
import Derived.Test.YteoepnadjkjlmaaGreatToNode
import Derived.Test.YteoepnadjkjlmaaGreatSzAtomZ
import Derived.Test.YteoepnadjkjlmaaGreatSzNodesZ
import Derived.Test.YteoepnadjkjlmaaGreatEqRelZ
namespace Go.Proofs.YteoepnadjkjlmaaGreat
open Go.RowKit Go.Sort
set_option linter.unusedVariables false

theorem infoNodeS : (Tryz.prog.info? 50).map (fun i => (i.zero, i.size, i.bytes)) = some (some (.slice none 0 0), 1, 24) := by kernel_rfl
/-- What laws.toNodeSS leaves. -/
def ToNodeSs (w : World) (xs : List (List GNode)) (e : Ending) (w' : World) : Prop := ∃ (A : Option Addr) (c : Nat), e = .returned (.slice A xs.length c) ∧ NodeSsAt w' w.heap.size w'.heap.size A xs ∧ UF w' w.heap.size w'.heap.size ∧ Below w.heap.size w w'
def ToNodeSsSt (w : World) (xs : List (List GNode)) (i : Nat) (w' : World) : Prop := ∃ l : List Value, l.length = xs.length * 1 ∧ Whole w' w.heap.size 50 l ∧ ∀ j x, j < i → xs[j]? = some x → NodeSAt w' (w.heap.size + 1) w'.heap.size w.heap.size (0 + j) x
theorem toNodeSs_step {w w1 w2 : World} {xs : List (List GNode)} {i : Nat} {E0 : Option Addr} {e0 : Nat} (h : ToNodeSsSt w xs i w1) (hi : i < xs.length) (hb : Below w1.heap.size w1 w2) (v0 : CapOk xs[i].length e0) (t0 : NodesAt w2 w1.heap.size w2.heap.size E0 xs[i]) :
    (∀ j, j < 1 → ∃ u, w2.cell? ⟨w.heap.size, i + j, none⟩ = some u) ∧ (∀ j, w2.frozen? ⟨w.heap.size, j, none⟩ = false) ∧ ToNodeSsSt w xs (i + 1) (setW w2 w.heap.size (i) [.slice E0 xs[i].length e0]) := by
  obtain ⟨l, hl, hW, hA⟩ := h
  have hW2 := hW.below hb hW.lt
  have hg := hW.lt
  have hsz := setW_size [.slice E0 xs[i].length e0] w2 w.heap.size (i)
  have hz := hb.size
  refine ⟨fun j hj => ⟨l[i + j]'(by omega), by rw [hW2.cell, List.getElem?_eq_getElem (by omega)]⟩, fun j => hW2.frozen j, setL l (i) [.slice E0 xs[i].length e0], by rw [setL_len]; exact hl, setW_whole _ _ hW2, fun j x hj hx => ?_⟩
  have hW3 := setW_whole [.slice E0 xs[i].length e0] (i) hW2
  by_cases e : j = i
  · subst e
    rw [List.getElem?_eq_getElem hi] at hx; injection hx with hx; subst hx
    have hin : ∀ q u, ([.slice E0 xs[j].length e0] : List Value)[q]? = some u → (setW w2 w.heap.size (j) [.slice E0 xs[j].length e0]).cell? ⟨w.heap.size, 0 + j + q, none⟩ = some u := fun q u hq => by
      rw [hW3.cell, Nat.zero_add]; exact setL_in _ _ _ _ _ (by simp; omega) hq
    exact ⟨E0, e0, ⟨hin 0 _ rfl, v0⟩, (t0.keep (fun b h1 h2 => setW_block _ _ _ _ b (by omega))).mono (by omega) (by omega)⟩
  · refine ((hA j x (by omega) hx).mono (Nat.le_refl _) (Nat.le_refl _)).same (fun q hq => ?_) (fun b h1 h2 => ?_) |>.mono (Nat.le_refl _) (by omega)
    · rw [hW3.cell, hW.cell]; exact setL_out _ _ _ _ (by simp; omega)
    · rw [setW_block _ _ _ _ b (by omega)]; exact hb.block b h2
set_option maxRecDepth 100000 in
set_option maxHeartbeats 1600000 in
theorem to_NodeSs {lo : Nat} (A : Option Addr) (c : Nat) (xs : List (List GNode)) (w : World) (hk : costNodeSs xs ≤ 1048576) (hr : NodeSsAt w lo w.heap.size A xs) :
    Calls Tryz.prog 24 #[.slice A xs.length c] w (ToNodeSs w xs) := by
  obtain ⟨i0, hi0, hz0, hz1, hz2⟩ := info_parts infoNodeS
  have hl : xs.length ≤ 1048576 := by unfold costNodeSs at hk; omega
  have hmk := fun W => run_make (P := Tryz.prog) W 32 50 i0 _ Tryz.underlying32 hi0 hz0 .i64 .i64 xs.length xs.length (by omega) (by omega) (by rw [hz2]; omega) (by omega)
  have HK := Lib.hid hk
  have HR := Lib.hid hr
  clear hk hr
  have HS0 := Lib.hid (show ToNodeSsSt w xs 0 (w.alloc (.cells (madeCells #[.slice none 0 0] (xs.length)) 50)) from ⟨(madeCells #[.slice none 0 0] (xs.length)).toList, by simp [size_madeCells], by have h := Whole.new w 50 (madeCells #[.slice none 0 0] (xs.length)).toList; rw [Array.toArray_toList] at h; exact h, fun j x hj => by omega⟩)
  go_enter Tryz.func24, Tryz.ntmps24
  go_wp2_with fail
  clear hmk
  go_loopw [4] (fun i w' => ∃ k : Nat, k ≤ xs.length ∧ i = .int .i64 k ∧ Hid (ToNodeSsSt w xs k w') ∧ w.heap.size < w'.heap.size ∧ Hid (UF w' w.heap.size w'.heap.size) ∧ Below w.heap.size w w') (fun i _ => xs.length - (intOf i).toNat)
  case atStart => exact ⟨0, Nat.zero_le _, rfl, HS0, by simp, Lib.hid ((UF.start w).alloc _ _), (Below.refl _ _).alloc (Nat.le_refl _) _⟩
  case round =>
    obtain ⟨k, hk, rfl, hS, hwz, hUF, hB⟩ := hrel
    by_cases hlt : k < xs.length
    · obtain ⟨g, o, rfl, hg0, hg, he⟩ := (HR.out.to_ hB).at_ hlt
      have hi0 : (0 : Int) ≤ (k : Int) := by omega
      have hi1 : (k : Int) < (xs.length : Int) := by omega
      have hck : costNodeS xs[k] ≤ 1048576 := by have h1 := HK.out; have h2 := sumC_mem costNodeS xs _ (List.getElem_mem hlt); unfold costNodeSs at h1; omega
      obtain ⟨A0, c0, ⟨h0y, q0⟩, s0⟩ := he
      go_wp2_with fail
      refine (to_Nodes A0 c0 xs[k] _ hck s0).mono ?_
      rintro e w2 ⟨E0, e0, rfl, ⟨v0, t0⟩, uf2, hb2⟩
      clear h0y
      obtain ⟨hc, hf, hst⟩ := toNodeSs_step (E0 := E0) (e0 := e0) hS.out hlt hb2 v0 t0
      obtain ⟨u0, q0⟩ := hc 0 (by omega)
      have r0 := hf (k)
      rw [Nat.add_zero] at q0
      have HST := Lib.hid hst
      have hB2 := below_next hB hb2 rfl rfl
      have hz2' := hb2.size
      have hB3 := setW_below [.slice E0 xs[k].length e0] w.heap.size (k) hB2 (Nat.le_refl _)
      have hz3 : w.heap.size < (setW w2 w.heap.size (k) [.slice E0 xs[k].length e0]).heap.size := by rw [setW_size]; omega
      have hU3 := Lib.hid (show UF (setW w2 w.heap.size (k) [.slice E0 xs[k].length e0]) w.heap.size (setW w2 w.heap.size (k) [.slice E0 xs[k].length e0]).heap.size by rw [setW_size]; exact UF.setW _ _ _ (hUF.out.next hb2 uf2))
      clear hc hf hst hb2 uf2 t0
      go_wp2_with fail
      go_roundw
      case rel => exact ⟨k + 1, by omega, by go_num, HST, hz3, hU3, hB3⟩
      case measure => simp [intOf]; omega
    · have hi1 : ¬ (k : Int) < (xs.length : Int) := by omega
      go_wp2_with fail
      go_ret
      obtain ⟨l, h1, h2, h3⟩ := hS.out
      exact ⟨some ⟨w.heap.size, 0, none⟩, xs.length, rfl, .inr ⟨w.heap.size, 0, rfl, Nat.le_refl _, hwz, fun j x hx => (h3 j x (by have := (List.getElem?_eq_some_iff.1 hx).1; omega) hx).mono (by omega) (Nat.le_refl _)⟩, hUF.out, hB⟩

end Go.Proofs.YteoepnadjkjlmaaGreat
namespace Go.Proofs.YteoepnadjkjlmaaGreat
open Go.RowKit Go.Sort
set_option linter.unusedVariables false

def ToAtom (w : World) (x : GAtom) (e : Ending) (w' : World) : Prop := ∃ (A1 : Option Addr) (c1 : Nat), e = .returned (.agg #[.string x.name, .slice A1 x.args.length c1]) ∧ NodeSsAt w' w.heap.size w'.heap.size A1 x.args ∧ UF w' w.heap.size w'.heap.size ∧ Below w.heap.size w w'
set_option maxRecDepth 100000 in
set_option maxHeartbeats 3200000 in
theorem to_Atom {lo : Nat} (x : GAtom) (A1 : Option Addr) (c1 : Nat) (w : World) (hk : costAtom x ≤ 1048576) (s1 : NodeSsAt w lo w.heap.size A1 x.args) :
    Calls Tryz.prog 8 #[.agg #[.string x.name, .slice A1 x.args.length c1]] w (ToAtom w x) := by
  unfold costAtom at hk
  obtain ⟨hP, hR, hO, hB, hZ, hF⟩ := three_new w #[.string x.name, .slice A1 x.args.length c1] 25 34 [.string ByteArray.empty, .slice none 0 0] [.string x.name, .slice none 0 0]
  have HP := Lib.hid hP
  have HR := Lib.hid hR
  have HO := Lib.hid hO
  have HB := Lib.hid hB
  have HZ := Lib.hid hZ
  have HF := Lib.hid hF
  clear hP hR hO hB hZ hF
  go_enter Tryz.func8, Tryz.ntmps8
  go_wp2_with fail
  refine (to_NodeSs A1 c1 x.args _ (by omega) (s1.to_ HB.out)).mono ?_
  rintro e w0 ⟨E1, e1, rfl, t1, uf0, hb0⟩
  have hZ := HZ.out
  have hz0 : w.heap.size + 3 ≤ w0.heap.size := Nat.le_trans (Nat.le_of_eq hZ.symm) hb0.size
  have O0 := HO.out.below hb0 (Nat.lt_of_lt_of_eq (show w.heap.size + 1 + 1 < w.heap.size + 3 by omega) hZ.symm)
  have R0 := HR.out.below hb0 (Nat.lt_of_lt_of_eq (show w.heap.size + 1 < w.heap.size + 3 by omega) hZ.symm)
  have P0 := HP.out.below hb0 (Nat.lt_of_lt_of_eq (show w.heap.size < w.heap.size + 3 by omega) hZ.symm)
  have B0 := HB.out.trans (hb0.mono (Nat.le_trans (show w.heap.size ≤ w.heap.size + 3 by omega) (Nat.le_of_eq hZ.symm)))
  have F0 := HF.out.next hb0 uf0
  have T1 := Lib.hid ((show NodeSsAt w0 (w.heap.size + 3) w0.heap.size E1 x.args from t1.mono (Nat.le_of_eq hZ.symm) (Nat.le_refl _)))
  clear hZ HZ HF uf0 hb0 t1
  have p0_0 : w0.cell? ⟨w.heap.size, 0, none⟩ = some (.string x.name) := P0.cell 0
  have o0_0 : w0.cell? ⟨w.heap.size + 1 + 1, 0, none⟩ = some (.string x.name) := O0.cell 0
  have r0_0 : w0.cell? ⟨w.heap.size + 1, 0, none⟩ = some (.string ByteArray.empty) := R0.cell 0
  have x0_0 : w0.frozen? ⟨w.heap.size + 1 + 1, 0, none⟩ = false := O0.frozen 0
  have y0_0 : w0.frozen? ⟨w.heap.size + 1, 0, none⟩ = false := R0.frozen 0
  have p0_1 : w0.cell? ⟨w.heap.size, 1, none⟩ = some (.slice A1 x.args.length c1) := P0.cell 1
  have o0_1 : w0.cell? ⟨w.heap.size + 1 + 1, 1, none⟩ = some (.slice none 0 0) := O0.cell 1
  have r0_1 : w0.cell? ⟨w.heap.size + 1, 1, none⟩ = some (.slice none 0 0) := R0.cell 1
  have x0_1 : w0.frozen? ⟨w.heap.size + 1 + 1, 1, none⟩ = false := O0.frozen 1
  have y0_1 : w0.frozen? ⟨w.heap.size + 1, 1, none⟩ = false := R0.frozen 1
  have HP0 := Lib.hid P0
  have HR0 := Lib.hid R0
  have HO0 := Lib.hid O0
  have HB0 := Lib.hid B0
  have HF0 := Lib.hid F0
  clear P0 R0 O0 B0 F0
  go_wp2_with fail
  clear p0_0 o0_0 r0_0 x0_0 y0_0 p0_1 o0_1 r0_1 x0_1 y0_1
  have WF : Whole (((w0.setCell ⟨w.heap.size + 1 + 1, 1, none⟩ (.slice E1 x.args.length e1)).setCell ⟨w.heap.size + 1, 0, none⟩ (.string x.name)).setCell ⟨w.heap.size + 1, 1, none⟩ (.slice E1 x.args.length e1)) (w.heap.size + 1) 34 [.string x.name, .slice E1 x.args.length e1] := setW_whole [.string x.name, .slice E1 x.args.length e1] 0 (HR0.out.offW (b := w.heap.size + 1 + 1) (o := 1) [.slice E1 x.args.length e1] (by omega))
  have d0 : (((w0.setCell ⟨w.heap.size + 1 + 1, 1, none⟩ (.slice E1 x.args.length e1)).setCell ⟨w.heap.size + 1, 0, none⟩ (.string x.name)).setCell ⟨w.heap.size + 1, 1, none⟩ (.slice E1 x.args.length e1)).cell? ⟨w.heap.size + 1, 0, none⟩ = some (.string x.name) := WF.cell 0
  have d1 : (((w0.setCell ⟨w.heap.size + 1 + 1, 1, none⟩ (.slice E1 x.args.length e1)).setCell ⟨w.heap.size + 1, 0, none⟩ (.string x.name)).setCell ⟨w.heap.size + 1, 1, none⟩ (.slice E1 x.args.length e1)).cell? ⟨w.heap.size + 1, 1, none⟩ = some (.slice E1 x.args.length e1) := WF.cell 1
  have zW : (((w0.setCell ⟨w.heap.size + 1 + 1, 1, none⟩ (.slice E1 x.args.length e1)).setCell ⟨w.heap.size + 1, 0, none⟩ (.string x.name)).setCell ⟨w.heap.size + 1, 1, none⟩ (.slice E1 x.args.length e1)).heap.size = w0.heap.size := (setW_size [.string x.name, .slice E1 x.args.length e1] _ (w.heap.size + 1) 0).trans (setW_size [.slice E1 x.args.length e1] w0 (w.heap.size + 1 + 1) 1)
  have hY : Below w.heap.size w (((w0.setCell ⟨w.heap.size + 1 + 1, 1, none⟩ (.slice E1 x.args.length e1)).setCell ⟨w.heap.size + 1, 0, none⟩ (.string x.name)).setCell ⟨w.heap.size + 1, 1, none⟩ (.slice E1 x.args.length e1)) := setW_below [.string x.name, .slice E1 x.args.length e1] (w.heap.size + 1) 0 (setW_below [.slice E1 x.args.length e1] (w.heap.size + 1 + 1) 1 HB0.out (by omega)) (by omega)
  have U1 : NodeSsAt (((w0.setCell ⟨w.heap.size + 1 + 1, 1, none⟩ (.slice E1 x.args.length e1)).setCell ⟨w.heap.size + 1, 0, none⟩ (.string x.name)).setCell ⟨w.heap.size + 1, 1, none⟩ (.slice E1 x.args.length e1)) w.heap.size (((w0.setCell ⟨w.heap.size + 1 + 1, 1, none⟩ (.slice E1 x.args.length e1)).setCell ⟨w.heap.size + 1, 0, none⟩ (.string x.name)).setCell ⟨w.heap.size + 1, 1, none⟩ (.slice E1 x.args.length e1)).heap.size E1 x.args := (T1.out.keep (fun b h1 h2 => (setW_block [.string x.name, .slice E1 x.args.length e1] _ (w.heap.size + 1) 0 b (by omega)).trans (setW_block [.slice E1 x.args.length e1] w0 (w.heap.size + 1 + 1) 1 b (by omega)))).mono (by omega) (Nat.le_of_eq zW.symm)
  have hF : UF (((w0.setCell ⟨w.heap.size + 1 + 1, 1, none⟩ (.slice E1 x.args.length e1)).setCell ⟨w.heap.size + 1, 0, none⟩ (.string x.name)).setCell ⟨w.heap.size + 1, 1, none⟩ (.slice E1 x.args.length e1)) w.heap.size (((w0.setCell ⟨w.heap.size + 1 + 1, 1, none⟩ (.slice E1 x.args.length e1)).setCell ⟨w.heap.size + 1, 0, none⟩ (.string x.name)).setCell ⟨w.heap.size + 1, 1, none⟩ (.slice E1 x.args.length e1)).heap.size := fun b h1 h2 o => UF.setW [.string x.name, .slice E1 x.args.length e1] (w.heap.size + 1) 0 (UF.setW [.slice E1 x.args.length e1] (w.heap.size + 1 + 1) 1 HF0.out) b h1 (by rw [← zW]; exact h2) o
  clear WF zW T1
  generalize (((w0.setCell ⟨w.heap.size + 1 + 1, 1, none⟩ (.slice E1 x.args.length e1)).setCell ⟨w.heap.size + 1, 0, none⟩ (.string x.name)).setCell ⟨w.heap.size + 1, 1, none⟩ (.slice E1 x.args.length e1)) = wf at d0 d1 hY hF U1 ⊢
  exact bodyPost_ret (v := .agg #[.string x.name, .slice E1 x.args.length e1]) (by simp [results, Tryz.results8, go_sem, d0, d1]) rfl ⟨_, _, rfl, U1, hF, hY⟩

end Go.Proofs.YteoepnadjkjlmaaGreat
namespace Go.Proofs.YteoepnadjkjlmaaGreat
open Go.RowKit Go.Sort
set_option linter.unusedVariables false

set_option maxHeartbeats 1600000 in
theorem eq_Node (x : GNode) (w : World) :
    Calls Tryz.prog 79 #[.agg #[.int .i64 x.k, .string x.name, .int .i64 x.v.k, .int .i64 x.v.n, .string x.v.t, .int .i64 x.size], .agg #[.int .i64 x.k, .string x.name, .int .i64 x.v.k, .int .i64 x.v.n, .string x.v.t, .int .i64 x.size]] w (EqYes w) := by
  obtain ⟨hP, hQ, hB, hZ⟩ := two_new w #[.int .i64 x.k, .string x.name, .int .i64 x.v.k, .int .i64 x.v.n, .string x.v.t, .int .i64 x.size] #[.int .i64 x.k, .string x.name, .int .i64 x.v.k, .int .i64 x.v.n, .string x.v.t, .int .i64 x.size] 81
  have HP := Lib.hid hP
  have HQ := Lib.hid hQ
  have HZ := Lib.hid hZ
  clear hP hQ hZ
  go_enter Tryz.func79, Tryz.ntmps79
  go_wp2_with fail
  refine (eq_Value x.v _).mono ?_
  rintro e w0 ⟨rfl, hb0⟩
  have B0 := below_next hB hb0 rfl rfl
  have P0 := HP.out.below hb0 HP.out.lt
  have Q0 := HQ.out.below hb0 HQ.out.lt
  have p0_0 : w0.cell? ⟨w.heap.size, 0, none⟩ = some (.int .i64 x.k) := P0.cell 0
  have q0_0 : w0.cell? ⟨w.heap.size + 1, 0, none⟩ = some (.int .i64 x.k) := Q0.cell 0
  have p0_1 : w0.cell? ⟨w.heap.size, 1, none⟩ = some (.string x.name) := P0.cell 1
  have q0_1 : w0.cell? ⟨w.heap.size + 1, 1, none⟩ = some (.string x.name) := Q0.cell 1
  have p0_2 : w0.cell? ⟨w.heap.size, 2, none⟩ = some (.int .i64 x.v.k) := P0.cell 2
  have q0_2 : w0.cell? ⟨w.heap.size + 1, 2, none⟩ = some (.int .i64 x.v.k) := Q0.cell 2
  have p0_3 : w0.cell? ⟨w.heap.size, 3, none⟩ = some (.int .i64 x.v.n) := P0.cell 3
  have q0_3 : w0.cell? ⟨w.heap.size + 1, 3, none⟩ = some (.int .i64 x.v.n) := Q0.cell 3
  have p0_4 : w0.cell? ⟨w.heap.size, 4, none⟩ = some (.string x.v.t) := P0.cell 4
  have q0_4 : w0.cell? ⟨w.heap.size + 1, 4, none⟩ = some (.string x.v.t) := Q0.cell 4
  have p0_5 : w0.cell? ⟨w.heap.size, 5, none⟩ = some (.int .i64 x.size) := P0.cell 5
  have q0_5 : w0.cell? ⟨w.heap.size + 1, 5, none⟩ = some (.int .i64 x.size) := Q0.cell 5
  have hP0 := Lib.hid P0
  have hQ0 := Lib.hid Q0
  clear P0 Q0
  go_wp2_with fail
  go_ret
  exact ⟨rfl, B0⟩

set_option maxHeartbeats 1600000 in
theorem eq_Nodes {lo lo' : Nat} (A D : Option Addr) (c d : Nat) (xs : List (GNode)) (w : World) (hk : costNodes xs ≤ 1048576) (hr : NodesAt w lo w.heap.size A xs) (hu : NodesAt w lo' w.heap.size D xs) :
    Calls Tryz.prog 60 #[.slice A xs.length c, .slice D xs.length d] w (EqYes w) := by
  have hl : xs.length ≤ 1048576 := by unfold costNodes at hk; omega
  have HR := Lib.hid hr
  have HU := Lib.hid hu
  have HK := Lib.hid hk
  clear hr hu hk
  go_enter Tryz.func60, Tryz.ntmps60
  go_wp2_with fail
  go_loopw [5] (fun i w' => ∃ k : Nat, k ≤ xs.length ∧ i = .int .i64 k ∧ Below w.heap.size w w') (fun i _ => xs.length - (intOf i).toNat)
  case atStart => exact ⟨0, Nat.zero_le _, rfl, Below.refl _ _⟩
  case round =>
    obtain ⟨k, hk, rfl, hB⟩ := hrel
    by_cases hlt : k < xs.length
    · obtain ⟨g, o, rfl, hg0, hg, he⟩ := (HR.out.to_ hB).at_ hlt
      obtain ⟨g', o', rfl, hg0', hg', he'⟩ := (HU.out.to_ hB).at_ hlt
      have hi0 : (0 : Int) ≤ (k : Int) := by omega
      have hi1 : (k : Int) < (xs.length : Int) := by omega
      have hck : costNode xs[k] ≤ 1048576 := by have h1 := HK.out; have h2 := sumC_mem costNode xs _ (List.getElem_mem hlt); unfold costNodes at h1; omega
      obtain ⟨h0, h1, h2, h3, h4, h5⟩ := he
      obtain ⟨k0, k1, k2, k3, k4, k5⟩ := he'
      have qa0 := cell_regrown h0
      have qb0 := cell_regrown k0
      have qa1 := cell_regrown h1
      have qb1 := cell_regrown k1
      have qa2 := cell_regrown h2
      have qb2 := cell_regrown k2
      have qa3 := cell_regrown h3
      have qb3 := cell_regrown k3
      have qa4 := cell_regrown h4
      have qb4 := cell_regrown k4
      have qa5 := cell_regrown h5
      have qb5 := cell_regrown k5
      clear h0 k0 h1 k1 h2 k2 h3 k3 h4 k4 h5 k5
      go_wp2_with fail
      refine wp_region_quiet_below (by kernel_rfl) (by kernel_rfl) ?_
      repeat (go_big_quiet_step (first | (go_at_call 79; exact Calls.regrown_of (eq_Node xs[k] _))))
      refine wpQuiet_nil ?_
      intro _ hw'
      obtain ⟨⟨dq, osq⟩, hw''⟩ := hw'
      subst hw''
      have hB2 := below_next hB (below_regrown wr dq osq) rfl rfl
      generalize grow (redrawn wr dq) osq = wx at *
      clear qa0 qb0 qa1 qb1 qa2 qb2 qa3 qb3 qa4 qb4 qa5 qb5
      go_wp2_with fail
      go_roundw
      case rel => exact ⟨k + 1, by omega, by go_num, hB2⟩
      case measure => simp [intOf]; omega
    · have hi1 : ¬ (k : Int) < (xs.length : Int) := by omega
      go_wp2_with fail
      go_ret
      exact ⟨rfl, hB⟩

end Go.Proofs.YteoepnadjkjlmaaGreat
