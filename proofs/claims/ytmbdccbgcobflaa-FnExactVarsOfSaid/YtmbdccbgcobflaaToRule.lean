/-
  laws.toRule and its like.
-/
import Derived.Test.YtmbdccbgcobflaaToNode
import Derived.Test.YtmbdccbgcobflaaTyRule
namespace Go.Proofs.Ytmbdccbgcobflaa
open Go.RowKit Go.Sort
set_option linter.unusedVariables false

def ToAtom (w : World) (x : GAtom) (e : Ending) (w' : World) : Prop := ∃ (A1 : Option Addr) (c1 : Nat), e = .returned (.agg #[.string x.name, .slice A1 x.args.length c1]) ∧ NodeSsAt w' w.heap.size w'.heap.size A1 x.args ∧ UF w' w.heap.size w'.heap.size ∧ Below w.heap.size w w'
set_option maxRecDepth 100000 in
set_option maxHeartbeats 3200000 in
theorem to_Atom {lo : Nat} (x : GAtom) (A1 : Option Addr) (c1 : Nat) (w : World) (hk : costAtom x ≤ 1048576) (s1 : NodeSsAt w lo w.heap.size A1 x.args) :
    Calls Try.prog 18 #[.agg #[.string x.name, .slice A1 x.args.length c1]] w (ToAtom w x) := by
  unfold costAtom at hk
  obtain ⟨hP, hR, hO, hB, hZ, hF⟩ := three_new w #[.string x.name, .slice A1 x.args.length c1] 24 33 [.string ByteArray.empty, .slice none 0 0] [.string x.name, .slice none 0 0]
  have HP := Lib.hid hP
  have HR := Lib.hid hR
  have HO := Lib.hid hO
  have HB := Lib.hid hB
  have HZ := Lib.hid hZ
  have HF := Lib.hid hF
  clear hP hR hO hB hZ hF
  go_enter Try.func18, Try.ntmps18
  go_wp2_with fail
  refine (to_NodeSs A1 c1 x.args _ (by omega) (s1.to_ HB.out)).mono ?_
  rintro e w0 ⟨E1, e1, rfl, t1, uf0, hb0⟩
  have hZ := HZ.out
  have hz0 : w.heap.size + 3 ≤ w0.heap.size := Nat.le_trans (Nat.le_of_eq hZ.symm) hb0.size
  have O0 := HO.out.below hb0 (Nat.lt_of_lt_of_eq (show w.heap.size + 1 + 1 < w.heap.size + 3 by omega) hZ.symm)
  have R0 := HR.out.below hb0 (Nat.lt_of_lt_of_eq (show w.heap.size + 1 < w.heap.size + 3 by omega) hZ.symm)
  have P0 := HP.out.below hb0 (Nat.lt_of_lt_of_eq (show w.heap.size < w.heap.size + 3 by omega) hZ.symm)
  have B0 := HB.out.trans (hb0.mono (Nat.le_trans (show w.heap.size ≤ w.heap.size + 3 by omega) (Nat.le_of_eq hZ.symm)))
  have F0 := HF.out.next hb0 uf0
  have T1 := Lib.hid ((show NodeSsAt w0 (w.heap.size + 3) w0.heap.size E1 x.args from t1.mono (Nat.le_of_eq hZ.symm) (Nat.le_refl _)))
  clear hZ HZ HF uf0 hb0 t1
  have p0_0 : w0.cell? ⟨w.heap.size, 0, none⟩ = some (.string x.name) := P0.cell 0
  have o0_0 : w0.cell? ⟨w.heap.size + 1 + 1, 0, none⟩ = some (.string x.name) := O0.cell 0
  have r0_0 : w0.cell? ⟨w.heap.size + 1, 0, none⟩ = some (.string ByteArray.empty) := R0.cell 0
  have x0_0 : w0.frozen? ⟨w.heap.size + 1 + 1, 0, none⟩ = false := O0.frozen 0
  have y0_0 : w0.frozen? ⟨w.heap.size + 1, 0, none⟩ = false := R0.frozen 0
  have p0_1 : w0.cell? ⟨w.heap.size, 1, none⟩ = some (.slice A1 x.args.length c1) := P0.cell 1
  have o0_1 : w0.cell? ⟨w.heap.size + 1 + 1, 1, none⟩ = some (.slice none 0 0) := O0.cell 1
  have r0_1 : w0.cell? ⟨w.heap.size + 1, 1, none⟩ = some (.slice none 0 0) := R0.cell 1
  have x0_1 : w0.frozen? ⟨w.heap.size + 1 + 1, 1, none⟩ = false := O0.frozen 1
  have y0_1 : w0.frozen? ⟨w.heap.size + 1, 1, none⟩ = false := R0.frozen 1
  have HP0 := Lib.hid P0
  have HR0 := Lib.hid R0
  have HO0 := Lib.hid O0
  have HB0 := Lib.hid B0
  have HF0 := Lib.hid F0
  clear P0 R0 O0 B0 F0
  go_wp2_with fail
  clear p0_0 o0_0 r0_0 x0_0 y0_0 p0_1 o0_1 r0_1 x0_1 y0_1
  have WF : Whole (((w0.setCell ⟨w.heap.size + 1 + 1, 1, none⟩ (.slice E1 x.args.length e1)).setCell ⟨w.heap.size + 1, 0, none⟩ (.string x.name)).setCell ⟨w.heap.size + 1, 1, none⟩ (.slice E1 x.args.length e1)) (w.heap.size + 1) 33 [.string x.name, .slice E1 x.args.length e1] := setW_whole [.string x.name, .slice E1 x.args.length e1] 0 (HR0.out.offW (b := w.heap.size + 1 + 1) (o := 1) [.slice E1 x.args.length e1] (by omega))
  have d0 : (((w0.setCell ⟨w.heap.size + 1 + 1, 1, none⟩ (.slice E1 x.args.length e1)).setCell ⟨w.heap.size + 1, 0, none⟩ (.string x.name)).setCell ⟨w.heap.size + 1, 1, none⟩ (.slice E1 x.args.length e1)).cell? ⟨w.heap.size + 1, 0, none⟩ = some (.string x.name) := WF.cell 0
  have d1 : (((w0.setCell ⟨w.heap.size + 1 + 1, 1, none⟩ (.slice E1 x.args.length e1)).setCell ⟨w.heap.size + 1, 0, none⟩ (.string x.name)).setCell ⟨w.heap.size + 1, 1, none⟩ (.slice E1 x.args.length e1)).cell? ⟨w.heap.size + 1, 1, none⟩ = some (.slice E1 x.args.length e1) := WF.cell 1
  have zW : (((w0.setCell ⟨w.heap.size + 1 + 1, 1, none⟩ (.slice E1 x.args.length e1)).setCell ⟨w.heap.size + 1, 0, none⟩ (.string x.name)).setCell ⟨w.heap.size + 1, 1, none⟩ (.slice E1 x.args.length e1)).heap.size = w0.heap.size := (setW_size [.string x.name, .slice E1 x.args.length e1] _ (w.heap.size + 1) 0).trans (setW_size [.slice E1 x.args.length e1] w0 (w.heap.size + 1 + 1) 1)
  have hY : Below w.heap.size w (((w0.setCell ⟨w.heap.size + 1 + 1, 1, none⟩ (.slice E1 x.args.length e1)).setCell ⟨w.heap.size + 1, 0, none⟩ (.string x.name)).setCell ⟨w.heap.size + 1, 1, none⟩ (.slice E1 x.args.length e1)) := setW_below [.string x.name, .slice E1 x.args.length e1] (w.heap.size + 1) 0 (setW_below [.slice E1 x.args.length e1] (w.heap.size + 1 + 1) 1 HB0.out (by omega)) (by omega)
  have U1 : NodeSsAt (((w0.setCell ⟨w.heap.size + 1 + 1, 1, none⟩ (.slice E1 x.args.length e1)).setCell ⟨w.heap.size + 1, 0, none⟩ (.string x.name)).setCell ⟨w.heap.size + 1, 1, none⟩ (.slice E1 x.args.length e1)) w.heap.size (((w0.setCell ⟨w.heap.size + 1 + 1, 1, none⟩ (.slice E1 x.args.length e1)).setCell ⟨w.heap.size + 1, 0, none⟩ (.string x.name)).setCell ⟨w.heap.size + 1, 1, none⟩ (.slice E1 x.args.length e1)).heap.size E1 x.args := (T1.out.keep (fun b h1 h2 => (setW_block [.string x.name, .slice E1 x.args.length e1] _ (w.heap.size + 1) 0 b (by omega)).trans (setW_block [.slice E1 x.args.length e1] w0 (w.heap.size + 1 + 1) 1 b (by omega)))).mono (by omega) (Nat.le_of_eq zW.symm)
  have hF : UF (((w0.setCell ⟨w.heap.size + 1 + 1, 1, none⟩ (.slice E1 x.args.length e1)).setCell ⟨w.heap.size + 1, 0, none⟩ (.string x.name)).setCell ⟨w.heap.size + 1, 1, none⟩ (.slice E1 x.args.length e1)) w.heap.size (((w0.setCell ⟨w.heap.size + 1 + 1, 1, none⟩ (.slice E1 x.args.length e1)).setCell ⟨w.heap.size + 1, 0, none⟩ (.string x.name)).setCell ⟨w.heap.size + 1, 1, none⟩ (.slice E1 x.args.length e1)).heap.size := fun b h1 h2 o => UF.setW [.string x.name, .slice E1 x.args.length e1] (w.heap.size + 1) 0 (UF.setW [.slice E1 x.args.length e1] (w.heap.size + 1 + 1) 1 HF0.out) b h1 (by rw [← zW]; exact h2) o
  clear WF zW T1
  generalize (((w0.setCell ⟨w.heap.size + 1 + 1, 1, none⟩ (.slice E1 x.args.length e1)).setCell ⟨w.heap.size + 1, 0, none⟩ (.string x.name)).setCell ⟨w.heap.size + 1, 1, none⟩ (.slice E1 x.args.length e1)) = wf at d0 d1 hY hF U1 ⊢
  exact bodyPost_ret (v := .agg #[.string x.name, .slice E1 x.args.length e1]) (by simp [results, Try.results18, go_sem, d0, d1]) rfl ⟨_, _, rfl, U1, hF, hY⟩

def ToLit (w : World) (x : GLit) (e : Ending) (w' : World) : Prop := ∃ (A2 : Option Addr) (c2 : Nat) (A4 : Option Addr) (c4 : Nat) (A5 : Option Addr) (c5 : Nat), e = .returned (.agg #[.int .i64 x.k, .string x.atom.name, .slice A2 x.atom.args.length c2, .string x.op, .slice A4 x.left.length c4, .slice A5 x.right.length c5]) ∧ NodeSsAt w' w.heap.size w'.heap.size A2 x.atom.args ∧ (CapOk x.left.length c4 ∧ NodesAt w' w.heap.size w'.heap.size A4 x.left) ∧ (CapOk x.right.length c5 ∧ NodesAt w' w.heap.size w'.heap.size A5 x.right) ∧ UF w' w.heap.size w'.heap.size ∧ Below w.heap.size w w'
set_option maxRecDepth 100000 in
set_option maxHeartbeats 3200000 in
theorem to_Lit {lo : Nat} (x : GLit) (A2 : Option Addr) (c2 : Nat) (A4 : Option Addr) (c4 : Nat) (A5 : Option Addr) (c5 : Nat) (w : World) (hk : costLit x ≤ 1048576) (s2 : NodeSsAt w lo w.heap.size A2 x.atom.args) (s4 : NodesAt w lo w.heap.size A4 x.left) (s5 : NodesAt w lo w.heap.size A5 x.right) :
    Calls Try.prog 34 #[.agg #[.int .i64 x.k, .string x.atom.name, .slice A2 x.atom.args.length c2, .string x.op, .slice A4 x.left.length c4, .slice A5 x.right.length c5]] w (ToLit w x) := by
  unfold costLit at hk
  obtain ⟨hP, hR, hO, hB, hZ, hF⟩ := three_new w #[.int .i64 x.k, .string x.atom.name, .slice A2 x.atom.args.length c2, .string x.op, .slice A4 x.left.length c4, .slice A5 x.right.length c5] 69 48 [.int .i64 0, .string ByteArray.empty, .slice none 0 0, .string ByteArray.empty, .slice none 0 0, .slice none 0 0] [.int .i64 x.k, .string ByteArray.empty, .slice none 0 0, .string ByteArray.empty, .slice none 0 0, .slice none 0 0]
  have HP := Lib.hid hP
  have HR := Lib.hid hR
  have HO := Lib.hid hO
  have HB := Lib.hid hB
  have HZ := Lib.hid hZ
  have HF := Lib.hid hF
  clear hP hR hO hB hZ hF
  go_enter Try.func34, Try.ntmps34
  go_wp2_with fail
  refine (to_Atom x.atom A2 c2 _ (by omega) (s2.to_ HB.out)).mono ?_
  rintro e w0 ⟨E2, e2, rfl, t2, uf0, hb0⟩
  have hZ := HZ.out
  have hz0 : w.heap.size + 3 ≤ w0.heap.size := Nat.le_trans (Nat.le_of_eq hZ.symm) hb0.size
  have O0 := HO.out.below hb0 (Nat.lt_of_lt_of_eq (show w.heap.size + 1 + 1 < w.heap.size + 3 by omega) hZ.symm)
  have R0 := HR.out.below hb0 (Nat.lt_of_lt_of_eq (show w.heap.size + 1 < w.heap.size + 3 by omega) hZ.symm)
  have P0 := HP.out.below hb0 (Nat.lt_of_lt_of_eq (show w.heap.size < w.heap.size + 3 by omega) hZ.symm)
  have B0 := HB.out.trans (hb0.mono (Nat.le_trans (show w.heap.size ≤ w.heap.size + 3 by omega) (Nat.le_of_eq hZ.symm)))
  have F0 := HF.out.next hb0 uf0
  have T2 := Lib.hid ((show NodeSsAt w0 (w.heap.size + 3) w0.heap.size E2 x.atom.args from t2.mono (Nat.le_of_eq hZ.symm) (Nat.le_refl _)))
  clear hZ HZ HF uf0 hb0 t2
  have p0_0 : w0.cell? ⟨w.heap.size, 0, none⟩ = some (.int .i64 x.k) := P0.cell 0
  have o0_0 : w0.cell? ⟨w.heap.size + 1 + 1, 0, none⟩ = some (.int .i64 x.k) := O0.cell 0
  have r0_0 : w0.cell? ⟨w.heap.size + 1, 0, none⟩ = some (.int .i64 0) := R0.cell 0
  have x0_0 : w0.frozen? ⟨w.heap.size + 1 + 1, 0, none⟩ = false := O0.frozen 0
  have y0_0 : w0.frozen? ⟨w.heap.size + 1, 0, none⟩ = false := R0.frozen 0
  have p0_1 : w0.cell? ⟨w.heap.size, 1, none⟩ = some (.string x.atom.name) := P0.cell 1
  have o0_1 : w0.cell? ⟨w.heap.size + 1 + 1, 1, none⟩ = some (.string ByteArray.empty) := O0.cell 1
  have r0_1 : w0.cell? ⟨w.heap.size + 1, 1, none⟩ = some (.string ByteArray.empty) := R0.cell 1
  have x0_1 : w0.frozen? ⟨w.heap.size + 1 + 1, 1, none⟩ = false := O0.frozen 1
  have y0_1 : w0.frozen? ⟨w.heap.size + 1, 1, none⟩ = false := R0.frozen 1
  have p0_2 : w0.cell? ⟨w.heap.size, 2, none⟩ = some (.slice A2 x.atom.args.length c2) := P0.cell 2
  have o0_2 : w0.cell? ⟨w.heap.size + 1 + 1, 2, none⟩ = some (.slice none 0 0) := O0.cell 2
  have r0_2 : w0.cell? ⟨w.heap.size + 1, 2, none⟩ = some (.slice none 0 0) := R0.cell 2
  have x0_2 : w0.frozen? ⟨w.heap.size + 1 + 1, 2, none⟩ = false := O0.frozen 2
  have y0_2 : w0.frozen? ⟨w.heap.size + 1, 2, none⟩ = false := R0.frozen 2
  have p0_3 : w0.cell? ⟨w.heap.size, 3, none⟩ = some (.string x.op) := P0.cell 3
  have o0_3 : w0.cell? ⟨w.heap.size + 1 + 1, 3, none⟩ = some (.string ByteArray.empty) := O0.cell 3
  have r0_3 : w0.cell? ⟨w.heap.size + 1, 3, none⟩ = some (.string ByteArray.empty) := R0.cell 3
  have x0_3 : w0.frozen? ⟨w.heap.size + 1 + 1, 3, none⟩ = false := O0.frozen 3
  have y0_3 : w0.frozen? ⟨w.heap.size + 1, 3, none⟩ = false := R0.frozen 3
  have p0_4 : w0.cell? ⟨w.heap.size, 4, none⟩ = some (.slice A4 x.left.length c4) := P0.cell 4
  have o0_4 : w0.cell? ⟨w.heap.size + 1 + 1, 4, none⟩ = some (.slice none 0 0) := O0.cell 4
  have r0_4 : w0.cell? ⟨w.heap.size + 1, 4, none⟩ = some (.slice none 0 0) := R0.cell 4
  have x0_4 : w0.frozen? ⟨w.heap.size + 1 + 1, 4, none⟩ = false := O0.frozen 4
  have y0_4 : w0.frozen? ⟨w.heap.size + 1, 4, none⟩ = false := R0.frozen 4
  have p0_5 : w0.cell? ⟨w.heap.size, 5, none⟩ = some (.slice A5 x.right.length c5) := P0.cell 5
  have o0_5 : w0.cell? ⟨w.heap.size + 1 + 1, 5, none⟩ = some (.slice none 0 0) := O0.cell 5
  have r0_5 : w0.cell? ⟨w.heap.size + 1, 5, none⟩ = some (.slice none 0 0) := R0.cell 5
  have x0_5 : w0.frozen? ⟨w.heap.size + 1 + 1, 5, none⟩ = false := O0.frozen 5
  have y0_5 : w0.frozen? ⟨w.heap.size + 1, 5, none⟩ = false := R0.frozen 5
  have HP0 := Lib.hid P0
  have HR0 := Lib.hid R0
  have HO0 := Lib.hid O0
  have HB0 := Lib.hid B0
  have HF0 := Lib.hid F0
  clear P0 R0 O0 B0 F0
  go_wp2_with fail
  refine (to_Nodes A4 c4 x.left _ (by omega) (s4.to_ (((HB0.out.setCell (p := ⟨w.heap.size + 1 + 1, 1, none⟩) (by show w.heap.size ≤ w.heap.size + 1 + 1; omega) (.string x.atom.name)).setCell (p := ⟨w.heap.size + 1 + 1, 2, none⟩) (by show w.heap.size ≤ w.heap.size + 1 + 1; omega) (.slice E2 x.atom.args.length e2)).setCell (p := ⟨w.heap.size + 1 + 1, 3, none⟩) (by show w.heap.size ≤ w.heap.size + 1 + 1; omega) (.string x.op)))).mono ?_
  rintro e w1 ⟨E4, e4, rfl, ⟨v4, t4⟩, uf1, hb1⟩
  clear p0_0 o0_0 r0_0 x0_0 y0_0 p0_1 o0_1 r0_1 x0_1 y0_1 p0_2 o0_2 r0_2 x0_2 y0_2 p0_3 o0_3 r0_3 x0_3 y0_3 p0_4 o0_4 r0_4 x0_4 y0_4 p0_5 o0_5 r0_5 x0_5 y0_5
  have zW : (((w0.setCell ⟨w.heap.size + 1 + 1, 1, none⟩ (.string x.atom.name)).setCell ⟨w.heap.size + 1 + 1, 2, none⟩ (.slice E2 x.atom.args.length e2)).setCell ⟨w.heap.size + 1 + 1, 3, none⟩ (.string x.op)).heap.size = w0.heap.size := setW_size [.string x.atom.name, .slice E2 x.atom.args.length e2, .string x.op] w0 (w.heap.size + 1 + 1) 1
  have hz1 : w.heap.size + 3 ≤ w1.heap.size := Nat.le_trans hz0 (Nat.le_trans (Nat.le_of_eq zW.symm) hb1.size)
  have O1 : Whole w1 (w.heap.size + 1 + 1) 48 [.int .i64 x.k, .string x.atom.name, .slice E2 x.atom.args.length e2, .string x.op, .slice none 0 0, .slice none 0 0] := (setW_whole [.string x.atom.name, .slice E2 x.atom.args.length e2, .string x.op] 1 HO0.out).below hb1 (Nat.lt_of_lt_of_le (show w.heap.size + 1 + 1 < w.heap.size + 3 by omega) (Nat.le_trans hz0 (Nat.le_of_eq zW.symm)))
  have R1 : Whole w1 (w.heap.size + 1) 48 [.int .i64 0, .string ByteArray.empty, .slice none 0 0, .string ByteArray.empty, .slice none 0 0, .slice none 0 0] := (HR0.out.offW (b := w.heap.size + 1 + 1) (o := 1) [.string x.atom.name, .slice E2 x.atom.args.length e2, .string x.op] (by omega)).below hb1 (Nat.lt_of_lt_of_le (show w.heap.size + 1 < w.heap.size + 3 by omega) (Nat.le_trans hz0 (Nat.le_of_eq zW.symm)))
  have P1 : Whole w1 w.heap.size 69 [.int .i64 x.k, .string x.atom.name, .slice A2 x.atom.args.length c2, .string x.op, .slice A4 x.left.length c4, .slice A5 x.right.length c5] := (HP0.out.offW (b := w.heap.size + 1 + 1) (o := 1) [.string x.atom.name, .slice E2 x.atom.args.length e2, .string x.op] (by omega)).below hb1 (Nat.lt_of_lt_of_le (show w.heap.size < w.heap.size + 3 by omega) (Nat.le_trans hz0 (Nat.le_of_eq zW.symm)))
  have B1 : Below w.heap.size w w1 := (setW_below [.string x.atom.name, .slice E2 x.atom.args.length e2, .string x.op] (w.heap.size + 1 + 1) 1 HB0.out (by omega)).trans (hb1.mono (Nat.le_trans (show w.heap.size ≤ w.heap.size + 3 by omega) (Nat.le_trans hz0 (Nat.le_of_eq zW.symm))))
  have F1 : UF w1 w.heap.size w1.heap.size := UF.next (show UF (((w0.setCell ⟨w.heap.size + 1 + 1, 1, none⟩ (.string x.atom.name)).setCell ⟨w.heap.size + 1 + 1, 2, none⟩ (.slice E2 x.atom.args.length e2)).setCell ⟨w.heap.size + 1 + 1, 3, none⟩ (.string x.op)) w.heap.size (((w0.setCell ⟨w.heap.size + 1 + 1, 1, none⟩ (.string x.atom.name)).setCell ⟨w.heap.size + 1 + 1, 2, none⟩ (.slice E2 x.atom.args.length e2)).setCell ⟨w.heap.size + 1 + 1, 3, none⟩ (.string x.op)).heap.size from fun b h1 h2 o => UF.setW [.string x.atom.name, .slice E2 x.atom.args.length e2, .string x.op] (w.heap.size + 1 + 1) 1 HF0.out b h1 (by rw [← zW]; exact h2) o) hb1 uf1
  have T2_1 := Lib.hid (show NodeSsAt w1 (w.heap.size + 3) w1.heap.size E2 x.atom.args from ((show NodeSsAt (((w0.setCell ⟨w.heap.size + 1 + 1, 1, none⟩ (.string x.atom.name)).setCell ⟨w.heap.size + 1 + 1, 2, none⟩ (.slice E2 x.atom.args.length e2)).setCell ⟨w.heap.size + 1 + 1, 3, none⟩ (.string x.op)) (w.heap.size + 3) (((w0.setCell ⟨w.heap.size + 1 + 1, 1, none⟩ (.string x.atom.name)).setCell ⟨w.heap.size + 1 + 1, 2, none⟩ (.slice E2 x.atom.args.length e2)).setCell ⟨w.heap.size + 1 + 1, 3, none⟩ (.string x.op)).heap.size E2 x.atom.args from (T2.out.keep (fun b h1 h2 => setW_block [.string x.atom.name, .slice E2 x.atom.args.length e2, .string x.op] w0 (w.heap.size + 1 + 1) 1 b (by omega))).mono (Nat.le_refl _) (Nat.le_of_eq zW.symm)).to_ hb1))
  clear T2
  have T2 := T2_1
  clear T2_1
  have T4 := Lib.hid (show NodesAt w1 (w.heap.size + 3) w1.heap.size E4 x.left from t4.mono (Nat.le_trans hz0 (Nat.le_of_eq zW.symm)) (Nat.le_refl _))
  clear zW uf1 hb1 t4 HO0 HR0 HP0 HB0 HF0
  have p1_0 : w1.cell? ⟨w.heap.size, 0, none⟩ = some (.int .i64 x.k) := P1.cell 0
  have o1_0 : w1.cell? ⟨w.heap.size + 1 + 1, 0, none⟩ = some (.int .i64 x.k) := O1.cell 0
  have r1_0 : w1.cell? ⟨w.heap.size + 1, 0, none⟩ = some (.int .i64 0) := R1.cell 0
  have x1_0 : w1.frozen? ⟨w.heap.size + 1 + 1, 0, none⟩ = false := O1.frozen 0
  have y1_0 : w1.frozen? ⟨w.heap.size + 1, 0, none⟩ = false := R1.frozen 0
  have p1_1 : w1.cell? ⟨w.heap.size, 1, none⟩ = some (.string x.atom.name) := P1.cell 1
  have o1_1 : w1.cell? ⟨w.heap.size + 1 + 1, 1, none⟩ = some (.string x.atom.name) := O1.cell 1
  have r1_1 : w1.cell? ⟨w.heap.size + 1, 1, none⟩ = some (.string ByteArray.empty) := R1.cell 1
  have x1_1 : w1.frozen? ⟨w.heap.size + 1 + 1, 1, none⟩ = false := O1.frozen 1
  have y1_1 : w1.frozen? ⟨w.heap.size + 1, 1, none⟩ = false := R1.frozen 1
  have p1_2 : w1.cell? ⟨w.heap.size, 2, none⟩ = some (.slice A2 x.atom.args.length c2) := P1.cell 2
  have o1_2 : w1.cell? ⟨w.heap.size + 1 + 1, 2, none⟩ = some (.slice E2 x.atom.args.length e2) := O1.cell 2
  have r1_2 : w1.cell? ⟨w.heap.size + 1, 2, none⟩ = some (.slice none 0 0) := R1.cell 2
  have x1_2 : w1.frozen? ⟨w.heap.size + 1 + 1, 2, none⟩ = false := O1.frozen 2
  have y1_2 : w1.frozen? ⟨w.heap.size + 1, 2, none⟩ = false := R1.frozen 2
  have p1_3 : w1.cell? ⟨w.heap.size, 3, none⟩ = some (.string x.op) := P1.cell 3
  have o1_3 : w1.cell? ⟨w.heap.size + 1 + 1, 3, none⟩ = some (.string x.op) := O1.cell 3
  have r1_3 : w1.cell? ⟨w.heap.size + 1, 3, none⟩ = some (.string ByteArray.empty) := R1.cell 3
  have x1_3 : w1.frozen? ⟨w.heap.size + 1 + 1, 3, none⟩ = false := O1.frozen 3
  have y1_3 : w1.frozen? ⟨w.heap.size + 1, 3, none⟩ = false := R1.frozen 3
  have p1_4 : w1.cell? ⟨w.heap.size, 4, none⟩ = some (.slice A4 x.left.length c4) := P1.cell 4
  have o1_4 : w1.cell? ⟨w.heap.size + 1 + 1, 4, none⟩ = some (.slice none 0 0) := O1.cell 4
  have r1_4 : w1.cell? ⟨w.heap.size + 1, 4, none⟩ = some (.slice none 0 0) := R1.cell 4
  have x1_4 : w1.frozen? ⟨w.heap.size + 1 + 1, 4, none⟩ = false := O1.frozen 4
  have y1_4 : w1.frozen? ⟨w.heap.size + 1, 4, none⟩ = false := R1.frozen 4
  have p1_5 : w1.cell? ⟨w.heap.size, 5, none⟩ = some (.slice A5 x.right.length c5) := P1.cell 5
  have o1_5 : w1.cell? ⟨w.heap.size + 1 + 1, 5, none⟩ = some (.slice none 0 0) := O1.cell 5
  have r1_5 : w1.cell? ⟨w.heap.size + 1, 5, none⟩ = some (.slice none 0 0) := R1.cell 5
  have x1_5 : w1.frozen? ⟨w.heap.size + 1 + 1, 5, none⟩ = false := O1.frozen 5
  have y1_5 : w1.frozen? ⟨w.heap.size + 1, 5, none⟩ = false := R1.frozen 5
  have HP1 := Lib.hid P1
  have HR1 := Lib.hid R1
  have HO1 := Lib.hid O1
  have HB1 := Lib.hid B1
  have HF1 := Lib.hid F1
  clear P1 R1 O1 B1 F1
  go_wp2_with fail
  refine (to_Nodes A5 c5 x.right _ (by omega) (s5.to_ (HB1.out.setCell (p := ⟨w.heap.size + 1 + 1, 4, none⟩) (by show w.heap.size ≤ w.heap.size + 1 + 1; omega) (.slice E4 x.left.length e4)))).mono ?_
  rintro e w2 ⟨E5, e5, rfl, ⟨v5, t5⟩, uf2, hb2⟩
  clear p1_0 o1_0 r1_0 x1_0 y1_0 p1_1 o1_1 r1_1 x1_1 y1_1 p1_2 o1_2 r1_2 x1_2 y1_2 p1_3 o1_3 r1_3 x1_3 y1_3 p1_4 o1_4 r1_4 x1_4 y1_4 p1_5 o1_5 r1_5 x1_5 y1_5
  have zW : (w1.setCell ⟨w.heap.size + 1 + 1, 4, none⟩ (.slice E4 x.left.length e4)).heap.size = w1.heap.size := setW_size [.slice E4 x.left.length e4] w1 (w.heap.size + 1 + 1) 4
  have hz2 : w.heap.size + 3 ≤ w2.heap.size := Nat.le_trans hz1 (Nat.le_trans (Nat.le_of_eq zW.symm) hb2.size)
  have O2 : Whole w2 (w.heap.size + 1 + 1) 48 [.int .i64 x.k, .string x.atom.name, .slice E2 x.atom.args.length e2, .string x.op, .slice E4 x.left.length e4, .slice none 0 0] := (setW_whole [.slice E4 x.left.length e4] 4 HO1.out).below hb2 (Nat.lt_of_lt_of_le (show w.heap.size + 1 + 1 < w.heap.size + 3 by omega) (Nat.le_trans hz1 (Nat.le_of_eq zW.symm)))
  have R2 : Whole w2 (w.heap.size + 1) 48 [.int .i64 0, .string ByteArray.empty, .slice none 0 0, .string ByteArray.empty, .slice none 0 0, .slice none 0 0] := (HR1.out.offW (b := w.heap.size + 1 + 1) (o := 4) [.slice E4 x.left.length e4] (by omega)).below hb2 (Nat.lt_of_lt_of_le (show w.heap.size + 1 < w.heap.size + 3 by omega) (Nat.le_trans hz1 (Nat.le_of_eq zW.symm)))
  have P2 : Whole w2 w.heap.size 69 [.int .i64 x.k, .string x.atom.name, .slice A2 x.atom.args.length c2, .string x.op, .slice A4 x.left.length c4, .slice A5 x.right.length c5] := (HP1.out.offW (b := w.heap.size + 1 + 1) (o := 4) [.slice E4 x.left.length e4] (by omega)).below hb2 (Nat.lt_of_lt_of_le (show w.heap.size < w.heap.size + 3 by omega) (Nat.le_trans hz1 (Nat.le_of_eq zW.symm)))
  have B2 : Below w.heap.size w w2 := (setW_below [.slice E4 x.left.length e4] (w.heap.size + 1 + 1) 4 HB1.out (by omega)).trans (hb2.mono (Nat.le_trans (show w.heap.size ≤ w.heap.size + 3 by omega) (Nat.le_trans hz1 (Nat.le_of_eq zW.symm))))
  have F2 : UF w2 w.heap.size w2.heap.size := UF.next (show UF (w1.setCell ⟨w.heap.size + 1 + 1, 4, none⟩ (.slice E4 x.left.length e4)) w.heap.size (w1.setCell ⟨w.heap.size + 1 + 1, 4, none⟩ (.slice E4 x.left.length e4)).heap.size from fun b h1 h2 o => UF.setW [.slice E4 x.left.length e4] (w.heap.size + 1 + 1) 4 HF1.out b h1 (by rw [← zW]; exact h2) o) hb2 uf2
  have T2_2 := Lib.hid (show NodeSsAt w2 (w.heap.size + 3) w2.heap.size E2 x.atom.args from ((show NodeSsAt (w1.setCell ⟨w.heap.size + 1 + 1, 4, none⟩ (.slice E4 x.left.length e4)) (w.heap.size + 3) (w1.setCell ⟨w.heap.size + 1 + 1, 4, none⟩ (.slice E4 x.left.length e4)).heap.size E2 x.atom.args from (T2.out.keep (fun b h1 h2 => setW_block [.slice E4 x.left.length e4] w1 (w.heap.size + 1 + 1) 4 b (by omega))).mono (Nat.le_refl _) (Nat.le_of_eq zW.symm)).to_ hb2))
  clear T2
  have T2 := T2_2
  clear T2_2
  have T4_2 := Lib.hid (show NodesAt w2 (w.heap.size + 3) w2.heap.size E4 x.left from ((show NodesAt (w1.setCell ⟨w.heap.size + 1 + 1, 4, none⟩ (.slice E4 x.left.length e4)) (w.heap.size + 3) (w1.setCell ⟨w.heap.size + 1 + 1, 4, none⟩ (.slice E4 x.left.length e4)).heap.size E4 x.left from (T4.out.keep (fun b h1 h2 => setW_block [.slice E4 x.left.length e4] w1 (w.heap.size + 1 + 1) 4 b (by omega))).mono (Nat.le_refl _) (Nat.le_of_eq zW.symm)).to_ hb2))
  clear T4
  have T4 := T4_2
  clear T4_2
  have T5 := Lib.hid (show NodesAt w2 (w.heap.size + 3) w2.heap.size E5 x.right from t5.mono (Nat.le_trans hz1 (Nat.le_of_eq zW.symm)) (Nat.le_refl _))
  clear zW uf2 hb2 t5 HO1 HR1 HP1 HB1 HF1
  have p2_0 : w2.cell? ⟨w.heap.size, 0, none⟩ = some (.int .i64 x.k) := P2.cell 0
  have o2_0 : w2.cell? ⟨w.heap.size + 1 + 1, 0, none⟩ = some (.int .i64 x.k) := O2.cell 0
  have r2_0 : w2.cell? ⟨w.heap.size + 1, 0, none⟩ = some (.int .i64 0) := R2.cell 0
  have x2_0 : w2.frozen? ⟨w.heap.size + 1 + 1, 0, none⟩ = false := O2.frozen 0
  have y2_0 : w2.frozen? ⟨w.heap.size + 1, 0, none⟩ = false := R2.frozen 0
  have p2_1 : w2.cell? ⟨w.heap.size, 1, none⟩ = some (.string x.atom.name) := P2.cell 1
  have o2_1 : w2.cell? ⟨w.heap.size + 1 + 1, 1, none⟩ = some (.string x.atom.name) := O2.cell 1
  have r2_1 : w2.cell? ⟨w.heap.size + 1, 1, none⟩ = some (.string ByteArray.empty) := R2.cell 1
  have x2_1 : w2.frozen? ⟨w.heap.size + 1 + 1, 1, none⟩ = false := O2.frozen 1
  have y2_1 : w2.frozen? ⟨w.heap.size + 1, 1, none⟩ = false := R2.frozen 1
  have p2_2 : w2.cell? ⟨w.heap.size, 2, none⟩ = some (.slice A2 x.atom.args.length c2) := P2.cell 2
  have o2_2 : w2.cell? ⟨w.heap.size + 1 + 1, 2, none⟩ = some (.slice E2 x.atom.args.length e2) := O2.cell 2
  have r2_2 : w2.cell? ⟨w.heap.size + 1, 2, none⟩ = some (.slice none 0 0) := R2.cell 2
  have x2_2 : w2.frozen? ⟨w.heap.size + 1 + 1, 2, none⟩ = false := O2.frozen 2
  have y2_2 : w2.frozen? ⟨w.heap.size + 1, 2, none⟩ = false := R2.frozen 2
  have p2_3 : w2.cell? ⟨w.heap.size, 3, none⟩ = some (.string x.op) := P2.cell 3
  have o2_3 : w2.cell? ⟨w.heap.size + 1 + 1, 3, none⟩ = some (.string x.op) := O2.cell 3
  have r2_3 : w2.cell? ⟨w.heap.size + 1, 3, none⟩ = some (.string ByteArray.empty) := R2.cell 3
  have x2_3 : w2.frozen? ⟨w.heap.size + 1 + 1, 3, none⟩ = false := O2.frozen 3
  have y2_3 : w2.frozen? ⟨w.heap.size + 1, 3, none⟩ = false := R2.frozen 3
  have p2_4 : w2.cell? ⟨w.heap.size, 4, none⟩ = some (.slice A4 x.left.length c4) := P2.cell 4
  have o2_4 : w2.cell? ⟨w.heap.size + 1 + 1, 4, none⟩ = some (.slice E4 x.left.length e4) := O2.cell 4
  have r2_4 : w2.cell? ⟨w.heap.size + 1, 4, none⟩ = some (.slice none 0 0) := R2.cell 4
  have x2_4 : w2.frozen? ⟨w.heap.size + 1 + 1, 4, none⟩ = false := O2.frozen 4
  have y2_4 : w2.frozen? ⟨w.heap.size + 1, 4, none⟩ = false := R2.frozen 4
  have p2_5 : w2.cell? ⟨w.heap.size, 5, none⟩ = some (.slice A5 x.right.length c5) := P2.cell 5
  have o2_5 : w2.cell? ⟨w.heap.size + 1 + 1, 5, none⟩ = some (.slice none 0 0) := O2.cell 5
  have r2_5 : w2.cell? ⟨w.heap.size + 1, 5, none⟩ = some (.slice none 0 0) := R2.cell 5
  have x2_5 : w2.frozen? ⟨w.heap.size + 1 + 1, 5, none⟩ = false := O2.frozen 5
  have y2_5 : w2.frozen? ⟨w.heap.size + 1, 5, none⟩ = false := R2.frozen 5
  have HP2 := Lib.hid P2
  have HR2 := Lib.hid R2
  have HO2 := Lib.hid O2
  have HB2 := Lib.hid B2
  have HF2 := Lib.hid F2
  clear P2 R2 O2 B2 F2
  go_wp2_with fail
  clear p2_0 o2_0 r2_0 x2_0 y2_0 p2_1 o2_1 r2_1 x2_1 y2_1 p2_2 o2_2 r2_2 x2_2 y2_2 p2_3 o2_3 r2_3 x2_3 y2_3 p2_4 o2_4 r2_4 x2_4 y2_4 p2_5 o2_5 r2_5 x2_5 y2_5
  have WF : Whole (((((((w2.setCell ⟨w.heap.size + 1 + 1, 5, none⟩ (.slice E5 x.right.length e5)).setCell ⟨w.heap.size + 1, 0, none⟩ (.int .i64 x.k)).setCell ⟨w.heap.size + 1, 1, none⟩ (.string x.atom.name)).setCell ⟨w.heap.size + 1, 2, none⟩ (.slice E2 x.atom.args.length e2)).setCell ⟨w.heap.size + 1, 3, none⟩ (.string x.op)).setCell ⟨w.heap.size + 1, 4, none⟩ (.slice E4 x.left.length e4)).setCell ⟨w.heap.size + 1, 5, none⟩ (.slice E5 x.right.length e5)) (w.heap.size + 1) 48 [.int .i64 x.k, .string x.atom.name, .slice E2 x.atom.args.length e2, .string x.op, .slice E4 x.left.length e4, .slice E5 x.right.length e5] := setW_whole [.int .i64 x.k, .string x.atom.name, .slice E2 x.atom.args.length e2, .string x.op, .slice E4 x.left.length e4, .slice E5 x.right.length e5] 0 (HR2.out.offW (b := w.heap.size + 1 + 1) (o := 5) [.slice E5 x.right.length e5] (by omega))
  have d0 : (((((((w2.setCell ⟨w.heap.size + 1 + 1, 5, none⟩ (.slice E5 x.right.length e5)).setCell ⟨w.heap.size + 1, 0, none⟩ (.int .i64 x.k)).setCell ⟨w.heap.size + 1, 1, none⟩ (.string x.atom.name)).setCell ⟨w.heap.size + 1, 2, none⟩ (.slice E2 x.atom.args.length e2)).setCell ⟨w.heap.size + 1, 3, none⟩ (.string x.op)).setCell ⟨w.heap.size + 1, 4, none⟩ (.slice E4 x.left.length e4)).setCell ⟨w.heap.size + 1, 5, none⟩ (.slice E5 x.right.length e5)).cell? ⟨w.heap.size + 1, 0, none⟩ = some (.int .i64 x.k) := WF.cell 0
  have d1 : (((((((w2.setCell ⟨w.heap.size + 1 + 1, 5, none⟩ (.slice E5 x.right.length e5)).setCell ⟨w.heap.size + 1, 0, none⟩ (.int .i64 x.k)).setCell ⟨w.heap.size + 1, 1, none⟩ (.string x.atom.name)).setCell ⟨w.heap.size + 1, 2, none⟩ (.slice E2 x.atom.args.length e2)).setCell ⟨w.heap.size + 1, 3, none⟩ (.string x.op)).setCell ⟨w.heap.size + 1, 4, none⟩ (.slice E4 x.left.length e4)).setCell ⟨w.heap.size + 1, 5, none⟩ (.slice E5 x.right.length e5)).cell? ⟨w.heap.size + 1, 1, none⟩ = some (.string x.atom.name) := WF.cell 1
  have d2 : (((((((w2.setCell ⟨w.heap.size + 1 + 1, 5, none⟩ (.slice E5 x.right.length e5)).setCell ⟨w.heap.size + 1, 0, none⟩ (.int .i64 x.k)).setCell ⟨w.heap.size + 1, 1, none⟩ (.string x.atom.name)).setCell ⟨w.heap.size + 1, 2, none⟩ (.slice E2 x.atom.args.length e2)).setCell ⟨w.heap.size + 1, 3, none⟩ (.string x.op)).setCell ⟨w.heap.size + 1, 4, none⟩ (.slice E4 x.left.length e4)).setCell ⟨w.heap.size + 1, 5, none⟩ (.slice E5 x.right.length e5)).cell? ⟨w.heap.size + 1, 2, none⟩ = some (.slice E2 x.atom.args.length e2) := WF.cell 2
  have d3 : (((((((w2.setCell ⟨w.heap.size + 1 + 1, 5, none⟩ (.slice E5 x.right.length e5)).setCell ⟨w.heap.size + 1, 0, none⟩ (.int .i64 x.k)).setCell ⟨w.heap.size + 1, 1, none⟩ (.string x.atom.name)).setCell ⟨w.heap.size + 1, 2, none⟩ (.slice E2 x.atom.args.length e2)).setCell ⟨w.heap.size + 1, 3, none⟩ (.string x.op)).setCell ⟨w.heap.size + 1, 4, none⟩ (.slice E4 x.left.length e4)).setCell ⟨w.heap.size + 1, 5, none⟩ (.slice E5 x.right.length e5)).cell? ⟨w.heap.size + 1, 3, none⟩ = some (.string x.op) := WF.cell 3
  have d4 : (((((((w2.setCell ⟨w.heap.size + 1 + 1, 5, none⟩ (.slice E5 x.right.length e5)).setCell ⟨w.heap.size + 1, 0, none⟩ (.int .i64 x.k)).setCell ⟨w.heap.size + 1, 1, none⟩ (.string x.atom.name)).setCell ⟨w.heap.size + 1, 2, none⟩ (.slice E2 x.atom.args.length e2)).setCell ⟨w.heap.size + 1, 3, none⟩ (.string x.op)).setCell ⟨w.heap.size + 1, 4, none⟩ (.slice E4 x.left.length e4)).setCell ⟨w.heap.size + 1, 5, none⟩ (.slice E5 x.right.length e5)).cell? ⟨w.heap.size + 1, 4, none⟩ = some (.slice E4 x.left.length e4) := WF.cell 4
  have d5 : (((((((w2.setCell ⟨w.heap.size + 1 + 1, 5, none⟩ (.slice E5 x.right.length e5)).setCell ⟨w.heap.size + 1, 0, none⟩ (.int .i64 x.k)).setCell ⟨w.heap.size + 1, 1, none⟩ (.string x.atom.name)).setCell ⟨w.heap.size + 1, 2, none⟩ (.slice E2 x.atom.args.length e2)).setCell ⟨w.heap.size + 1, 3, none⟩ (.string x.op)).setCell ⟨w.heap.size + 1, 4, none⟩ (.slice E4 x.left.length e4)).setCell ⟨w.heap.size + 1, 5, none⟩ (.slice E5 x.right.length e5)).cell? ⟨w.heap.size + 1, 5, none⟩ = some (.slice E5 x.right.length e5) := WF.cell 5
  have zW : (((((((w2.setCell ⟨w.heap.size + 1 + 1, 5, none⟩ (.slice E5 x.right.length e5)).setCell ⟨w.heap.size + 1, 0, none⟩ (.int .i64 x.k)).setCell ⟨w.heap.size + 1, 1, none⟩ (.string x.atom.name)).setCell ⟨w.heap.size + 1, 2, none⟩ (.slice E2 x.atom.args.length e2)).setCell ⟨w.heap.size + 1, 3, none⟩ (.string x.op)).setCell ⟨w.heap.size + 1, 4, none⟩ (.slice E4 x.left.length e4)).setCell ⟨w.heap.size + 1, 5, none⟩ (.slice E5 x.right.length e5)).heap.size = w2.heap.size := (setW_size [.int .i64 x.k, .string x.atom.name, .slice E2 x.atom.args.length e2, .string x.op, .slice E4 x.left.length e4, .slice E5 x.right.length e5] _ (w.heap.size + 1) 0).trans (setW_size [.slice E5 x.right.length e5] w2 (w.heap.size + 1 + 1) 5)
  have hY : Below w.heap.size w (((((((w2.setCell ⟨w.heap.size + 1 + 1, 5, none⟩ (.slice E5 x.right.length e5)).setCell ⟨w.heap.size + 1, 0, none⟩ (.int .i64 x.k)).setCell ⟨w.heap.size + 1, 1, none⟩ (.string x.atom.name)).setCell ⟨w.heap.size + 1, 2, none⟩ (.slice E2 x.atom.args.length e2)).setCell ⟨w.heap.size + 1, 3, none⟩ (.string x.op)).setCell ⟨w.heap.size + 1, 4, none⟩ (.slice E4 x.left.length e4)).setCell ⟨w.heap.size + 1, 5, none⟩ (.slice E5 x.right.length e5)) := setW_below [.int .i64 x.k, .string x.atom.name, .slice E2 x.atom.args.length e2, .string x.op, .slice E4 x.left.length e4, .slice E5 x.right.length e5] (w.heap.size + 1) 0 (setW_below [.slice E5 x.right.length e5] (w.heap.size + 1 + 1) 5 HB2.out (by omega)) (by omega)
  have U2 : NodeSsAt (((((((w2.setCell ⟨w.heap.size + 1 + 1, 5, none⟩ (.slice E5 x.right.length e5)).setCell ⟨w.heap.size + 1, 0, none⟩ (.int .i64 x.k)).setCell ⟨w.heap.size + 1, 1, none⟩ (.string x.atom.name)).setCell ⟨w.heap.size + 1, 2, none⟩ (.slice E2 x.atom.args.length e2)).setCell ⟨w.heap.size + 1, 3, none⟩ (.string x.op)).setCell ⟨w.heap.size + 1, 4, none⟩ (.slice E4 x.left.length e4)).setCell ⟨w.heap.size + 1, 5, none⟩ (.slice E5 x.right.length e5)) w.heap.size (((((((w2.setCell ⟨w.heap.size + 1 + 1, 5, none⟩ (.slice E5 x.right.length e5)).setCell ⟨w.heap.size + 1, 0, none⟩ (.int .i64 x.k)).setCell ⟨w.heap.size + 1, 1, none⟩ (.string x.atom.name)).setCell ⟨w.heap.size + 1, 2, none⟩ (.slice E2 x.atom.args.length e2)).setCell ⟨w.heap.size + 1, 3, none⟩ (.string x.op)).setCell ⟨w.heap.size + 1, 4, none⟩ (.slice E4 x.left.length e4)).setCell ⟨w.heap.size + 1, 5, none⟩ (.slice E5 x.right.length e5)).heap.size E2 x.atom.args := (T2.out.keep (fun b h1 h2 => (setW_block [.int .i64 x.k, .string x.atom.name, .slice E2 x.atom.args.length e2, .string x.op, .slice E4 x.left.length e4, .slice E5 x.right.length e5] _ (w.heap.size + 1) 0 b (by omega)).trans (setW_block [.slice E5 x.right.length e5] w2 (w.heap.size + 1 + 1) 5 b (by omega)))).mono (by omega) (Nat.le_of_eq zW.symm)
  have U4 : NodesAt (((((((w2.setCell ⟨w.heap.size + 1 + 1, 5, none⟩ (.slice E5 x.right.length e5)).setCell ⟨w.heap.size + 1, 0, none⟩ (.int .i64 x.k)).setCell ⟨w.heap.size + 1, 1, none⟩ (.string x.atom.name)).setCell ⟨w.heap.size + 1, 2, none⟩ (.slice E2 x.atom.args.length e2)).setCell ⟨w.heap.size + 1, 3, none⟩ (.string x.op)).setCell ⟨w.heap.size + 1, 4, none⟩ (.slice E4 x.left.length e4)).setCell ⟨w.heap.size + 1, 5, none⟩ (.slice E5 x.right.length e5)) w.heap.size (((((((w2.setCell ⟨w.heap.size + 1 + 1, 5, none⟩ (.slice E5 x.right.length e5)).setCell ⟨w.heap.size + 1, 0, none⟩ (.int .i64 x.k)).setCell ⟨w.heap.size + 1, 1, none⟩ (.string x.atom.name)).setCell ⟨w.heap.size + 1, 2, none⟩ (.slice E2 x.atom.args.length e2)).setCell ⟨w.heap.size + 1, 3, none⟩ (.string x.op)).setCell ⟨w.heap.size + 1, 4, none⟩ (.slice E4 x.left.length e4)).setCell ⟨w.heap.size + 1, 5, none⟩ (.slice E5 x.right.length e5)).heap.size E4 x.left := (T4.out.keep (fun b h1 h2 => (setW_block [.int .i64 x.k, .string x.atom.name, .slice E2 x.atom.args.length e2, .string x.op, .slice E4 x.left.length e4, .slice E5 x.right.length e5] _ (w.heap.size + 1) 0 b (by omega)).trans (setW_block [.slice E5 x.right.length e5] w2 (w.heap.size + 1 + 1) 5 b (by omega)))).mono (by omega) (Nat.le_of_eq zW.symm)
  have U5 : NodesAt (((((((w2.setCell ⟨w.heap.size + 1 + 1, 5, none⟩ (.slice E5 x.right.length e5)).setCell ⟨w.heap.size + 1, 0, none⟩ (.int .i64 x.k)).setCell ⟨w.heap.size + 1, 1, none⟩ (.string x.atom.name)).setCell ⟨w.heap.size + 1, 2, none⟩ (.slice E2 x.atom.args.length e2)).setCell ⟨w.heap.size + 1, 3, none⟩ (.string x.op)).setCell ⟨w.heap.size + 1, 4, none⟩ (.slice E4 x.left.length e4)).setCell ⟨w.heap.size + 1, 5, none⟩ (.slice E5 x.right.length e5)) w.heap.size (((((((w2.setCell ⟨w.heap.size + 1 + 1, 5, none⟩ (.slice E5 x.right.length e5)).setCell ⟨w.heap.size + 1, 0, none⟩ (.int .i64 x.k)).setCell ⟨w.heap.size + 1, 1, none⟩ (.string x.atom.name)).setCell ⟨w.heap.size + 1, 2, none⟩ (.slice E2 x.atom.args.length e2)).setCell ⟨w.heap.size + 1, 3, none⟩ (.string x.op)).setCell ⟨w.heap.size + 1, 4, none⟩ (.slice E4 x.left.length e4)).setCell ⟨w.heap.size + 1, 5, none⟩ (.slice E5 x.right.length e5)).heap.size E5 x.right := (T5.out.keep (fun b h1 h2 => (setW_block [.int .i64 x.k, .string x.atom.name, .slice E2 x.atom.args.length e2, .string x.op, .slice E4 x.left.length e4, .slice E5 x.right.length e5] _ (w.heap.size + 1) 0 b (by omega)).trans (setW_block [.slice E5 x.right.length e5] w2 (w.heap.size + 1 + 1) 5 b (by omega)))).mono (by omega) (Nat.le_of_eq zW.symm)
  have hF : UF (((((((w2.setCell ⟨w.heap.size + 1 + 1, 5, none⟩ (.slice E5 x.right.length e5)).setCell ⟨w.heap.size + 1, 0, none⟩ (.int .i64 x.k)).setCell ⟨w.heap.size + 1, 1, none⟩ (.string x.atom.name)).setCell ⟨w.heap.size + 1, 2, none⟩ (.slice E2 x.atom.args.length e2)).setCell ⟨w.heap.size + 1, 3, none⟩ (.string x.op)).setCell ⟨w.heap.size + 1, 4, none⟩ (.slice E4 x.left.length e4)).setCell ⟨w.heap.size + 1, 5, none⟩ (.slice E5 x.right.length e5)) w.heap.size (((((((w2.setCell ⟨w.heap.size + 1 + 1, 5, none⟩ (.slice E5 x.right.length e5)).setCell ⟨w.heap.size + 1, 0, none⟩ (.int .i64 x.k)).setCell ⟨w.heap.size + 1, 1, none⟩ (.string x.atom.name)).setCell ⟨w.heap.size + 1, 2, none⟩ (.slice E2 x.atom.args.length e2)).setCell ⟨w.heap.size + 1, 3, none⟩ (.string x.op)).setCell ⟨w.heap.size + 1, 4, none⟩ (.slice E4 x.left.length e4)).setCell ⟨w.heap.size + 1, 5, none⟩ (.slice E5 x.right.length e5)).heap.size := fun b h1 h2 o => UF.setW [.int .i64 x.k, .string x.atom.name, .slice E2 x.atom.args.length e2, .string x.op, .slice E4 x.left.length e4, .slice E5 x.right.length e5] (w.heap.size + 1) 0 (UF.setW [.slice E5 x.right.length e5] (w.heap.size + 1 + 1) 5 HF2.out) b h1 (by rw [← zW]; exact h2) o
  clear WF zW T2 T4 T5
  generalize (((((((w2.setCell ⟨w.heap.size + 1 + 1, 5, none⟩ (.slice E5 x.right.length e5)).setCell ⟨w.heap.size + 1, 0, none⟩ (.int .i64 x.k)).setCell ⟨w.heap.size + 1, 1, none⟩ (.string x.atom.name)).setCell ⟨w.heap.size + 1, 2, none⟩ (.slice E2 x.atom.args.length e2)).setCell ⟨w.heap.size + 1, 3, none⟩ (.string x.op)).setCell ⟨w.heap.size + 1, 4, none⟩ (.slice E4 x.left.length e4)).setCell ⟨w.heap.size + 1, 5, none⟩ (.slice E5 x.right.length e5)) = wf at d0 d1 d2 d3 d4 d5 hY hF U2 U4 U5 ⊢
  exact bodyPost_ret (v := .agg #[.int .i64 x.k, .string x.atom.name, .slice E2 x.atom.args.length e2, .string x.op, .slice E4 x.left.length e4, .slice E5 x.right.length e5]) (by simp [results, Try.results34, go_sem, d0, d1, d2, d3, d4, d5]) rfl ⟨_, _, _, _, _, _, rfl, U2, ⟨v4, U4⟩, ⟨v5, U5⟩, hF, hY⟩

theorem infoLit : (Try.prog.info? 48).map (fun i => (i.zero, i.size, i.bytes)) = some (some (.agg #[.int .i64 0, .string ByteArray.empty, .slice none 0 0, .string ByteArray.empty, .slice none 0 0, .slice none 0 0]), 6, 112) := by kernel_rfl
/-- What laws.toLitS leaves. -/
def ToLits (w : World) (xs : List (GLit)) (e : Ending) (w' : World) : Prop := ∃ (A : Option Addr) (c : Nat), e = .returned (.slice A xs.length c) ∧ LitsAt w' w.heap.size w'.heap.size A xs ∧ UF w' w.heap.size w'.heap.size ∧ Below w.heap.size w w'
def ToLitsSt (w : World) (xs : List (GLit)) (i : Nat) (w' : World) : Prop := ∃ l : List Value, l.length = xs.length * 6 ∧ Whole w' w.heap.size 48 l ∧ ∀ j x, j < i → xs[j]? = some x → LitAt w' (w.heap.size + 1) w'.heap.size w.heap.size (0 + j * 6) x
theorem toLits_step {w w1 w2 : World} {xs : List (GLit)} {i : Nat} {E2 : Option Addr} {e2 : Nat} {E4 : Option Addr} {e4 : Nat} {E5 : Option Addr} {e5 : Nat} (h : ToLitsSt w xs i w1) (hi : i < xs.length) (hb : Below w1.heap.size w1 w2) (t2 : NodeSsAt w2 w1.heap.size w2.heap.size E2 xs[i].atom.args) (v4 : CapOk xs[i].left.length e4) (t4 : NodesAt w2 w1.heap.size w2.heap.size E4 xs[i].left) (v5 : CapOk xs[i].right.length e5) (t5 : NodesAt w2 w1.heap.size w2.heap.size E5 xs[i].right) :
    (∀ j, j < 6 → ∃ u, w2.cell? ⟨w.heap.size, i * 6 + j, none⟩ = some u) ∧ (∀ j, w2.frozen? ⟨w.heap.size, j, none⟩ = false) ∧ ToLitsSt w xs (i + 1) (setW w2 w.heap.size (i * 6) [.int .i64 xs[i].k, .string xs[i].atom.name, .slice E2 xs[i].atom.args.length e2, .string xs[i].op, .slice E4 xs[i].left.length e4, .slice E5 xs[i].right.length e5]) := by
  obtain ⟨l, hl, hW, hA⟩ := h
  have hW2 := hW.below hb hW.lt
  have hg := hW.lt
  have hsz := setW_size [.int .i64 xs[i].k, .string xs[i].atom.name, .slice E2 xs[i].atom.args.length e2, .string xs[i].op, .slice E4 xs[i].left.length e4, .slice E5 xs[i].right.length e5] w2 w.heap.size (i * 6)
  have hz := hb.size
  refine ⟨fun j hj => ⟨l[i * 6 + j]'(by omega), by rw [hW2.cell, List.getElem?_eq_getElem (by omega)]⟩, fun j => hW2.frozen j, setL l (i * 6) [.int .i64 xs[i].k, .string xs[i].atom.name, .slice E2 xs[i].atom.args.length e2, .string xs[i].op, .slice E4 xs[i].left.length e4, .slice E5 xs[i].right.length e5], by rw [setL_len]; exact hl, setW_whole _ _ hW2, fun j x hj hx => ?_⟩
  have hW3 := setW_whole [.int .i64 xs[i].k, .string xs[i].atom.name, .slice E2 xs[i].atom.args.length e2, .string xs[i].op, .slice E4 xs[i].left.length e4, .slice E5 xs[i].right.length e5] (i * 6) hW2
  by_cases e : j = i
  · subst e
    rw [List.getElem?_eq_getElem hi] at hx; injection hx with hx; subst hx
    have hin : ∀ q u, ([.int .i64 xs[j].k, .string xs[j].atom.name, .slice E2 xs[j].atom.args.length e2, .string xs[j].op, .slice E4 xs[j].left.length e4, .slice E5 xs[j].right.length e5] : List Value)[q]? = some u → (setW w2 w.heap.size (j * 6) [.int .i64 xs[j].k, .string xs[j].atom.name, .slice E2 xs[j].atom.args.length e2, .string xs[j].op, .slice E4 xs[j].left.length e4, .slice E5 xs[j].right.length e5]).cell? ⟨w.heap.size, 0 + j * 6 + q, none⟩ = some u := fun q u hq => by
      rw [hW3.cell, Nat.zero_add]; exact setL_in _ _ _ _ _ (by simp; omega) hq
    exact ⟨hin 0 _ rfl, hin 1 _ rfl, ⟨E2, e2, hin 2 _ rfl, (t2.keep (fun b h1 h2 => setW_block _ _ _ _ b (by omega))).mono (by omega) (by omega)⟩, hin 3 _ rfl, ⟨E4, e4, ⟨hin 4 _ rfl, v4⟩, (t4.keep (fun b h1 h2 => setW_block _ _ _ _ b (by omega))).mono (by omega) (by omega)⟩, ⟨E5, e5, ⟨hin 5 _ rfl, v5⟩, (t5.keep (fun b h1 h2 => setW_block _ _ _ _ b (by omega))).mono (by omega) (by omega)⟩⟩
  · refine ((hA j x (by omega) hx).mono (Nat.le_refl _) (Nat.le_refl _)).same (fun q hq => ?_) (fun b h1 h2 => ?_) |>.mono (Nat.le_refl _) (by omega)
    · rw [hW3.cell, hW.cell]; exact setL_out _ _ _ _ (by simp; omega)
    · rw [setW_block _ _ _ _ b (by omega)]; exact hb.block b h2
set_option maxRecDepth 100000 in
set_option maxHeartbeats 1600000 in
theorem to_Lits {lo : Nat} (A : Option Addr) (c : Nat) (xs : List (GLit)) (w : World) (hk : costLits xs ≤ 1048576) (hr : LitsAt w lo w.heap.size A xs) :
    Calls Try.prog 20 #[.slice A xs.length c] w (ToLits w xs) := by
  obtain ⟨i0, hi0, hz0, hz1, hz2⟩ := info_parts infoLit
  have hl : xs.length ≤ 1048576 := by unfold costLits at hk; omega
  have hmk := fun W => run_make (P := Try.prog) W 34 48 i0 _ Try.underlying34 hi0 hz0 .i64 .i64 xs.length xs.length (by omega) (by omega) (by rw [hz2]; omega) (by omega)
  have HK := Lib.hid hk
  have HR := Lib.hid hr
  clear hk hr
  have HS0 := Lib.hid (show ToLitsSt w xs 0 (w.alloc (.cells (madeCells #[.int .i64 0, .string ByteArray.empty, .slice none 0 0, .string ByteArray.empty, .slice none 0 0, .slice none 0 0] (xs.length * 6)) 48)) from ⟨(madeCells #[.int .i64 0, .string ByteArray.empty, .slice none 0 0, .string ByteArray.empty, .slice none 0 0, .slice none 0 0] (xs.length * 6)).toList, by simp [size_madeCells], by have h := Whole.new w 48 (madeCells #[.int .i64 0, .string ByteArray.empty, .slice none 0 0, .string ByteArray.empty, .slice none 0 0, .slice none 0 0] (xs.length * 6)).toList; rw [Array.toArray_toList] at h; exact h, fun j x hj => by omega⟩)
  go_enter Try.func20, Try.ntmps20
  go_wp2_with fail
  clear hmk
  go_loopw [4] (fun i w' => ∃ k : Nat, k ≤ xs.length ∧ i = .int .i64 k ∧ Hid (ToLitsSt w xs k w') ∧ w.heap.size < w'.heap.size ∧ Hid (UF w' w.heap.size w'.heap.size) ∧ Below w.heap.size w w') (fun i _ => xs.length - (intOf i).toNat)
  case atStart => exact ⟨0, Nat.zero_le _, rfl, HS0, by simp, Lib.hid ((UF.start w).alloc _ _), (Below.refl _ _).alloc (Nat.le_refl _) _⟩
  case round =>
    obtain ⟨k, hk, rfl, hS, hwz, hUF, hB⟩ := hrel
    by_cases hlt : k < xs.length
    · obtain ⟨g, o, rfl, hg0, hg, he⟩ := (HR.out.to_ hB).at_ hlt
      have hi0 : (0 : Int) ≤ (k : Int) := by omega
      have hi1 : (k : Int) < (xs.length : Int) := by omega
      have hck : costLit xs[k] ≤ 1048576 := by have h1 := HK.out; have h2 := sumC_mem costLit xs _ (List.getElem_mem hlt); unfold costLits at h1; omega
      obtain ⟨h0, h1, h2, h3, h4, h5⟩ := he
      obtain ⟨A2, c2, h2y, s2⟩ := h2
      obtain ⟨A4, c4, ⟨h4y, q4⟩, s4⟩ := h4
      obtain ⟨A5, c5, ⟨h5y, q5⟩, s5⟩ := h5
      go_wp2_with fail
      refine (to_Lit xs[k] A2 c2 A4 c4 A5 c5 _ hck s2 s4 s5).mono ?_
      rintro e w2 ⟨E2, e2, E4, e4, E5, e5, rfl, t2, ⟨v4, t4⟩, ⟨v5, t5⟩, uf2, hb2⟩
      clear h0 h1 h2y h3 h4y h5y
      obtain ⟨hc, hf, hst⟩ := toLits_step (E2 := E2) (e2 := e2) (E4 := E4) (e4 := e4) (E5 := E5) (e5 := e5) hS.out hlt hb2 t2 v4 t4 v5 t5
      obtain ⟨u0, q0⟩ := hc 0 (by omega)
      have r0 := hf (k * 6)
      obtain ⟨u1, q1⟩ := hc 1 (by omega)
      have r1 := hf (k * 6 + 1)
      obtain ⟨u2, q2⟩ := hc 2 (by omega)
      have r2 := hf (k * 6 + 2)
      obtain ⟨u3, q3⟩ := hc 3 (by omega)
      have r3 := hf (k * 6 + 3)
      obtain ⟨u4, q4⟩ := hc 4 (by omega)
      have r4 := hf (k * 6 + 4)
      obtain ⟨u5, q5⟩ := hc 5 (by omega)
      have r5 := hf (k * 6 + 5)
      rw [Nat.add_zero] at q0
      have HST := Lib.hid hst
      have hB2 := below_next hB hb2 rfl rfl
      have hz2' := hb2.size
      have hB3 := setW_below [.int .i64 xs[k].k, .string xs[k].atom.name, .slice E2 xs[k].atom.args.length e2, .string xs[k].op, .slice E4 xs[k].left.length e4, .slice E5 xs[k].right.length e5] w.heap.size (k * 6) hB2 (Nat.le_refl _)
      have hz3 : w.heap.size < (setW w2 w.heap.size (k * 6) [.int .i64 xs[k].k, .string xs[k].atom.name, .slice E2 xs[k].atom.args.length e2, .string xs[k].op, .slice E4 xs[k].left.length e4, .slice E5 xs[k].right.length e5]).heap.size := by rw [setW_size]; omega
      have hU3 := Lib.hid (show UF (setW w2 w.heap.size (k * 6) [.int .i64 xs[k].k, .string xs[k].atom.name, .slice E2 xs[k].atom.args.length e2, .string xs[k].op, .slice E4 xs[k].left.length e4, .slice E5 xs[k].right.length e5]) w.heap.size (setW w2 w.heap.size (k * 6) [.int .i64 xs[k].k, .string xs[k].atom.name, .slice E2 xs[k].atom.args.length e2, .string xs[k].op, .slice E4 xs[k].left.length e4, .slice E5 xs[k].right.length e5]).heap.size by rw [setW_size]; exact UF.setW _ _ _ (hUF.out.next hb2 uf2))
      clear hc hf hst hb2 uf2 t2 t4 t5
      go_wp2_with fail
      go_roundw
      case rel => exact ⟨k + 1, by omega, by go_num, HST, hz3, hU3, hB3⟩
      case measure => simp [intOf]; omega
    · have hi1 : ¬ (k : Int) < (xs.length : Int) := by omega
      go_wp2_with fail
      go_ret
      obtain ⟨l, h1, h2, h3⟩ := hS.out
      exact ⟨some ⟨w.heap.size, 0, none⟩, xs.length, rfl, .inr ⟨w.heap.size, 0, rfl, Nat.le_refl _, hwz, fun j x hx => (h3 j x (by have := (List.getElem?_eq_some_iff.1 hx).1; omega) hx).mono (by omega) (Nat.le_refl _)⟩, hUF.out, hB⟩

def ToRule (w : World) (x : GRule) (e : Ending) (w' : World) : Prop := ∃ (A1 : Option Addr) (c1 : Nat) (A2 : Option Addr) (c2 : Nat) (A3 : Option Addr) (c3 : Nat), e = .returned (.agg #[.string x.head.name, .slice A1 x.head.args.length c1, .slice A2 x.aggs.length c2, .slice A3 x.body.length c3]) ∧ NodeSsAt w' w.heap.size w'.heap.size A1 x.head.args ∧ StrsAt w' w.heap.size w'.heap.size A2 x.aggs ∧ LitsAt w' w.heap.size w'.heap.size A3 x.body ∧ UF w' w.heap.size w'.heap.size ∧ Below w.heap.size w w'
set_option maxRecDepth 100000 in
set_option maxHeartbeats 3200000 in
theorem to_Rule {lo : Nat} (x : GRule) (A1 : Option Addr) (c1 : Nat) (A2 : Option Addr) (c2 : Nat) (A3 : Option Addr) (c3 : Nat) (w : World) (hk : costRule x ≤ 1048576) (s1 : NodeSsAt w lo w.heap.size A1 x.head.args) (s2 : StrsAt w lo w.heap.size A2 x.aggs) (s3 : LitsAt w lo w.heap.size A3 x.body) :
    Calls Try.prog 6 #[.agg #[.string x.head.name, .slice A1 x.head.args.length c1, .slice A2 x.aggs.length c2, .slice A3 x.body.length c3]] w (ToRule w x) := by
  unfold costRule at hk
  obtain ⟨hP, hR, hO, hB, hZ, hF⟩ := three_new w #[.string x.head.name, .slice A1 x.head.args.length c1, .slice A2 x.aggs.length c2, .slice A3 x.body.length c3] 28 36 [.string ByteArray.empty, .slice none 0 0, .slice none 0 0, .slice none 0 0] [.string ByteArray.empty, .slice none 0 0, .slice none 0 0, .slice none 0 0]
  have HP := Lib.hid hP
  have HR := Lib.hid hR
  have HO := Lib.hid hO
  have HB := Lib.hid hB
  have HZ := Lib.hid hZ
  have HF := Lib.hid hF
  clear hP hR hO hB hZ hF
  go_enter Try.func6, Try.ntmps6
  go_wp2_with fail
  refine (to_Atom x.head A1 c1 _ (by omega) (s1.to_ HB.out)).mono ?_
  rintro e w0 ⟨E1, e1, rfl, t1, uf0, hb0⟩
  have hZ := HZ.out
  have hz0 : w.heap.size + 3 ≤ w0.heap.size := Nat.le_trans (Nat.le_of_eq hZ.symm) hb0.size
  have O0 := HO.out.below hb0 (Nat.lt_of_lt_of_eq (show w.heap.size + 1 + 1 < w.heap.size + 3 by omega) hZ.symm)
  have R0 := HR.out.below hb0 (Nat.lt_of_lt_of_eq (show w.heap.size + 1 < w.heap.size + 3 by omega) hZ.symm)
  have P0 := HP.out.below hb0 (Nat.lt_of_lt_of_eq (show w.heap.size < w.heap.size + 3 by omega) hZ.symm)
  have B0 := HB.out.trans (hb0.mono (Nat.le_trans (show w.heap.size ≤ w.heap.size + 3 by omega) (Nat.le_of_eq hZ.symm)))
  have F0 := HF.out.next hb0 uf0
  have T1 := Lib.hid ((show NodeSsAt w0 (w.heap.size + 3) w0.heap.size E1 x.head.args from t1.mono (Nat.le_of_eq hZ.symm) (Nat.le_refl _)))
  clear hZ HZ HF uf0 hb0 t1
  have p0_0 : w0.cell? ⟨w.heap.size, 0, none⟩ = some (.string x.head.name) := P0.cell 0
  have o0_0 : w0.cell? ⟨w.heap.size + 1 + 1, 0, none⟩ = some (.string ByteArray.empty) := O0.cell 0
  have r0_0 : w0.cell? ⟨w.heap.size + 1, 0, none⟩ = some (.string ByteArray.empty) := R0.cell 0
  have x0_0 : w0.frozen? ⟨w.heap.size + 1 + 1, 0, none⟩ = false := O0.frozen 0
  have y0_0 : w0.frozen? ⟨w.heap.size + 1, 0, none⟩ = false := R0.frozen 0
  have p0_1 : w0.cell? ⟨w.heap.size, 1, none⟩ = some (.slice A1 x.head.args.length c1) := P0.cell 1
  have o0_1 : w0.cell? ⟨w.heap.size + 1 + 1, 1, none⟩ = some (.slice none 0 0) := O0.cell 1
  have r0_1 : w0.cell? ⟨w.heap.size + 1, 1, none⟩ = some (.slice none 0 0) := R0.cell 1
  have x0_1 : w0.frozen? ⟨w.heap.size + 1 + 1, 1, none⟩ = false := O0.frozen 1
  have y0_1 : w0.frozen? ⟨w.heap.size + 1, 1, none⟩ = false := R0.frozen 1
  have p0_2 : w0.cell? ⟨w.heap.size, 2, none⟩ = some (.slice A2 x.aggs.length c2) := P0.cell 2
  have o0_2 : w0.cell? ⟨w.heap.size + 1 + 1, 2, none⟩ = some (.slice none 0 0) := O0.cell 2
  have r0_2 : w0.cell? ⟨w.heap.size + 1, 2, none⟩ = some (.slice none 0 0) := R0.cell 2
  have x0_2 : w0.frozen? ⟨w.heap.size + 1 + 1, 2, none⟩ = false := O0.frozen 2
  have y0_2 : w0.frozen? ⟨w.heap.size + 1, 2, none⟩ = false := R0.frozen 2
  have p0_3 : w0.cell? ⟨w.heap.size, 3, none⟩ = some (.slice A3 x.body.length c3) := P0.cell 3
  have o0_3 : w0.cell? ⟨w.heap.size + 1 + 1, 3, none⟩ = some (.slice none 0 0) := O0.cell 3
  have r0_3 : w0.cell? ⟨w.heap.size + 1, 3, none⟩ = some (.slice none 0 0) := R0.cell 3
  have x0_3 : w0.frozen? ⟨w.heap.size + 1 + 1, 3, none⟩ = false := O0.frozen 3
  have y0_3 : w0.frozen? ⟨w.heap.size + 1, 3, none⟩ = false := R0.frozen 3
  have HP0 := Lib.hid P0
  have HR0 := Lib.hid R0
  have HO0 := Lib.hid O0
  have HB0 := Lib.hid B0
  have HF0 := Lib.hid F0
  clear P0 R0 O0 B0 F0
  go_wp2_with fail
  refine (to_Strs A2 c2 x.aggs _ (by omega) (s2.to_ ((HB0.out.setCell (p := ⟨w.heap.size + 1 + 1, 0, none⟩) (by show w.heap.size ≤ w.heap.size + 1 + 1; omega) (.string x.head.name)).setCell (p := ⟨w.heap.size + 1 + 1, 1, none⟩) (by show w.heap.size ≤ w.heap.size + 1 + 1; omega) (.slice E1 x.head.args.length e1)))).mono ?_
  rintro e w1 ⟨E2, e2, rfl, t2, uf1, hb1⟩
  clear p0_0 o0_0 r0_0 x0_0 y0_0 p0_1 o0_1 r0_1 x0_1 y0_1 p0_2 o0_2 r0_2 x0_2 y0_2 p0_3 o0_3 r0_3 x0_3 y0_3
  have zW : ((w0.setCell ⟨w.heap.size + 1 + 1, 0, none⟩ (.string x.head.name)).setCell ⟨w.heap.size + 1 + 1, 1, none⟩ (.slice E1 x.head.args.length e1)).heap.size = w0.heap.size := setW_size [.string x.head.name, .slice E1 x.head.args.length e1] w0 (w.heap.size + 1 + 1) 0
  have hz1 : w.heap.size + 3 ≤ w1.heap.size := Nat.le_trans hz0 (Nat.le_trans (Nat.le_of_eq zW.symm) hb1.size)
  have O1 : Whole w1 (w.heap.size + 1 + 1) 36 [.string x.head.name, .slice E1 x.head.args.length e1, .slice none 0 0, .slice none 0 0] := (setW_whole [.string x.head.name, .slice E1 x.head.args.length e1] 0 HO0.out).below hb1 (Nat.lt_of_lt_of_le (show w.heap.size + 1 + 1 < w.heap.size + 3 by omega) (Nat.le_trans hz0 (Nat.le_of_eq zW.symm)))
  have R1 : Whole w1 (w.heap.size + 1) 36 [.string ByteArray.empty, .slice none 0 0, .slice none 0 0, .slice none 0 0] := (HR0.out.offW (b := w.heap.size + 1 + 1) (o := 0) [.string x.head.name, .slice E1 x.head.args.length e1] (by omega)).below hb1 (Nat.lt_of_lt_of_le (show w.heap.size + 1 < w.heap.size + 3 by omega) (Nat.le_trans hz0 (Nat.le_of_eq zW.symm)))
  have P1 : Whole w1 w.heap.size 28 [.string x.head.name, .slice A1 x.head.args.length c1, .slice A2 x.aggs.length c2, .slice A3 x.body.length c3] := (HP0.out.offW (b := w.heap.size + 1 + 1) (o := 0) [.string x.head.name, .slice E1 x.head.args.length e1] (by omega)).below hb1 (Nat.lt_of_lt_of_le (show w.heap.size < w.heap.size + 3 by omega) (Nat.le_trans hz0 (Nat.le_of_eq zW.symm)))
  have B1 : Below w.heap.size w w1 := (setW_below [.string x.head.name, .slice E1 x.head.args.length e1] (w.heap.size + 1 + 1) 0 HB0.out (by omega)).trans (hb1.mono (Nat.le_trans (show w.heap.size ≤ w.heap.size + 3 by omega) (Nat.le_trans hz0 (Nat.le_of_eq zW.symm))))
  have F1 : UF w1 w.heap.size w1.heap.size := UF.next (show UF ((w0.setCell ⟨w.heap.size + 1 + 1, 0, none⟩ (.string x.head.name)).setCell ⟨w.heap.size + 1 + 1, 1, none⟩ (.slice E1 x.head.args.length e1)) w.heap.size ((w0.setCell ⟨w.heap.size + 1 + 1, 0, none⟩ (.string x.head.name)).setCell ⟨w.heap.size + 1 + 1, 1, none⟩ (.slice E1 x.head.args.length e1)).heap.size from fun b h1 h2 o => UF.setW [.string x.head.name, .slice E1 x.head.args.length e1] (w.heap.size + 1 + 1) 0 HF0.out b h1 (by rw [← zW]; exact h2) o) hb1 uf1
  have T1_1 := Lib.hid (show NodeSsAt w1 (w.heap.size + 3) w1.heap.size E1 x.head.args from ((show NodeSsAt ((w0.setCell ⟨w.heap.size + 1 + 1, 0, none⟩ (.string x.head.name)).setCell ⟨w.heap.size + 1 + 1, 1, none⟩ (.slice E1 x.head.args.length e1)) (w.heap.size + 3) ((w0.setCell ⟨w.heap.size + 1 + 1, 0, none⟩ (.string x.head.name)).setCell ⟨w.heap.size + 1 + 1, 1, none⟩ (.slice E1 x.head.args.length e1)).heap.size E1 x.head.args from (T1.out.keep (fun b h1 h2 => setW_block [.string x.head.name, .slice E1 x.head.args.length e1] w0 (w.heap.size + 1 + 1) 0 b (by omega))).mono (Nat.le_refl _) (Nat.le_of_eq zW.symm)).to_ hb1))
  clear T1
  have T1 := T1_1
  clear T1_1
  have T2 := Lib.hid (show StrsAt w1 (w.heap.size + 3) w1.heap.size E2 x.aggs from t2.mono (Nat.le_trans hz0 (Nat.le_of_eq zW.symm)) (Nat.le_refl _))
  clear zW uf1 hb1 t2 HO0 HR0 HP0 HB0 HF0
  have p1_0 : w1.cell? ⟨w.heap.size, 0, none⟩ = some (.string x.head.name) := P1.cell 0
  have o1_0 : w1.cell? ⟨w.heap.size + 1 + 1, 0, none⟩ = some (.string x.head.name) := O1.cell 0
  have r1_0 : w1.cell? ⟨w.heap.size + 1, 0, none⟩ = some (.string ByteArray.empty) := R1.cell 0
  have x1_0 : w1.frozen? ⟨w.heap.size + 1 + 1, 0, none⟩ = false := O1.frozen 0
  have y1_0 : w1.frozen? ⟨w.heap.size + 1, 0, none⟩ = false := R1.frozen 0
  have p1_1 : w1.cell? ⟨w.heap.size, 1, none⟩ = some (.slice A1 x.head.args.length c1) := P1.cell 1
  have o1_1 : w1.cell? ⟨w.heap.size + 1 + 1, 1, none⟩ = some (.slice E1 x.head.args.length e1) := O1.cell 1
  have r1_1 : w1.cell? ⟨w.heap.size + 1, 1, none⟩ = some (.slice none 0 0) := R1.cell 1
  have x1_1 : w1.frozen? ⟨w.heap.size + 1 + 1, 1, none⟩ = false := O1.frozen 1
  have y1_1 : w1.frozen? ⟨w.heap.size + 1, 1, none⟩ = false := R1.frozen 1
  have p1_2 : w1.cell? ⟨w.heap.size, 2, none⟩ = some (.slice A2 x.aggs.length c2) := P1.cell 2
  have o1_2 : w1.cell? ⟨w.heap.size + 1 + 1, 2, none⟩ = some (.slice none 0 0) := O1.cell 2
  have r1_2 : w1.cell? ⟨w.heap.size + 1, 2, none⟩ = some (.slice none 0 0) := R1.cell 2
  have x1_2 : w1.frozen? ⟨w.heap.size + 1 + 1, 2, none⟩ = false := O1.frozen 2
  have y1_2 : w1.frozen? ⟨w.heap.size + 1, 2, none⟩ = false := R1.frozen 2
  have p1_3 : w1.cell? ⟨w.heap.size, 3, none⟩ = some (.slice A3 x.body.length c3) := P1.cell 3
  have o1_3 : w1.cell? ⟨w.heap.size + 1 + 1, 3, none⟩ = some (.slice none 0 0) := O1.cell 3
  have r1_3 : w1.cell? ⟨w.heap.size + 1, 3, none⟩ = some (.slice none 0 0) := R1.cell 3
  have x1_3 : w1.frozen? ⟨w.heap.size + 1 + 1, 3, none⟩ = false := O1.frozen 3
  have y1_3 : w1.frozen? ⟨w.heap.size + 1, 3, none⟩ = false := R1.frozen 3
  have HP1 := Lib.hid P1
  have HR1 := Lib.hid R1
  have HO1 := Lib.hid O1
  have HB1 := Lib.hid B1
  have HF1 := Lib.hid F1
  clear P1 R1 O1 B1 F1
  go_wp2_with fail
  refine (to_Lits A3 c3 x.body _ (by omega) (s3.to_ (HB1.out.setCell (p := ⟨w.heap.size + 1 + 1, 2, none⟩) (by show w.heap.size ≤ w.heap.size + 1 + 1; omega) (.slice E2 x.aggs.length e2)))).mono ?_
  rintro e w2 ⟨E3, e3, rfl, t3, uf2, hb2⟩
  clear p1_0 o1_0 r1_0 x1_0 y1_0 p1_1 o1_1 r1_1 x1_1 y1_1 p1_2 o1_2 r1_2 x1_2 y1_2 p1_3 o1_3 r1_3 x1_3 y1_3
  have zW : (w1.setCell ⟨w.heap.size + 1 + 1, 2, none⟩ (.slice E2 x.aggs.length e2)).heap.size = w1.heap.size := setW_size [.slice E2 x.aggs.length e2] w1 (w.heap.size + 1 + 1) 2
  have hz2 : w.heap.size + 3 ≤ w2.heap.size := Nat.le_trans hz1 (Nat.le_trans (Nat.le_of_eq zW.symm) hb2.size)
  have O2 : Whole w2 (w.heap.size + 1 + 1) 36 [.string x.head.name, .slice E1 x.head.args.length e1, .slice E2 x.aggs.length e2, .slice none 0 0] := (setW_whole [.slice E2 x.aggs.length e2] 2 HO1.out).below hb2 (Nat.lt_of_lt_of_le (show w.heap.size + 1 + 1 < w.heap.size + 3 by omega) (Nat.le_trans hz1 (Nat.le_of_eq zW.symm)))
  have R2 : Whole w2 (w.heap.size + 1) 36 [.string ByteArray.empty, .slice none 0 0, .slice none 0 0, .slice none 0 0] := (HR1.out.offW (b := w.heap.size + 1 + 1) (o := 2) [.slice E2 x.aggs.length e2] (by omega)).below hb2 (Nat.lt_of_lt_of_le (show w.heap.size + 1 < w.heap.size + 3 by omega) (Nat.le_trans hz1 (Nat.le_of_eq zW.symm)))
  have P2 : Whole w2 w.heap.size 28 [.string x.head.name, .slice A1 x.head.args.length c1, .slice A2 x.aggs.length c2, .slice A3 x.body.length c3] := (HP1.out.offW (b := w.heap.size + 1 + 1) (o := 2) [.slice E2 x.aggs.length e2] (by omega)).below hb2 (Nat.lt_of_lt_of_le (show w.heap.size < w.heap.size + 3 by omega) (Nat.le_trans hz1 (Nat.le_of_eq zW.symm)))
  have B2 : Below w.heap.size w w2 := (setW_below [.slice E2 x.aggs.length e2] (w.heap.size + 1 + 1) 2 HB1.out (by omega)).trans (hb2.mono (Nat.le_trans (show w.heap.size ≤ w.heap.size + 3 by omega) (Nat.le_trans hz1 (Nat.le_of_eq zW.symm))))
  have F2 : UF w2 w.heap.size w2.heap.size := UF.next (show UF (w1.setCell ⟨w.heap.size + 1 + 1, 2, none⟩ (.slice E2 x.aggs.length e2)) w.heap.size (w1.setCell ⟨w.heap.size + 1 + 1, 2, none⟩ (.slice E2 x.aggs.length e2)).heap.size from fun b h1 h2 o => UF.setW [.slice E2 x.aggs.length e2] (w.heap.size + 1 + 1) 2 HF1.out b h1 (by rw [← zW]; exact h2) o) hb2 uf2
  have T1_2 := Lib.hid (show NodeSsAt w2 (w.heap.size + 3) w2.heap.size E1 x.head.args from ((show NodeSsAt (w1.setCell ⟨w.heap.size + 1 + 1, 2, none⟩ (.slice E2 x.aggs.length e2)) (w.heap.size + 3) (w1.setCell ⟨w.heap.size + 1 + 1, 2, none⟩ (.slice E2 x.aggs.length e2)).heap.size E1 x.head.args from (T1.out.keep (fun b h1 h2 => setW_block [.slice E2 x.aggs.length e2] w1 (w.heap.size + 1 + 1) 2 b (by omega))).mono (Nat.le_refl _) (Nat.le_of_eq zW.symm)).to_ hb2))
  clear T1
  have T1 := T1_2
  clear T1_2
  have T2_2 := Lib.hid (show StrsAt w2 (w.heap.size + 3) w2.heap.size E2 x.aggs from ((show StrsAt (w1.setCell ⟨w.heap.size + 1 + 1, 2, none⟩ (.slice E2 x.aggs.length e2)) (w.heap.size + 3) (w1.setCell ⟨w.heap.size + 1 + 1, 2, none⟩ (.slice E2 x.aggs.length e2)).heap.size E2 x.aggs from (T2.out.keep (fun b h1 h2 => setW_block [.slice E2 x.aggs.length e2] w1 (w.heap.size + 1 + 1) 2 b (by omega))).mono (Nat.le_refl _) (Nat.le_of_eq zW.symm)).to_ hb2))
  clear T2
  have T2 := T2_2
  clear T2_2
  have T3 := Lib.hid (show LitsAt w2 (w.heap.size + 3) w2.heap.size E3 x.body from t3.mono (Nat.le_trans hz1 (Nat.le_of_eq zW.symm)) (Nat.le_refl _))
  clear zW uf2 hb2 t3 HO1 HR1 HP1 HB1 HF1
  have p2_0 : w2.cell? ⟨w.heap.size, 0, none⟩ = some (.string x.head.name) := P2.cell 0
  have o2_0 : w2.cell? ⟨w.heap.size + 1 + 1, 0, none⟩ = some (.string x.head.name) := O2.cell 0
  have r2_0 : w2.cell? ⟨w.heap.size + 1, 0, none⟩ = some (.string ByteArray.empty) := R2.cell 0
  have x2_0 : w2.frozen? ⟨w.heap.size + 1 + 1, 0, none⟩ = false := O2.frozen 0
  have y2_0 : w2.frozen? ⟨w.heap.size + 1, 0, none⟩ = false := R2.frozen 0
  have p2_1 : w2.cell? ⟨w.heap.size, 1, none⟩ = some (.slice A1 x.head.args.length c1) := P2.cell 1
  have o2_1 : w2.cell? ⟨w.heap.size + 1 + 1, 1, none⟩ = some (.slice E1 x.head.args.length e1) := O2.cell 1
  have r2_1 : w2.cell? ⟨w.heap.size + 1, 1, none⟩ = some (.slice none 0 0) := R2.cell 1
  have x2_1 : w2.frozen? ⟨w.heap.size + 1 + 1, 1, none⟩ = false := O2.frozen 1
  have y2_1 : w2.frozen? ⟨w.heap.size + 1, 1, none⟩ = false := R2.frozen 1
  have p2_2 : w2.cell? ⟨w.heap.size, 2, none⟩ = some (.slice A2 x.aggs.length c2) := P2.cell 2
  have o2_2 : w2.cell? ⟨w.heap.size + 1 + 1, 2, none⟩ = some (.slice E2 x.aggs.length e2) := O2.cell 2
  have r2_2 : w2.cell? ⟨w.heap.size + 1, 2, none⟩ = some (.slice none 0 0) := R2.cell 2
  have x2_2 : w2.frozen? ⟨w.heap.size + 1 + 1, 2, none⟩ = false := O2.frozen 2
  have y2_2 : w2.frozen? ⟨w.heap.size + 1, 2, none⟩ = false := R2.frozen 2
  have p2_3 : w2.cell? ⟨w.heap.size, 3, none⟩ = some (.slice A3 x.body.length c3) := P2.cell 3
  have o2_3 : w2.cell? ⟨w.heap.size + 1 + 1, 3, none⟩ = some (.slice none 0 0) := O2.cell 3
  have r2_3 : w2.cell? ⟨w.heap.size + 1, 3, none⟩ = some (.slice none 0 0) := R2.cell 3
  have x2_3 : w2.frozen? ⟨w.heap.size + 1 + 1, 3, none⟩ = false := O2.frozen 3
  have y2_3 : w2.frozen? ⟨w.heap.size + 1, 3, none⟩ = false := R2.frozen 3
  have HP2 := Lib.hid P2
  have HR2 := Lib.hid R2
  have HO2 := Lib.hid O2
  have HB2 := Lib.hid B2
  have HF2 := Lib.hid F2
  clear P2 R2 O2 B2 F2
  go_wp2_with fail
  clear p2_0 o2_0 r2_0 x2_0 y2_0 p2_1 o2_1 r2_1 x2_1 y2_1 p2_2 o2_2 r2_2 x2_2 y2_2 p2_3 o2_3 r2_3 x2_3 y2_3
  have WF : Whole (((((w2.setCell ⟨w.heap.size + 1 + 1, 3, none⟩ (.slice E3 x.body.length e3)).setCell ⟨w.heap.size + 1, 0, none⟩ (.string x.head.name)).setCell ⟨w.heap.size + 1, 1, none⟩ (.slice E1 x.head.args.length e1)).setCell ⟨w.heap.size + 1, 2, none⟩ (.slice E2 x.aggs.length e2)).setCell ⟨w.heap.size + 1, 3, none⟩ (.slice E3 x.body.length e3)) (w.heap.size + 1) 36 [.string x.head.name, .slice E1 x.head.args.length e1, .slice E2 x.aggs.length e2, .slice E3 x.body.length e3] := setW_whole [.string x.head.name, .slice E1 x.head.args.length e1, .slice E2 x.aggs.length e2, .slice E3 x.body.length e3] 0 (HR2.out.offW (b := w.heap.size + 1 + 1) (o := 3) [.slice E3 x.body.length e3] (by omega))
  have d0 : (((((w2.setCell ⟨w.heap.size + 1 + 1, 3, none⟩ (.slice E3 x.body.length e3)).setCell ⟨w.heap.size + 1, 0, none⟩ (.string x.head.name)).setCell ⟨w.heap.size + 1, 1, none⟩ (.slice E1 x.head.args.length e1)).setCell ⟨w.heap.size + 1, 2, none⟩ (.slice E2 x.aggs.length e2)).setCell ⟨w.heap.size + 1, 3, none⟩ (.slice E3 x.body.length e3)).cell? ⟨w.heap.size + 1, 0, none⟩ = some (.string x.head.name) := WF.cell 0
  have d1 : (((((w2.setCell ⟨w.heap.size + 1 + 1, 3, none⟩ (.slice E3 x.body.length e3)).setCell ⟨w.heap.size + 1, 0, none⟩ (.string x.head.name)).setCell ⟨w.heap.size + 1, 1, none⟩ (.slice E1 x.head.args.length e1)).setCell ⟨w.heap.size + 1, 2, none⟩ (.slice E2 x.aggs.length e2)).setCell ⟨w.heap.size + 1, 3, none⟩ (.slice E3 x.body.length e3)).cell? ⟨w.heap.size + 1, 1, none⟩ = some (.slice E1 x.head.args.length e1) := WF.cell 1
  have d2 : (((((w2.setCell ⟨w.heap.size + 1 + 1, 3, none⟩ (.slice E3 x.body.length e3)).setCell ⟨w.heap.size + 1, 0, none⟩ (.string x.head.name)).setCell ⟨w.heap.size + 1, 1, none⟩ (.slice E1 x.head.args.length e1)).setCell ⟨w.heap.size + 1, 2, none⟩ (.slice E2 x.aggs.length e2)).setCell ⟨w.heap.size + 1, 3, none⟩ (.slice E3 x.body.length e3)).cell? ⟨w.heap.size + 1, 2, none⟩ = some (.slice E2 x.aggs.length e2) := WF.cell 2
  have d3 : (((((w2.setCell ⟨w.heap.size + 1 + 1, 3, none⟩ (.slice E3 x.body.length e3)).setCell ⟨w.heap.size + 1, 0, none⟩ (.string x.head.name)).setCell ⟨w.heap.size + 1, 1, none⟩ (.slice E1 x.head.args.length e1)).setCell ⟨w.heap.size + 1, 2, none⟩ (.slice E2 x.aggs.length e2)).setCell ⟨w.heap.size + 1, 3, none⟩ (.slice E3 x.body.length e3)).cell? ⟨w.heap.size + 1, 3, none⟩ = some (.slice E3 x.body.length e3) := WF.cell 3
  have zW : (((((w2.setCell ⟨w.heap.size + 1 + 1, 3, none⟩ (.slice E3 x.body.length e3)).setCell ⟨w.heap.size + 1, 0, none⟩ (.string x.head.name)).setCell ⟨w.heap.size + 1, 1, none⟩ (.slice E1 x.head.args.length e1)).setCell ⟨w.heap.size + 1, 2, none⟩ (.slice E2 x.aggs.length e2)).setCell ⟨w.heap.size + 1, 3, none⟩ (.slice E3 x.body.length e3)).heap.size = w2.heap.size := (setW_size [.string x.head.name, .slice E1 x.head.args.length e1, .slice E2 x.aggs.length e2, .slice E3 x.body.length e3] _ (w.heap.size + 1) 0).trans (setW_size [.slice E3 x.body.length e3] w2 (w.heap.size + 1 + 1) 3)
  have hY : Below w.heap.size w (((((w2.setCell ⟨w.heap.size + 1 + 1, 3, none⟩ (.slice E3 x.body.length e3)).setCell ⟨w.heap.size + 1, 0, none⟩ (.string x.head.name)).setCell ⟨w.heap.size + 1, 1, none⟩ (.slice E1 x.head.args.length e1)).setCell ⟨w.heap.size + 1, 2, none⟩ (.slice E2 x.aggs.length e2)).setCell ⟨w.heap.size + 1, 3, none⟩ (.slice E3 x.body.length e3)) := setW_below [.string x.head.name, .slice E1 x.head.args.length e1, .slice E2 x.aggs.length e2, .slice E3 x.body.length e3] (w.heap.size + 1) 0 (setW_below [.slice E3 x.body.length e3] (w.heap.size + 1 + 1) 3 HB2.out (by omega)) (by omega)
  have U1 : NodeSsAt (((((w2.setCell ⟨w.heap.size + 1 + 1, 3, none⟩ (.slice E3 x.body.length e3)).setCell ⟨w.heap.size + 1, 0, none⟩ (.string x.head.name)).setCell ⟨w.heap.size + 1, 1, none⟩ (.slice E1 x.head.args.length e1)).setCell ⟨w.heap.size + 1, 2, none⟩ (.slice E2 x.aggs.length e2)).setCell ⟨w.heap.size + 1, 3, none⟩ (.slice E3 x.body.length e3)) w.heap.size (((((w2.setCell ⟨w.heap.size + 1 + 1, 3, none⟩ (.slice E3 x.body.length e3)).setCell ⟨w.heap.size + 1, 0, none⟩ (.string x.head.name)).setCell ⟨w.heap.size + 1, 1, none⟩ (.slice E1 x.head.args.length e1)).setCell ⟨w.heap.size + 1, 2, none⟩ (.slice E2 x.aggs.length e2)).setCell ⟨w.heap.size + 1, 3, none⟩ (.slice E3 x.body.length e3)).heap.size E1 x.head.args := (T1.out.keep (fun b h1 h2 => (setW_block [.string x.head.name, .slice E1 x.head.args.length e1, .slice E2 x.aggs.length e2, .slice E3 x.body.length e3] _ (w.heap.size + 1) 0 b (by omega)).trans (setW_block [.slice E3 x.body.length e3] w2 (w.heap.size + 1 + 1) 3 b (by omega)))).mono (by omega) (Nat.le_of_eq zW.symm)
  have U2 : StrsAt (((((w2.setCell ⟨w.heap.size + 1 + 1, 3, none⟩ (.slice E3 x.body.length e3)).setCell ⟨w.heap.size + 1, 0, none⟩ (.string x.head.name)).setCell ⟨w.heap.size + 1, 1, none⟩ (.slice E1 x.head.args.length e1)).setCell ⟨w.heap.size + 1, 2, none⟩ (.slice E2 x.aggs.length e2)).setCell ⟨w.heap.size + 1, 3, none⟩ (.slice E3 x.body.length e3)) w.heap.size (((((w2.setCell ⟨w.heap.size + 1 + 1, 3, none⟩ (.slice E3 x.body.length e3)).setCell ⟨w.heap.size + 1, 0, none⟩ (.string x.head.name)).setCell ⟨w.heap.size + 1, 1, none⟩ (.slice E1 x.head.args.length e1)).setCell ⟨w.heap.size + 1, 2, none⟩ (.slice E2 x.aggs.length e2)).setCell ⟨w.heap.size + 1, 3, none⟩ (.slice E3 x.body.length e3)).heap.size E2 x.aggs := (T2.out.keep (fun b h1 h2 => (setW_block [.string x.head.name, .slice E1 x.head.args.length e1, .slice E2 x.aggs.length e2, .slice E3 x.body.length e3] _ (w.heap.size + 1) 0 b (by omega)).trans (setW_block [.slice E3 x.body.length e3] w2 (w.heap.size + 1 + 1) 3 b (by omega)))).mono (by omega) (Nat.le_of_eq zW.symm)
  have U3 : LitsAt (((((w2.setCell ⟨w.heap.size + 1 + 1, 3, none⟩ (.slice E3 x.body.length e3)).setCell ⟨w.heap.size + 1, 0, none⟩ (.string x.head.name)).setCell ⟨w.heap.size + 1, 1, none⟩ (.slice E1 x.head.args.length e1)).setCell ⟨w.heap.size + 1, 2, none⟩ (.slice E2 x.aggs.length e2)).setCell ⟨w.heap.size + 1, 3, none⟩ (.slice E3 x.body.length e3)) w.heap.size (((((w2.setCell ⟨w.heap.size + 1 + 1, 3, none⟩ (.slice E3 x.body.length e3)).setCell ⟨w.heap.size + 1, 0, none⟩ (.string x.head.name)).setCell ⟨w.heap.size + 1, 1, none⟩ (.slice E1 x.head.args.length e1)).setCell ⟨w.heap.size + 1, 2, none⟩ (.slice E2 x.aggs.length e2)).setCell ⟨w.heap.size + 1, 3, none⟩ (.slice E3 x.body.length e3)).heap.size E3 x.body := (T3.out.keep (fun b h1 h2 => (setW_block [.string x.head.name, .slice E1 x.head.args.length e1, .slice E2 x.aggs.length e2, .slice E3 x.body.length e3] _ (w.heap.size + 1) 0 b (by omega)).trans (setW_block [.slice E3 x.body.length e3] w2 (w.heap.size + 1 + 1) 3 b (by omega)))).mono (by omega) (Nat.le_of_eq zW.symm)
  have hF : UF (((((w2.setCell ⟨w.heap.size + 1 + 1, 3, none⟩ (.slice E3 x.body.length e3)).setCell ⟨w.heap.size + 1, 0, none⟩ (.string x.head.name)).setCell ⟨w.heap.size + 1, 1, none⟩ (.slice E1 x.head.args.length e1)).setCell ⟨w.heap.size + 1, 2, none⟩ (.slice E2 x.aggs.length e2)).setCell ⟨w.heap.size + 1, 3, none⟩ (.slice E3 x.body.length e3)) w.heap.size (((((w2.setCell ⟨w.heap.size + 1 + 1, 3, none⟩ (.slice E3 x.body.length e3)).setCell ⟨w.heap.size + 1, 0, none⟩ (.string x.head.name)).setCell ⟨w.heap.size + 1, 1, none⟩ (.slice E1 x.head.args.length e1)).setCell ⟨w.heap.size + 1, 2, none⟩ (.slice E2 x.aggs.length e2)).setCell ⟨w.heap.size + 1, 3, none⟩ (.slice E3 x.body.length e3)).heap.size := fun b h1 h2 o => UF.setW [.string x.head.name, .slice E1 x.head.args.length e1, .slice E2 x.aggs.length e2, .slice E3 x.body.length e3] (w.heap.size + 1) 0 (UF.setW [.slice E3 x.body.length e3] (w.heap.size + 1 + 1) 3 HF2.out) b h1 (by rw [← zW]; exact h2) o
  clear WF zW T1 T2 T3
  generalize (((((w2.setCell ⟨w.heap.size + 1 + 1, 3, none⟩ (.slice E3 x.body.length e3)).setCell ⟨w.heap.size + 1, 0, none⟩ (.string x.head.name)).setCell ⟨w.heap.size + 1, 1, none⟩ (.slice E1 x.head.args.length e1)).setCell ⟨w.heap.size + 1, 2, none⟩ (.slice E2 x.aggs.length e2)).setCell ⟨w.heap.size + 1, 3, none⟩ (.slice E3 x.body.length e3)) = wf at d0 d1 d2 d3 hY hF U1 U2 U3 ⊢
  exact bodyPost_ret (v := .agg #[.string x.head.name, .slice E1 x.head.args.length e1, .slice E2 x.aggs.length e2, .slice E3 x.body.length e3]) (by simp [results, Try.results6, go_sem, d0, d1, d2, d3]) rfl ⟨_, _, _, _, _, _, rfl, U1, U2, U3, hF, hY⟩

end Go.Proofs.Ytmbdccbgcobflaa
