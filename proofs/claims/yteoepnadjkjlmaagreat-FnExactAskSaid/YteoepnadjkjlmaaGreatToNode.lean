/-
  laws.toNode and its like.
-/
import Derived.Test.YteoepnadjkjlmaaGreatSzNodesZ
import Derived.Test.YteoepnadjkjlmaaGreatToValZ
namespace Go.Proofs.YteoepnadjkjlmaaGreat
open Go.RowKit Go.Sort
set_option linter.unusedVariables false

def ToNode (w : World) (x : GNode) (e : Ending) (w' : World) : Prop := e = .returned (.agg #[.int .i64 x.k, .string x.name, .int .i64 x.v.k, .int .i64 x.v.n, .string x.v.t, .int .i64 x.size]) ∧ UF w' w.heap.size w'.heap.size ∧ Below w.heap.size w w'
set_option maxRecDepth 100000 in
set_option maxHeartbeats 3200000 in
theorem to_Node (x : GNode) (w : World) :
    Calls Tryz.prog 71 #[.agg #[.int .i64 x.k, .string x.name, .int .i64 x.v.k, .int .i64 x.v.n, .string x.v.t, .int .i64 x.size]] w (ToNode w x) := by
  obtain ⟨hP, hR, hO, hB, hZ, hF⟩ := three_new w #[.int .i64 x.k, .string x.name, .int .i64 x.v.k, .int .i64 x.v.n, .string x.v.t, .int .i64 x.size] 101 81 [.int .i64 0, .string ByteArray.empty, .int .i64 0, .int .i64 0, .string ByteArray.empty, .int .i64 0] [.int .i64 x.k, .string x.name, .int .i64 0, .int .i64 0, .string ByteArray.empty, .int .i64 0]
  have HP := Lib.hid hP
  have HR := Lib.hid hR
  have HO := Lib.hid hO
  have HB := Lib.hid hB
  have HZ := Lib.hid hZ
  have HF := Lib.hid hF
  clear hP hR hO hB hZ hF
  go_enter Tryz.func71, Tryz.ntmps71
  go_wp2_with fail
  refine (to_Value x.v _).mono ?_
  rintro e w0 ⟨rfl, uf0, hb0⟩
  have hZ := HZ.out
  have hz0 : w.heap.size + 3 ≤ w0.heap.size := Nat.le_trans (Nat.le_of_eq hZ.symm) hb0.size
  have O0 := HO.out.below hb0 (Nat.lt_of_lt_of_eq (show w.heap.size + 1 + 1 < w.heap.size + 3 by omega) hZ.symm)
  have R0 := HR.out.below hb0 (Nat.lt_of_lt_of_eq (show w.heap.size + 1 < w.heap.size + 3 by omega) hZ.symm)
  have P0 := HP.out.below hb0 (Nat.lt_of_lt_of_eq (show w.heap.size < w.heap.size + 3 by omega) hZ.symm)
  have B0 := HB.out.trans (hb0.mono (Nat.le_trans (show w.heap.size ≤ w.heap.size + 3 by omega) (Nat.le_of_eq hZ.symm)))
  have F0 := HF.out.next hb0 uf0
  clear hZ HZ HF uf0 hb0
  have p0_0 : w0.cell? ⟨w.heap.size, 0, none⟩ = some (.int .i64 x.k) := P0.cell 0
  have o0_0 : w0.cell? ⟨w.heap.size + 1 + 1, 0, none⟩ = some (.int .i64 x.k) := O0.cell 0
  have r0_0 : w0.cell? ⟨w.heap.size + 1, 0, none⟩ = some (.int .i64 0) := R0.cell 0
  have x0_0 : w0.frozen? ⟨w.heap.size + 1 + 1, 0, none⟩ = false := O0.frozen 0
  have y0_0 : w0.frozen? ⟨w.heap.size + 1, 0, none⟩ = false := R0.frozen 0
  have p0_1 : w0.cell? ⟨w.heap.size, 1, none⟩ = some (.string x.name) := P0.cell 1
  have o0_1 : w0.cell? ⟨w.heap.size + 1 + 1, 1, none⟩ = some (.string x.name) := O0.cell 1
  have r0_1 : w0.cell? ⟨w.heap.size + 1, 1, none⟩ = some (.string ByteArray.empty) := R0.cell 1
  have x0_1 : w0.frozen? ⟨w.heap.size + 1 + 1, 1, none⟩ = false := O0.frozen 1
  have y0_1 : w0.frozen? ⟨w.heap.size + 1, 1, none⟩ = false := R0.frozen 1
  have p0_2 : w0.cell? ⟨w.heap.size, 2, none⟩ = some (.int .i64 x.v.k) := P0.cell 2
  have o0_2 : w0.cell? ⟨w.heap.size + 1 + 1, 2, none⟩ = some (.int .i64 0) := O0.cell 2
  have r0_2 : w0.cell? ⟨w.heap.size + 1, 2, none⟩ = some (.int .i64 0) := R0.cell 2
  have x0_2 : w0.frozen? ⟨w.heap.size + 1 + 1, 2, none⟩ = false := O0.frozen 2
  have y0_2 : w0.frozen? ⟨w.heap.size + 1, 2, none⟩ = false := R0.frozen 2
  have p0_3 : w0.cell? ⟨w.heap.size, 3, none⟩ = some (.int .i64 x.v.n) := P0.cell 3
  have o0_3 : w0.cell? ⟨w.heap.size + 1 + 1, 3, none⟩ = some (.int .i64 0) := O0.cell 3
  have r0_3 : w0.cell? ⟨w.heap.size + 1, 3, none⟩ = some (.int .i64 0) := R0.cell 3
  have x0_3 : w0.frozen? ⟨w.heap.size + 1 + 1, 3, none⟩ = false := O0.frozen 3
  have y0_3 : w0.frozen? ⟨w.heap.size + 1, 3, none⟩ = false := R0.frozen 3
  have p0_4 : w0.cell? ⟨w.heap.size, 4, none⟩ = some (.string x.v.t) := P0.cell 4
  have o0_4 : w0.cell? ⟨w.heap.size + 1 + 1, 4, none⟩ = some (.string ByteArray.empty) := O0.cell 4
  have r0_4 : w0.cell? ⟨w.heap.size + 1, 4, none⟩ = some (.string ByteArray.empty) := R0.cell 4
  have x0_4 : w0.frozen? ⟨w.heap.size + 1 + 1, 4, none⟩ = false := O0.frozen 4
  have y0_4 : w0.frozen? ⟨w.heap.size + 1, 4, none⟩ = false := R0.frozen 4
  have p0_5 : w0.cell? ⟨w.heap.size, 5, none⟩ = some (.int .i64 x.size) := P0.cell 5
  have o0_5 : w0.cell? ⟨w.heap.size + 1 + 1, 5, none⟩ = some (.int .i64 0) := O0.cell 5
  have r0_5 : w0.cell? ⟨w.heap.size + 1, 5, none⟩ = some (.int .i64 0) := R0.cell 5
  have x0_5 : w0.frozen? ⟨w.heap.size + 1 + 1, 5, none⟩ = false := O0.frozen 5
  have y0_5 : w0.frozen? ⟨w.heap.size + 1, 5, none⟩ = false := R0.frozen 5
  have HP0 := Lib.hid P0
  have HR0 := Lib.hid R0
  have HO0 := Lib.hid O0
  have HB0 := Lib.hid B0
  have HF0 := Lib.hid F0
  clear P0 R0 O0 B0 F0
  go_wp2_with fail
  clear p0_0 o0_0 r0_0 x0_0 y0_0 p0_1 o0_1 r0_1 x0_1 y0_1 p0_2 o0_2 r0_2 x0_2 y0_2 p0_3 o0_3 r0_3 x0_3 y0_3 p0_4 o0_4 r0_4 x0_4 y0_4 p0_5 o0_5 r0_5 x0_5 y0_5
  have WF : Whole ((((((((((w0.setCell ⟨w.heap.size + 1 + 1, 2, none⟩ (.int .i64 x.v.k)).setCell ⟨w.heap.size + 1 + 1, 3, none⟩ (.int .i64 x.v.n)).setCell ⟨w.heap.size + 1 + 1, 4, none⟩ (.string x.v.t)).setCell ⟨w.heap.size + 1 + 1, 5, none⟩ (.int .i64 x.size)).setCell ⟨w.heap.size + 1, 0, none⟩ (.int .i64 x.k)).setCell ⟨w.heap.size + 1, 1, none⟩ (.string x.name)).setCell ⟨w.heap.size + 1, 2, none⟩ (.int .i64 x.v.k)).setCell ⟨w.heap.size + 1, 3, none⟩ (.int .i64 x.v.n)).setCell ⟨w.heap.size + 1, 4, none⟩ (.string x.v.t)).setCell ⟨w.heap.size + 1, 5, none⟩ (.int .i64 x.size)) (w.heap.size + 1) 81 [.int .i64 x.k, .string x.name, .int .i64 x.v.k, .int .i64 x.v.n, .string x.v.t, .int .i64 x.size] := setW_whole [.int .i64 x.k, .string x.name, .int .i64 x.v.k, .int .i64 x.v.n, .string x.v.t, .int .i64 x.size] 0 (HR0.out.offW (b := w.heap.size + 1 + 1) (o := 2) [.int .i64 x.v.k, .int .i64 x.v.n, .string x.v.t, .int .i64 x.size] (by omega))
  have d0 : ((((((((((w0.setCell ⟨w.heap.size + 1 + 1, 2, none⟩ (.int .i64 x.v.k)).setCell ⟨w.heap.size + 1 + 1, 3, none⟩ (.int .i64 x.v.n)).setCell ⟨w.heap.size + 1 + 1, 4, none⟩ (.string x.v.t)).setCell ⟨w.heap.size + 1 + 1, 5, none⟩ (.int .i64 x.size)).setCell ⟨w.heap.size + 1, 0, none⟩ (.int .i64 x.k)).setCell ⟨w.heap.size + 1, 1, none⟩ (.string x.name)).setCell ⟨w.heap.size + 1, 2, none⟩ (.int .i64 x.v.k)).setCell ⟨w.heap.size + 1, 3, none⟩ (.int .i64 x.v.n)).setCell ⟨w.heap.size + 1, 4, none⟩ (.string x.v.t)).setCell ⟨w.heap.size + 1, 5, none⟩ (.int .i64 x.size)).cell? ⟨w.heap.size + 1, 0, none⟩ = some (.int .i64 x.k) := WF.cell 0
  have d1 : ((((((((((w0.setCell ⟨w.heap.size + 1 + 1, 2, none⟩ (.int .i64 x.v.k)).setCell ⟨w.heap.size + 1 + 1, 3, none⟩ (.int .i64 x.v.n)).setCell ⟨w.heap.size + 1 + 1, 4, none⟩ (.string x.v.t)).setCell ⟨w.heap.size + 1 + 1, 5, none⟩ (.int .i64 x.size)).setCell ⟨w.heap.size + 1, 0, none⟩ (.int .i64 x.k)).setCell ⟨w.heap.size + 1, 1, none⟩ (.string x.name)).setCell ⟨w.heap.size + 1, 2, none⟩ (.int .i64 x.v.k)).setCell ⟨w.heap.size + 1, 3, none⟩ (.int .i64 x.v.n)).setCell ⟨w.heap.size + 1, 4, none⟩ (.string x.v.t)).setCell ⟨w.heap.size + 1, 5, none⟩ (.int .i64 x.size)).cell? ⟨w.heap.size + 1, 1, none⟩ = some (.string x.name) := WF.cell 1
  have d2 : ((((((((((w0.setCell ⟨w.heap.size + 1 + 1, 2, none⟩ (.int .i64 x.v.k)).setCell ⟨w.heap.size + 1 + 1, 3, none⟩ (.int .i64 x.v.n)).setCell ⟨w.heap.size + 1 + 1, 4, none⟩ (.string x.v.t)).setCell ⟨w.heap.size + 1 + 1, 5, none⟩ (.int .i64 x.size)).setCell ⟨w.heap.size + 1, 0, none⟩ (.int .i64 x.k)).setCell ⟨w.heap.size + 1, 1, none⟩ (.string x.name)).setCell ⟨w.heap.size + 1, 2, none⟩ (.int .i64 x.v.k)).setCell ⟨w.heap.size + 1, 3, none⟩ (.int .i64 x.v.n)).setCell ⟨w.heap.size + 1, 4, none⟩ (.string x.v.t)).setCell ⟨w.heap.size + 1, 5, none⟩ (.int .i64 x.size)).cell? ⟨w.heap.size + 1, 2, none⟩ = some (.int .i64 x.v.k) := WF.cell 2
  have d3 : ((((((((((w0.setCell ⟨w.heap.size + 1 + 1, 2, none⟩ (.int .i64 x.v.k)).setCell ⟨w.heap.size + 1 + 1, 3, none⟩ (.int .i64 x.v.n)).setCell ⟨w.heap.size + 1 + 1, 4, none⟩ (.string x.v.t)).setCell ⟨w.heap.size + 1 + 1, 5, none⟩ (.int .i64 x.size)).setCell ⟨w.heap.size + 1, 0, none⟩ (.int .i64 x.k)).setCell ⟨w.heap.size + 1, 1, none⟩ (.string x.name)).setCell ⟨w.heap.size + 1, 2, none⟩ (.int .i64 x.v.k)).setCell ⟨w.heap.size + 1, 3, none⟩ (.int .i64 x.v.n)).setCell ⟨w.heap.size + 1, 4, none⟩ (.string x.v.t)).setCell ⟨w.heap.size + 1, 5, none⟩ (.int .i64 x.size)).cell? ⟨w.heap.size + 1, 3, none⟩ = some (.int .i64 x.v.n) := WF.cell 3
  have d4 : ((((((((((w0.setCell ⟨w.heap.size + 1 + 1, 2, none⟩ (.int .i64 x.v.k)).setCell ⟨w.heap.size + 1 + 1, 3, none⟩ (.int .i64 x.v.n)).setCell ⟨w.heap.size + 1 + 1, 4, none⟩ (.string x.v.t)).setCell ⟨w.heap.size + 1 + 1, 5, none⟩ (.int .i64 x.size)).setCell ⟨w.heap.size + 1, 0, none⟩ (.int .i64 x.k)).setCell ⟨w.heap.size + 1, 1, none⟩ (.string x.name)).setCell ⟨w.heap.size + 1, 2, none⟩ (.int .i64 x.v.k)).setCell ⟨w.heap.size + 1, 3, none⟩ (.int .i64 x.v.n)).setCell ⟨w.heap.size + 1, 4, none⟩ (.string x.v.t)).setCell ⟨w.heap.size + 1, 5, none⟩ (.int .i64 x.size)).cell? ⟨w.heap.size + 1, 4, none⟩ = some (.string x.v.t) := WF.cell 4
  have d5 : ((((((((((w0.setCell ⟨w.heap.size + 1 + 1, 2, none⟩ (.int .i64 x.v.k)).setCell ⟨w.heap.size + 1 + 1, 3, none⟩ (.int .i64 x.v.n)).setCell ⟨w.heap.size + 1 + 1, 4, none⟩ (.string x.v.t)).setCell ⟨w.heap.size + 1 + 1, 5, none⟩ (.int .i64 x.size)).setCell ⟨w.heap.size + 1, 0, none⟩ (.int .i64 x.k)).setCell ⟨w.heap.size + 1, 1, none⟩ (.string x.name)).setCell ⟨w.heap.size + 1, 2, none⟩ (.int .i64 x.v.k)).setCell ⟨w.heap.size + 1, 3, none⟩ (.int .i64 x.v.n)).setCell ⟨w.heap.size + 1, 4, none⟩ (.string x.v.t)).setCell ⟨w.heap.size + 1, 5, none⟩ (.int .i64 x.size)).cell? ⟨w.heap.size + 1, 5, none⟩ = some (.int .i64 x.size) := WF.cell 5
  have zW : ((((((((((w0.setCell ⟨w.heap.size + 1 + 1, 2, none⟩ (.int .i64 x.v.k)).setCell ⟨w.heap.size + 1 + 1, 3, none⟩ (.int .i64 x.v.n)).setCell ⟨w.heap.size + 1 + 1, 4, none⟩ (.string x.v.t)).setCell ⟨w.heap.size + 1 + 1, 5, none⟩ (.int .i64 x.size)).setCell ⟨w.heap.size + 1, 0, none⟩ (.int .i64 x.k)).setCell ⟨w.heap.size + 1, 1, none⟩ (.string x.name)).setCell ⟨w.heap.size + 1, 2, none⟩ (.int .i64 x.v.k)).setCell ⟨w.heap.size + 1, 3, none⟩ (.int .i64 x.v.n)).setCell ⟨w.heap.size + 1, 4, none⟩ (.string x.v.t)).setCell ⟨w.heap.size + 1, 5, none⟩ (.int .i64 x.size)).heap.size = w0.heap.size := (setW_size [.int .i64 x.k, .string x.name, .int .i64 x.v.k, .int .i64 x.v.n, .string x.v.t, .int .i64 x.size] _ (w.heap.size + 1) 0).trans (setW_size [.int .i64 x.v.k, .int .i64 x.v.n, .string x.v.t, .int .i64 x.size] w0 (w.heap.size + 1 + 1) 2)
  have hY : Below w.heap.size w ((((((((((w0.setCell ⟨w.heap.size + 1 + 1, 2, none⟩ (.int .i64 x.v.k)).setCell ⟨w.heap.size + 1 + 1, 3, none⟩ (.int .i64 x.v.n)).setCell ⟨w.heap.size + 1 + 1, 4, none⟩ (.string x.v.t)).setCell ⟨w.heap.size + 1 + 1, 5, none⟩ (.int .i64 x.size)).setCell ⟨w.heap.size + 1, 0, none⟩ (.int .i64 x.k)).setCell ⟨w.heap.size + 1, 1, none⟩ (.string x.name)).setCell ⟨w.heap.size + 1, 2, none⟩ (.int .i64 x.v.k)).setCell ⟨w.heap.size + 1, 3, none⟩ (.int .i64 x.v.n)).setCell ⟨w.heap.size + 1, 4, none⟩ (.string x.v.t)).setCell ⟨w.heap.size + 1, 5, none⟩ (.int .i64 x.size)) := setW_below [.int .i64 x.k, .string x.name, .int .i64 x.v.k, .int .i64 x.v.n, .string x.v.t, .int .i64 x.size] (w.heap.size + 1) 0 (setW_below [.int .i64 x.v.k, .int .i64 x.v.n, .string x.v.t, .int .i64 x.size] (w.heap.size + 1 + 1) 2 HB0.out (by omega)) (by omega)
  have hF : UF ((((((((((w0.setCell ⟨w.heap.size + 1 + 1, 2, none⟩ (.int .i64 x.v.k)).setCell ⟨w.heap.size + 1 + 1, 3, none⟩ (.int .i64 x.v.n)).setCell ⟨w.heap.size + 1 + 1, 4, none⟩ (.string x.v.t)).setCell ⟨w.heap.size + 1 + 1, 5, none⟩ (.int .i64 x.size)).setCell ⟨w.heap.size + 1, 0, none⟩ (.int .i64 x.k)).setCell ⟨w.heap.size + 1, 1, none⟩ (.string x.name)).setCell ⟨w.heap.size + 1, 2, none⟩ (.int .i64 x.v.k)).setCell ⟨w.heap.size + 1, 3, none⟩ (.int .i64 x.v.n)).setCell ⟨w.heap.size + 1, 4, none⟩ (.string x.v.t)).setCell ⟨w.heap.size + 1, 5, none⟩ (.int .i64 x.size)) w.heap.size ((((((((((w0.setCell ⟨w.heap.size + 1 + 1, 2, none⟩ (.int .i64 x.v.k)).setCell ⟨w.heap.size + 1 + 1, 3, none⟩ (.int .i64 x.v.n)).setCell ⟨w.heap.size + 1 + 1, 4, none⟩ (.string x.v.t)).setCell ⟨w.heap.size + 1 + 1, 5, none⟩ (.int .i64 x.size)).setCell ⟨w.heap.size + 1, 0, none⟩ (.int .i64 x.k)).setCell ⟨w.heap.size + 1, 1, none⟩ (.string x.name)).setCell ⟨w.heap.size + 1, 2, none⟩ (.int .i64 x.v.k)).setCell ⟨w.heap.size + 1, 3, none⟩ (.int .i64 x.v.n)).setCell ⟨w.heap.size + 1, 4, none⟩ (.string x.v.t)).setCell ⟨w.heap.size + 1, 5, none⟩ (.int .i64 x.size)).heap.size := fun b h1 h2 o => UF.setW [.int .i64 x.k, .string x.name, .int .i64 x.v.k, .int .i64 x.v.n, .string x.v.t, .int .i64 x.size] (w.heap.size + 1) 0 (UF.setW [.int .i64 x.v.k, .int .i64 x.v.n, .string x.v.t, .int .i64 x.size] (w.heap.size + 1 + 1) 2 HF0.out) b h1 (by rw [← zW]; exact h2) o
  clear WF zW
  generalize ((((((((((w0.setCell ⟨w.heap.size + 1 + 1, 2, none⟩ (.int .i64 x.v.k)).setCell ⟨w.heap.size + 1 + 1, 3, none⟩ (.int .i64 x.v.n)).setCell ⟨w.heap.size + 1 + 1, 4, none⟩ (.string x.v.t)).setCell ⟨w.heap.size + 1 + 1, 5, none⟩ (.int .i64 x.size)).setCell ⟨w.heap.size + 1, 0, none⟩ (.int .i64 x.k)).setCell ⟨w.heap.size + 1, 1, none⟩ (.string x.name)).setCell ⟨w.heap.size + 1, 2, none⟩ (.int .i64 x.v.k)).setCell ⟨w.heap.size + 1, 3, none⟩ (.int .i64 x.v.n)).setCell ⟨w.heap.size + 1, 4, none⟩ (.string x.v.t)).setCell ⟨w.heap.size + 1, 5, none⟩ (.int .i64 x.size)) = wf at d0 d1 d2 d3 d4 d5 hY hF ⊢
  exact bodyPost_ret (v := .agg #[.int .i64 x.k, .string x.name, .int .i64 x.v.k, .int .i64 x.v.n, .string x.v.t, .int .i64 x.size]) (by simp [results, Tryz.results71, go_sem, d0, d1, d2, d3, d4, d5]) rfl ⟨rfl, hF, hY⟩

theorem infoNode : (Tryz.prog.info? 81).map (fun i => (i.zero, i.size, i.bytes)) = some (some (.agg #[.int .i64 0, .string ByteArray.empty, .int .i64 0, .int .i64 0, .string ByteArray.empty, .int .i64 0]), 6, 64) := by kernel_rfl
/-- What laws.toNodeS leaves. -/
def ToNodes (w : World) (xs : List (GNode)) (e : Ending) (w' : World) : Prop := ∃ (A : Option Addr) (c : Nat), e = .returned (.slice A xs.length c) ∧ (CapOk xs.length c ∧ NodesAt w' w.heap.size w'.heap.size A xs) ∧ UF w' w.heap.size w'.heap.size ∧ Below w.heap.size w w'
def ToNodesSt (w : World) (xs : List (GNode)) (i : Nat) (w' : World) : Prop := ∃ l : List Value, l.length = xs.length * 6 ∧ Whole w' w.heap.size 81 l ∧ ∀ j x, j < i → xs[j]? = some x → NodeAt w' (w.heap.size + 1) w'.heap.size w.heap.size (0 + j * 6) x
theorem toNodes_step {w w1 w2 : World} {xs : List (GNode)} {i : Nat} (h : ToNodesSt w xs i w1) (hi : i < xs.length) (hb : Below w1.heap.size w1 w2) :
    (∀ j, j < 6 → ∃ u, w2.cell? ⟨w.heap.size, i * 6 + j, none⟩ = some u) ∧ (∀ j, w2.frozen? ⟨w.heap.size, j, none⟩ = false) ∧ ToNodesSt w xs (i + 1) (setW w2 w.heap.size (i * 6) [.int .i64 xs[i].k, .string xs[i].name, .int .i64 xs[i].v.k, .int .i64 xs[i].v.n, .string xs[i].v.t, .int .i64 xs[i].size]) := by
  obtain ⟨l, hl, hW, hA⟩ := h
  have hW2 := hW.below hb hW.lt
  have hg := hW.lt
  have hsz := setW_size [.int .i64 xs[i].k, .string xs[i].name, .int .i64 xs[i].v.k, .int .i64 xs[i].v.n, .string xs[i].v.t, .int .i64 xs[i].size] w2 w.heap.size (i * 6)
  have hz := hb.size
  refine ⟨fun j hj => ⟨l[i * 6 + j]'(by omega), by rw [hW2.cell, List.getElem?_eq_getElem (by omega)]⟩, fun j => hW2.frozen j, setL l (i * 6) [.int .i64 xs[i].k, .string xs[i].name, .int .i64 xs[i].v.k, .int .i64 xs[i].v.n, .string xs[i].v.t, .int .i64 xs[i].size], by rw [setL_len]; exact hl, setW_whole _ _ hW2, fun j x hj hx => ?_⟩
  have hW3 := setW_whole [.int .i64 xs[i].k, .string xs[i].name, .int .i64 xs[i].v.k, .int .i64 xs[i].v.n, .string xs[i].v.t, .int .i64 xs[i].size] (i * 6) hW2
  by_cases e : j = i
  · subst e
    rw [List.getElem?_eq_getElem hi] at hx; injection hx with hx; subst hx
    have hin : ∀ q u, ([.int .i64 xs[j].k, .string xs[j].name, .int .i64 xs[j].v.k, .int .i64 xs[j].v.n, .string xs[j].v.t, .int .i64 xs[j].size] : List Value)[q]? = some u → (setW w2 w.heap.size (j * 6) [.int .i64 xs[j].k, .string xs[j].name, .int .i64 xs[j].v.k, .int .i64 xs[j].v.n, .string xs[j].v.t, .int .i64 xs[j].size]).cell? ⟨w.heap.size, 0 + j * 6 + q, none⟩ = some u := fun q u hq => by
      rw [hW3.cell, Nat.zero_add]; exact setL_in _ _ _ _ _ (by simp; omega) hq
    exact ⟨hin 0 _ rfl, hin 1 _ rfl, hin 2 _ rfl, hin 3 _ rfl, hin 4 _ rfl, hin 5 _ rfl⟩
  · refine ((hA j x (by omega) hx).mono (Nat.le_refl _) (Nat.le_refl _)).same (fun q hq => ?_) (fun b h1 h2 => ?_) |>.mono (Nat.le_refl _) (by omega)
    · rw [hW3.cell, hW.cell]; exact setL_out _ _ _ _ (by simp; omega)
    · rw [setW_block _ _ _ _ b (by omega)]; exact hb.block b h2
set_option maxRecDepth 100000 in
set_option maxHeartbeats 1600000 in
theorem to_Nodes {lo : Nat} (A : Option Addr) (c : Nat) (xs : List (GNode)) (w : World) (hk : costNodes xs ≤ 1048576) (hr : NodesAt w lo w.heap.size A xs) :
    Calls Tryz.prog 49 #[.slice A xs.length c] w (ToNodes w xs) := by
  obtain ⟨i0, hi0, hz0, hz1, hz2⟩ := info_parts infoNode
  have hl : xs.length ≤ 1048576 := by unfold costNodes at hk; omega
  have hmk := fun W => run_make (P := Tryz.prog) W 50 81 i0 _ Tryz.underlying50 hi0 hz0 .i64 .i64 xs.length xs.length (by omega) (by omega) (by rw [hz2]; omega) (by omega)
  have HK := Lib.hid hk
  have HR := Lib.hid hr
  clear hk hr
  have HS0 := Lib.hid (show ToNodesSt w xs 0 (w.alloc (.cells (madeCells #[.int .i64 0, .string ByteArray.empty, .int .i64 0, .int .i64 0, .string ByteArray.empty, .int .i64 0] (xs.length * 6)) 81)) from ⟨(madeCells #[.int .i64 0, .string ByteArray.empty, .int .i64 0, .int .i64 0, .string ByteArray.empty, .int .i64 0] (xs.length * 6)).toList, by simp [size_madeCells], by have h := Whole.new w 81 (madeCells #[.int .i64 0, .string ByteArray.empty, .int .i64 0, .int .i64 0, .string ByteArray.empty, .int .i64 0] (xs.length * 6)).toList; rw [Array.toArray_toList] at h; exact h, fun j x hj => by omega⟩)
  go_enter Tryz.func49, Tryz.ntmps49
  go_wp2_with fail
  clear hmk
  go_loopw [4] (fun i w' => ∃ k : Nat, k ≤ xs.length ∧ i = .int .i64 k ∧ Hid (ToNodesSt w xs k w') ∧ w.heap.size < w'.heap.size ∧ Hid (UF w' w.heap.size w'.heap.size) ∧ Below w.heap.size w w') (fun i _ => xs.length - (intOf i).toNat)
  case atStart => exact ⟨0, Nat.zero_le _, rfl, HS0, by simp, Lib.hid ((UF.start w).alloc _ _), (Below.refl _ _).alloc (Nat.le_refl _) _⟩
  case round =>
    obtain ⟨k, hk, rfl, hS, hwz, hUF, hB⟩ := hrel
    by_cases hlt : k < xs.length
    · obtain ⟨g, o, rfl, hg0, hg, he⟩ := (HR.out.to_ hB).at_ hlt
      have hi0 : (0 : Int) ≤ (k : Int) := by omega
      have hi1 : (k : Int) < (xs.length : Int) := by omega
      have hck : costNode xs[k] ≤ 1048576 := by have h1 := HK.out; have h2 := sumC_mem costNode xs _ (List.getElem_mem hlt); unfold costNodes at h1; omega
      obtain ⟨h0, h1, h2, h3, h4, h5⟩ := he
      go_wp2_with fail
      refine (to_Node xs[k] _).mono ?_
      rintro e w2 ⟨rfl, uf2, hb2⟩
      clear h0 h1 h2 h3 h4 h5
      obtain ⟨hc, hf, hst⟩ := toNodes_step hS.out hlt hb2
      obtain ⟨u0, q0⟩ := hc 0 (by omega)
      have r0 := hf (k * 6)
      obtain ⟨u1, q1⟩ := hc 1 (by omega)
      have r1 := hf (k * 6 + 1)
      obtain ⟨u2, q2⟩ := hc 2 (by omega)
      have r2 := hf (k * 6 + 2)
      obtain ⟨u3, q3⟩ := hc 3 (by omega)
      have r3 := hf (k * 6 + 3)
      obtain ⟨u4, q4⟩ := hc 4 (by omega)
      have r4 := hf (k * 6 + 4)
      obtain ⟨u5, q5⟩ := hc 5 (by omega)
      have r5 := hf (k * 6 + 5)
      rw [Nat.add_zero] at q0
      have HST := Lib.hid hst
      have hB2 := below_next hB hb2 rfl rfl
      have hz2' := hb2.size
      have hB3 := setW_below [.int .i64 xs[k].k, .string xs[k].name, .int .i64 xs[k].v.k, .int .i64 xs[k].v.n, .string xs[k].v.t, .int .i64 xs[k].size] w.heap.size (k * 6) hB2 (Nat.le_refl _)
      have hz3 : w.heap.size < (setW w2 w.heap.size (k * 6) [.int .i64 xs[k].k, .string xs[k].name, .int .i64 xs[k].v.k, .int .i64 xs[k].v.n, .string xs[k].v.t, .int .i64 xs[k].size]).heap.size := by rw [setW_size]; omega
      have hU3 := Lib.hid (show UF (setW w2 w.heap.size (k * 6) [.int .i64 xs[k].k, .string xs[k].name, .int .i64 xs[k].v.k, .int .i64 xs[k].v.n, .string xs[k].v.t, .int .i64 xs[k].size]) w.heap.size (setW w2 w.heap.size (k * 6) [.int .i64 xs[k].k, .string xs[k].name, .int .i64 xs[k].v.k, .int .i64 xs[k].v.n, .string xs[k].v.t, .int .i64 xs[k].size]).heap.size by rw [setW_size]; exact UF.setW _ _ _ (hUF.out.next hb2 uf2))
      clear hc hf hst hb2 uf2
      go_wp2_with fail
      go_roundw
      case rel => exact ⟨k + 1, by omega, by go_num, HST, hz3, hU3, hB3⟩
      case measure => simp [intOf]; omega
    · have hi1 : ¬ (k : Int) < (xs.length : Int) := by omega
      go_wp2_with fail
      go_ret
      obtain ⟨l, h1, h2, h3⟩ := hS.out
      exact ⟨some ⟨w.heap.size, 0, none⟩, xs.length, rfl, ⟨⟨Nat.le_refl _, by omega⟩, .inr ⟨w.heap.size, 0, rfl, Nat.le_refl _, hwz, fun j x hx => (h3 j x (by have := (List.getElem?_eq_some_iff.1 hx).1; omega) hx).mono (by omega) (Nat.le_refl _)⟩⟩, hUF.out, hB⟩

end Go.Proofs.YteoepnadjkjlmaaGreat
