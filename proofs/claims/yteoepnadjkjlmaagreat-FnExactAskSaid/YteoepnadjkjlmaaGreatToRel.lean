/-
  laws.toRelS.
-/
import Derived.Test.YteoepnadjkjlmaaGreatSzValZ
import Derived.Test.YteoepnadjkjlmaaGreatToTabZ
namespace Go.Proofs.YteoepnadjkjlmaaGreat
open Go.RowKit Go.Sort
set_option linter.unusedVariables false

def ToRel (w : World) (x : GRel) (e : Ending) (w' : World) : Prop := ∃ (A1 : Option Addr) (c1 : Nat), e = .returned (.agg #[.string x.name, .slice A1 x.rows.length c1]) ∧ (CapOk x.rows.length c1 ∧ ValueSsAt w' w.heap.size w'.heap.size A1 x.rows) ∧ UF w' w.heap.size w'.heap.size ∧ Below w.heap.size w w'
set_option maxRecDepth 100000 in
set_option maxHeartbeats 3200000 in
theorem to_Rel {lo : Nat} (x : GRel) (A1 : Option Addr) (c1 : Nat) (w : World) (hk : costRel x ≤ 1048576) (s1 : ValueSsAt w lo w.heap.size A1 x.rows) :
    Calls Tryz.prog 23 #[.agg #[.string x.name, .slice A1 x.rows.length c1]] w (ToRel w x) := by
  unfold costRel at hk
  obtain ⟨hP, hR, hO, hB, hZ, hF⟩ := three_new w #[.string x.name, .slice A1 x.rows.length c1] 46 59 [.string ByteArray.empty, .slice none 0 0] [.string x.name, .slice none 0 0]
  have HP := Lib.hid hP
  have HR := Lib.hid hR
  have HO := Lib.hid hO
  have HB := Lib.hid hB
  have HZ := Lib.hid hZ
  have HF := Lib.hid hF
  clear hP hR hO hB hZ hF
  go_enter Tryz.func23, Tryz.ntmps23
  go_wp2_with fail
  refine (to_ValueSs A1 c1 x.rows _ (by omega) (s1.to_ HB.out)).mono ?_
  rintro e w0 ⟨E1, e1, rfl, ⟨v1, t1⟩, uf0, hb0⟩
  have hZ := HZ.out
  have hz0 : w.heap.size + 3 ≤ w0.heap.size := Nat.le_trans (Nat.le_of_eq hZ.symm) hb0.size
  have O0 := HO.out.below hb0 (Nat.lt_of_lt_of_eq (show w.heap.size + 1 + 1 < w.heap.size + 3 by omega) hZ.symm)
  have R0 := HR.out.below hb0 (Nat.lt_of_lt_of_eq (show w.heap.size + 1 < w.heap.size + 3 by omega) hZ.symm)
  have P0 := HP.out.below hb0 (Nat.lt_of_lt_of_eq (show w.heap.size < w.heap.size + 3 by omega) hZ.symm)
  have B0 := HB.out.trans (hb0.mono (Nat.le_trans (show w.heap.size ≤ w.heap.size + 3 by omega) (Nat.le_of_eq hZ.symm)))
  have F0 := HF.out.next hb0 uf0
  have T1 := Lib.hid ((show ValueSsAt w0 (w.heap.size + 3) w0.heap.size E1 x.rows from t1.mono (Nat.le_of_eq hZ.symm) (Nat.le_refl _)))
  clear hZ HZ HF uf0 hb0 t1
  have p0_0 : w0.cell? ⟨w.heap.size, 0, none⟩ = some (.string x.name) := P0.cell 0
  have o0_0 : w0.cell? ⟨w.heap.size + 1 + 1, 0, none⟩ = some (.string x.name) := O0.cell 0
  have r0_0 : w0.cell? ⟨w.heap.size + 1, 0, none⟩ = some (.string ByteArray.empty) := R0.cell 0
  have x0_0 : w0.frozen? ⟨w.heap.size + 1 + 1, 0, none⟩ = false := O0.frozen 0
  have y0_0 : w0.frozen? ⟨w.heap.size + 1, 0, none⟩ = false := R0.frozen 0
  have p0_1 : w0.cell? ⟨w.heap.size, 1, none⟩ = some (.slice A1 x.rows.length c1) := P0.cell 1
  have o0_1 : w0.cell? ⟨w.heap.size + 1 + 1, 1, none⟩ = some (.slice none 0 0) := O0.cell 1
  have r0_1 : w0.cell? ⟨w.heap.size + 1, 1, none⟩ = some (.slice none 0 0) := R0.cell 1
  have x0_1 : w0.frozen? ⟨w.heap.size + 1 + 1, 1, none⟩ = false := O0.frozen 1
  have y0_1 : w0.frozen? ⟨w.heap.size + 1, 1, none⟩ = false := R0.frozen 1
  have HP0 := Lib.hid P0
  have HR0 := Lib.hid R0
  have HO0 := Lib.hid O0
  have HB0 := Lib.hid B0
  have HF0 := Lib.hid F0
  clear P0 R0 O0 B0 F0
  go_wp2_with fail
  clear p0_0 o0_0 r0_0 x0_0 y0_0 p0_1 o0_1 r0_1 x0_1 y0_1
  have WF : Whole (((w0.setCell ⟨w.heap.size + 1 + 1, 1, none⟩ (.slice E1 x.rows.length e1)).setCell ⟨w.heap.size + 1, 0, none⟩ (.string x.name)).setCell ⟨w.heap.size + 1, 1, none⟩ (.slice E1 x.rows.length e1)) (w.heap.size + 1) 59 [.string x.name, .slice E1 x.rows.length e1] := setW_whole [.string x.name, .slice E1 x.rows.length e1] 0 (HR0.out.offW (b := w.heap.size + 1 + 1) (o := 1) [.slice E1 x.rows.length e1] (by omega))
  have d0 : (((w0.setCell ⟨w.heap.size + 1 + 1, 1, none⟩ (.slice E1 x.rows.length e1)).setCell ⟨w.heap.size + 1, 0, none⟩ (.string x.name)).setCell ⟨w.heap.size + 1, 1, none⟩ (.slice E1 x.rows.length e1)).cell? ⟨w.heap.size + 1, 0, none⟩ = some (.string x.name) := WF.cell 0
  have d1 : (((w0.setCell ⟨w.heap.size + 1 + 1, 1, none⟩ (.slice E1 x.rows.length e1)).setCell ⟨w.heap.size + 1, 0, none⟩ (.string x.name)).setCell ⟨w.heap.size + 1, 1, none⟩ (.slice E1 x.rows.length e1)).cell? ⟨w.heap.size + 1, 1, none⟩ = some (.slice E1 x.rows.length e1) := WF.cell 1
  have zW : (((w0.setCell ⟨w.heap.size + 1 + 1, 1, none⟩ (.slice E1 x.rows.length e1)).setCell ⟨w.heap.size + 1, 0, none⟩ (.string x.name)).setCell ⟨w.heap.size + 1, 1, none⟩ (.slice E1 x.rows.length e1)).heap.size = w0.heap.size := (setW_size [.string x.name, .slice E1 x.rows.length e1] _ (w.heap.size + 1) 0).trans (setW_size [.slice E1 x.rows.length e1] w0 (w.heap.size + 1 + 1) 1)
  have hY : Below w.heap.size w (((w0.setCell ⟨w.heap.size + 1 + 1, 1, none⟩ (.slice E1 x.rows.length e1)).setCell ⟨w.heap.size + 1, 0, none⟩ (.string x.name)).setCell ⟨w.heap.size + 1, 1, none⟩ (.slice E1 x.rows.length e1)) := setW_below [.string x.name, .slice E1 x.rows.length e1] (w.heap.size + 1) 0 (setW_below [.slice E1 x.rows.length e1] (w.heap.size + 1 + 1) 1 HB0.out (by omega)) (by omega)
  have U1 : ValueSsAt (((w0.setCell ⟨w.heap.size + 1 + 1, 1, none⟩ (.slice E1 x.rows.length e1)).setCell ⟨w.heap.size + 1, 0, none⟩ (.string x.name)).setCell ⟨w.heap.size + 1, 1, none⟩ (.slice E1 x.rows.length e1)) w.heap.size (((w0.setCell ⟨w.heap.size + 1 + 1, 1, none⟩ (.slice E1 x.rows.length e1)).setCell ⟨w.heap.size + 1, 0, none⟩ (.string x.name)).setCell ⟨w.heap.size + 1, 1, none⟩ (.slice E1 x.rows.length e1)).heap.size E1 x.rows := (T1.out.keep (fun b h1 h2 => (setW_block [.string x.name, .slice E1 x.rows.length e1] _ (w.heap.size + 1) 0 b (by omega)).trans (setW_block [.slice E1 x.rows.length e1] w0 (w.heap.size + 1 + 1) 1 b (by omega)))).mono (by omega) (Nat.le_of_eq zW.symm)
  have hF : UF (((w0.setCell ⟨w.heap.size + 1 + 1, 1, none⟩ (.slice E1 x.rows.length e1)).setCell ⟨w.heap.size + 1, 0, none⟩ (.string x.name)).setCell ⟨w.heap.size + 1, 1, none⟩ (.slice E1 x.rows.length e1)) w.heap.size (((w0.setCell ⟨w.heap.size + 1 + 1, 1, none⟩ (.slice E1 x.rows.length e1)).setCell ⟨w.heap.size + 1, 0, none⟩ (.string x.name)).setCell ⟨w.heap.size + 1, 1, none⟩ (.slice E1 x.rows.length e1)).heap.size := fun b h1 h2 o => UF.setW [.string x.name, .slice E1 x.rows.length e1] (w.heap.size + 1) 0 (UF.setW [.slice E1 x.rows.length e1] (w.heap.size + 1 + 1) 1 HF0.out) b h1 (by rw [← zW]; exact h2) o
  clear WF zW T1
  generalize (((w0.setCell ⟨w.heap.size + 1 + 1, 1, none⟩ (.slice E1 x.rows.length e1)).setCell ⟨w.heap.size + 1, 0, none⟩ (.string x.name)).setCell ⟨w.heap.size + 1, 1, none⟩ (.slice E1 x.rows.length e1)) = wf at d0 d1 hY hF U1 ⊢
  exact bodyPost_ret (v := .agg #[.string x.name, .slice E1 x.rows.length e1]) (by simp [results, Tryz.results23, go_sem, d0, d1]) rfl ⟨_, _, rfl, ⟨v1, U1⟩, hF, hY⟩

theorem infoRel : (Tryz.prog.info? 59).map (fun i => (i.zero, i.size, i.bytes)) = some (some (.agg #[.string ByteArray.empty, .slice none 0 0]), 2, 40) := by kernel_rfl
/-- What laws.toRelS leaves. -/
def ToRels (w : World) (xs : List (GRel)) (e : Ending) (w' : World) : Prop := ∃ (A : Option Addr) (c : Nat), e = .returned (.slice A xs.length c) ∧ (CapOk xs.length c ∧ RelsAt w' w.heap.size w'.heap.size A xs) ∧ UF w' w.heap.size w'.heap.size ∧ Below w.heap.size w w'
def ToRelsSt (w : World) (xs : List (GRel)) (i : Nat) (w' : World) : Prop := ∃ l : List Value, l.length = xs.length * 2 ∧ Whole w' w.heap.size 59 l ∧ ∀ j x, j < i → xs[j]? = some x → RelAt w' (w.heap.size + 1) w'.heap.size w.heap.size (0 + j * 2) x
theorem toRels_step {w w1 w2 : World} {xs : List (GRel)} {i : Nat} {E1 : Option Addr} {e1 : Nat} (h : ToRelsSt w xs i w1) (hi : i < xs.length) (hb : Below w1.heap.size w1 w2) (v1 : CapOk xs[i].rows.length e1) (t1 : ValueSsAt w2 w1.heap.size w2.heap.size E1 xs[i].rows) :
    (∀ j, j < 2 → ∃ u, w2.cell? ⟨w.heap.size, i * 2 + j, none⟩ = some u) ∧ (∀ j, w2.frozen? ⟨w.heap.size, j, none⟩ = false) ∧ ToRelsSt w xs (i + 1) (setW w2 w.heap.size (i * 2) [.string xs[i].name, .slice E1 xs[i].rows.length e1]) := by
  obtain ⟨l, hl, hW, hA⟩ := h
  have hW2 := hW.below hb hW.lt
  have hg := hW.lt
  have hsz := setW_size [.string xs[i].name, .slice E1 xs[i].rows.length e1] w2 w.heap.size (i * 2)
  have hz := hb.size
  refine ⟨fun j hj => ⟨l[i * 2 + j]'(by omega), by rw [hW2.cell, List.getElem?_eq_getElem (by omega)]⟩, fun j => hW2.frozen j, setL l (i * 2) [.string xs[i].name, .slice E1 xs[i].rows.length e1], by rw [setL_len]; exact hl, setW_whole _ _ hW2, fun j x hj hx => ?_⟩
  have hW3 := setW_whole [.string xs[i].name, .slice E1 xs[i].rows.length e1] (i * 2) hW2
  by_cases e : j = i
  · subst e
    rw [List.getElem?_eq_getElem hi] at hx; injection hx with hx; subst hx
    have hin : ∀ q u, ([.string xs[j].name, .slice E1 xs[j].rows.length e1] : List Value)[q]? = some u → (setW w2 w.heap.size (j * 2) [.string xs[j].name, .slice E1 xs[j].rows.length e1]).cell? ⟨w.heap.size, 0 + j * 2 + q, none⟩ = some u := fun q u hq => by
      rw [hW3.cell, Nat.zero_add]; exact setL_in _ _ _ _ _ (by simp; omega) hq
    exact ⟨hin 0 _ rfl, ⟨E1, e1, ⟨hin 1 _ rfl, v1⟩, (t1.keep (fun b h1 h2 => setW_block _ _ _ _ b (by omega))).mono (by omega) (by omega)⟩⟩
  · refine ((hA j x (by omega) hx).mono (Nat.le_refl _) (Nat.le_refl _)).same (fun q hq => ?_) (fun b h1 h2 => ?_) |>.mono (Nat.le_refl _) (by omega)
    · rw [hW3.cell, hW.cell]; exact setL_out _ _ _ _ (by simp; omega)
    · rw [setW_block _ _ _ _ b (by omega)]; exact hb.block b h2
set_option maxRecDepth 100000 in
set_option maxHeartbeats 1600000 in
theorem to_Rels {lo : Nat} (A : Option Addr) (c : Nat) (xs : List (GRel)) (w : World) (hk : costRels xs ≤ 1048576) (hr : RelsAt w lo w.heap.size A xs) :
    Calls Tryz.prog 7 #[.slice A xs.length c] w (ToRels w xs) := by
  obtain ⟨i0, hi0, hz0, hz1, hz2⟩ := info_parts infoRel
  have hl : xs.length ≤ 1048576 := by unfold costRels at hk; omega
  have hmk := fun W => run_make (P := Tryz.prog) W 30 59 i0 _ Tryz.underlying30 hi0 hz0 .i64 .i64 xs.length xs.length (by omega) (by omega) (by rw [hz2]; omega) (by omega)
  have HK := Lib.hid hk
  have HR := Lib.hid hr
  clear hk hr
  have HS0 := Lib.hid (show ToRelsSt w xs 0 (w.alloc (.cells (madeCells #[.string ByteArray.empty, .slice none 0 0] (xs.length * 2)) 59)) from ⟨(madeCells #[.string ByteArray.empty, .slice none 0 0] (xs.length * 2)).toList, by simp [size_madeCells], by have h := Whole.new w 59 (madeCells #[.string ByteArray.empty, .slice none 0 0] (xs.length * 2)).toList; rw [Array.toArray_toList] at h; exact h, fun j x hj => by omega⟩)
  go_enter Tryz.func7, Tryz.ntmps7
  go_wp2_with fail
  clear hmk
  go_loopw [4] (fun i w' => ∃ k : Nat, k ≤ xs.length ∧ i = .int .i64 k ∧ Hid (ToRelsSt w xs k w') ∧ w.heap.size < w'.heap.size ∧ Hid (UF w' w.heap.size w'.heap.size) ∧ Below w.heap.size w w') (fun i _ => xs.length - (intOf i).toNat)
  case atStart => exact ⟨0, Nat.zero_le _, rfl, HS0, by simp, Lib.hid ((UF.start w).alloc _ _), (Below.refl _ _).alloc (Nat.le_refl _) _⟩
  case round =>
    obtain ⟨k, hk, rfl, hS, hwz, hUF, hB⟩ := hrel
    by_cases hlt : k < xs.length
    · obtain ⟨g, o, rfl, hg0, hg, he⟩ := (HR.out.to_ hB).at_ hlt
      have hi0 : (0 : Int) ≤ (k : Int) := by omega
      have hi1 : (k : Int) < (xs.length : Int) := by omega
      have hck : costRel xs[k] ≤ 1048576 := by have h1 := HK.out; have h2 := sumC_mem costRel xs _ (List.getElem_mem hlt); unfold costRels at h1; omega
      obtain ⟨h0, h1⟩ := he
      obtain ⟨A1, c1, ⟨h1y, q1⟩, s1⟩ := h1
      go_wp2_with fail
      refine (to_Rel xs[k] A1 c1 _ hck s1).mono ?_
      rintro e w2 ⟨E1, e1, rfl, ⟨v1, t1⟩, uf2, hb2⟩
      clear h0 h1y
      obtain ⟨hc, hf, hst⟩ := toRels_step (E1 := E1) (e1 := e1) hS.out hlt hb2 v1 t1
      obtain ⟨u0, q0⟩ := hc 0 (by omega)
      have r0 := hf (k * 2)
      obtain ⟨u1, q1⟩ := hc 1 (by omega)
      have r1 := hf (k * 2 + 1)
      rw [Nat.add_zero] at q0
      have HST := Lib.hid hst
      have hB2 := below_next hB hb2 rfl rfl
      have hz2' := hb2.size
      have hB3 := setW_below [.string xs[k].name, .slice E1 xs[k].rows.length e1] w.heap.size (k * 2) hB2 (Nat.le_refl _)
      have hz3 : w.heap.size < (setW w2 w.heap.size (k * 2) [.string xs[k].name, .slice E1 xs[k].rows.length e1]).heap.size := by rw [setW_size]; omega
      have hU3 := Lib.hid (show UF (setW w2 w.heap.size (k * 2) [.string xs[k].name, .slice E1 xs[k].rows.length e1]) w.heap.size (setW w2 w.heap.size (k * 2) [.string xs[k].name, .slice E1 xs[k].rows.length e1]).heap.size by rw [setW_size]; exact UF.setW _ _ _ (hUF.out.next hb2 uf2))
      clear hc hf hst hb2 uf2 t1
      go_wp2_with fail
      go_roundw
      case rel => exact ⟨k + 1, by omega, by go_num, HST, hz3, hU3, hB3⟩
      case measure => simp [intOf]; omega
    · have hi1 : ¬ (k : Int) < (xs.length : Int) := by omega
      go_wp2_with fail
      go_ret
      obtain ⟨l, h1, h2, h3⟩ := hS.out
      exact ⟨some ⟨w.heap.size, 0, none⟩, xs.length, rfl, ⟨⟨Nat.le_refl _, by omega⟩, .inr ⟨w.heap.size, 0, rfl, Nat.le_refl _, hwz, fun j x hx => (h3 j x (by have := (List.getElem?_eq_some_iff.1 hx).1; omega) hx).mono (by omega) (Nat.le_refl _)⟩⟩, hUF.out, hB⟩

end Go.Proofs.YteoepnadjkjlmaaGreat
