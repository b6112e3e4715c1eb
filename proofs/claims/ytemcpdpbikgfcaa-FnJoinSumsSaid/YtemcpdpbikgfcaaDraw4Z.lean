/-
  laws.toDiffS and its like. The draws of differences: spec.l4DrawWide.
-/
import Derived.Test.YtemcpdpbikgfcaaTyDiffZ
import Derived.Test.YtemcpdpbikgfcaaToVsZ
import Derived.Test.YtemcpdpbikgfcaaSpecMakeTZ
namespace Go.Proofs.Ytemcpdpbikgfcaa
open Go.RowKit Go.Sort
set_option linter.unusedVariables false

def ToDiff (w : World) (x : GDiff) (e : Ending) (w' : World) : Prop := ∃ (A0 : Option Addr) (c0 : Nat), e = .returned (.agg #[.slice A0 x.row.length c0, .int .i64 x.count]) ∧ (CapOk x.row.length c0 ∧ ValuesAt w' w.heap.size w'.heap.size A0 x.row) ∧ UF w' w.heap.size w'.heap.size ∧ Below w.heap.size w w'
set_option maxRecDepth 100000 in
set_option maxHeartbeats 3200000 in
theorem to_Diff {lo : Nat} (x : GDiff) (A0 : Option Addr) (c0 : Nat) (w : World) (hk : costDiff x ≤ 1048576) (s0 : ValuesAt w lo w.heap.size A0 x.row) :
    Calls Try.prog 49 #[.agg #[.slice A0 x.row.length c0, .int .i64 x.count]] w (ToDiff w x) := by
  unfold costDiff at hk
  obtain ⟨hP, hR, hO, hB, hZ, hF⟩ := three_new w #[.slice A0 x.row.length c0, .int .i64 x.count] 65 55 [.slice none 0 0, .int .i64 0] [.slice none 0 0, .int .i64 0]
  have HP := Lib.hid hP
  have HR := Lib.hid hR
  have HO := Lib.hid hO
  have HB := Lib.hid hB
  have HZ := Lib.hid hZ
  have HF := Lib.hid hF
  clear hP hR hO hB hZ hF
  go_enter Try.func49, Try.ntmps49
  go_wp2_with fail
  refine (to_Values A0 c0 x.row _ (by omega) (s0.to_ HB.out)).mono ?_
  rintro e w0 ⟨E0, e0, rfl, ⟨v0, t0⟩, uf0, hb0⟩
  have hZ := HZ.out
  have hz0 : w.heap.size + 3 ≤ w0.heap.size := Nat.le_trans (Nat.le_of_eq hZ.symm) hb0.size
  have O0 := HO.out.below hb0 (Nat.lt_of_lt_of_eq (show w.heap.size + 1 + 1 < w.heap.size + 3 by omega) hZ.symm)
  have R0 := HR.out.below hb0 (Nat.lt_of_lt_of_eq (show w.heap.size + 1 < w.heap.size + 3 by omega) hZ.symm)
  have P0 := HP.out.below hb0 (Nat.lt_of_lt_of_eq (show w.heap.size < w.heap.size + 3 by omega) hZ.symm)
  have B0 := HB.out.trans (hb0.mono (Nat.le_trans (show w.heap.size ≤ w.heap.size + 3 by omega) (Nat.le_of_eq hZ.symm)))
  have F0 := HF.out.next hb0 uf0
  have T0 := Lib.hid ((show ValuesAt w0 (w.heap.size + 3) w0.heap.size E0 x.row from t0.mono (Nat.le_of_eq hZ.symm) (Nat.le_refl _)))
  clear hZ HZ HF uf0 hb0 t0
  have p0_0 : w0.cell? ⟨w.heap.size, 0, none⟩ = some (.slice A0 x.row.length c0) := P0.cell 0
  have o0_0 : w0.cell? ⟨w.heap.size + 1 + 1, 0, none⟩ = some (.slice none 0 0) := O0.cell 0
  have r0_0 : w0.cell? ⟨w.heap.size + 1, 0, none⟩ = some (.slice none 0 0) := R0.cell 0
  have x0_0 : w0.frozen? ⟨w.heap.size + 1 + 1, 0, none⟩ = false := O0.frozen 0
  have y0_0 : w0.frozen? ⟨w.heap.size + 1, 0, none⟩ = false := R0.frozen 0
  have p0_1 : w0.cell? ⟨w.heap.size, 1, none⟩ = some (.int .i64 x.count) := P0.cell 1
  have o0_1 : w0.cell? ⟨w.heap.size + 1 + 1, 1, none⟩ = some (.int .i64 0) := O0.cell 1
  have r0_1 : w0.cell? ⟨w.heap.size + 1, 1, none⟩ = some (.int .i64 0) := R0.cell 1
  have x0_1 : w0.frozen? ⟨w.heap.size + 1 + 1, 1, none⟩ = false := O0.frozen 1
  have y0_1 : w0.frozen? ⟨w.heap.size + 1, 1, none⟩ = false := R0.frozen 1
  have HP0 := Lib.hid P0
  have HR0 := Lib.hid R0
  have HO0 := Lib.hid O0
  have HB0 := Lib.hid B0
  have HF0 := Lib.hid F0
  clear P0 R0 O0 B0 F0
  go_wp2_with fail
  clear p0_0 o0_0 r0_0 x0_0 y0_0 p0_1 o0_1 r0_1 x0_1 y0_1
  have WF : Whole ((((w0.setCell ⟨w.heap.size + 1 + 1, 0, none⟩ (.slice E0 x.row.length e0)).setCell ⟨w.heap.size + 1 + 1, 1, none⟩ (.int .i64 x.count)).setCell ⟨w.heap.size + 1, 0, none⟩ (.slice E0 x.row.length e0)).setCell ⟨w.heap.size + 1, 1, none⟩ (.int .i64 x.count)) (w.heap.size + 1) 55 [.slice E0 x.row.length e0, .int .i64 x.count] := setW_whole [.slice E0 x.row.length e0, .int .i64 x.count] 0 (HR0.out.offW (b := w.heap.size + 1 + 1) (o := 0) [.slice E0 x.row.length e0, .int .i64 x.count] (by omega))
  have d0 : ((((w0.setCell ⟨w.heap.size + 1 + 1, 0, none⟩ (.slice E0 x.row.length e0)).setCell ⟨w.heap.size + 1 + 1, 1, none⟩ (.int .i64 x.count)).setCell ⟨w.heap.size + 1, 0, none⟩ (.slice E0 x.row.length e0)).setCell ⟨w.heap.size + 1, 1, none⟩ (.int .i64 x.count)).cell? ⟨w.heap.size + 1, 0, none⟩ = some (.slice E0 x.row.length e0) := WF.cell 0
  have d1 : ((((w0.setCell ⟨w.heap.size + 1 + 1, 0, none⟩ (.slice E0 x.row.length e0)).setCell ⟨w.heap.size + 1 + 1, 1, none⟩ (.int .i64 x.count)).setCell ⟨w.heap.size + 1, 0, none⟩ (.slice E0 x.row.length e0)).setCell ⟨w.heap.size + 1, 1, none⟩ (.int .i64 x.count)).cell? ⟨w.heap.size + 1, 1, none⟩ = some (.int .i64 x.count) := WF.cell 1
  have zW : ((((w0.setCell ⟨w.heap.size + 1 + 1, 0, none⟩ (.slice E0 x.row.length e0)).setCell ⟨w.heap.size + 1 + 1, 1, none⟩ (.int .i64 x.count)).setCell ⟨w.heap.size + 1, 0, none⟩ (.slice E0 x.row.length e0)).setCell ⟨w.heap.size + 1, 1, none⟩ (.int .i64 x.count)).heap.size = w0.heap.size := (setW_size [.slice E0 x.row.length e0, .int .i64 x.count] _ (w.heap.size + 1) 0).trans (setW_size [.slice E0 x.row.length e0, .int .i64 x.count] w0 (w.heap.size + 1 + 1) 0)
  have hY : Below w.heap.size w ((((w0.setCell ⟨w.heap.size + 1 + 1, 0, none⟩ (.slice E0 x.row.length e0)).setCell ⟨w.heap.size + 1 + 1, 1, none⟩ (.int .i64 x.count)).setCell ⟨w.heap.size + 1, 0, none⟩ (.slice E0 x.row.length e0)).setCell ⟨w.heap.size + 1, 1, none⟩ (.int .i64 x.count)) := setW_below [.slice E0 x.row.length e0, .int .i64 x.count] (w.heap.size + 1) 0 (setW_below [.slice E0 x.row.length e0, .int .i64 x.count] (w.heap.size + 1 + 1) 0 HB0.out (by omega)) (by omega)
  have U0 : ValuesAt ((((w0.setCell ⟨w.heap.size + 1 + 1, 0, none⟩ (.slice E0 x.row.length e0)).setCell ⟨w.heap.size + 1 + 1, 1, none⟩ (.int .i64 x.count)).setCell ⟨w.heap.size + 1, 0, none⟩ (.slice E0 x.row.length e0)).setCell ⟨w.heap.size + 1, 1, none⟩ (.int .i64 x.count)) w.heap.size ((((w0.setCell ⟨w.heap.size + 1 + 1, 0, none⟩ (.slice E0 x.row.length e0)).setCell ⟨w.heap.size + 1 + 1, 1, none⟩ (.int .i64 x.count)).setCell ⟨w.heap.size + 1, 0, none⟩ (.slice E0 x.row.length e0)).setCell ⟨w.heap.size + 1, 1, none⟩ (.int .i64 x.count)).heap.size E0 x.row := (T0.out.keep (fun b h1 h2 => (setW_block [.slice E0 x.row.length e0, .int .i64 x.count] _ (w.heap.size + 1) 0 b (by omega)).trans (setW_block [.slice E0 x.row.length e0, .int .i64 x.count] w0 (w.heap.size + 1 + 1) 0 b (by omega)))).mono (by omega) (Nat.le_of_eq zW.symm)
  have hF : UF ((((w0.setCell ⟨w.heap.size + 1 + 1, 0, none⟩ (.slice E0 x.row.length e0)).setCell ⟨w.heap.size + 1 + 1, 1, none⟩ (.int .i64 x.count)).setCell ⟨w.heap.size + 1, 0, none⟩ (.slice E0 x.row.length e0)).setCell ⟨w.heap.size + 1, 1, none⟩ (.int .i64 x.count)) w.heap.size ((((w0.setCell ⟨w.heap.size + 1 + 1, 0, none⟩ (.slice E0 x.row.length e0)).setCell ⟨w.heap.size + 1 + 1, 1, none⟩ (.int .i64 x.count)).setCell ⟨w.heap.size + 1, 0, none⟩ (.slice E0 x.row.length e0)).setCell ⟨w.heap.size + 1, 1, none⟩ (.int .i64 x.count)).heap.size := fun b h1 h2 o => UF.setW [.slice E0 x.row.length e0, .int .i64 x.count] (w.heap.size + 1) 0 (UF.setW [.slice E0 x.row.length e0, .int .i64 x.count] (w.heap.size + 1 + 1) 0 HF0.out) b h1 (by rw [← zW]; exact h2) o
  clear WF zW T0
  generalize ((((w0.setCell ⟨w.heap.size + 1 + 1, 0, none⟩ (.slice E0 x.row.length e0)).setCell ⟨w.heap.size + 1 + 1, 1, none⟩ (.int .i64 x.count)).setCell ⟨w.heap.size + 1, 0, none⟩ (.slice E0 x.row.length e0)).setCell ⟨w.heap.size + 1, 1, none⟩ (.int .i64 x.count)) = wf at d0 d1 hY hF U0 ⊢
  exact bodyPost_ret (v := .agg #[.slice E0 x.row.length e0, .int .i64 x.count]) (by simp [results, Try.results49, go_sem, d0, d1]) rfl ⟨_, _, rfl, ⟨v0, U0⟩, hF, hY⟩

theorem infoDiff : (Try.prog.info? 55).map (fun i => (i.zero, i.size, i.bytes)) = some (some (.agg #[.slice none 0 0, .int .i64 0]), 2, 32) := by kernel_rfl
/-- What laws.toDiffS leaves. -/
def ToDiffs (w : World) (xs : List (GDiff)) (e : Ending) (w' : World) : Prop := ∃ (A : Option Addr) (c : Nat), e = .returned (.slice A xs.length c) ∧ (CapOk xs.length c ∧ DiffsAt w' w.heap.size w'.heap.size A xs) ∧ UF w' w.heap.size w'.heap.size ∧ Below w.heap.size w w'
def ToDiffsSt (w : World) (xs : List (GDiff)) (i : Nat) (w' : World) : Prop := ∃ l : List Value, l.length = xs.length * 2 ∧ Whole w' w.heap.size 55 l ∧ ∀ j x, j < i → xs[j]? = some x → DiffAt w' (w.heap.size + 1) w'.heap.size w.heap.size (0 + j * 2) x
theorem toDiffs_step {w w1 w2 : World} {xs : List (GDiff)} {i : Nat} {E0 : Option Addr} {e0 : Nat} (h : ToDiffsSt w xs i w1) (hi : i < xs.length) (hb : Below w1.heap.size w1 w2) (v0 : CapOk xs[i].row.length e0) (t0 : ValuesAt w2 w1.heap.size w2.heap.size E0 xs[i].row) :
    (∀ j, j < 2 → ∃ u, w2.cell? ⟨w.heap.size, i * 2 + j, none⟩ = some u) ∧ (∀ j, w2.frozen? ⟨w.heap.size, j, none⟩ = false) ∧ ToDiffsSt w xs (i + 1) (setW w2 w.heap.size (i * 2) [.slice E0 xs[i].row.length e0, .int .i64 xs[i].count]) := by
  obtain ⟨l, hl, hW, hA⟩ := h
  have hW2 := hW.below hb hW.lt
  have hg := hW.lt
  have hsz := setW_size [.slice E0 xs[i].row.length e0, .int .i64 xs[i].count] w2 w.heap.size (i * 2)
  have hz := hb.size
  refine ⟨fun j hj => ⟨l[i * 2 + j]'(by omega), by rw [hW2.cell, List.getElem?_eq_getElem (by omega)]⟩, fun j => hW2.frozen j, setL l (i * 2) [.slice E0 xs[i].row.length e0, .int .i64 xs[i].count], by rw [setL_len]; exact hl, setW_whole _ _ hW2, fun j x hj hx => ?_⟩
  have hW3 := setW_whole [.slice E0 xs[i].row.length e0, .int .i64 xs[i].count] (i * 2) hW2
  by_cases e : j = i
  · subst e
    rw [List.getElem?_eq_getElem hi] at hx; injection hx with hx; subst hx
    have hin : ∀ q u, ([.slice E0 xs[j].row.length e0, .int .i64 xs[j].count] : List Value)[q]? = some u → (setW w2 w.heap.size (j * 2) [.slice E0 xs[j].row.length e0, .int .i64 xs[j].count]).cell? ⟨w.heap.size, 0 + j * 2 + q, none⟩ = some u := fun q u hq => by
      rw [hW3.cell, Nat.zero_add]; exact setL_in _ _ _ _ _ (by simp; omega) hq
    exact ⟨⟨E0, e0, ⟨hin 0 _ rfl, v0⟩, (t0.keep (fun b h1 h2 => setW_block _ _ _ _ b (by omega))).mono (by omega) (by omega)⟩, hin 1 _ rfl⟩
  · refine ((hA j x (by omega) hx).mono (Nat.le_refl _) (Nat.le_refl _)).same (fun q hq => ?_) (fun b h1 h2 => ?_) |>.mono (Nat.le_refl _) (by omega)
    · rw [hW3.cell, hW.cell]; exact setL_out _ _ _ _ (by simp; omega)
    · rw [setW_block _ _ _ _ b (by omega)]; exact hb.block b h2
set_option maxRecDepth 100000 in
set_option maxHeartbeats 1600000 in
theorem to_Diffs {lo : Nat} (A : Option Addr) (c : Nat) (xs : List (GDiff)) (w : World) (hk : costDiffs xs ≤ 1048576) (hr : DiffsAt w lo w.heap.size A xs) :
    Calls Try.prog 13 #[.slice A xs.length c] w (ToDiffs w xs) := by
  obtain ⟨i0, hi0, hz0, hz1, hz2⟩ := info_parts infoDiff
  have hl : xs.length ≤ 1048576 := by unfold costDiffs at hk; omega
  have hmk := fun W => run_make (P := Try.prog) W 24 55 i0 _ Try.underlying24 hi0 hz0 .i64 .i64 xs.length xs.length (by omega) (by omega) (by rw [hz2]; omega) (by omega)
  have HK := Lib.hid hk
  have HR := Lib.hid hr
  clear hk hr
  have HS0 := Lib.hid (show ToDiffsSt w xs 0 (w.alloc (.cells (madeCells #[.slice none 0 0, .int .i64 0] (xs.length * 2)) 55)) from ⟨(madeCells #[.slice none 0 0, .int .i64 0] (xs.length * 2)).toList, by simp [size_madeCells], by have h := Whole.new w 55 (madeCells #[.slice none 0 0, .int .i64 0] (xs.length * 2)).toList; rw [Array.toArray_toList] at h; exact h, fun j x hj => by omega⟩)
  go_enter Try.func13, Try.ntmps13
  go_wp2_with fail
  clear hmk
  go_loopw [4] (fun i w' => ∃ k : Nat, k ≤ xs.length ∧ i = .int .i64 k ∧ Hid (ToDiffsSt w xs k w') ∧ w.heap.size < w'.heap.size ∧ Hid (UF w' w.heap.size w'.heap.size) ∧ Below w.heap.size w w') (fun i _ => xs.length - (intOf i).toNat)
  case atStart => exact ⟨0, Nat.zero_le _, rfl, HS0, by simp, Lib.hid ((UF.start w).alloc _ _), (Below.refl _ _).alloc (Nat.le_refl _) _⟩
  case round =>
    obtain ⟨k, hk, rfl, hS, hwz, hUF, hB⟩ := hrel
    by_cases hlt : k < xs.length
    · obtain ⟨g, o, rfl, hg0, hg, he⟩ := (HR.out.to_ hB).at_ hlt
      have hi0 : (0 : Int) ≤ (k : Int) := by omega
      have hi1 : (k : Int) < (xs.length : Int) := by omega
      have hck : costDiff xs[k] ≤ 1048576 := by have h1 := HK.out; have h2 := sumC_mem costDiff xs _ (List.getElem_mem hlt); unfold costDiffs at h1; omega
      obtain ⟨h0, h1⟩ := he
      obtain ⟨A0, c0, ⟨h0y, q0⟩, s0⟩ := h0
      go_wp2_with fail
      refine (to_Diff xs[k] A0 c0 _ hck s0).mono ?_
      rintro e w2 ⟨E0, e0, rfl, ⟨v0, t0⟩, uf2, hb2⟩
      clear h0y h1
      obtain ⟨hc, hf, hst⟩ := toDiffs_step (E0 := E0) (e0 := e0) hS.out hlt hb2 v0 t0
      obtain ⟨u0, q0⟩ := hc 0 (by omega)
      have r0 := hf (k * 2)
      obtain ⟨u1, q1⟩ := hc 1 (by omega)
      have r1 := hf (k * 2 + 1)
      rw [Nat.add_zero] at q0
      have HST := Lib.hid hst
      have hB2 := below_next hB hb2 rfl rfl
      have hz2' := hb2.size
      have hB3 := setW_below [.slice E0 xs[k].row.length e0, .int .i64 xs[k].count] w.heap.size (k * 2) hB2 (Nat.le_refl _)
      have hz3 : w.heap.size < (setW w2 w.heap.size (k * 2) [.slice E0 xs[k].row.length e0, .int .i64 xs[k].count]).heap.size := by rw [setW_size]; omega
      have hU3 := Lib.hid (show UF (setW w2 w.heap.size (k * 2) [.slice E0 xs[k].row.length e0, .int .i64 xs[k].count]) w.heap.size (setW w2 w.heap.size (k * 2) [.slice E0 xs[k].row.length e0, .int .i64 xs[k].count]).heap.size by rw [setW_size]; exact UF.setW _ _ _ (hUF.out.next hb2 uf2))
      clear hc hf hst hb2 uf2 t0
      go_wp2_with fail
      go_roundw
      case rel => exact ⟨k + 1, by omega, by go_num, HST, hz3, hU3, hB3⟩
      case measure => simp [intOf]; omega
    · have hi1 : ¬ (k : Int) < (xs.length : Int) := by omega
      go_wp2_with fail
      go_ret
      obtain ⟨l, h1, h2, h3⟩ := hS.out
      exact ⟨some ⟨w.heap.size, 0, none⟩, xs.length, rfl, ⟨⟨Nat.le_refl _, by omega⟩, .inr ⟨w.heap.size, 0, rfl, Nat.le_refl _, hwz, fun j x hx => (h3 j x (by have := (List.getElem?_eq_some_iff.1 hx).1; omega) hx).mono (by omega) (Nat.le_refl _)⟩⟩, hUF.out, hB⟩

end Go.Proofs.Ytemcpdpbikgfcaa
namespace Go.Proofs.Ytemcpdpbikgfcaa
open Go.RowKit Go.Sort
set_option linter.unusedVariables false

/-- A list of differences of the call's own, its rows in blocks from base on. -/
def FD (base : Nat) (w : World) (v : Value) (ps : List DH) : Prop :=
  w.ownsRow base 55 2 v ps.length (flatH ps) ∧ (∃ g c, v = .slice (some ⟨g, 0, none⟩) ps.length c) ∧ ∀ p ∈ ps, VRow base w (.slice p.1.1 p.2.row.length p.1.2) p.2.row
theorem FD.drawn {base g : Nat} {w w' : World} {v : Value} {ps : List DH} (h : FD base w v ps) (hg : w.grownBy w' (some g)) (hb : g < base) : FD base w' v ps :=
  ⟨own_drawn h.1 hg hb, h.2.1, fun p hp => (h.2.2 p hp).drawn hg hb⟩
theorem FD.below {base : Nat} {w w' : World} {v : Value} {ps : List DH} (h : FD base w v ps) (hb : Below w.heap.size w w') : FD base w' v ps :=
  ⟨own_kept h.1 hb, h.2.1, fun p hp => (h.2.2 p hp).below hb⟩
theorem FD.up {base base' : Nat} {w : World} {v : Value} {ps : List DH} (h : FD base w v ps) (hb : base' ≤ base) : FD base' w v ps := by
  refine ⟨⟨h.1.1, ?_⟩, h.2.1, fun p hp => (h.2.2 p hp).mono hb⟩
  rcases h.1.2 with h' | ⟨g, cap, cur, e, hg, hr⟩
  · exact .inl h'
  · exact .inr ⟨g, cap, cur, e, Nat.le_trans hb hg, hr⟩
theorem FD.start {base : Nat} {w : World} (hb : base ≤ w.heap.size) : FD base (w.alloc (.cells #[] 55)) (.slice (some ⟨w.heap.size, 0, none⟩) 0 0) [] :=
  ⟨World.ownsRow_made w #[] 0 hb (Nat.zero_le _) rfl, ⟨_, _, rfl⟩, fun p hp => by simp at hp⟩
theorem FD.app {base : Nat} {w w' : World} {v v' : Value} {ps : List DH} {p : DH} (h : FD base w v ps) (hp : VRow base w (.slice p.1.1 p.2.row.length p.1.2) p.2.row)
    (ho : w'.ownsRow base 55 2 v' (ps.length + 1) (flatH ps ++ dhL p)) (hg : w.grownBy w' v.ownBlock) : FD base w' v' (ps ++ [p]) := by
  have hk : ∀ {u : Value} {x : List GV}, VRow base w u x → VRow base w' u x := fun hu => World.ownsRow.kept hu hg (own_parts h.1 hu (by decide))
  have ho2 : w'.ownsRow base 55 2 v' (ps ++ [p]).length (flatH (ps ++ [p])) := by
    rw [flatH_append, List.length_append]
    simpa [flatH] using ho
  refine ⟨ho2, ?_, fun q hq => ?_⟩
  · rcases ho2.2 with ⟨e, h0⟩ | ⟨g5, cap, cur, e, _⟩
    · simp at h0
    · exact ⟨g5, cap, e⟩
  · rw [List.mem_append, List.mem_singleton] at hq
    rcases hq with hq | rfl
    · exact hk (h.2.2 q hq)
    · exact hk hp
theorem VRow.vals {base : Nat} {w : World} {A : Option Addr} {n c : Nat} {r : List GV} (h : VRow base w (.slice A n c) r) : CapOk r.length c ∧ ValuesAt w base w.heap.size A r := by
  rcases h.2 with ⟨e, h0⟩ | ⟨g, cap, cur, e, hg, hh, hc1, hc2, hc3, hc4⟩
  · obtain rfl := List.eq_nil_of_length_eq_zero h0
    simp only [Value.slice.injEq] at e
    obtain ⟨rfl, rfl, rfl⟩ := e
    exact ⟨⟨Nat.le_refl _, by simp⟩, .inl rfl⟩
  · simp only [Value.slice.injEq] at e
    obtain ⟨rfl, rfl, rfl⟩ := e
    refine ⟨⟨hc1, hc2⟩, .inr ⟨g, 0, rfl, hg, (Array.getElem?_eq_some_iff.1 hh).1, fun i v hv => ?_⟩⟩
    obtain ⟨f0, f1, f2⟩ := flat_at r i v hv
    have hi : i < r.length := (List.getElem?_eq_some_iff.1 hv).1
    have key : ∀ j, j < r.length * 3 → w.cell? ⟨g, j, none⟩ = (flat r)[j]? := fun j hj => by
      have h1 : w.cell? ⟨g, j, none⟩ = cur.toList[j]? := by simp [World.cell?, hh]
      rw [h1, ← hc4, List.getElem?_take_of_lt hj]
    rw [Nat.zero_add]
    exact ⟨(key _ (by omega)).trans f0, (key _ (by omega)).trans f1, (key _ (by omega)).trans f2⟩
theorem FD.diffs {base : Nat} {w : World} {v : Value} {ps : List DH} (h : FD base w v ps) : ∃ A c, v = .slice A ps.length c ∧ CapOk ps.length c ∧ DiffsAt w base w.heap.size A (ps.map (·.2)) := by
  obtain ⟨g0, c0, hv⟩ := h.2.1
  rcases h.1.2 with ⟨rfl, h0⟩ | ⟨g, cap, cur, rfl, hg, hh, hc1, hc2, hc3, hc4⟩
  · cases hv
  · refine ⟨_, cap, rfl, ⟨hc1, hc2⟩, .inr ⟨g, 0, rfl, hg, (Array.getElem?_eq_some_iff.1 hh).1, fun i z hz => ?_⟩⟩
    rw [List.getElem?_map, Option.map_eq_some_iff] at hz
    obtain ⟨p, hpi, rfl⟩ := hz
    have hi : i < ps.length := (List.getElem?_eq_some_iff.1 hpi).1
    obtain ⟨f0, f1⟩ := flatH_at ps i p hpi
    have hm := (h.2.2 p (List.mem_of_getElem? hpi)).vals
    have key : ∀ j, j < ps.length * 2 → w.cell? ⟨g, j, none⟩ = (flatH ps)[j]? := fun j hj => by
      have h1 : w.cell? ⟨g, j, none⟩ = cur.toList[j]? := by simp [World.cell?, hh]
      rw [h1, ← hc4, List.getElem?_take_of_lt hj]
    rw [Nat.zero_add]
    exact ⟨⟨p.1.1, p.1.2, ⟨(key _ (by omega)).trans f0, hm.1⟩, hm.2⟩, (key _ (by omega)).trans f1⟩
/-- What a drawn difference may hold. -/
def smallP (p : DH) : Prop := p.2.row.length ≤ 20 ∧ (∀ v ∈ p.2.row, v.t.size ≤ 100) ∧ -4611686018427387904 ≤ p.2.count ∧ p.2.count ≤ 4611686018427387904
/-- What a draw of differences leaves. -/
def WidePost (w : World) (g : Nat) (A : Option Addr) (c : Nat) (xs : List UInt8) (e : Ending) (w' : World) : Prop :=
  ∃ v ps, e = .returned v ∧ FD w.heap.size w' v ps ∧ ps.length ≤ 8 ∧ (∀ p ∈ ps, smallP p) ∧ St w' g A c xs ∧ w.grownBy w' (some g)
theorem cop_at {base : Nat} {rows : List Row} {v : Value} {us : List Value} {w : World} (h : CopSt base rows v us w) (hl : us.length = rows.length) {i : Nat} (hi : i < rows.length) :
    ∃ g0 c0 g c, v = .slice (some ⟨g0, 0, none⟩) rows.length c0 ∧ base ≤ g0 ∧ w.cell? ⟨g0, i, none⟩ = some (.slice (some ⟨g, 0, none⟩) rows[i].length c) ∧ VRow base w (.slice (some ⟨g, 0, none⟩) rows[i].length c) rows[i] := by
  rcases h.1.2 with ⟨e, h0⟩ | ⟨g, cap, cur, e, hg, hh, hc, _, hsz, ht⟩
  · omega
  · have hu := List.getElem?_eq_getElem (show i < us.length by omega)
    obtain ⟨⟨gr, cr, e1⟩, h2⟩ := h.2 i _ _ hu (List.getElem?_eq_getElem hi)
    refine ⟨g, cap, gr, cr, by rw [e, hl], hg, ?_, by rw [← e1]; exact h2⟩
    rw [← e1, ← hu]
    conv => rhs; rw [← ht]
    rw [List.getElem?_take, if_pos (by omega)]
    simp [World.cell?, hh]
theorem cop_tabB {base : Nat} {rows : List Row} {g0 c0 n : Nat} {us : List Value} {w : World} (h : CopSt base rows (.slice (some ⟨g0, 0, none⟩) n c0) us w) (hl : us.length = rows.length) : TabB w w.heap.size g0 0 rows := by
  have hlt : g0 < w.heap.size := by
    rcases h.1.2 with ⟨e, _⟩ | ⟨g, cap, cur, e, hg, hh, _⟩
    · cases e
    · simp only [Value.slice.injEq, Option.some.injEq, Addr.mk.injEq] at e
      rw [e.1.1]
      exact (Array.getElem?_eq_some_iff.1 hh).1
  refine ⟨hlt, fun i r hr => ?_⟩
  obtain ⟨hi, rfl⟩ := List.getElem?_eq_some_iff.1 hr
  obtain ⟨g1, c1, g, c, e, _, hcell, hV⟩ := cop_at h hl hi
  simp only [Value.slice.injEq, Option.some.injEq, Addr.mk.injEq] at e
  obtain ⟨⟨rfl, _⟩, _, _⟩ := e
  obtain ⟨A, c', e2, hrow⟩ := hV.row
  simp only [Value.slice.injEq] at e2
  obtain ⟨rfl, _, rfl⟩ := e2
  refine ⟨_, _, by rw [Nat.zero_add]; exact hcell, hrow, by simp⟩
theorem six_at (l : List Int) (w : World) {b : Nat} (hW : Whole w b 2 (l.map (Value.int .i64))) {x : Nat} (hx : x < l.length) (hb : ∀ n ∈ l, -4611686018427387904 ≤ n ∧ n ≤ 4611686018427387904) :
    ∃ n : Int, w.cell? ⟨b, x, none⟩ = some (.int .i64 n) ∧ -4611686018427387904 ≤ n ∧ n ≤ 4611686018427387904 :=
  ⟨l[x], by rw [hW.cell, List.getElem?_map, List.getElem?_eq_getElem hx]; rfl, hb _ (List.getElem_mem hx)⟩
end Go.Proofs.Ytemcpdpbikgfcaa
