/-
  laws.toValueS. laws.toValueSS.
-/
import Derived.Test.YteoepnadjkjlmaaGreatRowStZ
import Derived.Test.YteoepnadjkjlmaaGreatToValZ
import Derived.Test.YteoepnadjkjlmaaGreatSzValZ
namespace Go.Proofs.YteoepnadjkjlmaaGreat
open Go.RowKit Go.Sort
set_option linter.unusedVariables false

theorem infoValue : (Tryz.prog.info? 79).map (fun i => (i.zero, i.size, i.bytes)) = some (some (.agg #[.int .i64 0, .int .i64 0, .string ByteArray.empty]), 3, 32) := by kernel_rfl
/-- What laws.toValueS leaves. -/
def ToValues (w : World) (xs : List (GV)) (e : Ending) (w' : World) : Prop := ∃ (A : Option Addr) (c : Nat), e = .returned (.slice A xs.length c) ∧ (CapOk xs.length c ∧ ValuesAt w' w.heap.size w'.heap.size A xs) ∧ UF w' w.heap.size w'.heap.size ∧ Below w.heap.size w w'
def ToValuesSt (w : World) (xs : List (GV)) (i : Nat) (w' : World) : Prop := ∃ l : List Value, l.length = xs.length * 3 ∧ Whole w' w.heap.size 79 l ∧ ∀ j x, j < i → xs[j]? = some x → ValueAt w' (w.heap.size + 1) w'.heap.size w.heap.size (0 + j * 3) x
theorem toValues_step {w w1 w2 : World} {xs : List (GV)} {i : Nat} (h : ToValuesSt w xs i w1) (hi : i < xs.length) (hb : Below w1.heap.size w1 w2) :
    (∀ j, j < 3 → ∃ u, w2.cell? ⟨w.heap.size, i * 3 + j, none⟩ = some u) ∧ (∀ j, w2.frozen? ⟨w.heap.size, j, none⟩ = false) ∧ ToValuesSt w xs (i + 1) (setW w2 w.heap.size (i * 3) [.int .i64 xs[i].k, .int .i64 xs[i].n, .string xs[i].t]) := by
  obtain ⟨l, hl, hW, hA⟩ := h
  have hW2 := hW.below hb hW.lt
  have hg := hW.lt
  have hsz := setW_size [.int .i64 xs[i].k, .int .i64 xs[i].n, .string xs[i].t] w2 w.heap.size (i * 3)
  have hz := hb.size
  refine ⟨fun j hj => ⟨l[i * 3 + j]'(by omega), by rw [hW2.cell, List.getElem?_eq_getElem (by omega)]⟩, fun j => hW2.frozen j, setL l (i * 3) [.int .i64 xs[i].k, .int .i64 xs[i].n, .string xs[i].t], by rw [setL_len]; exact hl, setW_whole _ _ hW2, fun j x hj hx => ?_⟩
  have hW3 := setW_whole [.int .i64 xs[i].k, .int .i64 xs[i].n, .string xs[i].t] (i * 3) hW2
  by_cases e : j = i
  · subst e
    rw [List.getElem?_eq_getElem hi] at hx; injection hx with hx; subst hx
    have hin : ∀ q u, ([.int .i64 xs[j].k, .int .i64 xs[j].n, .string xs[j].t] : List Value)[q]? = some u → (setW w2 w.heap.size (j * 3) [.int .i64 xs[j].k, .int .i64 xs[j].n, .string xs[j].t]).cell? ⟨w.heap.size, 0 + j * 3 + q, none⟩ = some u := fun q u hq => by
      rw [hW3.cell, Nat.zero_add]; exact setL_in _ _ _ _ _ (by simp; omega) hq
    exact ⟨hin 0 _ rfl, hin 1 _ rfl, hin 2 _ rfl⟩
  · refine ((hA j x (by omega) hx).mono (Nat.le_refl _) (Nat.le_refl _)).same (fun q hq => ?_) (fun b h1 h2 => ?_) |>.mono (Nat.le_refl _) (by omega)
    · rw [hW3.cell, hW.cell]; exact setL_out _ _ _ _ (by simp; omega)
    · rw [setW_block _ _ _ _ b (by omega)]; exact hb.block b h2
set_option maxRecDepth 100000 in
set_option maxHeartbeats 1600000 in
theorem to_Values {lo : Nat} (A : Option Addr) (c : Nat) (xs : List (GV)) (w : World) (hk : costValues xs ≤ 1048576) (hr : ValuesAt w lo w.heap.size A xs) :
    Calls Tryz.prog 70 #[.slice A xs.length c] w (ToValues w xs) := by
  obtain ⟨i0, hi0, hz0, hz1, hz2⟩ := info_parts infoValue
  have hl : xs.length ≤ 1048576 := by unfold costValues at hk; omega
  have hmk := fun W => run_make (P := Tryz.prog) W 52 79 i0 _ Tryz.underlying52 hi0 hz0 .i64 .i64 xs.length xs.length (by omega) (by omega) (by rw [hz2]; omega) (by omega)
  have HK := Lib.hid hk
  have HR := Lib.hid hr
  clear hk hr
  have HS0 := Lib.hid (show ToValuesSt w xs 0 (w.alloc (.cells (madeCells #[.int .i64 0, .int .i64 0, .string ByteArray.empty] (xs.length * 3)) 79)) from ⟨(madeCells #[.int .i64 0, .int .i64 0, .string ByteArray.empty] (xs.length * 3)).toList, by simp [size_madeCells], by have h := Whole.new w 79 (madeCells #[.int .i64 0, .int .i64 0, .string ByteArray.empty] (xs.length * 3)).toList; rw [Array.toArray_toList] at h; exact h, fun j x hj => by omega⟩)
  go_enter Tryz.func70, Tryz.ntmps70
  go_wp2_with fail
  clear hmk
  go_loopw [4] (fun i w' => ∃ k : Nat, k ≤ xs.length ∧ i = .int .i64 k ∧ Hid (ToValuesSt w xs k w') ∧ w.heap.size < w'.heap.size ∧ Hid (UF w' w.heap.size w'.heap.size) ∧ Below w.heap.size w w') (fun i _ => xs.length - (intOf i).toNat)
  case atStart => exact ⟨0, Nat.zero_le _, rfl, HS0, by simp, Lib.hid ((UF.start w).alloc _ _), (Below.refl _ _).alloc (Nat.le_refl _) _⟩
  case round =>
    obtain ⟨k, hk, rfl, hS, hwz, hUF, hB⟩ := hrel
    by_cases hlt : k < xs.length
    · obtain ⟨g, o, rfl, hg0, hg, he⟩ := (HR.out.to_ hB).at_ hlt
      have hi0 : (0 : Int) ≤ (k : Int) := by omega
      have hi1 : (k : Int) < (xs.length : Int) := by omega
      have hck : costValue xs[k] ≤ 1048576 := by have h1 := HK.out; have h2 := sumC_mem costValue xs _ (List.getElem_mem hlt); unfold costValues at h1; omega
      obtain ⟨h0, h1, h2⟩ := he
      go_wp2_with fail
      refine (to_Value xs[k] _).mono ?_
      rintro e w2 ⟨rfl, uf2, hb2⟩
      clear h0 h1 h2
      obtain ⟨hc, hf, hst⟩ := toValues_step hS.out hlt hb2
      obtain ⟨u0, q0⟩ := hc 0 (by omega)
      have r0 := hf (k * 3)
      obtain ⟨u1, q1⟩ := hc 1 (by omega)
      have r1 := hf (k * 3 + 1)
      obtain ⟨u2, q2⟩ := hc 2 (by omega)
      have r2 := hf (k * 3 + 2)
      rw [Nat.add_zero] at q0
      have HST := Lib.hid hst
      have hB2 := below_next hB hb2 rfl rfl
      have hz2' := hb2.size
      have hB3 := setW_below [.int .i64 xs[k].k, .int .i64 xs[k].n, .string xs[k].t] w.heap.size (k * 3) hB2 (Nat.le_refl _)
      have hz3 : w.heap.size < (setW w2 w.heap.size (k * 3) [.int .i64 xs[k].k, .int .i64 xs[k].n, .string xs[k].t]).heap.size := by rw [setW_size]; omega
      have hU3 := Lib.hid (show UF (setW w2 w.heap.size (k * 3) [.int .i64 xs[k].k, .int .i64 xs[k].n, .string xs[k].t]) w.heap.size (setW w2 w.heap.size (k * 3) [.int .i64 xs[k].k, .int .i64 xs[k].n, .string xs[k].t]).heap.size by rw [setW_size]; exact UF.setW _ _ _ (hUF.out.next hb2 uf2))
      clear hc hf hst hb2 uf2
      go_wp2_with fail
      go_roundw
      case rel => exact ⟨k + 1, by omega, by go_num, HST, hz3, hU3, hB3⟩
      case measure => simp [intOf]; omega
    · have hi1 : ¬ (k : Int) < (xs.length : Int) := by omega
      go_wp2_with fail
      go_ret
      obtain ⟨l, h1, h2, h3⟩ := hS.out
      exact ⟨some ⟨w.heap.size, 0, none⟩, xs.length, rfl, ⟨⟨Nat.le_refl _, by omega⟩, .inr ⟨w.heap.size, 0, rfl, Nat.le_refl _, hwz, fun j x hx => (h3 j x (by have := (List.getElem?_eq_some_iff.1 hx).1; omega) hx).mono (by omega) (Nat.le_refl _)⟩⟩, hUF.out, hB⟩

end Go.Proofs.YteoepnadjkjlmaaGreat
namespace Go.Proofs.YteoepnadjkjlmaaGreat
open Go.RowKit Go.Sort
set_option linter.unusedVariables false

theorem infoValueS : (Tryz.prog.info? 52).map (fun i => (i.zero, i.size, i.bytes)) = some (some (.slice none 0 0), 1, 24) := by kernel_rfl
/-- What laws.toValueSS leaves. -/
def ToValueSs (w : World) (xs : List (List GV)) (e : Ending) (w' : World) : Prop := ∃ (A : Option Addr) (c : Nat), e = .returned (.slice A xs.length c) ∧ (CapOk xs.length c ∧ ValueSsAt w' w.heap.size w'.heap.size A xs) ∧ UF w' w.heap.size w'.heap.size ∧ Below w.heap.size w w'
def ToValueSsSt (w : World) (xs : List (List GV)) (i : Nat) (w' : World) : Prop := ∃ l : List Value, l.length = xs.length * 1 ∧ Whole w' w.heap.size 52 l ∧ ∀ j x, j < i → xs[j]? = some x → ValueSAt w' (w.heap.size + 1) w'.heap.size w.heap.size (0 + j) x
theorem toValueSs_step {w w1 w2 : World} {xs : List (List GV)} {i : Nat} {E0 : Option Addr} {e0 : Nat} (h : ToValueSsSt w xs i w1) (hi : i < xs.length) (hb : Below w1.heap.size w1 w2) (v0 : CapOk xs[i].length e0) (t0 : ValuesAt w2 w1.heap.size w2.heap.size E0 xs[i]) :
    (∀ j, j < 1 → ∃ u, w2.cell? ⟨w.heap.size, i + j, none⟩ = some u) ∧ (∀ j, w2.frozen? ⟨w.heap.size, j, none⟩ = false) ∧ ToValueSsSt w xs (i + 1) (setW w2 w.heap.size (i) [.slice E0 xs[i].length e0]) := by
  obtain ⟨l, hl, hW, hA⟩ := h
  have hW2 := hW.below hb hW.lt
  have hg := hW.lt
  have hsz := setW_size [.slice E0 xs[i].length e0] w2 w.heap.size (i)
  have hz := hb.size
  refine ⟨fun j hj => ⟨l[i + j]'(by omega), by rw [hW2.cell, List.getElem?_eq_getElem (by omega)]⟩, fun j => hW2.frozen j, setL l (i) [.slice E0 xs[i].length e0], by rw [setL_len]; exact hl, setW_whole _ _ hW2, fun j x hj hx => ?_⟩
  have hW3 := setW_whole [.slice E0 xs[i].length e0] (i) hW2
  by_cases e : j = i
  · subst e
    rw [List.getElem?_eq_getElem hi] at hx; injection hx with hx; subst hx
    have hin : ∀ q u, ([.slice E0 xs[j].length e0] : List Value)[q]? = some u → (setW w2 w.heap.size (j) [.slice E0 xs[j].length e0]).cell? ⟨w.heap.size, 0 + j + q, none⟩ = some u := fun q u hq => by
      rw [hW3.cell, Nat.zero_add]; exact setL_in _ _ _ _ _ (by simp; omega) hq
    exact ⟨E0, e0, ⟨hin 0 _ rfl, v0⟩, (t0.keep (fun b h1 h2 => setW_block _ _ _ _ b (by omega))).mono (by omega) (by omega)⟩
  · refine ((hA j x (by omega) hx).mono (Nat.le_refl _) (Nat.le_refl _)).same (fun q hq => ?_) (fun b h1 h2 => ?_) |>.mono (Nat.le_refl _) (by omega)
    · rw [hW3.cell, hW.cell]; exact setL_out _ _ _ _ (by simp; omega)
    · rw [setW_block _ _ _ _ b (by omega)]; exact hb.block b h2
set_option maxRecDepth 100000 in
set_option maxHeartbeats 1600000 in
theorem to_ValueSs {lo : Nat} (A : Option Addr) (c : Nat) (xs : List (List GV)) (w : World) (hk : costValueSs xs ≤ 1048576) (hr : ValueSsAt w lo w.heap.size A xs) :
    Calls Tryz.prog 48 #[.slice A xs.length c] w (ToValueSs w xs) := by
  obtain ⟨i0, hi0, hz0, hz1, hz2⟩ := info_parts infoValueS
  have hl : xs.length ≤ 1048576 := by unfold costValueSs at hk; omega
  have hmk := fun W => run_make (P := Tryz.prog) W 28 52 i0 _ Tryz.underlying28 hi0 hz0 .i64 .i64 xs.length xs.length (by omega) (by omega) (by rw [hz2]; omega) (by omega)
  have HK := Lib.hid hk
  have HR := Lib.hid hr
  clear hk hr
  have HS0 := Lib.hid (show ToValueSsSt w xs 0 (w.alloc (.cells (madeCells #[.slice none 0 0] (xs.length)) 52)) from ⟨(madeCells #[.slice none 0 0] (xs.length)).toList, by simp [size_madeCells], by have h := Whole.new w 52 (madeCells #[.slice none 0 0] (xs.length)).toList; rw [Array.toArray_toList] at h; exact h, fun j x hj => by omega⟩)
  go_enter Tryz.func48, Tryz.ntmps48
  go_wp2_with fail
  clear hmk
  go_loopw [4] (fun i w' => ∃ k : Nat, k ≤ xs.length ∧ i = .int .i64 k ∧ Hid (ToValueSsSt w xs k w') ∧ w.heap.size < w'.heap.size ∧ Hid (UF w' w.heap.size w'.heap.size) ∧ Below w.heap.size w w') (fun i _ => xs.length - (intOf i).toNat)
  case atStart => exact ⟨0, Nat.zero_le _, rfl, HS0, by simp, Lib.hid ((UF.start w).alloc _ _), (Below.refl _ _).alloc (Nat.le_refl _) _⟩
  case round =>
    obtain ⟨k, hk, rfl, hS, hwz, hUF, hB⟩ := hrel
    by_cases hlt : k < xs.length
    · obtain ⟨g, o, rfl, hg0, hg, he⟩ := (HR.out.to_ hB).at_ hlt
      have hi0 : (0 : Int) ≤ (k : Int) := by omega
      have hi1 : (k : Int) < (xs.length : Int) := by omega
      have hck : costValueS xs[k] ≤ 1048576 := by have h1 := HK.out; have h2 := sumC_mem costValueS xs _ (List.getElem_mem hlt); unfold costValueSs at h1; omega
      obtain ⟨A0, c0, ⟨h0y, q0⟩, s0⟩ := he
      go_wp2_with fail
      refine (to_Values A0 c0 xs[k] _ hck s0).mono ?_
      rintro e w2 ⟨E0, e0, rfl, ⟨v0, t0⟩, uf2, hb2⟩
      clear h0y
      obtain ⟨hc, hf, hst⟩ := toValueSs_step (E0 := E0) (e0 := e0) hS.out hlt hb2 v0 t0
      obtain ⟨u0, q0⟩ := hc 0 (by omega)
      have r0 := hf (k)
      rw [Nat.add_zero] at q0
      have HST := Lib.hid hst
      have hB2 := below_next hB hb2 rfl rfl
      have hz2' := hb2.size
      have hB3 := setW_below [.slice E0 xs[k].length e0] w.heap.size (k) hB2 (Nat.le_refl _)
      have hz3 : w.heap.size < (setW w2 w.heap.size (k) [.slice E0 xs[k].length e0]).heap.size := by rw [setW_size]; omega
      have hU3 := Lib.hid (show UF (setW w2 w.heap.size (k) [.slice E0 xs[k].length e0]) w.heap.size (setW w2 w.heap.size (k) [.slice E0 xs[k].length e0]).heap.size by rw [setW_size]; exact UF.setW _ _ _ (hUF.out.next hb2 uf2))
      clear hc hf hst hb2 uf2 t0
      go_wp2_with fail
      go_roundw
      case rel => exact ⟨k + 1, by omega, by go_num, HST, hz3, hU3, hB3⟩
      case measure => simp [intOf]; omega
    · have hi1 : ¬ (k : Int) < (xs.length : Int) := by omega
      go_wp2_with fail
      go_ret
      obtain ⟨l, h1, h2, h3⟩ := hS.out
      exact ⟨some ⟨w.heap.size, 0, none⟩, xs.length, rfl, ⟨⟨Nat.le_refl _, by omega⟩, .inr ⟨w.heap.size, 0, rfl, Nat.le_refl _, hwz, fun j x hx => (h3 j x (by have := (List.getElem?_eq_some_iff.1 hx).1; omega) hx).mono (by omega) (Nat.le_refl _)⟩⟩, hUF.out, hB⟩

end Go.Proofs.YteoepnadjkjlmaaGreat
