/-
  laws.toStringS.
-/
import Derived.Test.YtpipikjkhmhmhaaTyStr
namespace Go.Proofs.Ytpipikjkhmhmhaa
open Go.RowKit Go.Sort
set_option linter.unusedVariables false

theorem infoStr : (Try.prog.info? 9).map (fun i => (i.zero, i.size, i.bytes)) = some (some (.string ByteArray.empty), 1, 16) := by kernel_rfl
/-- What laws.toStringS leaves. -/
def ToStrs (w : World) (xs : List (ByteArray)) (e : Ending) (w' : World) : Prop := ∃ (A : Option Addr) (c : Nat), e = .returned (.slice A xs.length c) ∧ StrsAt w' w.heap.size w'.heap.size A xs ∧ UF w' w.heap.size w'.heap.size ∧ Below w.heap.size w w'
def ToStrsSt (w : World) (xs : List (ByteArray)) (i : Nat) (w' : World) : Prop := ∃ l : List Value, l.length = xs.length * 1 ∧ Whole w' w.heap.size 9 l ∧ ∀ j x, j < i → xs[j]? = some x → StrAt w' (w.heap.size + 1) w'.heap.size w.heap.size (0 + j) x
theorem toStrs_step {w w1 w2 : World} {xs : List (ByteArray)} {i : Nat} (h : ToStrsSt w xs i w1) (hi : i < xs.length) (hb : Below w1.heap.size w1 w2) :
    (∀ j, j < 1 → ∃ u, w2.cell? ⟨w.heap.size, i + j, none⟩ = some u) ∧ (∀ j, w2.frozen? ⟨w.heap.size, j, none⟩ = false) ∧ ToStrsSt w xs (i + 1) (setW w2 w.heap.size (i) [.string xs[i]]) := by
  obtain ⟨l, hl, hW, hA⟩ := h
  have hW2 := hW.below hb hW.lt
  have hg := hW.lt
  have hsz := setW_size [.string xs[i]] w2 w.heap.size (i)
  have hz := hb.size
  refine ⟨fun j hj => ⟨l[i + j]'(by omega), by rw [hW2.cell, List.getElem?_eq_getElem (by omega)]⟩, fun j => hW2.frozen j, setL l (i) [.string xs[i]], by rw [setL_len]; exact hl, setW_whole _ _ hW2, fun j x hj hx => ?_⟩
  have hW3 := setW_whole [.string xs[i]] (i) hW2
  by_cases e : j = i
  · subst e
    rw [List.getElem?_eq_getElem hi] at hx; injection hx with hx; subst hx
    have hin : ∀ q u, ([.string xs[j]] : List Value)[q]? = some u → (setW w2 w.heap.size (j) [.string xs[j]]).cell? ⟨w.heap.size, 0 + j + q, none⟩ = some u := fun q u hq => by
      rw [hW3.cell, Nat.zero_add]; exact setL_in _ _ _ _ _ (by simp; omega) hq
    exact hin 0 _ rfl
  · refine ((hA j x (by omega) hx).mono (Nat.le_refl _) (Nat.le_refl _)).same (fun q hq => ?_) (fun b h1 h2 => ?_) |>.mono (Nat.le_refl _) (by omega)
    · rw [hW3.cell, hW.cell]; exact setL_out _ _ _ _ (by simp; omega)
    · rw [setW_block _ _ _ _ b (by omega)]; exact hb.block b h2
set_option maxRecDepth 100000 in
set_option maxHeartbeats 1600000 in
theorem to_Strs {lo : Nat} (A : Option Addr) (c : Nat) (xs : List (ByteArray)) (w : World) (hk : costStrs xs ≤ 1048576) (hr : StrsAt w lo w.heap.size A xs) :
    Calls Try.prog 32 #[.slice A xs.length c] w (ToStrs w xs) := by
  obtain ⟨i0, hi0, hz0, hz1, hz2⟩ := info_parts infoStr
  have hl : xs.length ≤ 1048576 := by unfold costStrs at hk; omega
  have hmk := fun W => run_make (P := Try.prog) W 53 9 i0 _ Try.underlying53 hi0 hz0 .i64 .i64 xs.length xs.length (by omega) (by omega) (by rw [hz2]; omega) (by omega)
  have HK := Lib.hid hk
  have HR := Lib.hid hr
  clear hk hr
  have HS0 := Lib.hid (show ToStrsSt w xs 0 (w.alloc (.cells (madeCells #[.string ByteArray.empty] (xs.length)) 9)) from ⟨(madeCells #[.string ByteArray.empty] (xs.length)).toList, by simp [size_madeCells], by have h := Whole.new w 9 (madeCells #[.string ByteArray.empty] (xs.length)).toList; rw [Array.toArray_toList] at h; exact h, fun j x hj => by omega⟩)
  go_enter Try.func32, Try.ntmps32
  go_wp2_with fail
  clear hmk
  go_loopw [4] (fun i w' => ∃ k : Nat, k ≤ xs.length ∧ i = .int .i64 k ∧ Hid (ToStrsSt w xs k w') ∧ w.heap.size < w'.heap.size ∧ Hid (UF w' w.heap.size w'.heap.size) ∧ Below w.heap.size w w') (fun i _ => xs.length - (intOf i).toNat)
  case atStart => exact ⟨0, Nat.zero_le _, rfl, HS0, by simp, Lib.hid ((UF.start w).alloc _ _), (Below.refl _ _).alloc (Nat.le_refl _) _⟩
  case round =>
    obtain ⟨k, hk, rfl, hS, hwz, hUF, hB⟩ := hrel
    by_cases hlt : k < xs.length
    · obtain ⟨g, o, rfl, hg0, hg, he⟩ := (HR.out.to_ hB).at_ hlt
      have hi0 : (0 : Int) ≤ (k : Int) := by omega
      have hi1 : (k : Int) < (xs.length : Int) := by omega
      have h0 : wr.cell? ⟨g, o + k, none⟩ = some (.string xs[k]) := he
      clear he
      obtain ⟨hc, hf, hst⟩ := toStrs_step hS.out hlt (Below.refl wr.heap.size wr)
      obtain ⟨u0, q0⟩ := hc 0 (by omega)
      rw [Nat.add_zero] at q0
      have r0 := hf k
      have HST := Lib.hid hst
      have hB3 := setW_below [.string xs[k]] w.heap.size (k) hB (Nat.le_refl _)
      have hz3 : w.heap.size < (setW wr w.heap.size (k) [.string xs[k]]).heap.size := by rw [setW_size]; exact hwz
      have hU3 := Lib.hid (show UF (setW wr w.heap.size (k) [.string xs[k]]) w.heap.size (setW wr w.heap.size (k) [.string xs[k]]).heap.size by rw [setW_size]; exact UF.setW _ _ _ hUF.out)
      clear hc hf hst
      go_wp2_with fail
      go_roundw
      case rel => exact ⟨k + 1, by omega, by go_num, HST, hz3, hU3, hB3⟩
      case measure => simp [intOf]; omega
    · have hi1 : ¬ (k : Int) < (xs.length : Int) := by omega
      go_wp2_with fail
      go_ret
      obtain ⟨l, h1, h2, h3⟩ := hS.out
      exact ⟨some ⟨w.heap.size, 0, none⟩, xs.length, rfl, .inr ⟨w.heap.size, 0, rfl, Nat.le_refl _, hwz, fun j x hx => (h3 j x (by have := (List.getElem?_eq_some_iff.1 hx).1; omega) hx).mono (by omega) (Nat.le_refl _)⟩, hUF.out, hB⟩

end Go.Proofs.Ytpipikjkhmhmhaa
