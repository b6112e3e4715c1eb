/-
  Integers in memory. laws.toInt64S.
-/
import Derived.Test.YtggkggaihfcjmaaTyZ
namespace Go.Proofs.Ytggkggaihfcjmaa
open Go.RowKit Go.Sort
set_option linter.unusedVariables false

def IntAt (w : World) (lo B g o : Nat) (x : Int) : Prop := w.cell? ⟨g, o, none⟩ = some (.int .i64 x)
theorem IntAt.same {w w' : World} {lo B g o : Nat} {x : Int} (h : IntAt w lo B g o x) (hc : ∀ j, j < 1 → w'.cell? ⟨g, o + j, none⟩ = w.cell? ⟨g, o + j, none⟩) (hs : ∀ b, lo ≤ b → b < B → w'.heap[b]? = w.heap[b]?) : IntAt w' lo B g o x := by
  have h0 := h
  exact (hc 0 (by omega)).trans h0
theorem IntAt.mono {w : World} {lo lo' B B' g o : Nat} {x : Int} (h : IntAt w lo B g o x) (hlo : lo' ≤ lo) (hB : B ≤ B') : IntAt w lo' B' g o x := by
  have h0 := h
  exact h0
def IntsAt (w : World) (lo B : Nat) (A : Option Addr) (xs : List (Int)) : Prop := xs = [] ∨ ∃ g o, A = some ⟨g, o, none⟩ ∧ lo ≤ g ∧ g < B ∧ ∀ i x, xs[i]? = some x → IntAt w lo B g (o + i) x
theorem IntsAt.keep {w w' : World} {lo B : Nat} {A : Option Addr} {xs : List (Int)} (h : IntsAt w lo B A xs) (hs : ∀ b, lo ≤ b → b < B → w'.heap[b]? = w.heap[b]?) : IntsAt w' lo B A xs := by
  rcases h with h | ⟨g, o, hA, h1, h2, hc⟩
  · exact .inl h
  · exact .inr ⟨g, o, hA, h1, h2, fun i x hx => (hc i x hx).same (fun j _ => World.cell?_of_block (w := w) (w' := w') (hs g h1 h2)) hs⟩
theorem IntsAt.mono {w : World} {lo lo' B B' : Nat} {A : Option Addr} {xs : List (Int)} (h : IntsAt w lo B A xs) (hlo : lo' ≤ lo) (hB : B ≤ B') : IntsAt w lo' B' A xs := by
  rcases h with h | ⟨g, o, hA, h1, h2, hc⟩
  · exact .inl h
  · exact .inr ⟨g, o, hA, by omega, by omega, fun i x hx => (hc i x hx).mono hlo hB⟩
theorem IntsAt.to_ {w w' : World} {lo : Nat} {A : Option Addr} {xs : List (Int)} (h : IntsAt w lo w.heap.size A xs) (hb : Below w.heap.size w w') : IntsAt w' lo w'.heap.size A xs := (h.keep (fun b _ hb' => hb.block b hb')).mono (Nat.le_refl _) hb.size
theorem IntsAt.at_ {w : World} {lo B : Nat} {A : Option Addr} {xs : List (Int)} (h : IntsAt w lo B A xs) {i : Nat} (hi : i < xs.length) : ∃ g o, A = some ⟨g, o, none⟩ ∧ lo ≤ g ∧ g < B ∧ IntAt w lo B g (o + i) xs[i] := by
  rcases h with h | ⟨g, o, hA, h1, h2, hc⟩
  · subst h; simp at hi
  · exact ⟨g, o, hA, h1, h2, hc i _ (List.getElem?_eq_getElem hi)⟩
def fitInt (x : Int) : Prop := (Lit.int .i64 x).wf = true
def fitInts (xs : List (Int)) : Prop := xs.length ≤ maxLen ∧ ∀ x ∈ xs, fitInt x
def costInts (xs : List (Int)) : Nat := xs.length

end Go.Proofs.Ytggkggaihfcjmaa
namespace Go.Proofs.Ytggkggaihfcjmaa
open Go.RowKit Go.Sort
set_option linter.unusedVariables false

theorem infoInt : (Try.prog.info? 2).map (fun i => (i.zero, i.size, i.bytes)) = some (some (.int .i64 0), 1, 8) := by kernel_rfl
/-- What laws.toInt64S leaves. -/
def ToInts (w : World) (xs : List (Int)) (e : Ending) (w' : World) : Prop := ∃ (A : Option Addr) (c : Nat), e = .returned (.slice A xs.length c) ∧ (CapOk xs.length c ∧ IntsAt w' w.heap.size w'.heap.size A xs) ∧ UF w' w.heap.size w'.heap.size ∧ Below w.heap.size w w'
def ToIntsSt (w : World) (xs : List (Int)) (i : Nat) (w' : World) : Prop := ∃ l : List Value, l.length = xs.length * 1 ∧ Whole w' w.heap.size 2 l ∧ ∀ j x, j < i → xs[j]? = some x → IntAt w' (w.heap.size + 1) w'.heap.size w.heap.size (0 + j) x
theorem toInts_step {w w1 w2 : World} {xs : List (Int)} {i : Nat} (h : ToIntsSt w xs i w1) (hi : i < xs.length) (hb : Below w1.heap.size w1 w2) :
    (∀ j, j < 1 → ∃ u, w2.cell? ⟨w.heap.size, i + j, none⟩ = some u) ∧ (∀ j, w2.frozen? ⟨w.heap.size, j, none⟩ = false) ∧ ToIntsSt w xs (i + 1) (setW w2 w.heap.size (i) [.int .i64 xs[i]]) := by
  obtain ⟨l, hl, hW, hA⟩ := h
  have hW2 := hW.below hb hW.lt
  have hg := hW.lt
  have hsz := setW_size [.int .i64 xs[i]] w2 w.heap.size (i)
  have hz := hb.size
  refine ⟨fun j hj => ⟨l[i + j]'(by omega), by rw [hW2.cell, List.getElem?_eq_getElem (by omega)]⟩, fun j => hW2.frozen j, setL l (i) [.int .i64 xs[i]], by rw [setL_len]; exact hl, setW_whole _ _ hW2, fun j x hj hx => ?_⟩
  have hW3 := setW_whole [.int .i64 xs[i]] (i) hW2
  by_cases e : j = i
  · subst e
    rw [List.getElem?_eq_getElem hi] at hx; injection hx with hx; subst hx
    have hin : ∀ q u, ([.int .i64 xs[j]] : List Value)[q]? = some u → (setW w2 w.heap.size (j) [.int .i64 xs[j]]).cell? ⟨w.heap.size, 0 + j + q, none⟩ = some u := fun q u hq => by
      rw [hW3.cell, Nat.zero_add]; exact setL_in _ _ _ _ _ (by simp; omega) hq
    exact hin 0 _ rfl
  · refine ((hA j x (by omega) hx).mono (Nat.le_refl _) (Nat.le_refl _)).same (fun q hq => ?_) (fun b h1 h2 => ?_) |>.mono (Nat.le_refl _) (by omega)
    · rw [hW3.cell, hW.cell]; exact setL_out _ _ _ _ (by simp; omega)
    · rw [setW_block _ _ _ _ b (by omega)]; exact hb.block b h2
set_option maxRecDepth 100000 in
set_option maxHeartbeats 1600000 in
theorem to_Ints {lo : Nat} (A : Option Addr) (c : Nat) (xs : List (Int)) (w : World) (hk : costInts xs ≤ 1048576) (hr : IntsAt w lo w.heap.size A xs) :
    Calls Try.prog 29 #[.slice A xs.length c] w (ToInts w xs) := by
  obtain ⟨i0, hi0, hz0, hz1, hz2⟩ := info_parts infoInt
  have hl : xs.length ≤ 1048576 := by unfold costInts at hk; omega
  have hmk := fun W => run_make (P := Try.prog) W 40 2 i0 _ Try.underlying40 hi0 hz0 .i64 .i64 xs.length xs.length (by omega) (by omega) (by rw [hz2]; omega) (by omega)
  have HK := Lib.hid hk
  have HR := Lib.hid hr
  clear hk hr
  have HS0 := Lib.hid (show ToIntsSt w xs 0 (w.alloc (.cells (madeCells #[.int .i64 0] (xs.length)) 2)) from ⟨(madeCells #[.int .i64 0] (xs.length)).toList, by simp [size_madeCells], by have h := Whole.new w 2 (madeCells #[.int .i64 0] (xs.length)).toList; rw [Array.toArray_toList] at h; exact h, fun j x hj => by omega⟩)
  go_enter Try.func29, Try.ntmps29
  go_wp2_with fail
  clear hmk
  go_loopw [4] (fun i w' => ∃ k : Nat, k ≤ xs.length ∧ i = .int .i64 k ∧ Hid (ToIntsSt w xs k w') ∧ w.heap.size < w'.heap.size ∧ Hid (UF w' w.heap.size w'.heap.size) ∧ Below w.heap.size w w') (fun i _ => xs.length - (intOf i).toNat)
  case atStart => exact ⟨0, Nat.zero_le _, rfl, HS0, by simp, Lib.hid ((UF.start w).alloc _ _), (Below.refl _ _).alloc (Nat.le_refl _) _⟩
  case round =>
    obtain ⟨k, hk, rfl, hS, hwz, hUF, hB⟩ := hrel
    by_cases hlt : k < xs.length
    · obtain ⟨g, o, rfl, hg0, hg, he⟩ := (HR.out.to_ hB).at_ hlt
      have hi0 : (0 : Int) ≤ (k : Int) := by omega
      have hi1 : (k : Int) < (xs.length : Int) := by omega
      have h0 : wr.cell? ⟨g, o + k, none⟩ = some (.int .i64 xs[k]) := he
      clear he
      obtain ⟨hc, hf, hst⟩ := toInts_step hS.out hlt (Below.refl wr.heap.size wr)
      obtain ⟨u0, q0⟩ := hc 0 (by omega)
      rw [Nat.add_zero] at q0
      have r0 := hf k
      have HST := Lib.hid hst
      have hB3 := setW_below [.int .i64 xs[k]] w.heap.size (k) hB (Nat.le_refl _)
      have hz3 : w.heap.size < (setW wr w.heap.size (k) [.int .i64 xs[k]]).heap.size := by rw [setW_size]; exact hwz
      have hU3 := Lib.hid (show UF (setW wr w.heap.size (k) [.int .i64 xs[k]]) w.heap.size (setW wr w.heap.size (k) [.int .i64 xs[k]]).heap.size by rw [setW_size]; exact UF.setW _ _ _ hUF.out)
      clear hc hf hst
      go_wp2_with fail
      go_roundw
      case rel => exact ⟨k + 1, by omega, by go_num, HST, hz3, hU3, hB3⟩
      case measure => simp [intOf]; omega
    · have hi1 : ¬ (k : Int) < (xs.length : Int) := by omega
      go_wp2_with fail
      go_ret
      obtain ⟨l, h1, h2, h3⟩ := hS.out
      exact ⟨some ⟨w.heap.size, 0, none⟩, xs.length, rfl, ⟨⟨Nat.le_refl _, by omega⟩, .inr ⟨w.heap.size, 0, rfl, Nat.le_refl _, hwz, fun j x hx => (h3 j x (by have := (List.getElem?_eq_some_iff.1 hx).1; omega) hx).mono (by omega) (Nat.le_refl _)⟩⟩, hUF.out, hB⟩

end Go.Proofs.Ytggkggaihfcjmaa
