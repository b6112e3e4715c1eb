/-
  Tables in memory. How the laws measure tables.
-/
import Derived.Test.YtggkggaihfcjmaaTyDiffZ
import Derived.Test.YtggkggaihfcjmaaToValZ
namespace Go.Proofs.Ytggkggaihfcjmaa
open Go.RowKit Go.Sort
set_option linter.unusedVariables false

def ValueSAt (w : World) (lo B g o : Nat) (x : List GV) : Prop := ∃ A c, (w.cell? ⟨g, o, none⟩ = some (.slice A x.length c) ∧ CapOk x.length c) ∧ ValuesAt w lo B A x
theorem ValueSAt.same {w w' : World} {lo B g o : Nat} {x : List GV} (h : ValueSAt w lo B g o x) (hc : ∀ j, j < 1 → w'.cell? ⟨g, o + j, none⟩ = w.cell? ⟨g, o + j, none⟩) (hs : ∀ b, lo ≤ b → b < B → w'.heap[b]? = w.heap[b]?) : ValueSAt w' lo B g o x := by
  have h0 := h
  exact (by obtain ⟨A, c, a1, a2⟩ := h0; exact ⟨A, c, ⟨(hc 0 (by omega)).trans a1.1, a1.2⟩, a2.keep hs⟩)
theorem ValueSAt.mono {w : World} {lo lo' B B' g o : Nat} {x : List GV} (h : ValueSAt w lo B g o x) (hlo : lo' ≤ lo) (hB : B ≤ B') : ValueSAt w lo' B' g o x := by
  have h0 := h
  exact (by obtain ⟨A, c, a1, a2⟩ := h0; exact ⟨A, c, a1, a2.mono hlo hB⟩)
def ValueSsAt (w : World) (lo B : Nat) (A : Option Addr) (xs : List (List GV)) : Prop := xs = [] ∨ ∃ g o, A = some ⟨g, o, none⟩ ∧ lo ≤ g ∧ g < B ∧ ∀ i x, xs[i]? = some x → ValueSAt w lo B g (o + i) x
theorem ValueSsAt.keep {w w' : World} {lo B : Nat} {A : Option Addr} {xs : List (List GV)} (h : ValueSsAt w lo B A xs) (hs : ∀ b, lo ≤ b → b < B → w'.heap[b]? = w.heap[b]?) : ValueSsAt w' lo B A xs := by
  rcases h with h | ⟨g, o, hA, h1, h2, hc⟩
  · exact .inl h
  · exact .inr ⟨g, o, hA, h1, h2, fun i x hx => (hc i x hx).same (fun j _ => World.cell?_of_block (w := w) (w' := w') (hs g h1 h2)) hs⟩
theorem ValueSsAt.mono {w : World} {lo lo' B B' : Nat} {A : Option Addr} {xs : List (List GV)} (h : ValueSsAt w lo B A xs) (hlo : lo' ≤ lo) (hB : B ≤ B') : ValueSsAt w lo' B' A xs := by
  rcases h with h | ⟨g, o, hA, h1, h2, hc⟩
  · exact .inl h
  · exact .inr ⟨g, o, hA, by omega, by omega, fun i x hx => (hc i x hx).mono hlo hB⟩
theorem ValueSsAt.to_ {w w' : World} {lo : Nat} {A : Option Addr} {xs : List (List GV)} (h : ValueSsAt w lo w.heap.size A xs) (hb : Below w.heap.size w w') : ValueSsAt w' lo w'.heap.size A xs := (h.keep (fun b _ hb' => hb.block b hb')).mono (Nat.le_refl _) hb.size
theorem ValueSsAt.at_ {w : World} {lo B : Nat} {A : Option Addr} {xs : List (List GV)} (h : ValueSsAt w lo B A xs) {i : Nat} (hi : i < xs.length) : ∃ g o, A = some ⟨g, o, none⟩ ∧ lo ≤ g ∧ g < B ∧ ValueSAt w lo B g (o + i) xs[i] := by
  rcases h with h | ⟨g, o, hA, h1, h2, hc⟩
  · subst h; simp at hi
  · exact ⟨g, o, hA, h1, h2, hc i _ (List.getElem?_eq_getElem hi)⟩
def fitValueS (x : List GV) : Prop := fitValues x
def costValueS (x : List GV) : Nat := costValues x
def fitValueSs (xs : List (List GV)) : Prop := xs.length ≤ maxLen ∧ ∀ x ∈ xs, fitValueS x
def costValueSs (xs : List (List GV)) : Nat := xs.length + sumC costValueS xs

end Go.Proofs.Ytggkggaihfcjmaa
namespace Go.Proofs.Ytggkggaihfcjmaa
open Go.RowKit Go.Sort
set_option linter.unusedVariables false

set_option maxHeartbeats 1600000 in
theorem sz_ValueSs {lo : Nat} (A : Option Addr) (c : Nat) (xs : List (List GV)) (left : Int) (w : World) (hf : fitValueSs xs) (hr : ValueSsAt w lo w.heap.size A xs) (h0 : 0 ≤ left) (h1 : left ≤ 1048576) :
    Calls Try.prog 18 #[.slice A xs.length c, .int .i64 left] w fun e w' => e = .returned (.int .i64 (szC (costValueSs xs) left)) ∧ Below w.heap.size w w' := by
  have hl : xs.length ≤ 9223372036854775807 := by have h := hf.1; unfold maxLen at h; exact h
  have FX := Lib.hid hf.2
  clear hf
  have hct := Lib.hid (show costValueSs xs = xs.length + sumC costValueS xs from rfl)
  have HR := Lib.hid hr
  clear hr
  by_cases hlen : left - xs.length < 0
  · have H := Lib.hid (show szC (costValueSs xs) left = -1 by rw [hct.out]; unfold szC; rw [if_pos (by omega)])
    go_enter Try.func18, Try.ntmps18
    go_wp2_with fail
    go_ret
    exact ⟨ret_int (by rw [H.out]), Below.refl _ _⟩
  go_enter Try.func18, Try.ntmps18
  go_wp2_with fail
  go_loopw [1, 5] (fun l i w' => ∃ k : Nat, k ≤ xs.length ∧ i = .int .i64 k ∧ l = .int .i64 (left - xs.length - (sumC costValueS (xs.take k) : Nat)) ∧ 0 ≤ left - xs.length - (sumC costValueS (xs.take k) : Nat) ∧ Below w.heap.size w w') (fun _ i _ => xs.length - (intOf i).toNat)
  case atStart => exact ⟨0, Nat.zero_le _, rfl, by simp [sumC], by simp [sumC]; omega, Below.refl _ _⟩
  case round =>
    obtain ⟨k, hk, rfl, rfl, hp, hB⟩ := hrel
    by_cases hlt : k < xs.length
    · obtain ⟨g, o, rfl, hg0, hg, he⟩ := (HR.out.to_ hB).at_ hlt
      have hst := Lib.hid (sumC_take costValueS xs k hlt)
      have htot := sumC_le costValueS xs (k + 1)
      have hm := FX.out _ (List.getElem_mem hlt)
      have hi1 : (k : Int) < (xs.length : Int) := by omega
      have hi0 : (0 : Int) ≤ (k : Int) := by omega
      obtain ⟨A0, c0, ⟨h0y, q0⟩, s0⟩ := he
      go_wp2_with fail
      refine (sz_Values A0 c0 xs[k] _ _ hm s0 hp (by omega)).mono ?_
      rintro e w2 ⟨rfl, hb2⟩
      have hB2 := below_next hB hb2 rfl rfl
      clear h0y
      have hce : costValueS xs[k] = costValues xs[k] := rfl
      by_cases hneg : left - xs.length - (sumC costValueS (xs.take k) : Nat) - (costValues xs[k] : Nat) < 0
      · have hs : szC (costValues xs[k]) (left - xs.length - (sumC costValueS (xs.take k) : Nat)) = -1 := by unfold szC; rw [if_pos hneg]
        have H := Lib.hid (show szC (costValueSs xs) left = -1 by have := hst.out; rw [hct.out]; unfold szC; rw [if_pos (by omega)])
        rw [hs]
        clear hs hce
        go_wp2_with fail
        go_ret
        exact ⟨ret_int (by rw [H.out]), hB2⟩
      · have hs : szC (costValues xs[k]) (left - xs.length - (sumC costValueS (xs.take k) : Nat)) = left - xs.length - (sumC costValueS (xs.take (k + 1)) : Nat) := by have := hst.out; unfold szC; rw [if_neg hneg]; omega
        have hp2 : 0 ≤ left - xs.length - (sumC costValueS (xs.take (k + 1)) : Nat) := by have := hst.out; omega
        rw [hs]
        clear hs hce
        go_wp2_with fail
        go_roundw
        case rel => exact ⟨k + 1, by omega, by go_num, rfl, hp2, hB2⟩
        case measure => simp [intOf]; omega
    · have H := Lib.hid (show szC (costValueSs xs) left = left - xs.length - (sumC costValueS (xs.take k) : Nat) by
        rw [List.take_of_length_le (by omega)] at hp ⊢
        rw [hct.out]; unfold szC; rw [if_neg (by omega)]; omega)
      have hi1 : ¬ (k : Int) < (xs.length : Int) := by omega
      go_wp2_with fail
      go_ret
      exact ⟨ret_int (by rw [H.out]), hB⟩

end Go.Proofs.Ytggkggaihfcjmaa
