/-
  Tables in memory.
-/
import Derived.Test.YtpipikjkhmhmhaaTyVal
namespace Go.Proofs.Ytpipikjkhmhmhaa
open Go.RowKit Go.Sort
set_option linter.unusedVariables false

def ValueSAt (w : World) (lo B g o : Nat) (x : List GV) : Prop := ∃ A c, (w.cell? ⟨g, o, none⟩ = some (.slice A x.length c) ∧ CapOk x.length c) ∧ ValuesAt w lo B A x
theorem ValueSAt.same {w w' : World} {lo B g o : Nat} {x : List GV} (h : ValueSAt w lo B g o x) (hc : ∀ j, j < 1 → w'.cell? ⟨g, o + j, none⟩ = w.cell? ⟨g, o + j, none⟩) (hs : ∀ b, lo ≤ b → b < B → w'.heap[b]? = w.heap[b]?) : ValueSAt w' lo B g o x := by
  have h0 := h
  exact (by obtain ⟨A, c, a1, a2⟩ := h0; exact ⟨A, c, ⟨(hc 0 (by omega)).trans a1.1, a1.2⟩, a2.keep hs⟩)
theorem ValueSAt.mono {w : World} {lo lo' B B' g o : Nat} {x : List GV} (h : ValueSAt w lo B g o x) (hlo : lo' ≤ lo) (hB : B ≤ B') : ValueSAt w lo' B' g o x := by
  have h0 := h
  exact (by obtain ⟨A, c, a1, a2⟩ := h0; exact ⟨A, c, a1, a2.mono hlo hB⟩)
def ValueSsAt (w : World) (lo B : Nat) (A : Option Addr) (xs : List (List GV)) : Prop := xs = [] ∨ ∃ g o, A = some ⟨g, o, none⟩ ∧ lo ≤ g ∧ g < B ∧ ∀ i x, xs[i]? = some x → ValueSAt w lo B g (o + i) x
theorem ValueSsAt.keep {w w' : World} {lo B : Nat} {A : Option Addr} {xs : List (List GV)} (h : ValueSsAt w lo B A xs) (hs : ∀ b, lo ≤ b → b < B → w'.heap[b]? = w.heap[b]?) : ValueSsAt w' lo B A xs := by
  rcases h with h | ⟨g, o, hA, h1, h2, hc⟩
  · exact .inl h
  · exact .inr ⟨g, o, hA, h1, h2, fun i x hx => (hc i x hx).same (fun j _ => World.cell?_of_block (w := w) (w' := w') (hs g h1 h2)) hs⟩
theorem ValueSsAt.mono {w : World} {lo lo' B B' : Nat} {A : Option Addr} {xs : List (List GV)} (h : ValueSsAt w lo B A xs) (hlo : lo' ≤ lo) (hB : B ≤ B') : ValueSsAt w lo' B' A xs := by
  rcases h with h | ⟨g, o, hA, h1, h2, hc⟩
  · exact .inl h
  · exact .inr ⟨g, o, hA, by omega, by omega, fun i x hx => (hc i x hx).mono hlo hB⟩
theorem ValueSsAt.to_ {w w' : World} {lo : Nat} {A : Option Addr} {xs : List (List GV)} (h : ValueSsAt w lo w.heap.size A xs) (hb : Below w.heap.size w w') : ValueSsAt w' lo w'.heap.size A xs := (h.keep (fun b _ hb' => hb.block b hb')).mono (Nat.le_refl _) hb.size
theorem ValueSsAt.at_ {w : World} {lo B : Nat} {A : Option Addr} {xs : List (List GV)} (h : ValueSsAt w lo B A xs) {i : Nat} (hi : i < xs.length) : ∃ g o, A = some ⟨g, o, none⟩ ∧ lo ≤ g ∧ g < B ∧ ValueSAt w lo B g (o + i) xs[i] := by
  rcases h with h | ⟨g, o, hA, h1, h2, hc⟩
  · subst h; simp at hi
  · exact ⟨g, o, hA, h1, h2, hc i _ (List.getElem?_eq_getElem hi)⟩
def fitValueS (x : List GV) : Prop := fitValues x
def costValueS (x : List GV) : Nat := costValues x
def fitValueSs (xs : List (List GV)) : Prop := xs.length ≤ maxLen ∧ ∀ x ∈ xs, fitValueS x
def costValueSs (xs : List (List GV)) : Nat := xs.length + sumC costValueS xs

end Go.Proofs.Ytpipikjkhmhmhaa
