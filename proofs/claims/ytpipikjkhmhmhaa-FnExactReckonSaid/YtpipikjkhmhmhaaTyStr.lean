/-
  Texts in memory.
-/
import Derived.Test.YtpipikjkhmhmhaaTy
namespace Go.Proofs.Ytpipikjkhmhmhaa
open Go.RowKit Go.Sort
set_option linter.unusedVariables false

def StrAt (w : World) (lo B g o : Nat) (x : ByteArray) : Prop := w.cell? ⟨g, o, none⟩ = some (.string x)
theorem StrAt.same {w w' : World} {lo B g o : Nat} {x : ByteArray} (h : StrAt w lo B g o x) (hc : ∀ j, j < 1 → w'.cell? ⟨g, o + j, none⟩ = w.cell? ⟨g, o + j, none⟩) (hs : ∀ b, lo ≤ b → b < B → w'.heap[b]? = w.heap[b]?) : StrAt w' lo B g o x := by
  have h0 := h
  exact (hc 0 (by omega)).trans h0
theorem StrAt.mono {w : World} {lo lo' B B' g o : Nat} {x : ByteArray} (h : StrAt w lo B g o x) (hlo : lo' ≤ lo) (hB : B ≤ B') : StrAt w lo' B' g o x := by
  have h0 := h
  exact h0
def StrsAt (w : World) (lo B : Nat) (A : Option Addr) (xs : List (ByteArray)) : Prop := xs = [] ∨ ∃ g o, A = some ⟨g, o, none⟩ ∧ lo ≤ g ∧ g < B ∧ ∀ i x, xs[i]? = some x → StrAt w lo B g (o + i) x
theorem StrsAt.keep {w w' : World} {lo B : Nat} {A : Option Addr} {xs : List (ByteArray)} (h : StrsAt w lo B A xs) (hs : ∀ b, lo ≤ b → b < B → w'.heap[b]? = w.heap[b]?) : StrsAt w' lo B A xs := by
  rcases h with h | ⟨g, o, hA, h1, h2, hc⟩
  · exact .inl h
  · exact .inr ⟨g, o, hA, h1, h2, fun i x hx => (hc i x hx).same (fun j _ => World.cell?_of_block (w := w) (w' := w') (hs g h1 h2)) hs⟩
theorem StrsAt.mono {w : World} {lo lo' B B' : Nat} {A : Option Addr} {xs : List (ByteArray)} (h : StrsAt w lo B A xs) (hlo : lo' ≤ lo) (hB : B ≤ B') : StrsAt w lo' B' A xs := by
  rcases h with h | ⟨g, o, hA, h1, h2, hc⟩
  · exact .inl h
  · exact .inr ⟨g, o, hA, by omega, by omega, fun i x hx => (hc i x hx).mono hlo hB⟩
theorem StrsAt.to_ {w w' : World} {lo : Nat} {A : Option Addr} {xs : List (ByteArray)} (h : StrsAt w lo w.heap.size A xs) (hb : Below w.heap.size w w') : StrsAt w' lo w'.heap.size A xs := (h.keep (fun b _ hb' => hb.block b hb')).mono (Nat.le_refl _) hb.size
theorem StrsAt.at_ {w : World} {lo B : Nat} {A : Option Addr} {xs : List (ByteArray)} (h : StrsAt w lo B A xs) {i : Nat} (hi : i < xs.length) : ∃ g o, A = some ⟨g, o, none⟩ ∧ lo ≤ g ∧ g < B ∧ StrAt w lo B g (o + i) xs[i] := by
  rcases h with h | ⟨g, o, hA, h1, h2, hc⟩
  · subst h; simp at hi
  · exact ⟨g, o, hA, h1, h2, hc i _ (List.getElem?_eq_getElem hi)⟩
def fitStr (x : ByteArray) : Prop := x.size ≤ maxLen
def costStr (x : ByteArray) : Nat := x.size
def fitStrs (xs : List (ByteArray)) : Prop := xs.length ≤ maxLen ∧ ∀ x ∈ xs, fitStr x
def costStrs (xs : List (ByteArray)) : Nat := xs.length + sumC costStr xs

end Go.Proofs.Ytpipikjkhmhmhaa
