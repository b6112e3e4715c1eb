/-
  Values in memory.
-/
import Derived.Test.YtpipikjkhmhmhaaTy
namespace Go.Proofs.Ytpipikjkhmhmhaa
open Go.RowKit Go.Sort
set_option linter.unusedVariables false

def ValueAt (w : World) (lo B g o : Nat) (x : GV) : Prop := w.cell? ⟨g, o, none⟩ = some (.int .i64 x.k) ∧ w.cell? ⟨g, o + 1, none⟩ = some (.int .i64 x.n) ∧ w.cell? ⟨g, o + 2, none⟩ = some (.string x.t)
theorem ValueAt.same {w w' : World} {lo B g o : Nat} {x : GV} (h : ValueAt w lo B g o x) (hc : ∀ j, j < 3 → w'.cell? ⟨g, o + j, none⟩ = w.cell? ⟨g, o + j, none⟩) (hs : ∀ b, lo ≤ b → b < B → w'.heap[b]? = w.heap[b]?) : ValueAt w' lo B g o x := by
  obtain ⟨h0, h1, h2⟩ := h
  exact ⟨(hc 0 (by omega)).trans h0, (hc 1 (by omega)).trans h1, (hc 2 (by omega)).trans h2⟩
theorem ValueAt.mono {w : World} {lo lo' B B' g o : Nat} {x : GV} (h : ValueAt w lo B g o x) (hlo : lo' ≤ lo) (hB : B ≤ B') : ValueAt w lo' B' g o x := by
  obtain ⟨h0, h1, h2⟩ := h
  exact ⟨h0, h1, h2⟩
def ValuesAt (w : World) (lo B : Nat) (A : Option Addr) (xs : List (GV)) : Prop := xs = [] ∨ ∃ g o, A = some ⟨g, o, none⟩ ∧ lo ≤ g ∧ g < B ∧ ∀ i x, xs[i]? = some x → ValueAt w lo B g (o + i * 3) x
theorem ValuesAt.keep {w w' : World} {lo B : Nat} {A : Option Addr} {xs : List (GV)} (h : ValuesAt w lo B A xs) (hs : ∀ b, lo ≤ b → b < B → w'.heap[b]? = w.heap[b]?) : ValuesAt w' lo B A xs := by
  rcases h with h | ⟨g, o, hA, h1, h2, hc⟩
  · exact .inl h
  · exact .inr ⟨g, o, hA, h1, h2, fun i x hx => (hc i x hx).same (fun j _ => World.cell?_of_block (w := w) (w' := w') (hs g h1 h2)) hs⟩
theorem ValuesAt.mono {w : World} {lo lo' B B' : Nat} {A : Option Addr} {xs : List (GV)} (h : ValuesAt w lo B A xs) (hlo : lo' ≤ lo) (hB : B ≤ B') : ValuesAt w lo' B' A xs := by
  rcases h with h | ⟨g, o, hA, h1, h2, hc⟩
  · exact .inl h
  · exact .inr ⟨g, o, hA, by omega, by omega, fun i x hx => (hc i x hx).mono hlo hB⟩
theorem ValuesAt.to_ {w w' : World} {lo : Nat} {A : Option Addr} {xs : List (GV)} (h : ValuesAt w lo w.heap.size A xs) (hb : Below w.heap.size w w') : ValuesAt w' lo w'.heap.size A xs := (h.keep (fun b _ hb' => hb.block b hb')).mono (Nat.le_refl _) hb.size
theorem ValuesAt.at_ {w : World} {lo B : Nat} {A : Option Addr} {xs : List (GV)} (h : ValuesAt w lo B A xs) {i : Nat} (hi : i < xs.length) : ∃ g o, A = some ⟨g, o, none⟩ ∧ lo ≤ g ∧ g < B ∧ ValueAt w lo B g (o + i * 3) xs[i] := by
  rcases h with h | ⟨g, o, hA, h1, h2, hc⟩
  · subst h; simp at hi
  · exact ⟨g, o, hA, h1, h2, hc i _ (List.getElem?_eq_getElem hi)⟩
def fitValue (x : GV) : Prop := (Lit.int .i64 x.k).wf = true ∧ (Lit.int .i64 x.n).wf = true ∧ x.t.size ≤ maxLen
def costValue (x : GV) : Nat := x.t.size
def fitValues (xs : List (GV)) : Prop := xs.length ≤ maxLen ∧ ∀ x ∈ xs, fitValue x
def costValues (xs : List (GV)) : Nat := xs.length + sumC costValue xs

end Go.Proofs.Ytpipikjkhmhmhaa
