/-
  Databases in memory.
-/
import Derived.Test.YtpipikjkhmhmhaaTyTab
namespace Go.Proofs.Ytpipikjkhmhmhaa
open Go.RowKit Go.Sort
set_option linter.unusedVariables false

structure GRel where
  name : ByteArray
  rows : List (List GV)
def RelAt (w : World) (lo B g o : Nat) (x : GRel) : Prop := w.cell? ⟨g, o, none⟩ = some (.string x.name) ∧ (∃ A c, (w.cell? ⟨g, o + 1, none⟩ = some (.slice A x.rows.length c) ∧ CapOk x.rows.length c) ∧ ValueSsAt w lo B A x.rows)
theorem RelAt.same {w w' : World} {lo B g o : Nat} {x : GRel} (h : RelAt w lo B g o x) (hc : ∀ j, j < 2 → w'.cell? ⟨g, o + j, none⟩ = w.cell? ⟨g, o + j, none⟩) (hs : ∀ b, lo ≤ b → b < B → w'.heap[b]? = w.heap[b]?) : RelAt w' lo B g o x := by
  obtain ⟨h0, h1⟩ := h
  exact ⟨(hc 0 (by omega)).trans h0, (by obtain ⟨A, c, a1, a2⟩ := h1; exact ⟨A, c, ⟨(hc 1 (by omega)).trans a1.1, a1.2⟩, a2.keep hs⟩)⟩
theorem RelAt.mono {w : World} {lo lo' B B' g o : Nat} {x : GRel} (h : RelAt w lo B g o x) (hlo : lo' ≤ lo) (hB : B ≤ B') : RelAt w lo' B' g o x := by
  obtain ⟨h0, h1⟩ := h
  exact ⟨h0, (by obtain ⟨A, c, a1, a2⟩ := h1; exact ⟨A, c, a1, a2.mono hlo hB⟩)⟩
def RelsAt (w : World) (lo B : Nat) (A : Option Addr) (xs : List (GRel)) : Prop := xs = [] ∨ ∃ g o, A = some ⟨g, o, none⟩ ∧ lo ≤ g ∧ g < B ∧ ∀ i x, xs[i]? = some x → RelAt w lo B g (o + i * 2) x
theorem RelsAt.keep {w w' : World} {lo B : Nat} {A : Option Addr} {xs : List (GRel)} (h : RelsAt w lo B A xs) (hs : ∀ b, lo ≤ b → b < B → w'.heap[b]? = w.heap[b]?) : RelsAt w' lo B A xs := by
  rcases h with h | ⟨g, o, hA, h1, h2, hc⟩
  · exact .inl h
  · exact .inr ⟨g, o, hA, h1, h2, fun i x hx => (hc i x hx).same (fun j _ => World.cell?_of_block (w := w) (w' := w') (hs g h1 h2)) hs⟩
theorem RelsAt.mono {w : World} {lo lo' B B' : Nat} {A : Option Addr} {xs : List (GRel)} (h : RelsAt w lo B A xs) (hlo : lo' ≤ lo) (hB : B ≤ B') : RelsAt w lo' B' A xs := by
  rcases h with h | ⟨g, o, hA, h1, h2, hc⟩
  · exact .inl h
  · exact .inr ⟨g, o, hA, by omega, by omega, fun i x hx => (hc i x hx).mono hlo hB⟩
theorem RelsAt.to_ {w w' : World} {lo : Nat} {A : Option Addr} {xs : List (GRel)} (h : RelsAt w lo w.heap.size A xs) (hb : Below w.heap.size w w') : RelsAt w' lo w'.heap.size A xs := (h.keep (fun b _ hb' => hb.block b hb')).mono (Nat.le_refl _) hb.size
theorem RelsAt.at_ {w : World} {lo B : Nat} {A : Option Addr} {xs : List (GRel)} (h : RelsAt w lo B A xs) {i : Nat} (hi : i < xs.length) : ∃ g o, A = some ⟨g, o, none⟩ ∧ lo ≤ g ∧ g < B ∧ RelAt w lo B g (o + i * 2) xs[i] := by
  rcases h with h | ⟨g, o, hA, h1, h2, hc⟩
  · subst h; simp at hi
  · exact ⟨g, o, hA, h1, h2, hc i _ (List.getElem?_eq_getElem hi)⟩
def fitRel (x : GRel) : Prop := x.name.size ≤ maxLen ∧ fitValueSs x.rows
def costRel (x : GRel) : Nat := x.name.size + costValueSs x.rows
def fitRels (xs : List (GRel)) : Prop := xs.length ≤ maxLen ∧ ∀ x ∈ xs, fitRel x
def costRels (xs : List (GRel)) : Nat := xs.length + sumC costRel xs

end Go.Proofs.Ytpipikjkhmhmhaa
