/-
  Declarations and programs in memory.
-/
import Derived.Test.YtbfcolmglbeefaaGreatTyRule
namespace Go.Proofs.YtbfcolmglbeefaaGreat
open Go.RowKit Go.Sort
set_option linter.unusedVariables false

structure GDecl where
  name : ByteArray
  types : List (ByteArray)
def DeclAt (w : World) (lo B g o : Nat) (x : GDecl) : Prop := w.cell? ⟨g, o, none⟩ = some (.string x.name) ∧ (∃ A c, w.cell? ⟨g, o + 1, none⟩ = some (.slice A x.types.length c) ∧ StrsAt w lo B A x.types)
theorem DeclAt.same {w w' : World} {lo B g o : Nat} {x : GDecl} (h : DeclAt w lo B g o x) (hc : ∀ j, j < 2 → w'.cell? ⟨g, o + j, none⟩ = w.cell? ⟨g, o + j, none⟩) (hs : ∀ b, lo ≤ b → b < B → w'.heap[b]? = w.heap[b]?) : DeclAt w' lo B g o x := by
  obtain ⟨h0, h1⟩ := h
  exact ⟨(hc 0 (by omega)).trans h0, (by obtain ⟨A, c, a1, a2⟩ := h1; exact ⟨A, c, (hc 1 (by omega)).trans a1, a2.keep hs⟩)⟩
theorem DeclAt.mono {w : World} {lo lo' B B' g o : Nat} {x : GDecl} (h : DeclAt w lo B g o x) (hlo : lo' ≤ lo) (hB : B ≤ B') : DeclAt w lo' B' g o x := by
  obtain ⟨h0, h1⟩ := h
  exact ⟨h0, (by obtain ⟨A, c, a1, a2⟩ := h1; exact ⟨A, c, a1, a2.mono hlo hB⟩)⟩
def DeclsAt (w : World) (lo B : Nat) (A : Option Addr) (xs : List (GDecl)) : Prop := xs = [] ∨ ∃ g o, A = some ⟨g, o, none⟩ ∧ lo ≤ g ∧ g < B ∧ ∀ i x, xs[i]? = some x → DeclAt w lo B g (o + i * 2) x
theorem DeclsAt.keep {w w' : World} {lo B : Nat} {A : Option Addr} {xs : List (GDecl)} (h : DeclsAt w lo B A xs) (hs : ∀ b, lo ≤ b → b < B → w'.heap[b]? = w.heap[b]?) : DeclsAt w' lo B A xs := by
  rcases h with h | ⟨g, o, hA, h1, h2, hc⟩
  · exact .inl h
  · exact .inr ⟨g, o, hA, h1, h2, fun i x hx => (hc i x hx).same (fun j _ => World.cell?_of_block (w := w) (w' := w') (hs g h1 h2)) hs⟩
theorem DeclsAt.mono {w : World} {lo lo' B B' : Nat} {A : Option Addr} {xs : List (GDecl)} (h : DeclsAt w lo B A xs) (hlo : lo' ≤ lo) (hB : B ≤ B') : DeclsAt w lo' B' A xs := by
  rcases h with h | ⟨g, o, hA, h1, h2, hc⟩
  · exact .inl h
  · exact .inr ⟨g, o, hA, by omega, by omega, fun i x hx => (hc i x hx).mono hlo hB⟩
theorem DeclsAt.to_ {w w' : World} {lo : Nat} {A : Option Addr} {xs : List (GDecl)} (h : DeclsAt w lo w.heap.size A xs) (hb : Below w.heap.size w w') : DeclsAt w' lo w'.heap.size A xs := (h.keep (fun b _ hb' => hb.block b hb')).mono (Nat.le_refl _) hb.size
theorem DeclsAt.at_ {w : World} {lo B : Nat} {A : Option Addr} {xs : List (GDecl)} (h : DeclsAt w lo B A xs) {i : Nat} (hi : i < xs.length) : ∃ g o, A = some ⟨g, o, none⟩ ∧ lo ≤ g ∧ g < B ∧ DeclAt w lo B g (o + i * 2) xs[i] := by
  rcases h with h | ⟨g, o, hA, h1, h2, hc⟩
  · subst h; simp at hi
  · exact ⟨g, o, hA, h1, h2, hc i _ (List.getElem?_eq_getElem hi)⟩
def fitDecl (x : GDecl) : Prop := x.name.size ≤ maxLen ∧ fitStrs x.types
def costDecl (x : GDecl) : Nat := x.name.size + costStrs x.types
def fitDecls (xs : List (GDecl)) : Prop := xs.length ≤ maxLen ∧ ∀ x ∈ xs, fitDecl x
def costDecls (xs : List (GDecl)) : Nat := xs.length + sumC costDecl xs

structure GProgram where
  decls : List (GDecl)
  rules : List (GRule)
def ProgramAt (w : World) (lo B g o : Nat) (x : GProgram) : Prop := (∃ A c, w.cell? ⟨g, o, none⟩ = some (.slice A x.decls.length c) ∧ DeclsAt w lo B A x.decls) ∧ (∃ A c, w.cell? ⟨g, o + 1, none⟩ = some (.slice A x.rules.length c) ∧ RulesAt w lo B A x.rules)
theorem ProgramAt.same {w w' : World} {lo B g o : Nat} {x : GProgram} (h : ProgramAt w lo B g o x) (hc : ∀ j, j < 2 → w'.cell? ⟨g, o + j, none⟩ = w.cell? ⟨g, o + j, none⟩) (hs : ∀ b, lo ≤ b → b < B → w'.heap[b]? = w.heap[b]?) : ProgramAt w' lo B g o x := by
  obtain ⟨h0, h1⟩ := h
  exact ⟨(by obtain ⟨A, c, a1, a2⟩ := h0; exact ⟨A, c, (hc 0 (by omega)).trans a1, a2.keep hs⟩), (by obtain ⟨A, c, a1, a2⟩ := h1; exact ⟨A, c, (hc 1 (by omega)).trans a1, a2.keep hs⟩)⟩
theorem ProgramAt.mono {w : World} {lo lo' B B' g o : Nat} {x : GProgram} (h : ProgramAt w lo B g o x) (hlo : lo' ≤ lo) (hB : B ≤ B') : ProgramAt w lo' B' g o x := by
  obtain ⟨h0, h1⟩ := h
  exact ⟨(by obtain ⟨A, c, a1, a2⟩ := h0; exact ⟨A, c, a1, a2.mono hlo hB⟩), (by obtain ⟨A, c, a1, a2⟩ := h1; exact ⟨A, c, a1, a2.mono hlo hB⟩)⟩
def ProgramsAt (w : World) (lo B : Nat) (A : Option Addr) (xs : List (GProgram)) : Prop := xs = [] ∨ ∃ g o, A = some ⟨g, o, none⟩ ∧ lo ≤ g ∧ g < B ∧ ∀ i x, xs[i]? = some x → ProgramAt w lo B g (o + i * 2) x
theorem ProgramsAt.keep {w w' : World} {lo B : Nat} {A : Option Addr} {xs : List (GProgram)} (h : ProgramsAt w lo B A xs) (hs : ∀ b, lo ≤ b → b < B → w'.heap[b]? = w.heap[b]?) : ProgramsAt w' lo B A xs := by
  rcases h with h | ⟨g, o, hA, h1, h2, hc⟩
  · exact .inl h
  · exact .inr ⟨g, o, hA, h1, h2, fun i x hx => (hc i x hx).same (fun j _ => World.cell?_of_block (w := w) (w' := w') (hs g h1 h2)) hs⟩
theorem ProgramsAt.mono {w : World} {lo lo' B B' : Nat} {A : Option Addr} {xs : List (GProgram)} (h : ProgramsAt w lo B A xs) (hlo : lo' ≤ lo) (hB : B ≤ B') : ProgramsAt w lo' B' A xs := by
  rcases h with h | ⟨g, o, hA, h1, h2, hc⟩
  · exact .inl h
  · exact .inr ⟨g, o, hA, by omega, by omega, fun i x hx => (hc i x hx).mono hlo hB⟩
theorem ProgramsAt.to_ {w w' : World} {lo : Nat} {A : Option Addr} {xs : List (GProgram)} (h : ProgramsAt w lo w.heap.size A xs) (hb : Below w.heap.size w w') : ProgramsAt w' lo w'.heap.size A xs := (h.keep (fun b _ hb' => hb.block b hb')).mono (Nat.le_refl _) hb.size
theorem ProgramsAt.at_ {w : World} {lo B : Nat} {A : Option Addr} {xs : List (GProgram)} (h : ProgramsAt w lo B A xs) {i : Nat} (hi : i < xs.length) : ∃ g o, A = some ⟨g, o, none⟩ ∧ lo ≤ g ∧ g < B ∧ ProgramAt w lo B g (o + i * 2) xs[i] := by
  rcases h with h | ⟨g, o, hA, h1, h2, hc⟩
  · subst h; simp at hi
  · exact ⟨g, o, hA, h1, h2, hc i _ (List.getElem?_eq_getElem hi)⟩
def fitProgram (x : GProgram) : Prop := fitDecls x.decls ∧ fitRules x.rules
def costProgram (x : GProgram) : Nat := costDecls x.decls + costRules x.rules
def fitPrograms (xs : List (GProgram)) : Prop := xs.length ≤ maxLen ∧ ∀ x ∈ xs, fitProgram x
def costPrograms (xs : List (GProgram)) : Nat := xs.length + sumC costProgram xs

end Go.Proofs.YtbfcolmglbeefaaGreat
