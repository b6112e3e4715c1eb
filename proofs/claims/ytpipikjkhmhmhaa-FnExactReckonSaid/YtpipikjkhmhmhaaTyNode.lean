/-
  Nodes in memory.
-/
import Derived.Test.YtpipikjkhmhmhaaTyVal
import Derived.Test.YtpipikjkhmhmhaaTyStr
namespace Go.Proofs.Ytpipikjkhmhmhaa
open Go.RowKit Go.Sort
set_option linter.unusedVariables false

structure GNode where
  k : Int
  name : ByteArray
  v : GV
  size : Int
def NodeAt (w : World) (lo B g o : Nat) (x : GNode) : Prop := w.cell? ⟨g, o, none⟩ = some (.int .i64 x.k) ∧ w.cell? ⟨g, o + 1, none⟩ = some (.string x.name) ∧ w.cell? ⟨g, o + 2, none⟩ = some (.int .i64 x.v.k) ∧ w.cell? ⟨g, o + 3, none⟩ = some (.int .i64 x.v.n) ∧ w.cell? ⟨g, o + 4, none⟩ = some (.string x.v.t) ∧ w.cell? ⟨g, o + 5, none⟩ = some (.int .i64 x.size)
theorem NodeAt.same {w w' : World} {lo B g o : Nat} {x : GNode} (h : NodeAt w lo B g o x) (hc : ∀ j, j < 6 → w'.cell? ⟨g, o + j, none⟩ = w.cell? ⟨g, o + j, none⟩) (hs : ∀ b, lo ≤ b → b < B → w'.heap[b]? = w.heap[b]?) : NodeAt w' lo B g o x := by
  obtain ⟨h0, h1, h2, h3, h4, h5⟩ := h
  exact ⟨(hc 0 (by omega)).trans h0, (hc 1 (by omega)).trans h1, (hc 2 (by omega)).trans h2, (hc 3 (by omega)).trans h3, (hc 4 (by omega)).trans h4, (hc 5 (by omega)).trans h5⟩
theorem NodeAt.mono {w : World} {lo lo' B B' g o : Nat} {x : GNode} (h : NodeAt w lo B g o x) (hlo : lo' ≤ lo) (hB : B ≤ B') : NodeAt w lo' B' g o x := by
  obtain ⟨h0, h1, h2, h3, h4, h5⟩ := h
  exact ⟨h0, h1, h2, h3, h4, h5⟩
def NodesAt (w : World) (lo B : Nat) (A : Option Addr) (xs : List (GNode)) : Prop := xs = [] ∨ ∃ g o, A = some ⟨g, o, none⟩ ∧ lo ≤ g ∧ g < B ∧ ∀ i x, xs[i]? = some x → NodeAt w lo B g (o + i * 6) x
theorem NodesAt.keep {w w' : World} {lo B : Nat} {A : Option Addr} {xs : List (GNode)} (h : NodesAt w lo B A xs) (hs : ∀ b, lo ≤ b → b < B → w'.heap[b]? = w.heap[b]?) : NodesAt w' lo B A xs := by
  rcases h with h | ⟨g, o, hA, h1, h2, hc⟩
  · exact .inl h
  · exact .inr ⟨g, o, hA, h1, h2, fun i x hx => (hc i x hx).same (fun j _ => World.cell?_of_block (w := w) (w' := w') (hs g h1 h2)) hs⟩
theorem NodesAt.mono {w : World} {lo lo' B B' : Nat} {A : Option Addr} {xs : List (GNode)} (h : NodesAt w lo B A xs) (hlo : lo' ≤ lo) (hB : B ≤ B') : NodesAt w lo' B' A xs := by
  rcases h with h | ⟨g, o, hA, h1, h2, hc⟩
  · exact .inl h
  · exact .inr ⟨g, o, hA, by omega, by omega, fun i x hx => (hc i x hx).mono hlo hB⟩
theorem NodesAt.to_ {w w' : World} {lo : Nat} {A : Option Addr} {xs : List (GNode)} (h : NodesAt w lo w.heap.size A xs) (hb : Below w.heap.size w w') : NodesAt w' lo w'.heap.size A xs := (h.keep (fun b _ hb' => hb.block b hb')).mono (Nat.le_refl _) hb.size
theorem NodesAt.at_ {w : World} {lo B : Nat} {A : Option Addr} {xs : List (GNode)} (h : NodesAt w lo B A xs) {i : Nat} (hi : i < xs.length) : ∃ g o, A = some ⟨g, o, none⟩ ∧ lo ≤ g ∧ g < B ∧ NodeAt w lo B g (o + i * 6) xs[i] := by
  rcases h with h | ⟨g, o, hA, h1, h2, hc⟩
  · subst h; simp at hi
  · exact ⟨g, o, hA, h1, h2, hc i _ (List.getElem?_eq_getElem hi)⟩
def fitNode (x : GNode) : Prop := (Lit.int .i64 x.k).wf = true ∧ x.name.size ≤ maxLen ∧ (Lit.int .i64 x.v.k).wf = true ∧ (Lit.int .i64 x.v.n).wf = true ∧ x.v.t.size ≤ maxLen ∧ (Lit.int .i64 x.size).wf = true
def costNode (x : GNode) : Nat := x.name.size + costValue x.v
def fitNodes (xs : List (GNode)) : Prop := xs.length ≤ maxLen ∧ ∀ x ∈ xs, fitNode x
def costNodes (xs : List (GNode)) : Nat := xs.length + sumC costNode xs

def NodeSAt (w : World) (lo B g o : Nat) (x : List GNode) : Prop := ∃ A c, (w.cell? ⟨g, o, none⟩ = some (.slice A x.length c) ∧ CapOk x.length c) ∧ NodesAt w lo B A x
theorem NodeSAt.same {w w' : World} {lo B g o : Nat} {x : List GNode} (h : NodeSAt w lo B g o x) (hc : ∀ j, j < 1 → w'.cell? ⟨g, o + j, none⟩ = w.cell? ⟨g, o + j, none⟩) (hs : ∀ b, lo ≤ b → b < B → w'.heap[b]? = w.heap[b]?) : NodeSAt w' lo B g o x := by
  have h0 := h
  exact (by obtain ⟨A, c, a1, a2⟩ := h0; exact ⟨A, c, ⟨(hc 0 (by omega)).trans a1.1, a1.2⟩, a2.keep hs⟩)
theorem NodeSAt.mono {w : World} {lo lo' B B' g o : Nat} {x : List GNode} (h : NodeSAt w lo B g o x) (hlo : lo' ≤ lo) (hB : B ≤ B') : NodeSAt w lo' B' g o x := by
  have h0 := h
  exact (by obtain ⟨A, c, a1, a2⟩ := h0; exact ⟨A, c, a1, a2.mono hlo hB⟩)
def NodeSsAt (w : World) (lo B : Nat) (A : Option Addr) (xs : List (List GNode)) : Prop := xs = [] ∨ ∃ g o, A = some ⟨g, o, none⟩ ∧ lo ≤ g ∧ g < B ∧ ∀ i x, xs[i]? = some x → NodeSAt w lo B g (o + i) x
theorem NodeSsAt.keep {w w' : World} {lo B : Nat} {A : Option Addr} {xs : List (List GNode)} (h : NodeSsAt w lo B A xs) (hs : ∀ b, lo ≤ b → b < B → w'.heap[b]? = w.heap[b]?) : NodeSsAt w' lo B A xs := by
  rcases h with h | ⟨g, o, hA, h1, h2, hc⟩
  · exact .inl h
  · exact .inr ⟨g, o, hA, h1, h2, fun i x hx => (hc i x hx).same (fun j _ => World.cell?_of_block (w := w) (w' := w') (hs g h1 h2)) hs⟩
theorem NodeSsAt.mono {w : World} {lo lo' B B' : Nat} {A : Option Addr} {xs : List (List GNode)} (h : NodeSsAt w lo B A xs) (hlo : lo' ≤ lo) (hB : B ≤ B') : NodeSsAt w lo' B' A xs := by
  rcases h with h | ⟨g, o, hA, h1, h2, hc⟩
  · exact .inl h
  · exact .inr ⟨g, o, hA, by omega, by omega, fun i x hx => (hc i x hx).mono hlo hB⟩
theorem NodeSsAt.to_ {w w' : World} {lo : Nat} {A : Option Addr} {xs : List (List GNode)} (h : NodeSsAt w lo w.heap.size A xs) (hb : Below w.heap.size w w') : NodeSsAt w' lo w'.heap.size A xs := (h.keep (fun b _ hb' => hb.block b hb')).mono (Nat.le_refl _) hb.size
theorem NodeSsAt.at_ {w : World} {lo B : Nat} {A : Option Addr} {xs : List (List GNode)} (h : NodeSsAt w lo B A xs) {i : Nat} (hi : i < xs.length) : ∃ g o, A = some ⟨g, o, none⟩ ∧ lo ≤ g ∧ g < B ∧ NodeSAt w lo B g (o + i) xs[i] := by
  rcases h with h | ⟨g, o, hA, h1, h2, hc⟩
  · subst h; simp at hi
  · exact ⟨g, o, hA, h1, h2, hc i _ (List.getElem?_eq_getElem hi)⟩
def fitNodeS (x : List GNode) : Prop := fitNodes x
def costNodeS (x : List GNode) : Nat := costNodes x
def fitNodeSs (xs : List (List GNode)) : Prop := xs.length ≤ maxLen ∧ ∀ x ∈ xs, fitNodeS x
def costNodeSs (xs : List (List GNode)) : Nat := xs.length + sumC costNodeS xs

end Go.Proofs.Ytpipikjkhmhmhaa
