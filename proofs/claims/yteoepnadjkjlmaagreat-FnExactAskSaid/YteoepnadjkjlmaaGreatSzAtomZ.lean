/-
  Atoms, literals and rules in memory. How the laws measure atoms (cut from XSzRule).
-/
import Derived.Test.YteoepnadjkjlmaaGreatSzNodesZ
namespace Go.Proofs.YteoepnadjkjlmaaGreat
open Go.RowKit Go.Sort
set_option linter.unusedVariables false

structure GAtom where
  name : ByteArray
  args : List (List GNode)
def AtomAt (w : World) (lo B g o : Nat) (x : GAtom) : Prop := w.cell? ⟨g, o, none⟩ = some (.string x.name) ∧ (∃ A c, w.cell? ⟨g, o + 1, none⟩ = some (.slice A x.args.length c) ∧ NodeSsAt w lo B A x.args)
theorem AtomAt.same {w w' : World} {lo B g o : Nat} {x : GAtom} (h : AtomAt w lo B g o x) (hc : ∀ j, j < 2 → w'.cell? ⟨g, o + j, none⟩ = w.cell? ⟨g, o + j, none⟩) (hs : ∀ b, lo ≤ b → b < B → w'.heap[b]? = w.heap[b]?) : AtomAt w' lo B g o x := by
  obtain ⟨h0, h1⟩ := h
  exact ⟨(hc 0 (by omega)).trans h0, (by obtain ⟨A, c, a1, a2⟩ := h1; exact ⟨A, c, (hc 1 (by omega)).trans a1, a2.keep hs⟩)⟩
theorem AtomAt.mono {w : World} {lo lo' B B' g o : Nat} {x : GAtom} (h : AtomAt w lo B g o x) (hlo : lo' ≤ lo) (hB : B ≤ B') : AtomAt w lo' B' g o x := by
  obtain ⟨h0, h1⟩ := h
  exact ⟨h0, (by obtain ⟨A, c, a1, a2⟩ := h1; exact ⟨A, c, a1, a2.mono hlo hB⟩)⟩
def AtomsAt (w : World) (lo B : Nat) (A : Option Addr) (xs : List (GAtom)) : Prop := xs = [] ∨ ∃ g o, A = some ⟨g, o, none⟩ ∧ lo ≤ g ∧ g < B ∧ ∀ i x, xs[i]? = some x → AtomAt w lo B g (o + i * 2) x
theorem AtomsAt.keep {w w' : World} {lo B : Nat} {A : Option Addr} {xs : List (GAtom)} (h : AtomsAt w lo B A xs) (hs : ∀ b, lo ≤ b → b < B → w'.heap[b]? = w.heap[b]?) : AtomsAt w' lo B A xs := by
  rcases h with h | ⟨g, o, hA, h1, h2, hc⟩
  · exact .inl h
  · exact .inr ⟨g, o, hA, h1, h2, fun i x hx => (hc i x hx).same (fun j _ => World.cell?_of_block (w := w) (w' := w') (hs g h1 h2)) hs⟩
theorem AtomsAt.mono {w : World} {lo lo' B B' : Nat} {A : Option Addr} {xs : List (GAtom)} (h : AtomsAt w lo B A xs) (hlo : lo' ≤ lo) (hB : B ≤ B') : AtomsAt w lo' B' A xs := by
  rcases h with h | ⟨g, o, hA, h1, h2, hc⟩
  · exact .inl h
  · exact .inr ⟨g, o, hA, by omega, by omega, fun i x hx => (hc i x hx).mono hlo hB⟩
theorem AtomsAt.to_ {w w' : World} {lo : Nat} {A : Option Addr} {xs : List (GAtom)} (h : AtomsAt w lo w.heap.size A xs) (hb : Below w.heap.size w w') : AtomsAt w' lo w'.heap.size A xs := (h.keep (fun b _ hb' => hb.block b hb')).mono (Nat.le_refl _) hb.size
theorem AtomsAt.at_ {w : World} {lo B : Nat} {A : Option Addr} {xs : List (GAtom)} (h : AtomsAt w lo B A xs) {i : Nat} (hi : i < xs.length) : ∃ g o, A = some ⟨g, o, none⟩ ∧ lo ≤ g ∧ g < B ∧ AtomAt w lo B g (o + i * 2) xs[i] := by
  rcases h with h | ⟨g, o, hA, h1, h2, hc⟩
  · subst h; simp at hi
  · exact ⟨g, o, hA, h1, h2, hc i _ (List.getElem?_eq_getElem hi)⟩
def fitAtom (x : GAtom) : Prop := x.name.size ≤ maxLen ∧ fitNodeSs x.args
def costAtom (x : GAtom) : Nat := x.name.size + costNodeSs x.args
def fitAtoms (xs : List (GAtom)) : Prop := xs.length ≤ maxLen ∧ ∀ x ∈ xs, fitAtom x
def costAtoms (xs : List (GAtom)) : Nat := xs.length + sumC costAtom xs

structure GLit where
  k : Int
  atom : GAtom
  op : ByteArray
  left : List (GNode)
  right : List (GNode)
def LitAt (w : World) (lo B g o : Nat) (x : GLit) : Prop := w.cell? ⟨g, o, none⟩ = some (.int .i64 x.k) ∧ w.cell? ⟨g, o + 1, none⟩ = some (.string x.atom.name) ∧ (∃ A c, w.cell? ⟨g, o + 2, none⟩ = some (.slice A x.atom.args.length c) ∧ NodeSsAt w lo B A x.atom.args) ∧ w.cell? ⟨g, o + 3, none⟩ = some (.string x.op) ∧ (∃ A c, (w.cell? ⟨g, o + 4, none⟩ = some (.slice A x.left.length c) ∧ CapOk x.left.length c) ∧ NodesAt w lo B A x.left) ∧ (∃ A c, (w.cell? ⟨g, o + 5, none⟩ = some (.slice A x.right.length c) ∧ CapOk x.right.length c) ∧ NodesAt w lo B A x.right)
theorem LitAt.same {w w' : World} {lo B g o : Nat} {x : GLit} (h : LitAt w lo B g o x) (hc : ∀ j, j < 6 → w'.cell? ⟨g, o + j, none⟩ = w.cell? ⟨g, o + j, none⟩) (hs : ∀ b, lo ≤ b → b < B → w'.heap[b]? = w.heap[b]?) : LitAt w' lo B g o x := by
  obtain ⟨h0, h1, h2, h3, h4, h5⟩ := h
  exact ⟨(hc 0 (by omega)).trans h0, (hc 1 (by omega)).trans h1, (by obtain ⟨A, c, a1, a2⟩ := h2; exact ⟨A, c, (hc 2 (by omega)).trans a1, a2.keep hs⟩), (hc 3 (by omega)).trans h3, (by obtain ⟨A, c, a1, a2⟩ := h4; exact ⟨A, c, ⟨(hc 4 (by omega)).trans a1.1, a1.2⟩, a2.keep hs⟩), (by obtain ⟨A, c, a1, a2⟩ := h5; exact ⟨A, c, ⟨(hc 5 (by omega)).trans a1.1, a1.2⟩, a2.keep hs⟩)⟩
theorem LitAt.mono {w : World} {lo lo' B B' g o : Nat} {x : GLit} (h : LitAt w lo B g o x) (hlo : lo' ≤ lo) (hB : B ≤ B') : LitAt w lo' B' g o x := by
  obtain ⟨h0, h1, h2, h3, h4, h5⟩ := h
  exact ⟨h0, h1, (by obtain ⟨A, c, a1, a2⟩ := h2; exact ⟨A, c, a1, a2.mono hlo hB⟩), h3, (by obtain ⟨A, c, a1, a2⟩ := h4; exact ⟨A, c, a1, a2.mono hlo hB⟩), (by obtain ⟨A, c, a1, a2⟩ := h5; exact ⟨A, c, a1, a2.mono hlo hB⟩)⟩
def LitsAt (w : World) (lo B : Nat) (A : Option Addr) (xs : List (GLit)) : Prop := xs = [] ∨ ∃ g o, A = some ⟨g, o, none⟩ ∧ lo ≤ g ∧ g < B ∧ ∀ i x, xs[i]? = some x → LitAt w lo B g (o + i * 6) x
theorem LitsAt.keep {w w' : World} {lo B : Nat} {A : Option Addr} {xs : List (GLit)} (h : LitsAt w lo B A xs) (hs : ∀ b, lo ≤ b → b < B → w'.heap[b]? = w.heap[b]?) : LitsAt w' lo B A xs := by
  rcases h with h | ⟨g, o, hA, h1, h2, hc⟩
  · exact .inl h
  · exact .inr ⟨g, o, hA, h1, h2, fun i x hx => (hc i x hx).same (fun j _ => World.cell?_of_block (w := w) (w' := w') (hs g h1 h2)) hs⟩
theorem LitsAt.mono {w : World} {lo lo' B B' : Nat} {A : Option Addr} {xs : List (GLit)} (h : LitsAt w lo B A xs) (hlo : lo' ≤ lo) (hB : B ≤ B') : LitsAt w lo' B' A xs := by
  rcases h with h | ⟨g, o, hA, h1, h2, hc⟩
  · exact .inl h
  · exact .inr ⟨g, o, hA, by omega, by omega, fun i x hx => (hc i x hx).mono hlo hB⟩
theorem LitsAt.to_ {w w' : World} {lo : Nat} {A : Option Addr} {xs : List (GLit)} (h : LitsAt w lo w.heap.size A xs) (hb : Below w.heap.size w w') : LitsAt w' lo w'.heap.size A xs := (h.keep (fun b _ hb' => hb.block b hb')).mono (Nat.le_refl _) hb.size
theorem LitsAt.at_ {w : World} {lo B : Nat} {A : Option Addr} {xs : List (GLit)} (h : LitsAt w lo B A xs) {i : Nat} (hi : i < xs.length) : ∃ g o, A = some ⟨g, o, none⟩ ∧ lo ≤ g ∧ g < B ∧ LitAt w lo B g (o + i * 6) xs[i] := by
  rcases h with h | ⟨g, o, hA, h1, h2, hc⟩
  · subst h; simp at hi
  · exact ⟨g, o, hA, h1, h2, hc i _ (List.getElem?_eq_getElem hi)⟩
def fitLit (x : GLit) : Prop := (Lit.int .i64 x.k).wf = true ∧ x.atom.name.size ≤ maxLen ∧ fitNodeSs x.atom.args ∧ x.op.size ≤ maxLen ∧ fitNodes x.left ∧ fitNodes x.right
def costLit (x : GLit) : Nat := costAtom x.atom + x.op.size + costNodes x.left + costNodes x.right
def fitLits (xs : List (GLit)) : Prop := xs.length ≤ maxLen ∧ ∀ x ∈ xs, fitLit x
def costLits (xs : List (GLit)) : Nat := xs.length + sumC costLit xs

structure GRule where
  head : GAtom
  aggs : List (ByteArray)
  body : List (GLit)
def RuleAt (w : World) (lo B g o : Nat) (x : GRule) : Prop := w.cell? ⟨g, o, none⟩ = some (.string x.head.name) ∧ (∃ A c, w.cell? ⟨g, o + 1, none⟩ = some (.slice A x.head.args.length c) ∧ NodeSsAt w lo B A x.head.args) ∧ (∃ A c, w.cell? ⟨g, o + 2, none⟩ = some (.slice A x.aggs.length c) ∧ StrsAt w lo B A x.aggs) ∧ (∃ A c, w.cell? ⟨g, o + 3, none⟩ = some (.slice A x.body.length c) ∧ LitsAt w lo B A x.body)
theorem RuleAt.same {w w' : World} {lo B g o : Nat} {x : GRule} (h : RuleAt w lo B g o x) (hc : ∀ j, j < 4 → w'.cell? ⟨g, o + j, none⟩ = w.cell? ⟨g, o + j, none⟩) (hs : ∀ b, lo ≤ b → b < B → w'.heap[b]? = w.heap[b]?) : RuleAt w' lo B g o x := by
  obtain ⟨h0, h1, h2, h3⟩ := h
  exact ⟨(hc 0 (by omega)).trans h0, (by obtain ⟨A, c, a1, a2⟩ := h1; exact ⟨A, c, (hc 1 (by omega)).trans a1, a2.keep hs⟩), (by obtain ⟨A, c, a1, a2⟩ := h2; exact ⟨A, c, (hc 2 (by omega)).trans a1, a2.keep hs⟩), (by obtain ⟨A, c, a1, a2⟩ := h3; exact ⟨A, c, (hc 3 (by omega)).trans a1, a2.keep hs⟩)⟩
theorem RuleAt.mono {w : World} {lo lo' B B' g o : Nat} {x : GRule} (h : RuleAt w lo B g o x) (hlo : lo' ≤ lo) (hB : B ≤ B') : RuleAt w lo' B' g o x := by
  obtain ⟨h0, h1, h2, h3⟩ := h
  exact ⟨h0, (by obtain ⟨A, c, a1, a2⟩ := h1; exact ⟨A, c, a1, a2.mono hlo hB⟩), (by obtain ⟨A, c, a1, a2⟩ := h2; exact ⟨A, c, a1, a2.mono hlo hB⟩), (by obtain ⟨A, c, a1, a2⟩ := h3; exact ⟨A, c, a1, a2.mono hlo hB⟩)⟩
def RulesAt (w : World) (lo B : Nat) (A : Option Addr) (xs : List (GRule)) : Prop := xs = [] ∨ ∃ g o, A = some ⟨g, o, none⟩ ∧ lo ≤ g ∧ g < B ∧ ∀ i x, xs[i]? = some x → RuleAt w lo B g (o + i * 4) x
theorem RulesAt.keep {w w' : World} {lo B : Nat} {A : Option Addr} {xs : List (GRule)} (h : RulesAt w lo B A xs) (hs : ∀ b, lo ≤ b → b < B → w'.heap[b]? = w.heap[b]?) : RulesAt w' lo B A xs := by
  rcases h with h | ⟨g, o, hA, h1, h2, hc⟩
  · exact .inl h
  · exact .inr ⟨g, o, hA, h1, h2, fun i x hx => (hc i x hx).same (fun j _ => World.cell?_of_block (w := w) (w' := w') (hs g h1 h2)) hs⟩
theorem RulesAt.mono {w : World} {lo lo' B B' : Nat} {A : Option Addr} {xs : List (GRule)} (h : RulesAt w lo B A xs) (hlo : lo' ≤ lo) (hB : B ≤ B') : RulesAt w lo' B' A xs := by
  rcases h with h | ⟨g, o, hA, h1, h2, hc⟩
  · exact .inl h
  · exact .inr ⟨g, o, hA, by omega, by omega, fun i x hx => (hc i x hx).mono hlo hB⟩
theorem RulesAt.to_ {w w' : World} {lo : Nat} {A : Option Addr} {xs : List (GRule)} (h : RulesAt w lo w.heap.size A xs) (hb : Below w.heap.size w w') : RulesAt w' lo w'.heap.size A xs := (h.keep (fun b _ hb' => hb.block b hb')).mono (Nat.le_refl _) hb.size
theorem RulesAt.at_ {w : World} {lo B : Nat} {A : Option Addr} {xs : List (GRule)} (h : RulesAt w lo B A xs) {i : Nat} (hi : i < xs.length) : ∃ g o, A = some ⟨g, o, none⟩ ∧ lo ≤ g ∧ g < B ∧ RuleAt w lo B g (o + i * 4) xs[i] := by
  rcases h with h | ⟨g, o, hA, h1, h2, hc⟩
  · subst h; simp at hi
  · exact ⟨g, o, hA, h1, h2, hc i _ (List.getElem?_eq_getElem hi)⟩
def fitRule (x : GRule) : Prop := x.head.name.size ≤ maxLen ∧ fitNodeSs x.head.args ∧ fitStrs x.aggs ∧ fitLits x.body
def costRule (x : GRule) : Nat := costAtom x.head + costStrs x.aggs + costLits x.body
def fitRules (xs : List (GRule)) : Prop := xs.length ≤ maxLen ∧ ∀ x ∈ xs, fitRule x
def costRules (xs : List (GRule)) : Nat := xs.length + sumC costRule xs

end Go.Proofs.YteoepnadjkjlmaaGreat
namespace Go.Proofs.YteoepnadjkjlmaaGreat
open Go.RowKit Go.Sort
set_option linter.unusedVariables false

set_option maxHeartbeats 1600000 in
theorem sz_Atom {lo : Nat} (x : GAtom) (A1 : Option Addr) (c1 : Nat) (left : Int) (w : World) (hf : fitAtom x) (s1 : NodeSsAt w lo w.heap.size A1 x.args) (h0 : 0 ≤ left) (h1 : left ≤ 1048576) :
    Calls Tryz.prog 5 #[.agg #[.string x.name, .slice A1 x.args.length c1], .int .i64 left] w fun e w' => e = .returned (.int .i64 (szC (costAtom x) left)) ∧ Below w.heap.size w w' := by
  have F := Lib.hid hf
  clear hf
  have m0 : x.name.size ≤ 9223372036854775807 := by have h := F.out.1; unfold maxLen at h; exact h
  have hct := Lib.hid (show costAtom x = x.name.size + costNodeSs x.args from rfl)
  have hB0 : Below w.heap.size w (w.alloc (.cells #[.string x.name, .slice A1 x.args.length c1] 25)) := (Below.refl _ _).alloc (Nat.le_refl _) _
  have hP := Lib.hid (Whole.new w 25 [.string x.name, .slice A1 x.args.length c1])
  by_cases hn0 : left - (x.name.size : Nat) < 0
  · have H := Lib.hid (show szC (costAtom x) left = -1 by rw [hct.out]; unfold szC; rw [if_pos (by omega)])
    go_enter Tryz.func5, Tryz.ntmps5
    go_wp2_with fail
    go_ret
    exact ⟨ret_int (by rw [H.out]), hB0⟩
  go_enter Tryz.func5, Tryz.ntmps5
  go_wp2_with fail
  refine (sz_NodeSs A1 c1 x.args _ _ F.out.2 (s1.to_ hB0) (by omega) (by omega)).mono ?_
  rintro e w1 ⟨rfl, hb1⟩
  have hB1' := below_next hB0 hb1 rfl rfl
  by_cases hn1 : left - (x.name.size : Nat) - (costNodeSs x.args : Nat) < 0
  · have hs : szC (costNodeSs x.args) (left - (x.name.size : Nat)) = -1 := by unfold szC; rw [if_pos hn1]
    have H := Lib.hid (show szC (costAtom x) left = -1 by rw [hct.out]; unfold szC; rw [if_pos (by omega)])
    rw [hs]
    clear hs
    go_wp2_with fail
    go_ret
    exact ⟨ret_int (by rw [H.out]), hB1'⟩
  have hs1 : szC (costNodeSs x.args) (left - (x.name.size : Nat)) = left - (x.name.size : Nat) - (costNodeSs x.args : Nat) := by unfold szC; rw [if_neg hn1]
  rw [hs1]
  clear hs1
  have H := Lib.hid (show szC (costAtom x) left = left - (x.name.size : Nat) - (costNodeSs x.args : Nat) by rw [hct.out]; unfold szC; rw [if_neg (by omega)] <;> omega)
  go_wp2_with fail
  go_ret
  exact ⟨ret_int (by rw [H.out]), hB1'⟩

end Go.Proofs.YteoepnadjkjlmaaGreat
