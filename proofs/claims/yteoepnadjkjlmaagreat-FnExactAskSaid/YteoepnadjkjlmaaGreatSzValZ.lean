/-
  Tables in memory. Databases in memory. How the laws measure a value.
-/
import Derived.Test.YteoepnadjkjlmaaGreatRowStZ
namespace Go.Proofs.YteoepnadjkjlmaaGreat
open Go.RowKit Go.Sort
set_option linter.unusedVariables false

def ValueSAt (w : World) (lo B g o : Nat) (x : List GV) : Prop := ∃ A c, (w.cell? ⟨g, o, none⟩ = some (.slice A x.length c) ∧ CapOk x.length c) ∧ ValuesAt w lo B A x
theorem ValueSAt.same {w w' : World} {lo B g o : Nat} {x : List GV} (h : ValueSAt w lo B g o x) (hc : ∀ j, j < 1 → w'.cell? ⟨g, o + j, none⟩ = w.cell? ⟨g, o + j, none⟩) (hs : ∀ b, lo ≤ b → b < B → w'.heap[b]? = w.heap[b]?) : ValueSAt w' lo B g o x := by
  have h0 := h
  exact (by obtain ⟨A, c, a1, a2⟩ := h0; exact ⟨A, c, ⟨(hc 0 (by omega)).trans a1.1, a1.2⟩, a2.keep hs⟩)
theorem ValueSAt.mono {w : World} {lo lo' B B' g o : Nat} {x : List GV} (h : ValueSAt w lo B g o x) (hlo : lo' ≤ lo) (hB : B ≤ B') : ValueSAt w lo' B' g o x := by
  have h0 := h
  exact (by obtain ⟨A, c, a1, a2⟩ := h0; exact ⟨A, c, a1, a2.mono hlo hB⟩)
def ValueSsAt (w : World) (lo B : Nat) (A : Option Addr) (xs : List (List GV)) : Prop := xs = [] ∨ ∃ g o, A = some ⟨g, o, none⟩ ∧ lo ≤ g ∧ g < B ∧ ∀ i x, xs[i]? = some x → ValueSAt w lo B g (o + i) x
theorem ValueSsAt.keep {w w' : World} {lo B : Nat} {A : Option Addr} {xs : List (List GV)} (h : ValueSsAt w lo B A xs) (hs : ∀ b, lo ≤ b → b < B → w'.heap[b]? = w.heap[b]?) : ValueSsAt w' lo B A xs := by
  rcases h with h | ⟨g, o, hA, h1, h2, hc⟩
  · exact .inl h
  · exact .inr ⟨g, o, hA, h1, h2, fun i x hx => (hc i x hx).same (fun j _ => World.cell?_of_block (w := w) (w' := w') (hs g h1 h2)) hs⟩
theorem ValueSsAt.mono {w : World} {lo lo' B B' : Nat} {A : Option Addr} {xs : List (List GV)} (h : ValueSsAt w lo B A xs) (hlo : lo' ≤ lo) (hB : B ≤ B') : ValueSsAt w lo' B' A xs := by
  rcases h with h | ⟨g, o, hA, h1, h2, hc⟩
  · exact .inl h
  · exact .inr ⟨g, o, hA, by omega, by omega, fun i x hx => (hc i x hx).mono hlo hB⟩
theorem ValueSsAt.to_ {w w' : World} {lo : Nat} {A : Option Addr} {xs : List (List GV)} (h : ValueSsAt w lo w.heap.size A xs) (hb : Below w.heap.size w w') : ValueSsAt w' lo w'.heap.size A xs := (h.keep (fun b _ hb' => hb.block b hb')).mono (Nat.le_refl _) hb.size
theorem ValueSsAt.at_ {w : World} {lo B : Nat} {A : Option Addr} {xs : List (List GV)} (h : ValueSsAt w lo B A xs) {i : Nat} (hi : i < xs.length) : ∃ g o, A = some ⟨g, o, none⟩ ∧ lo ≤ g ∧ g < B ∧ ValueSAt w lo B g (o + i) xs[i] := by
  rcases h with h | ⟨g, o, hA, h1, h2, hc⟩
  · subst h; simp at hi
  · exact ⟨g, o, hA, h1, h2, hc i _ (List.getElem?_eq_getElem hi)⟩
def fitValueS (x : List GV) : Prop := fitValues x
def costValueS (x : List GV) : Nat := costValues x
def fitValueSs (xs : List (List GV)) : Prop := xs.length ≤ maxLen ∧ ∀ x ∈ xs, fitValueS x
def costValueSs (xs : List (List GV)) : Nat := xs.length + sumC costValueS xs

end Go.Proofs.YteoepnadjkjlmaaGreat
namespace Go.Proofs.YteoepnadjkjlmaaGreat
open Go.RowKit Go.Sort
set_option linter.unusedVariables false

structure GRel where
  name : ByteArray
  rows : List (List GV)
def RelAt (w : World) (lo B g o : Nat) (x : GRel) : Prop := w.cell? ⟨g, o, none⟩ = some (.string x.name) ∧ (∃ A c, (w.cell? ⟨g, o + 1, none⟩ = some (.slice A x.rows.length c) ∧ CapOk x.rows.length c) ∧ ValueSsAt w lo B A x.rows)
theorem RelAt.same {w w' : World} {lo B g o : Nat} {x : GRel} (h : RelAt w lo B g o x) (hc : ∀ j, j < 2 → w'.cell? ⟨g, o + j, none⟩ = w.cell? ⟨g, o + j, none⟩) (hs : ∀ b, lo ≤ b → b < B → w'.heap[b]? = w.heap[b]?) : RelAt w' lo B g o x := by
  obtain ⟨h0, h1⟩ := h
  exact ⟨(hc 0 (by omega)).trans h0, (by obtain ⟨A, c, a1, a2⟩ := h1; exact ⟨A, c, ⟨(hc 1 (by omega)).trans a1.1, a1.2⟩, a2.keep hs⟩)⟩
theorem RelAt.mono {w : World} {lo lo' B B' g o : Nat} {x : GRel} (h : RelAt w lo B g o x) (hlo : lo' ≤ lo) (hB : B ≤ B') : RelAt w lo' B' g o x := by
  obtain ⟨h0, h1⟩ := h
  exact ⟨h0, (by obtain ⟨A, c, a1, a2⟩ := h1; exact ⟨A, c, a1, a2.mono hlo hB⟩)⟩
def RelsAt (w : World) (lo B : Nat) (A : Option Addr) (xs : List (GRel)) : Prop := xs = [] ∨ ∃ g o, A = some ⟨g, o, none⟩ ∧ lo ≤ g ∧ g < B ∧ ∀ i x, xs[i]? = some x → RelAt w lo B g (o + i * 2) x
theorem RelsAt.keep {w w' : World} {lo B : Nat} {A : Option Addr} {xs : List (GRel)} (h : RelsAt w lo B A xs) (hs : ∀ b, lo ≤ b → b < B → w'.heap[b]? = w.heap[b]?) : RelsAt w' lo B A xs := by
  rcases h with h | ⟨g, o, hA, h1, h2, hc⟩
  · exact .inl h
  · exact .inr ⟨g, o, hA, h1, h2, fun i x hx => (hc i x hx).same (fun j _ => World.cell?_of_block (w := w) (w' := w') (hs g h1 h2)) hs⟩
theorem RelsAt.mono {w : World} {lo lo' B B' : Nat} {A : Option Addr} {xs : List (GRel)} (h : RelsAt w lo B A xs) (hlo : lo' ≤ lo) (hB : B ≤ B') : RelsAt w lo' B' A xs := by
  rcases h with h | ⟨g, o, hA, h1, h2, hc⟩
  · exact .inl h
  · exact .inr ⟨g, o, hA, by omega, by omega, fun i x hx => (hc i x hx).mono hlo hB⟩
theorem RelsAt.to_ {w w' : World} {lo : Nat} {A : Option Addr} {xs : List (GRel)} (h : RelsAt w lo w.heap.size A xs) (hb : Below w.heap.size w w') : RelsAt w' lo w'.heap.size A xs := (h.keep (fun b _ hb' => hb.block b hb')).mono (Nat.le_refl _) hb.size
theorem RelsAt.at_ {w : World} {lo B : Nat} {A : Option Addr} {xs : List (GRel)} (h : RelsAt w lo B A xs) {i : Nat} (hi : i < xs.length) : ∃ g o, A = some ⟨g, o, none⟩ ∧ lo ≤ g ∧ g < B ∧ RelAt w lo B g (o + i * 2) xs[i] := by
  rcases h with h | ⟨g, o, hA, h1, h2, hc⟩
  · subst h; simp at hi
  · exact ⟨g, o, hA, h1, h2, hc i _ (List.getElem?_eq_getElem hi)⟩
def fitRel (x : GRel) : Prop := x.name.size ≤ maxLen ∧ fitValueSs x.rows
def costRel (x : GRel) : Nat := x.name.size + costValueSs x.rows
def fitRels (xs : List (GRel)) : Prop := xs.length ≤ maxLen ∧ ∀ x ∈ xs, fitRel x
def costRels (xs : List (GRel)) : Nat := xs.length + sumC costRel xs

end Go.Proofs.YteoepnadjkjlmaaGreat
namespace Go.Proofs.YteoepnadjkjlmaaGreat
open Go.RowKit Go.Sort
set_option linter.unusedVariables false

set_option maxHeartbeats 1600000 in
theorem sz_Value (x : GV) (left : Int) (w : World) (hf : fitValue x) (h0 : 0 ≤ left) (h1 : left ≤ 1048576) :
    Calls Tryz.prog 80 #[.agg #[.int .i64 x.k, .int .i64 x.n, .string x.t], .int .i64 left] w fun e w' => e = .returned (.int .i64 (szC (costValue x) left)) ∧ Below w.heap.size w w' := by
  have F := Lib.hid hf
  clear hf
  have m2 : x.t.size ≤ 9223372036854775807 := by have h := F.out.2.2; unfold maxLen at h; exact h
  have hct := Lib.hid (show costValue x = x.t.size from rfl)
  have hB0 : Below w.heap.size w (w.alloc (.cells #[.int .i64 x.k, .int .i64 x.n, .string x.t] 99)) := (Below.refl _ _).alloc (Nat.le_refl _) _
  have hP := Lib.hid (Whole.new w 99 [.int .i64 x.k, .int .i64 x.n, .string x.t])
  by_cases hn0 : left - (x.t.size : Nat) < 0
  · have H := Lib.hid (show szC (costValue x) left = -1 by rw [hct.out]; unfold szC; rw [if_pos (by omega)])
    go_enter Tryz.func80, Tryz.ntmps80
    go_wp2_with fail
    go_ret
    exact ⟨ret_int (by rw [H.out]), hB0⟩
  go_enter Tryz.func80, Tryz.ntmps80
  have H := Lib.hid (show szC (costValue x) left = left - (x.t.size : Nat) by rw [hct.out]; unfold szC; rw [if_neg (by omega)] <;> omega)
  go_wp2_with fail
  go_ret
  exact ⟨ret_int (by rw [H.out]), hB0⟩

end Go.Proofs.YteoepnadjkjlmaaGreat
