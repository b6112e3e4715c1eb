/-
  Rows of values in memory: what a slice of the struct Value reads as, and what keeps it.
-/
import Derived.Test.YteoepnadjkjlmaaFrame
import Derived.Test.YteoepnadjkjlmaaRet
namespace Go.Proofs.Yteoepnadjkjlmaa
open Go.RowKit
set_option linter.unusedVariables false

/-- The three fields of a value. -/
structure GV where
  k : Int
  n : Int
  t : ByteArray
def GV.fit (v : GV) : Prop := (Lit.int .i64 v.k).wf = true ∧ (Lit.int .i64 v.n).wf = true ∧ v.t.size ≤ maxLen
/-- A value's three cells. -/
def VAt (w : World) (g o : Nat) (v : GV) : Prop :=
  w.cell? ⟨g, o, none⟩ = some (.int .i64 v.k) ∧ w.cell? ⟨g, o + 1, none⟩ = some (.int .i64 v.n) ∧ w.cell? ⟨g, o + 2, none⟩ = some (.string v.t)
/-- A slice of values below block B reads as the list vs. -/
def RowAt (w : World) (B : Nat) (A : Option Addr) (vs : List GV) : Prop :=
  vs = [] ∨ ∃ g o, A = some ⟨g, o, none⟩ ∧ g < B ∧ ∀ i v, vs[i]? = some v → VAt w g (o + i * 3) v
theorem VAt.below {w w' : World} {B g o : Nat} {v : GV} (h : VAt w g o v) (hb : Below B w w') (hg : g < B) : VAt w' g o v := by
  obtain ⟨h0, h1, h2⟩ := h
  exact ⟨(hb.cell (p := ⟨g, o, none⟩) hg).trans h0, (hb.cell (p := ⟨g, o + 1, none⟩) hg).trans h1, (hb.cell (p := ⟨g, o + 2, none⟩) hg).trans h2⟩
theorem RowAt.below {w w' : World} {B B' : Nat} {A : Option Addr} {vs : List GV} (h : RowAt w B A vs) (hb : Below B' w w') (hB : B ≤ B') : RowAt w' B A vs := by
  rcases h with h | ⟨g, o, hA, hg, hc⟩
  · exact .inl h
  · exact .inr ⟨g, o, hA, hg, fun i v hv => (hc i v hv).below hb (by omega)⟩
theorem RowAt.mono {w : World} {B B' : Nat} {A : Option Addr} {vs : List GV} (h : RowAt w B A vs) (hB : B ≤ B') : RowAt w B' A vs := by
  rcases h with h | ⟨g, o, hA, hg, hc⟩
  · exact .inl h
  · exact .inr ⟨g, o, hA, by omega, hc⟩
theorem RowAt.at_ {w : World} {B : Nat} {A : Option Addr} {vs : List GV} (h : RowAt w B A vs) {i : Nat} (hi : i < vs.length) :
    ∃ g o, A = some ⟨g, o, none⟩ ∧ g < B ∧ VAt w g (o + i * 3) vs[i] := by
  rcases h with h | ⟨g, o, hA, hg, hc⟩
  · subst h; simp at hi
  · exact ⟨g, o, hA, hg, hc i _ (List.getElem?_eq_getElem hi)⟩
theorem RowAt.to_ {w w' : World} {A : Option Addr} {vs : List GV} (h : RowAt w w.heap.size A vs) (hb : Below w.heap.size w w') : RowAt w' w'.heap.size A vs := (h.below hb (Nat.le_refl _)).mono hb.size
/-- How much of its number a law's size check takes for a row. -/
def costV (vs : List GV) : Nat := (vs.map fun v => v.t.size).sum
def cost (vs : List GV) : Nat := vs.length + costV vs
def szC (c : Nat) (left : Int) : Int := if left - c < 0 then -1 else left - c
theorem len_cost (vs : List GV) : vs.length ≤ cost vs := by unfold cost; omega
theorem szC_pos {c : Nat} {left : Int} (h : 0 ≤ szC c left) : (c : Int) ≤ left ∧ szC c left ≤ left := by
  unfold szC at h ⊢
  by_cases h1 : left - c < 0
  · rw [if_pos h1] at h; omega
  · rw [if_neg h1]; omega
theorem costV_take (vs : List GV) (i : Nat) (h : i < vs.length) : costV (vs.take (i + 1)) = costV (vs.take i) + vs[i].t.size := by
  unfold costV
  rw [List.take_succ_eq_append_getElem h, List.map_append, List.sum_append]
  simp only [List.map_cons, List.map_nil, List.sum_cons, List.sum_nil, Nat.add_zero]
theorem costV_take_le (vs : List GV) (i : Nat) : costV (vs.take i) ≤ costV vs := by
  unfold costV
  conv => rhs; rw [← List.take_append_drop i vs]
  rw [List.map_append, List.sum_append]
  omega
end Go.Proofs.Yteoepnadjkjlmaa
