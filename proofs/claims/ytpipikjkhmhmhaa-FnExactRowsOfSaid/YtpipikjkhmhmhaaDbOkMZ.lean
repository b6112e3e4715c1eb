/-
  Tables of arguments as tables. What a database must be: mathematics.
-/
import Derived.Test.YtpipikjkhmhmhaaSzValZ
import Derived.Test.YtpipikjkhmhmhaaTRow
import Derived.Test.YtpipikjkhmhmhaaWord
import Derived.Test.YtpipikjkhmhmhaaTabOkMZ
namespace Go.Proofs.Ytpipikjkhmhmhaa
open Go.RowKit Go.Sort
set_option linter.unusedVariables false

theorem ValueSsAt.tabC {w : World} {lo B : Nat} {A : Option Addr} {rows : List (List GV)} (h : ValueSsAt w lo B A rows) : TabC w B A rows := by
  rcases h with h | ⟨g, o, hA, _, hg, hc⟩
  · exact .inl h
  · refine .inr ⟨g, o, hA, hg, fun i r hr => ?_⟩
    obtain ⟨A', c', ⟨h1, h2⟩, h3⟩ := hc i r hr
    exact ⟨A', c', h1, h2, h3.row⟩
/-- The rows of a relation, as a table. -/
theorem ValueSsAt.tab {w : World} {lo B : Nat} {A : Option Addr} {rows : List (List GV)} (h : ValueSsAt w lo B A rows) : TabAt w B A rows := by
  rcases h with h | ⟨g, o, hA, h1, h2, hc⟩
  · exact .inl h
  · refine .inr ⟨g, o, hA, h2, fun i r hr => ?_⟩
    obtain ⟨A', c', ⟨q1, q2⟩, q3⟩ := hc i r hr
    refine ⟨A', c', q1, ?_⟩
    rcases q3 with q3 | ⟨g', o', hA', h1', h2', hc'⟩
    · exact .inl q3
    · exact .inr ⟨g', o', hA', h2', fun i x hx => hc' i x hx⟩
end Go.Proofs.Ytpipikjkhmhmhaa
namespace Go.Proofs.Ytpipikjkhmhmhaa
open Go.RowKit Go.Sort
set_option linter.unusedVariables false

def relB (x : GRel) : Bool := wordB x.name && tableOkB x.rows
def lessRel (x y : GRel) : Bool := Op.bytesLess x.name.toList y.name.toList
def relAtB (xs : List GRel) (k : Nat) : Bool := match xs[k]? with
  | some x => relB x && (match k with
    | 0 => true
    | j + 1 => match xs[j]? with
      | some y => lessRel y x
      | none => true)
  | none => true
def dbTo (xs : List GRel) : Nat → Bool
  | 0 => true
  | k + 1 => dbTo xs k && relAtB xs k
def dbOkB (xs : List GRel) : Bool := decide (xs.length ≤ 60) && dbTo xs xs.length
theorem relAt_zero (xs : List GRel) (h : 0 < xs.length) : relAtB xs 0 = relB xs[0] := by
  unfold relAtB; rw [List.getElem?_eq_getElem h]; simp
theorem relAt_succ (xs : List GRel) (j : Nat) (h : j + 1 < xs.length) (h0 : j < xs.length) : relAtB xs (j + 1) = (relB xs[j + 1] && lessRel xs[j] xs[j + 1]) := by
  unfold relAtB; rw [List.getElem?_eq_getElem h]; simp only []; rw [List.getElem?_eq_getElem h0]
theorem dbTo_false (xs : List GRel) (k : Nat) (h : dbTo xs k = false) : ∀ m, k ≤ m → dbTo xs m = false := by
  intro m hm
  induction m with
  | zero => have : k = 0 := by omega
            subst this; exact h
  | succ m ih =>
    rcases Nat.lt_or_ge m k with h' | h'
    · have : k = m + 1 := by omega
      subst this; exact h
    · rw [dbTo, ih h']; rfl
theorem db_bad (xs : List GRel) (k : Nat) (hk : k < xs.length) (h : relAtB xs k = false) : dbOkB xs = false := by
  unfold dbOkB
  rw [dbTo_false xs (k + 1) (by rw [dbTo, h]; simp) _ (by omega)]
  simp
/-- A relation of a small database: its rows are few and small. -/
def RelFit (x : GRel) : Prop := x.rows.length ≤ 1048576 ∧ ∀ r ∈ x.rows, r.length ≤ 1048576 ∧ ∀ v ∈ r, v.t.size ≤ 1048576
theorem rel_fit {x : GRel} (h : costRel x ≤ 1048576) : RelFit x := by
  have h1 : costValueSs x.rows ≤ 1048576 := by unfold costRel at h; omega
  unfold costValueSs at h1
  refine ⟨by omega, fun r hr => ?_⟩
  have h2 := sumC_mem costValueS x.rows r hr
  have h3 : costValueS r = costValues r := rfl
  have h4 : costValues r = r.length + sumC costValue r := rfl
  refine ⟨by omega, fun v hv => ?_⟩
  have h5 := sumC_mem costValue r v hv
  have h6 : costValue v = v.t.size := rfl
  omega
theorem db_fit {xs : List GRel} (h : costRels xs ≤ 1048576) : ∀ x ∈ xs, RelFit x := fun x hx => rel_fit (by
  have h2 := sumC_mem costRel xs x hx
  unfold costRels at h
  omega)
end Go.Proofs.Ytpipikjkhmhmhaa
