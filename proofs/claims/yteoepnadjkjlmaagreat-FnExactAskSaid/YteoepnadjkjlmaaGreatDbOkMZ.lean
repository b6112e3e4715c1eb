/-
  Which rows answer an atom whose arguments have no parts: mathematics. Tables of arguments as tables. What a database must be: mathematics.
-/
import Derived.Test.YteoepnadjkjlmaaGreatReckMZ
import Derived.Lib.Strings
import Derived.Test.YteoepnadjkjlmaaGreatSzValZ
import Derived.Test.YteoepnadjkjlmaaGreatTGAZ
import Derived.Test.YteoepnadjkjlmaaGreatValueOkZ
import Derived.Test.YteoepnadjkjlmaaGreatTabOkMZ
namespace Go.Proofs.YteoepnadjkjlmaaGreat
open Go.RowKit Go.Sort
set_option linter.unusedVariables false

def eqG (a b : GV) : Bool := a.k == b.k && a.n == b.n && a.t.toList == b.t.toList
def isVar (s : ByteArray) : Tr → Bool
  | .var n => n.toList == s.toList
  | _ => false
/-- The place of the first argument that is this variable. -/
def fstV (ts : List Tr) (s : ByteArray) : Nat := ts.findIdx (isVar s)
/-- Does the value at place k fit the argument there? -/
def okA (ts : List Tr) (row : List GV) (k : Nat) : Bool := match ts[k]?, row[k]? with
  | some (.var s), some v => (match row[fstV ts s]? with
    | some u => eqG u v
    | none => false)
  | some (.con c), some v => eqG c v
  | _, _ => true
def ansB (ts : List Tr) (row : List GV) : Bool := (List.range ts.length).all (okA ts row)
def leafT : Tr → Bool
  | .op _ _ _ => false
  | _ => true
theorem rng_snoc (p : Nat → Bool) (k : Nat) : (List.range (k + 1)).all p = ((List.range k).all p && p k) := by
  rw [List.range_succ, List.all_append]; simp
theorem rng_bad (p : Nat → Bool) (n k : Nat) (h : k < n) (hb : p k = false) : (List.range n).all p = false := by
  rw [List.all_eq_false]; exact ⟨k, List.mem_range.2 h, by simp [hb]⟩
theorem toL_eq {a b : ByteArray} (h : a.toList = b.toList) : a = b := ByteArray.ext (Array.toList_inj.1 (by rw [← Lib.toList_data, ← Lib.toList_data, h]))
theorem fst_at {ts : List Tr} {s : ByteArray} {k : Nat} (hk : k < ts.length) (h : ts[k] = .var s) : fstV ts s ≤ k := by
  unfold fstV
  rcases Nat.lt_or_ge k (ts.findIdx (isVar s)) with h' | h'
  · have := List.not_of_lt_findIdx h'
    rw [h] at this
    simp [isVar] at this
  · exact h'
theorem fst_is {ts : List Tr} {s : ByteArray} {k : Nat} (hk : k < ts.length) (h : fstV ts s = k) : ts[k] = .var s := by
  unfold fstV at h
  have h2 : ts.findIdx (isVar s) < ts.length := by omega
  have := List.findIdx_getElem (w := h2)
  simp only [h] at this
  cases ht : ts[k] with
  | var n => rw [ht] at this; simp only [isVar, beq_iff_eq] at this; rw [toL_eq this]
  | con c => rw [ht] at this; simp [isVar] at this
  | any => rw [ht] at this; simp [isVar] at this
  | op a b c => rw [ht] at this; simp [isVar] at this
/-- What an environment holds behind k arguments: the value of each variable's first place. -/
def EnvOk (ts : List Tr) (row : List GV) (k : Nat) (ns : List ByteArray) (vs : List GV) : Prop :=
  ns.length = vs.length ∧ ∀ s, vs[idxN ns s]? = if fstV ts s < k then row[fstV ts s]? else none
theorem env_zero (ts : List Tr) (row : List GV) : EnvOk ts row 0 [] [] := ⟨rfl, fun s => by simp⟩
theorem env_leaf {ts : List Tr} {row : List GV} {k : Nat} {ns : List ByteArray} {vs : List GV} (h : EnvOk ts row k ns vs) (hk : k < ts.length) (hn : ∀ s, ts[k] ≠ .var s) : EnvOk ts row (k + 1) ns vs := by
  refine ⟨h.1, fun s => ?_⟩
  rw [h.2 s]
  have : fstV ts s ≠ k := fun e => hn s (fst_is hk e)
  by_cases h1 : fstV ts s < k
  · rw [if_pos h1, if_pos (by omega)]
  · rw [if_neg h1, if_neg (by omega)]
theorem idx_eq {ns : List ByteArray} {s : ByteArray} : idxN ns s < ns.length ∨ idxN ns s = ns.length := by have := idx_le ns s; omega
/-- A variable that the environment has. -/
theorem env_old {ts : List Tr} {row : List GV} {k : Nat} {ns : List ByteArray} {vs : List GV} {s : ByteArray} (h : EnvOk ts row k ns vs) (hk : k < ts.length) (hl : ts.length = row.length) (ht : ts[k] = .var s) (hi : idxN ns s < ns.length) :
    EnvOk ts row (k + 1) ns vs ∧ ∀ (hv : idxN ns s < vs.length) (hr : k < row.length), okA ts row k = eqG vs[idxN ns s] row[k] := by
  have hv : idxN ns s < vs.length := by rw [← h.1]; exact hi
  have h2 := h.2 s
  rw [List.getElem?_eq_getElem hv] at h2
  have hf : fstV ts s < k := by
    by_cases h1 : fstV ts s < k
    · exact h1
    · rw [if_neg h1] at h2; cases h2
  rw [if_pos hf] at h2
  constructor
  · refine ⟨h.1, fun s' => ?_⟩
    rw [h.2 s']
    have : fstV ts s' ≠ k := fun e => by
      have h3 := fst_is hk e
      rw [ht] at h3
      cases h3
      omega
    by_cases h1 : fstV ts s' < k
    · rw [if_pos h1, if_pos (by omega)]
    · rw [if_neg h1, if_neg (by omega)]
  · intro hv hr
    unfold okA
    rw [List.getElem?_eq_getElem hk, List.getElem?_eq_getElem hr, ht]
    simp only []
    rw [← h2]
theorem idx_app_old {ns : List ByteArray} {s s' : ByteArray} (h : idxN ns s' < ns.length) : idxN (ns ++ [s]) s' = idxN ns s' := by
  unfold idxN at h ⊢
  rw [List.findIdx_append, if_pos h]
theorem idx_app_new {ns : List ByteArray} {s s' : ByteArray} (h : ¬ idxN ns s' < ns.length) : idxN (ns ++ [s]) s' = if s.toList = s'.toList then ns.length else ns.length + 1 := by
  unfold idxN at h ⊢
  rw [List.findIdx_append, if_neg h]
  by_cases he : s.toList = s'.toList
  · rw [if_pos he]; simp [List.findIdx_cons, he]
  · rw [if_neg he]
    have : (s.toList == s'.toList) = false := by simpa using he
    simp [List.findIdx_cons, this, Nat.add_comm]
/-- A variable that the environment lacks. -/
theorem env_new {ts : List Tr} {row : List GV} {k : Nat} {ns : List ByteArray} {vs : List GV} {s : ByteArray} (h : EnvOk ts row k ns vs) (hk : k < ts.length) (hr : k < row.length) (ht : ts[k] = .var s) (hi : ¬ idxN ns s < ns.length) :
    EnvOk ts row (k + 1) (ns ++ [s]) (vs ++ [row[k]]) ∧ okA ts row k = true := by
  have h1 := h.2 s
  have hv : ¬ idxN ns s < vs.length := by rw [← h.1]; exact hi
  rw [List.getElem?_eq_none (by omega)] at h1
  have hfk := fst_at hk ht
  have hf : fstV ts s = k := by
    by_cases h2 : fstV ts s < k
    · rw [if_pos h2, List.getElem?_eq_getElem (by omega)] at h1; cases h1
    · omega
  constructor
  · refine ⟨by simp [h.1], fun s' => ?_⟩
    by_cases hi2 : idxN ns s' < ns.length
    · rw [idx_app_old hi2, List.getElem?_append_left (by rw [← h.1]; exact hi2), h.2 s']
      by_cases h3 : fstV ts s' < k
      · rw [if_pos h3, if_pos (by omega)]
      · have h4 := h.2 s'
        rw [if_neg h3, List.getElem?_eq_getElem (by rw [← h.1]; exact hi2)] at h4
        cases h4
    · rw [idx_app_new hi2]
      have h4 := h.2 s'
      rw [List.getElem?_eq_none (by rw [← h.1]; omega)] at h4
      have h5 : ¬ fstV ts s' < k := by
        intro h5
        rw [if_pos h5, List.getElem?_eq_getElem (by omega)] at h4
        cases h4
      by_cases he : s.toList = s'.toList
      · have := toL_eq he
        subst this
        rw [if_pos rfl, hf, if_pos (by omega), List.getElem?_append_right (by rw [h.1]; omega), List.getElem?_eq_getElem hr]
        rw [h.1]; simp
      · rw [if_neg he, List.getElem?_eq_none (by have := h.1; simp; omega)]
        have h6 : fstV ts s' ≠ k := fun e => by
          have h3 := fst_is hk e
          rw [ht] at h3
          cases h3
          exact he rfl
        rw [if_neg (by omega)]
  · unfold okA
    rw [List.getElem?_eq_getElem hk, List.getElem?_eq_getElem hr, ht]
    simp only []
    rw [hf, List.getElem?_eq_getElem hr]
    simp [eqG]
theorem okA_con {ts : List Tr} {row : List GV} {k : Nat} {c : GV} (hk : k < ts.length) (hr : k < row.length) (ht : ts[k] = .con c) : okA ts row k = eqG c row[k] := by
  unfold okA
  rw [List.getElem?_eq_getElem hk, List.getElem?_eq_getElem hr, ht]
theorem okA_any {ts : List Tr} {row : List GV} {k : Nat} (hk : k < ts.length) (ht : ts[k] = .any) : okA ts row k = true := by
  unfold okA
  rw [List.getElem?_eq_getElem hk, ht]
theorem okA_var {ts : List Tr} {row : List GV} {k : Nat} {s : ByteArray} (hk : k < ts.length) (hr : k < row.length) (ht : ts[k] = .var s) (hf : fstV ts s < row.length) : okA ts row k = eqG row[fstV ts s] row[k] := by
  unfold okA
  rw [List.getElem?_eq_getElem hk, List.getElem?_eq_getElem hr, ht]
  simp only []
  rw [List.getElem?_eq_getElem hf]
/-- An argument without parts is a leaf. -/
theorem one_leaf {es : List GNode} (h : exprB es = true) (hl : es.length = 1) : ∃ t, Wf t ∧ leafT t = true ∧ treeN t = es := by
  unfold exprB at h
  simp only [Bool.and_eq_true, decide_eq_true_eq] at h
  obtain ⟨t, ht, he⟩ := (treeB_iff es).1 h.2
  refine ⟨t, ht, ?_, he⟩
  cases t with
  | op k a b =>
    rw [treeN] at he
    have h1 := congrArg List.length he
    obtain ⟨x, m, hx, _⟩ := treeN_first a
    simp only [List.length_cons, List.length_append, hx] at h1
    omega
  | _ => rfl
theorem leaves {xs : List (List GNode)} (h : ∀ x ∈ xs, exprB x = true) (hl : ∀ x ∈ xs, x.length = 1) : ∃ ts : List Tr, xs = ts.map treeN ∧ (∀ t ∈ ts, Wf t) ∧ ∀ t ∈ ts, leafT t = true := by
  induction xs with
  | nil => exact ⟨[], rfl, by simp, by simp⟩
  | cons x r ih =>
    obtain ⟨ts, h1, h2, h3⟩ := ih (fun y hy => h y (List.mem_cons_of_mem _ hy)) (fun y hy => hl y (List.mem_cons_of_mem _ hy))
    obtain ⟨t, ht, hL, he⟩ := one_leaf (h x List.mem_cons_self) (hl x List.mem_cons_self)
    refine ⟨t :: ts, by rw [List.map_cons, he, h1], ?_, ?_⟩
    · intro u hu; rcases List.mem_cons.1 hu with rfl | hu
      · exact ht
      · exact h2 u hu
    · intro u hu; rcases List.mem_cons.1 hu with rfl | hu
      · exact hL
      · exact h3 u hu
def oneB (es : List GNode) : Bool := decide (es.length = 1)
theorem eqG_is (a b : GV) : (!a.k == b.k || !a.n == b.n || !a.t.toList == b.t.toList) = !eqG a b := by
  unfold eqG; cases (a.k == b.k) <;> cases (a.n == b.n) <;> cases (a.t.toList == b.t.toList) <;> rfl
def leafOf : List GNode → Tr
  | [n] => if n.k = 1 then .var n.name else if n.k = 2 then .con n.v else .any
  | _ => .any
theorem leafOf_tree {t : Tr} (h : leafT t = true) : leafOf (treeN t) = t := by
  cases t with
  | op _ _ _ => cases h
  | var s => rfl
  | con v => rfl
  | any => rfl
theorem leafOf_map {ts : List Tr} (h : ∀ t ∈ ts, leafT t = true) : (ts.map treeN).map leafOf = ts := by
  rw [List.map_map]
  conv => rhs; rw [← List.map_id ts]
  exact List.map_congr_left fun t ht => leafOf_tree (h t ht)
end Go.Proofs.YteoepnadjkjlmaaGreat
namespace Go.Proofs.YteoepnadjkjlmaaGreat
open Go.RowKit Go.Sort
set_option linter.unusedVariables false

theorem ValueSsAt.tabC {w : World} {lo B : Nat} {A : Option Addr} {rows : List (List GV)} (h : ValueSsAt w lo B A rows) : TabC w B A rows := by
  rcases h with h | ⟨g, o, hA, _, hg, hc⟩
  · exact .inl h
  · refine .inr ⟨g, o, hA, hg, fun i r hr => ?_⟩
    obtain ⟨A', c', ⟨h1, h2⟩, h3⟩ := hc i r hr
    exact ⟨A', c', h1, h2, h3.row⟩
/-- The rows of a relation, as a table. -/
theorem ValueSsAt.tab {w : World} {lo B : Nat} {A : Option Addr} {rows : List (List GV)} (h : ValueSsAt w lo B A rows) : TabAt w B A rows := by
  rcases h with h | ⟨g, o, hA, h1, h2, hc⟩
  · exact .inl h
  · refine .inr ⟨g, o, hA, h2, fun i r hr => ?_⟩
    obtain ⟨A', c', ⟨q1, q2⟩, q3⟩ := hc i r hr
    refine ⟨A', c', q1, ?_⟩
    rcases q3 with q3 | ⟨g', o', hA', h1', h2', hc'⟩
    · exact .inl q3
    · exact .inr ⟨g', o', hA', h2', fun i x hx => hc' i x hx⟩
end Go.Proofs.YteoepnadjkjlmaaGreat
namespace Go.Proofs.YteoepnadjkjlmaaGreat
open Go.RowKit Go.Sort
set_option linter.unusedVariables false

def relB (x : GRel) : Bool := wordB x.name && tableOkB x.rows
def lessRel (x y : GRel) : Bool := Op.bytesLess x.name.toList y.name.toList
def relAtB (xs : List GRel) (k : Nat) : Bool := match xs[k]? with
  | some x => relB x && (match k with
    | 0 => true
    | j + 1 => match xs[j]? with
      | some y => lessRel y x
      | none => true)
  | none => true
def dbTo (xs : List GRel) : Nat → Bool
  | 0 => true
  | k + 1 => dbTo xs k && relAtB xs k
def dbOkB (xs : List GRel) : Bool := decide (xs.length ≤ 60) && dbTo xs xs.length
theorem relAt_zero (xs : List GRel) (h : 0 < xs.length) : relAtB xs 0 = relB xs[0] := by
  unfold relAtB; rw [List.getElem?_eq_getElem h]; simp
theorem relAt_succ (xs : List GRel) (j : Nat) (h : j + 1 < xs.length) (h0 : j < xs.length) : relAtB xs (j + 1) = (relB xs[j + 1] && lessRel xs[j] xs[j + 1]) := by
  unfold relAtB; rw [List.getElem?_eq_getElem h]; simp only []; rw [List.getElem?_eq_getElem h0]
theorem dbTo_false (xs : List GRel) (k : Nat) (h : dbTo xs k = false) : ∀ m, k ≤ m → dbTo xs m = false := by
  intro m hm
  induction m with
  | zero => have : k = 0 := by omega
            subst this; exact h
  | succ m ih =>
    rcases Nat.lt_or_ge m k with h' | h'
    · have : k = m + 1 := by omega
      subst this; exact h
    · rw [dbTo, ih h']; rfl
theorem db_bad (xs : List GRel) (k : Nat) (hk : k < xs.length) (h : relAtB xs k = false) : dbOkB xs = false := by
  unfold dbOkB
  rw [dbTo_false xs (k + 1) (by rw [dbTo, h]; simp) _ (by omega)]
  simp
/-- A relation of a small database: its rows are few and small. -/
def RelFit (x : GRel) : Prop := x.rows.length ≤ 1048576 ∧ ∀ r ∈ x.rows, r.length ≤ 1048576 ∧ ∀ v ∈ r, v.t.size ≤ 1048576
theorem rel_fit {x : GRel} (h : costRel x ≤ 1048576) : RelFit x := by
  have h1 : costValueSs x.rows ≤ 1048576 := by unfold costRel at h; omega
  unfold costValueSs at h1
  refine ⟨by omega, fun r hr => ?_⟩
  have h2 := sumC_mem costValueS x.rows r hr
  have h3 : costValueS r = costValues r := rfl
  have h4 : costValues r = r.length + sumC costValue r := rfl
  refine ⟨by omega, fun v hv => ?_⟩
  have h5 := sumC_mem costValue r v hv
  have h6 : costValue v = v.t.size := rfl
  omega
theorem db_fit {xs : List GRel} (h : costRels xs ≤ 1048576) : ∀ x ∈ xs, RelFit x := fun x hx => rel_fit (by
  have h2 := sumC_mem costRel xs x hx
  unfold costRels at h
  omega)
end Go.Proofs.YteoepnadjkjlmaaGreat
