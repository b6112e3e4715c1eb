/-
  Flat forms of trees, checked piece by piece. What an expression is worth: mathematics.
-/
import Derived.Test.YteoepnadjkjlmaaGreatExprOkZ
import Derived.Test.YteoepnadjkjlmaaGreatSzNodesZ
namespace Go.Proofs.YteoepnadjkjlmaaGreat
open Go.RowKit Go.Sort
set_option linter.unusedVariables false

def zB (v : GV) : Bool := v.k == 0 && v.n == 0 && v.t.toList == []
theorem empty_list : ByteArray.empty.toList = [] := by rw [Lib.toList_data]; rfl
theorem empty_of {s : ByteArray} (h : isT s [] = true) : s = ByteArray.empty := by
  unfold isT at h
  exact toList_ext (by rw [beq_iff_eq] at h; rw [h, empty_list])
theorem isT_empty : isT ByteArray.empty [] = true := by unfold isT; rw [empty_list]; rfl
theorem zB_zero : zB zV = true := by unfold zB zV; dsimp only; rw [empty_list]; rfl
theorem zB_iff (v : GV) : zB v = true ↔ v = zV := by
  constructor
  · intro h
    obtain ⟨k, n, t⟩ := v
    unfold zB at h
    unfold zV
    simp only [Bool.and_eq_true, beq_iff_eq] at h
    obtain ⟨⟨rfl, rfl⟩, h⟩ := h
    rw [toList_ext (show t.toList = ByteArray.empty.toList by rw [h, empty_list])]
  · intro h
    rw [h]
    exact zB_zero
def okM : Nat → List GNode → Bool
  | 0, _ => false
  | _ + 1, [] => false
  | n + 1, e :: rest =>
    if e.size = (rest.length : Int) then
      if e.k = 1 then decide (rest.length = 0) && varB e.name && zB e.v
      else if e.k = 2 then decide (rest.length = 0) && isT e.name [] && conB e.v
      else if e.k = 6 then decide (rest.length = 0) && isT e.name [] && zB e.v
      else if e.k = 3 ∨ e.k = 4 ∨ e.k = 5 then
        match rest with
        | [] => false
        | f :: more =>
          if 1 ≤ more.length ∧ 0 ≤ f.size ∧ f.size ≤ (more.length : Int) - 1 ∧ isT e.name [] = true ∧ zB e.v = true then
            okM n ((f :: more).take (f.size.toNat + 1)) && okM n ((f :: more).drop (f.size.toNat + 1))
          else false
      else false
    else false
theorem okM_op (n : Nat) (e f : GNode) (more : List GNode) (hs : e.size = ((f :: more).length : Int)) (hk : e.k = 3 ∨ e.k = 4 ∨ e.k = 5) : okM (n + 1) (e :: f :: more) = if 1 ≤ more.length ∧ 0 ≤ f.size ∧ f.size ≤ (more.length : Int) - 1 ∧ isT e.name [] = true ∧ zB e.v = true then okM n ((f :: more).take (f.size.toNat + 1)) && okM n ((f :: more).drop (f.size.toNat + 1)) else false := by
  rw [okM.eq_def]
  dsimp only
  rw [if_pos hs, if_neg (by omega), if_neg (by omega), if_neg (by omega), if_pos hk]
theorem okM_op0 (n : Nat) (e : GNode) (hk : e.k = 3 ∨ e.k = 4 ∨ e.k = 5) : okM (n + 1) [e] = false := by
  rw [okM.eq_def]
  dsimp only
  split
  · rw [if_neg (by omega), if_neg (by omega), if_neg (by omega)]
  · rfl
def Wf : Tr → Prop
  | .var s => varB s = true
  | .con v => conB v = true
  | .any => True
  | .op k l r => (k = 3 ∨ k = 4 ∨ k = 5) ∧ Wf l ∧ Wf r
theorem growM_wf (n : Nat) : ∀ (xs : List GNode) (t : Tr) (r : List GNode), growM n xs = some (t, r) → Wf t := by
  induction n with
  | zero => intro xs t r h; simp [growM] at h
  | succ n ih =>
    intro xs t r h
    cases xs with
    | nil => simp [growM] at h
    | cons x rest =>
      unfold growM at h
      split at h
      · split at h
        · rename_i hv; cases h; exact hv
        · cases h
      · split at h
        · split at h
          · rename_i hv; cases h; exact hv
          · cases h
        · split at h
          · cases h; trivial
          · split at h
            · rename_i hk
              split at h
              · cases h
              · rename_i l r1 h1
                split at h
                · cases h
                · rename_i r' r2 h2
                  cases h
                  exact ⟨hk, ih _ _ _ h1, ih _ _ _ h2⟩
            · cases h
theorem growM_tree (t : Tr) : Wf t → ∀ (n : Nat) (r : List GNode), (treeN t).length < n → growM n (treeN t ++ r) = some (t, r) := by
  induction t with
  | var s =>
    intro h n r hn
    cases n with
    | zero => simp at hn
    | succ n => have h' : varB s = true := h; simp [treeN, growM, h']
  | con v =>
    intro h n r hn
    cases n with
    | zero => simp at hn
    | succ n => have h' : conB v = true := h; simp [treeN, growM, h']
  | any =>
    intro h n r hn
    cases n with
    | zero => simp at hn
    | succ n => simp [treeN, growM]
  | op k a b iha ihb =>
    intro h n r hn
    obtain ⟨hk, ha, hb⟩ := h
    cases n with
    | zero => simp at hn
    | succ n =>
      have hl : (treeN a).length + (treeN b).length < n := by simp [treeN] at hn; omega
      have e1 : growM n (treeN a ++ (treeN b ++ r)) = some (a, treeN b ++ r) := iha ha n _ (by omega)
      have e2 : growM n (treeN b ++ r) = some (b, r) := ihb hb n _ (by omega)
      have hk1 : ¬ k = 1 := by omega
      have hk2 : ¬ k = 2 := by omega
      have hk6 : ¬ k = 6 := by omega
      rw [treeN, List.cons_append, List.append_assoc, growM]
      simp only [if_neg hk1, if_neg hk2, if_neg hk6, if_pos hk, e1, e2]
theorem treeB_iff (es : List GNode) : treeB es = true ↔ ∃ t, Wf t ∧ treeN t = es := by
  constructor
  · intro h
    unfold treeB at h
    split at h
    · cases h
    · rename_i t r hg
      exact ⟨t, growM_wf _ _ _ _ hg, (eqNL_iff _ _).1 h⟩
  · rintro ⟨t, hw, rfl⟩
    have h := growM_tree t hw ((treeN t).length + 1) [] (by omega)
    rw [List.append_nil] at h
    unfold treeB
    rw [h]
    exact (eqNL_iff _ _).2 rfl
theorem treeN_first (t : Tr) : ∃ x m, treeN t = x :: m ∧ x.size = (m.length : Int) := by
  cases t with
  | var s => exact ⟨_, _, rfl, rfl⟩
  | con v => exact ⟨_, _, rfl, rfl⟩
  | any => exact ⟨_, _, rfl, rfl⟩
  | op k l r => exact ⟨_, _, rfl, by simp⟩
theorem okM_tree (t : Tr) : Wf t → ∀ n : Nat, (treeN t).length < n → okM n (treeN t) = true := by
  induction t with
  | var s =>
    intro h n hn
    cases n with
    | zero => simp at hn
    | succ n => have h' : varB s = true := h; have hz := zB_zero; simp [treeN, okM, h', hz]
  | con v =>
    intro h n hn
    cases n with
    | zero => simp at hn
    | succ n => have h' : conB v = true := h; simp [treeN, okM, h', isT_empty]
  | any =>
    intro h n hn
    cases n with
    | zero => simp at hn
    | succ n => have hz := zB_zero; simp [treeN, okM, hz, isT_empty]
  | op k a b iha ihb =>
    intro h n hn
    obtain ⟨hk, ha, hb⟩ := h
    cases n with
    | zero => simp at hn
    | succ n =>
      have hl : (treeN a).length + (treeN b).length < n := by simp [treeN] at hn; omega
      have e1 := iha ha n (by omega)
      have e2 := ihb hb n (by omega)
      have hk1 : ¬ k = 1 := by omega
      have hk2 : ¬ k = 2 := by omega
      have hk6 : ¬ k = 6 := by omega
      have hz := zB_zero
      obtain ⟨x, m, hx, hs⟩ := treeN_first a
      obtain ⟨y, m', hy, _⟩ := treeN_first b
      rw [hx] at e1 hl
      have hb1 : 1 ≤ (treeN b).length := by rw [hy]; simp
      rw [treeN, hx]
      simp only [List.cons_append]
      rw [okM_op n _ _ _ (by simp; omega) hk, if_pos ⟨by simp; omega, by omega, by simp; omega, isT_empty, hz⟩]
      have ht : x.size.toNat + 1 = (x :: m).length := by simp; omega
      rw [← List.cons_append, ht, List.take_left' rfl, List.drop_left' rfl, e1, e2]
      rfl
theorem okM_some (n : Nat) : ∀ es : List GNode, okM n es = true → ∃ t, Wf t ∧ treeN t = es := by
  induction n with
  | zero => intro es h; simp [okM] at h
  | succ n ih =>
    intro es h
    cases es with
    | nil => simp [okM] at h
    | cons e rest =>
      obtain ⟨k, name, v, size⟩ := e
      unfold okM at h
      split at h
      · rename_i hs
        dsimp only at hs h
        split at h
        · rename_i hk
          simp only [Bool.and_eq_true, decide_eq_true_eq] at h
          obtain ⟨⟨h0, h1⟩, h2⟩ := h
          have hr := List.eq_nil_of_length_eq_zero h0
          subst hr hk
          rw [zB_iff] at h2
          subst h2
          simp at hs
          subst hs
          exact ⟨.var name, h1, rfl⟩
        · split at h
          · rename_i hk
            simp only [Bool.and_eq_true, decide_eq_true_eq] at h
            obtain ⟨⟨h0, h1⟩, h2⟩ := h
            have hr := List.eq_nil_of_length_eq_zero h0
            have hn := empty_of h1
            subst hr hk hn
            simp at hs
            subst hs
            exact ⟨.con v, h2, rfl⟩
          · split at h
            · rename_i hk
              simp only [Bool.and_eq_true, decide_eq_true_eq] at h
              obtain ⟨⟨h0, h1⟩, h2⟩ := h
              have hr := List.eq_nil_of_length_eq_zero h0
              have hn := empty_of h1
              rw [zB_iff] at h2
              subst hr hk hn h2
              simp at hs
              subst hs
              exact ⟨.any, trivial, rfl⟩
            · split at h
              · rename_i hk
                split at h
                · cases h
                · rename_i f more
                  split at h
                  · rename_i hc
                    obtain ⟨c1, c2, c3, c4, c5⟩ := hc
                    rw [Bool.and_eq_true] at h
                    obtain ⟨l, hl, el⟩ := ih _ h.1
                    obtain ⟨r, hr, er⟩ := ih _ h.2
                    have hn := empty_of c4
                    rw [zB_iff] at c5
                    subst hn c5
                    refine ⟨.op k l r, ⟨hk, hl, hr⟩, ?_⟩
                    rw [treeN, el, er, List.take_append_drop]
                    have hsz : ((((f :: more).take (f.size.toNat + 1)).length + ((f :: more).drop (f.size.toNat + 1)).length : Nat) : Int) = size := by
                      rw [hs, ← List.length_append, List.take_append_drop]
                    rw [hsz]
                  · cases h
              · cases h
      · cases h
theorem okM_eq (n : Nat) (es : List GNode) (h : es.length < n) : okM n es = treeB es := by
  rw [Bool.eq_iff_iff, treeB_iff]
  constructor
  · exact okM_some n es
  · rintro ⟨t, ht, rfl⟩
    exact okM_tree t ht n h
end Go.Proofs.YteoepnadjkjlmaaGreat
namespace Go.Proofs.YteoepnadjkjlmaaGreat
open Go.RowKit Go.Sort
set_option linter.unusedVariables false

/-- The place of a name: of equal ones the first; the length if there is none. -/
def idxN (names : List ByteArray) (s : ByteArray) : Nat := names.findIdx (fun n => n.toList == s.toList)
theorem idx_at (names : List ByteArray) (s : ByteArray) (k : Nat) (h : k < names.length) (hk : k ≤ idxN names s) (hb : (names[k].toList == s.toList) = true) : idxN names s = k := by
  unfold idxN at hk ⊢
  rcases Nat.lt_or_ge k (names.findIdx (fun n => n.toList == s.toList)) with h' | h'
  · have := List.not_of_lt_findIdx h'
    simp only [hb] at this
    cases this
  · omega
theorem idx_next (names : List ByteArray) (s : ByteArray) (k : Nat) (h : k < names.length) (hk : k ≤ idxN names s) (hb : (names[k].toList == s.toList) = false) : k + 1 ≤ idxN names s := by
  rcases Nat.lt_or_ge k (idxN names s) with h' | h'
  · exact h'
  · have e : idxN names s = k := by omega
    have h2 : names.findIdx (fun n => n.toList == s.toList) < names.length := by unfold idxN at e; omega
    have := List.findIdx_getElem (w := h2)
    unfold idxN at e
    simp only [e] at this
    rw [hb] at this
    cases this
theorem idx_le (names : List ByteArray) (s : ByteArray) : idxN names s ≤ names.length := List.findIdx_le_length
theorem idx_hit (names : List ByteArray) (s : ByteArray) (h : idxN names s < names.length) : (names[idxN names s].toList == s.toList) = true := by
  unfold idxN at h ⊢
  exact List.findIdx_getElem (w := h)
def calcN (k a b : Int) : Int := if k = 3 then a + b else if k = 4 then a - b else a * b
def calcV (k : Int) (a b : GV) : Option GV := if a.k = 1 ∧ b.k = 1 ∧ -1000000000 ≤ calcN k a.n b.n ∧ calcN k a.n b.n ≤ 1000000000 then some ⟨1, calcN k a.n b.n, ByteArray.empty⟩ else none
def evalT (names : List ByteArray) (vals : List GV) : Tr → Option GV
  | .var s => vals[idxN names s]?
  | .con v => some v
  | .any => none
  | .op k l r => match evalT names vals l, evalT names vals r with
    | some a, some b => calcV k a b
    | _, _ => none
/-- Integers within the limit. -/
def GoodV (v : GV) : Prop := v.k = 1 → -1000000000 ≤ v.n ∧ v.n ≤ 1000000000
theorem good_ok {v : GV} (h : valueOkB v.k v.n v.t = true) : GoodV v := by
  intro hk
  unfold valueOkB at h
  rw [hk] at h
  simp at h
  omega
theorem good_con {v : GV} (h : conB v = true) : GoodV v := by
  unfold conB at h
  rw [Bool.and_eq_true] at h
  exact good_ok h.1
theorem eval_good (names : List ByteArray) (vals : List GV) (hv : ∀ v ∈ vals, GoodV v) : ∀ (t : Tr), Wf t → ∀ v, evalT names vals t = some v → GoodV v
  | .var s, _, v, h => hv v (List.mem_of_getElem? h)
  | .con c, hw, v, h => by simp only [evalT, Option.some.injEq] at h; subst h; exact good_con hw
  | .any, _, v, h => by simp [evalT] at h
  | .op k l r, hw, v, h => by
    simp only [evalT] at h
    split at h
    · unfold calcV at h
      split at h
      · rename_i hc
        cases h
        intro _
        exact hc.2.2
      · cases h
    · cases h
def resV : Option GV → Value
  | some v => .tuple #[.agg #[.int .i64 v.k, .int .i64 v.n, .string v.t], .bool true]
  | none => .tuple #[.agg #[.int .i64 0, .int .i64 0, .string ⟨#[]⟩], .bool false]
/-- The value of an answer, zero if there is none. -/
def valO : Option GV → GV
  | some v => v
  | none => ⟨0, 0, ⟨#[]⟩⟩
theorem resV_eq (o : Option GV) : resV o = .tuple #[.agg #[.int .i64 (valO o).k, .int .i64 (valO o).n, .string (valO o).t], .bool o.isSome] := by cases o <;> rfl
theorem calc_wide {k : Int} {a b : GV} (ha : GoodV a) (hb : GoodV b) (ka : a.k = 1) (kb : b.k = 1) : -9000000000000000000 ≤ calcN k a.n b.n ∧ calcN k a.n b.n ≤ 9000000000000000000 := by
  have h1 := ha ka
  have h2 := hb kb
  unfold calcN
  split
  · omega
  · split
    · omega
    · have hm : a.n.natAbs * b.n.natAbs ≤ 1000000000 * 1000000000 := Nat.mul_le_mul (by omega) (by omega)
      have h3 : (a.n * b.n).natAbs = a.n.natAbs * b.n.natAbs := Int.natAbs_mul _ _
      omega
theorem eval_op (names : List ByteArray) (vals : List GV) (k : Int) (l r : Tr) (hk : (valO (evalT names vals l)).k = 1) (hk2 : (valO (evalT names vals r)).k = 1) : evalT names vals (.op k l r) = calcV k (valO (evalT names vals l)) (valO (evalT names vals r)) := by
  simp only [evalT]
  cases h1 : evalT names vals l with
  | none => rw [h1] at hk; simp [valO] at hk
  | some a =>
    cases h2 : evalT names vals r with
    | none => rw [h2] at hk2; simp [valO] at hk2
    | some b => rfl
theorem eval_op_l (names : List ByteArray) (vals : List GV) (k : Int) (l r : Tr) (hk : (valO (evalT names vals l)).k ≠ 1) : evalT names vals (.op k l r) = none := by
  simp only [evalT]
  cases h1 : evalT names vals l with
  | none => rfl
  | some a =>
    cases h2 : evalT names vals r with
    | none => rfl
    | some b =>
      rw [h1] at hk
      simp only [valO] at hk
      show calcV k a b = none
      unfold calcV
      rw [if_neg (fun h => hk h.1)]
theorem eval_op_r (names : List ByteArray) (vals : List GV) (k : Int) (l r : Tr) (hk : (valO (evalT names vals r)).k ≠ 1) : evalT names vals (.op k l r) = none := by
  simp only [evalT]
  cases h1 : evalT names vals l with
  | none => rfl
  | some a =>
    cases h2 : evalT names vals r with
    | none => rfl
    | some b =>
      rw [h2] at hk
      simp only [valO] at hk
      show calcV k a b = none
      unfold calcV
      rw [if_neg (fun h => hk h.2.1)]
end Go.Proofs.YteoepnadjkjlmaaGreat
