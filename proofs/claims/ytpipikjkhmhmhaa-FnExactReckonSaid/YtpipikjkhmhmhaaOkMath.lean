/-
  Flat forms of trees, checked piece by piece.
-/
import Derived.Test.YtpipikjkhmhmhaaExprOk
namespace Go.Proofs.Ytpipikjkhmhmhaa
open Go.RowKit Go.Sort
set_option linter.unusedVariables false

def zB (v : GV) : Bool := v.k == 0 && v.n == 0 && v.t.toList == []
theorem empty_list : ByteArray.empty.toList = [] := by rw [Lib.toList_data]; rfl
theorem empty_of {s : ByteArray} (h : isT s [] = true) : s = ByteArray.empty := by
  unfold isT at h
  exact toList_ext (by rw [beq_iff_eq] at h; rw [h, empty_list])
theorem isT_empty : isT ByteArray.empty [] = true := by unfold isT; rw [empty_list]; rfl
theorem zB_zero : zB zV = true := by unfold zB zV; dsimp only; rw [empty_list]; rfl
theorem zB_iff (v : GV) : zB v = true ↔ v = zV := by
  constructor
  · intro h
    obtain ⟨k, n, t⟩ := v
    unfold zB at h
    unfold zV
    simp only [Bool.and_eq_true, beq_iff_eq] at h
    obtain ⟨⟨rfl, rfl⟩, h⟩ := h
    rw [toList_ext (show t.toList = ByteArray.empty.toList by rw [h, empty_list])]
  · intro h
    rw [h]
    exact zB_zero
def okM : Nat → List GNode → Bool
  | 0, _ => false
  | _ + 1, [] => false
  | n + 1, e :: rest =>
    if e.size = (rest.length : Int) then
      if e.k = 1 then decide (rest.length = 0) && varB e.name && zB e.v
      else if e.k = 2 then decide (rest.length = 0) && isT e.name [] && conB e.v
      else if e.k = 6 then decide (rest.length = 0) && isT e.name [] && zB e.v
      else if e.k = 3 ∨ e.k = 4 ∨ e.k = 5 then
        match rest with
        | [] => false
        | f :: more =>
          if 1 ≤ more.length ∧ 0 ≤ f.size ∧ f.size ≤ (more.length : Int) - 1 ∧ isT e.name [] = true ∧ zB e.v = true then
            okM n ((f :: more).take (f.size.toNat + 1)) && okM n ((f :: more).drop (f.size.toNat + 1))
          else false
      else false
    else false
theorem okM_op (n : Nat) (e f : GNode) (more : List GNode) (hs : e.size = ((f :: more).length : Int)) (hk : e.k = 3 ∨ e.k = 4 ∨ e.k = 5) : okM (n + 1) (e :: f :: more) = if 1 ≤ more.length ∧ 0 ≤ f.size ∧ f.size ≤ (more.length : Int) - 1 ∧ isT e.name [] = true ∧ zB e.v = true then okM n ((f :: more).take (f.size.toNat + 1)) && okM n ((f :: more).drop (f.size.toNat + 1)) else false := by
  rw [okM.eq_def]
  dsimp only
  rw [if_pos hs, if_neg (by omega), if_neg (by omega), if_neg (by omega), if_pos hk]
theorem okM_op0 (n : Nat) (e : GNode) (hk : e.k = 3 ∨ e.k = 4 ∨ e.k = 5) : okM (n + 1) [e] = false := by
  rw [okM.eq_def]
  dsimp only
  split
  · rw [if_neg (by omega), if_neg (by omega), if_neg (by omega)]
  · rfl
def Wf : Tr → Prop
  | .var s => varB s = true
  | .con v => conB v = true
  | .any => True
  | .op k l r => (k = 3 ∨ k = 4 ∨ k = 5) ∧ Wf l ∧ Wf r
theorem growM_wf (n : Nat) : ∀ (xs : List GNode) (t : Tr) (r : List GNode), growM n xs = some (t, r) → Wf t := by
  induction n with
  | zero => intro xs t r h; simp [growM] at h
  | succ n ih =>
    intro xs t r h
    cases xs with
    | nil => simp [growM] at h
    | cons x rest =>
      unfold growM at h
      split at h
      · split at h
        · rename_i hv; cases h; exact hv
        · cases h
      · split at h
        · split at h
          · rename_i hv; cases h; exact hv
          · cases h
        · split at h
          · cases h; trivial
          · split at h
            · rename_i hk
              split at h
              · cases h
              · rename_i l r1 h1
                split at h
                · cases h
                · rename_i r' r2 h2
                  cases h
                  exact ⟨hk, ih _ _ _ h1, ih _ _ _ h2⟩
            · cases h
theorem growM_tree (t : Tr) : Wf t → ∀ (n : Nat) (r : List GNode), (treeN t).length < n → growM n (treeN t ++ r) = some (t, r) := by
  induction t with
  | var s =>
    intro h n r hn
    cases n with
    | zero => simp at hn
    | succ n => have h' : varB s = true := h; simp [treeN, growM, h']
  | con v =>
    intro h n r hn
    cases n with
    | zero => simp at hn
    | succ n => have h' : conB v = true := h; simp [treeN, growM, h']
  | any =>
    intro h n r hn
    cases n with
    | zero => simp at hn
    | succ n => simp [treeN, growM]
  | op k a b iha ihb =>
    intro h n r hn
    obtain ⟨hk, ha, hb⟩ := h
    cases n with
    | zero => simp at hn
    | succ n =>
      have hl : (treeN a).length + (treeN b).length < n := by simp [treeN] at hn; omega
      have e1 : growM n (treeN a ++ (treeN b ++ r)) = some (a, treeN b ++ r) := iha ha n _ (by omega)
      have e2 : growM n (treeN b ++ r) = some (b, r) := ihb hb n _ (by omega)
      have hk1 : ¬ k = 1 := by omega
      have hk2 : ¬ k = 2 := by omega
      have hk6 : ¬ k = 6 := by omega
      rw [treeN, List.cons_append, List.append_assoc, growM]
      simp only [if_neg hk1, if_neg hk2, if_neg hk6, if_pos hk, e1, e2]
theorem treeB_iff (es : List GNode) : treeB es = true ↔ ∃ t, Wf t ∧ treeN t = es := by
  constructor
  · intro h
    unfold treeB at h
    split at h
    · cases h
    · rename_i t r hg
      exact ⟨t, growM_wf _ _ _ _ hg, (eqNL_iff _ _).1 h⟩
  · rintro ⟨t, hw, rfl⟩
    have h := growM_tree t hw ((treeN t).length + 1) [] (by omega)
    rw [List.append_nil] at h
    unfold treeB
    rw [h]
    exact (eqNL_iff _ _).2 rfl
theorem treeN_first (t : Tr) : ∃ x m, treeN t = x :: m ∧ x.size = (m.length : Int) := by
  cases t with
  | var s => exact ⟨_, _, rfl, rfl⟩
  | con v => exact ⟨_, _, rfl, rfl⟩
  | any => exact ⟨_, _, rfl, rfl⟩
  | op k l r => exact ⟨_, _, rfl, by simp⟩
theorem okM_tree (t : Tr) : Wf t → ∀ n : Nat, (treeN t).length < n → okM n (treeN t) = true := by
  induction t with
  | var s =>
    intro h n hn
    cases n with
    | zero => simp at hn
    | succ n => have h' : varB s = true := h; have hz := zB_zero; simp [treeN, okM, h', hz]
  | con v =>
    intro h n hn
    cases n with
    | zero => simp at hn
    | succ n => have h' : conB v = true := h; simp [treeN, okM, h', isT_empty]
  | any =>
    intro h n hn
    cases n with
    | zero => simp at hn
    | succ n => have hz := zB_zero; simp [treeN, okM, hz, isT_empty]
  | op k a b iha ihb =>
    intro h n hn
    obtain ⟨hk, ha, hb⟩ := h
    cases n with
    | zero => simp at hn
    | succ n =>
      have hl : (treeN a).length + (treeN b).length < n := by simp [treeN] at hn; omega
      have e1 := iha ha n (by omega)
      have e2 := ihb hb n (by omega)
      have hk1 : ¬ k = 1 := by omega
      have hk2 : ¬ k = 2 := by omega
      have hk6 : ¬ k = 6 := by omega
      have hz := zB_zero
      obtain ⟨x, m, hx, hs⟩ := treeN_first a
      obtain ⟨y, m', hy, _⟩ := treeN_first b
      rw [hx] at e1 hl
      have hb1 : 1 ≤ (treeN b).length := by rw [hy]; simp
      rw [treeN, hx]
      simp only [List.cons_append]
      rw [okM_op n _ _ _ (by simp; omega) hk, if_pos ⟨by simp; omega, by omega, by simp; omega, isT_empty, hz⟩]
      have ht : x.size.toNat + 1 = (x :: m).length := by simp; omega
      rw [← List.cons_append, ht, List.take_left' rfl, List.drop_left' rfl, e1, e2]
      rfl
theorem okM_some (n : Nat) : ∀ es : List GNode, okM n es = true → ∃ t, Wf t ∧ treeN t = es := by
  induction n with
  | zero => intro es h; simp [okM] at h
  | succ n ih =>
    intro es h
    cases es with
    | nil => simp [okM] at h
    | cons e rest =>
      obtain ⟨k, name, v, size⟩ := e
      unfold okM at h
      split at h
      · rename_i hs
        dsimp only at hs h
        split at h
        · rename_i hk
          simp only [Bool.and_eq_true, decide_eq_true_eq] at h
          obtain ⟨⟨h0, h1⟩, h2⟩ := h
          have hr := List.eq_nil_of_length_eq_zero h0
          subst hr hk
          rw [zB_iff] at h2
          subst h2
          simp at hs
          subst hs
          exact ⟨.var name, h1, rfl⟩
        · split at h
          · rename_i hk
            simp only [Bool.and_eq_true, decide_eq_true_eq] at h
            obtain ⟨⟨h0, h1⟩, h2⟩ := h
            have hr := List.eq_nil_of_length_eq_zero h0
            have hn := empty_of h1
            subst hr hk hn
            simp at hs
            subst hs
            exact ⟨.con v, h2, rfl⟩
          · split at h
            · rename_i hk
              simp only [Bool.and_eq_true, decide_eq_true_eq] at h
              obtain ⟨⟨h0, h1⟩, h2⟩ := h
              have hr := List.eq_nil_of_length_eq_zero h0
              have hn := empty_of h1
              rw [zB_iff] at h2
              subst hr hk hn h2
              simp at hs
              subst hs
              exact ⟨.any, trivial, rfl⟩
            · split at h
              · rename_i hk
                split at h
                · cases h
                · rename_i f more
                  split at h
                  · rename_i hc
                    obtain ⟨c1, c2, c3, c4, c5⟩ := hc
                    rw [Bool.and_eq_true] at h
                    obtain ⟨l, hl, el⟩ := ih _ h.1
                    obtain ⟨r, hr, er⟩ := ih _ h.2
                    have hn := empty_of c4
                    rw [zB_iff] at c5
                    subst hn c5
                    refine ⟨.op k l r, ⟨hk, hl, hr⟩, ?_⟩
                    rw [treeN, el, er, List.take_append_drop]
                    have hsz : ((((f :: more).take (f.size.toNat + 1)).length + ((f :: more).drop (f.size.toNat + 1)).length : Nat) : Int) = size := by
                      rw [hs, ← List.length_append, List.take_append_drop]
                    rw [hsz]
                  · cases h
              · cases h
      · cases h
theorem okM_eq (n : Nat) (es : List GNode) (h : es.length < n) : okM n es = treeB es := by
  rw [Bool.eq_iff_iff, treeB_iff]
  constructor
  · exact okM_some n es
  · rintro ⟨t, ht, rfl⟩
    exact okM_tree t ht n h
end Go.Proofs.Ytpipikjkhmhmhaa
