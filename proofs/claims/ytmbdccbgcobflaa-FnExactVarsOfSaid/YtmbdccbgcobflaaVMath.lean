/-
  Ascending lists of texts: told by their members; a text put in keeps them ascending; so does a run of equal texts cut short in a sorted list.
-/
import Derived.Test.YtmbdccbgcobflaaSVarsOf
import Derived.Lib.SlicesCompact
import Derived.Sort.Walk0
namespace Go.Proofs.Ytmbdccbgcobflaa
open Go.RowKit Go.Sort
set_option linter.unusedVariables false

abbrev By := List UInt8
theorem by_irrefl (x : By) : ¬ x < x := List.lt_irrefl x
theorem by_trans {x y z : By} (h : x < y) (k : y < z) : x < z := List.lt_trans h k
theorem by_tri {x y : By} (h : ¬ x < y) (k : x ≠ y) : y < x := by
  rcases List.le_total x y with h1 | h1
  · exact absurd (List.le_antisymm h1 (List.not_lt.1 h)) k
  · exact Decidable.byContradiction fun h2 => k (List.le_antisymm (List.not_lt.1 h2) (List.not_lt.1 h))
theorem asc_by : ∀ (a b : List By), a.Pairwise (· < ·) → b.Pairwise (· < ·) → (∀ r, r ∈ a ↔ r ∈ b) → a = b
  | [], [], _, _, _ => rfl
  | [], y :: b, _, _, h => by have := (h y).2 (by simp); simp at this
  | x :: a, [], _, _, h => by have := (h x).1 (by simp); simp at this
  | x :: a, y :: b, ha, hb, h => by
    rw [List.pairwise_cons] at ha hb
    have hxy : x = y := by
      have h1 := (h x).1 (by simp)
      have h2 := (h y).2 (by simp)
      rw [List.mem_cons] at h1 h2
      rcases h1 with h1 | h1
      · exact h1
      · rcases h2 with h2 | h2
        · exact h2.symm
        · exact absurd (by_trans (hb.1 x h1) (ha.1 y h2)) (by_irrefl _)
    subst hxy
    have ht : ∀ r, r ∈ a ↔ r ∈ b := by
      intro r
      have hr := h r
      simp only [List.mem_cons] at hr
      constructor
      · intro hm
        rcases hr.1 (.inr hm) with e | e
        · subst e; exact absurd (ha.1 r hm) (by_irrefl _)
        · exact e
      · intro hm
        rcases hr.2 (.inr hm) with e | e
        · subst e; exact absurd (hb.1 r hm) (by_irrefl _)
        · exact e
    rw [asc_by a b ha.2 hb.2 ht]
def byL (l : List ByteArray) : List By := l.map (·.data.toList)
def unL (l : List By) : List ByteArray := l.map fun b => ⟨b.toArray⟩
theorem un_by (l : List ByteArray) : unL (byL l) = l := by
  unfold unL byL
  rw [List.map_map]
  exact List.map_id'' (fun x => by simp) l
theorem by_un (l : List By) : byL (unL l) = l := by
  unfold unL byL
  rw [List.map_map]
  exact List.map_id'' (fun x => by simp) l
def AscS (l : List ByteArray) : Prop := (byL l).Pairwise (· < ·)
theorem ltB_iff (a b : ByteArray) : ltB a b = true ↔ a.data.toList < b.data.toList := by
  unfold ltB; rw [bytesLess_eq, Lib.toList_data, Lib.toList_data]; simp
theorem byte_ext {a b : ByteArray} (h : a.data.toList = b.data.toList) : a = b := ByteArray.ext (Array.toList_inj.1 h)
theorem posM_before (s : ByteArray) : ∀ (l : List ByteArray), ∀ x ∈ l.take (posM l s), ltB x s = true
  | [], x, h => by simp at h
  | y :: r, x, h => by
    rw [posM] at h
    by_cases hy : ltB y s = true
    · rw [if_pos hy, List.take_succ_cons, List.mem_cons] at h
      rcases h with rfl | h
      · exact hy
      · exact posM_before s r x h
    · rw [if_neg hy] at h; simp at h
theorem posM_at (s : ByteArray) : ∀ (l : List ByteArray) (x : ByteArray), l[posM l s]? = some x → ltB x s = false
  | [], x, h => by simp at h
  | y :: r, x, h => by
    rw [posM] at h
    by_cases hy : ltB y s = true
    · rw [if_pos hy, List.getElem?_cons_succ] at h; exact posM_at s r x h
    · rw [if_neg hy] at h; simp at h; subst h; simpa using hy
theorem insM_mem (l : List ByteArray) (s r : ByteArray) : r ∈ insM l s ↔ (r = s ∨ r ∈ l) := by
  unfold insM
  split
  · rename_i h
    constructor
    · exact .inr
    · rintro (rfl | h')
      · exact List.mem_of_getElem? h
      · exact h'
  · conv => rhs; rw [← List.take_append_drop (posM l s) l]
    simp only [List.mem_append, List.mem_cons]
    constructor
    · rintro (h | h | h)
      · exact .inr (.inl h)
      · exact .inl h
      · exact .inr (.inr h)
    · rintro (h | h | h)
      · exact .inr (.inl h)
      · exact .inl h
      · exact .inr (.inr h)
theorem insM_asc (l : List ByteArray) (s : ByteArray) (h : AscS l) : AscS (insM l s) := by
  unfold insM
  split
  · exact h
  · rename_i hne
    unfold AscS byL at *
    have h' := h
    rw [← List.take_append_drop (posM l s) l, List.map_append, List.pairwise_append] at h'
    obtain ⟨h1, h2, h3⟩ := h'
    have hb : ∀ x ∈ l.take (posM l s), x.data.toList < s.data.toList := fun x hx => (ltB_iff x s).1 (posM_before s l x hx)
    have ha : ∀ x ∈ l.drop (posM l s), s.data.toList < x.data.toList := by
      intro x hx
      by_cases hp : posM l s < l.length
      · have hg : l[posM l s]? = some l[posM l s] := List.getElem?_eq_getElem hp
        have h4 := posM_at s l _ hg
        have h5 : s.data.toList < (l[posM l s]).data.toList := by
          refine by_tri (fun h6 => ?_) (fun h6 => ?_)
          · rw [(ltB_iff _ s).2 h6] at h4; cases h4
          · exact hne (by rw [hg, byte_ext h6])
        rw [List.drop_eq_getElem_cons hp] at hx h2
        rw [List.mem_cons] at hx
        rcases hx with rfl | hx
        · exact h5
        · rw [List.map_cons, List.pairwise_cons] at h2
          exact by_trans h5 (h2.1 _ (List.mem_map_of_mem hx))
      · rw [List.drop_of_length_le (by omega)] at hx; simp at hx
    rw [List.map_append, List.map_cons, List.pairwise_append, List.pairwise_cons]
    refine ⟨h1, ⟨?_, h2⟩, ?_⟩
    · intro y hy
      rw [List.mem_map] at hy
      obtain ⟨x, hx, rfl⟩ := hy
      exact ha x hx
    · intro y hy z hz
      rw [List.mem_map] at hy
      obtain ⟨x, hx, rfl⟩ := hy
      rw [List.mem_cons] at hz
      rcases hz with rfl | hz
      · exact hb x hx
      · rw [List.mem_map] at hz
        obtain ⟨x', hx', rfl⟩ := hz
        exact by_trans (hb x hx) (ha x' hx')
theorem addAll_asc (ns : List ByteArray) : ∀ l, AscS l → AscS (addAll l ns) ∧ ∀ r, r ∈ addAll l ns ↔ (r ∈ l ∨ r ∈ ns) := by
  induction ns with
  | nil => intro l h; exact ⟨h, by simp [addAll]⟩
  | cons x ns ih =>
    intro l h
    obtain ⟨h1, h2⟩ := ih (insM l x) (insM_asc l x h)
    refine ⟨h1, fun r => ?_⟩
    show r ∈ addAll (insM l x) ns ↔ _
    rw [h2, insM_mem, List.mem_cons]
    constructor
    · rintro ((h | h) | h)
      · exact .inr (.inl h)
      · exact .inl h
      · exact .inr (.inr h)
    · rintro (h | h | h)
      · exact .inl (.inr h)
      · exact .inl (.inl h)
      · exact .inr h
theorem compact_asc (d : Array By) (hs : ∀ i j, i ≤ j → j < d.size → d[i]! ≤ d[j]!) : ∀ m, m ≤ d.size → (Lib.compactUpTo d m).Pairwise (· < ·) ∧ ∀ x, x ∈ Lib.compactUpTo d m ↔ ∃ j, j < m ∧ d[j]! = x
  | 0, _ => by simp [Lib.compactUpTo]
  | m + 1, hm => by
    obtain ⟨h1, h2⟩ := compact_asc d hs m (by omega)
    rw [Lib.compactUpTo_succ]
    by_cases hk : Lib.keeps d m = true
    · rw [if_pos hk]
      constructor
      · rw [List.pairwise_append]
        refine ⟨h1, by simp, fun x hx y hy => ?_⟩
        simp only [List.mem_singleton] at hy
        subst hy
        obtain ⟨j, hj, rfl⟩ := (h2 x).1 hx
        have hne : d[m]! ≠ d[m - 1]! := by
          unfold Lib.keeps at hk
          simp only [decide_eq_true_eq] at hk
          rcases hk with hk | hk
          · omega
          · exact hk
        have e1 := hs j (m - 1) (by omega) (by omega)
        have e2 := hs (m - 1) m (by omega) (by omega)
        refine Decidable.byContradiction fun h3 => ?_
        have e3 : d[m]! ≤ d[j]! := List.not_lt.1 h3
        exact hne (List.le_antisymm (List.le_trans e3 e1) e2)
      · intro x
        rw [List.mem_append, h2, List.mem_singleton]
        constructor
        · rintro (⟨j, hj, rfl⟩ | rfl)
          · exact ⟨j, by omega, rfl⟩
          · exact ⟨m, by omega, rfl⟩
        · rintro ⟨j, hj, rfl⟩
          by_cases e : j = m
          · subst e; exact .inr rfl
          · exact .inl ⟨j, by omega, rfl⟩
    · rw [if_neg hk, List.append_nil]
      refine ⟨h1, fun x => ?_⟩
      rw [h2]
      constructor
      · rintro ⟨j, hj, rfl⟩
        exact ⟨j, by omega, rfl⟩
      · rintro ⟨j, hj, rfl⟩
        by_cases e : j = m
        · subst e
          unfold Lib.keeps at hk
          simp only [decide_eq_true_eq, not_or, Decidable.not_not] at hk
          exact ⟨j - 1, by omega, hk.2.symm⟩
        · exact ⟨j, by omega, rfl⟩
def sortM (l : List ByteArray) : List By := (byL l).mergeSort fun x y => decide (x ≤ y)
theorem sortM_len (l : List ByteArray) : (sortM l).length = l.length := by simp [sortM, byL]
theorem sortM_sorted (l : List ByteArray) : (sortM l).Pairwise fun x y => x ≤ y := by
  have h := List.pairwise_mergeSort (le := fun x y : By => decide (x ≤ y)) (fun a b c h1 h2 => by simp only [decide_eq_true_eq] at *; exact List.le_trans h1 h2) (fun a b => by simp only [Bool.or_eq_true, decide_eq_true_eq]; exact List.le_total a b) (byL l)
  exact h.imp fun {a b} h => by simpa using h
theorem vars_same (l : List ByteArray) : unL (Lib.compact (sortM l)) = addAll [] l := by
  obtain ⟨h1, h2⟩ := addAll_asc l [] (by simp [AscS, byL])
  have hs : ∀ i j, i ≤ j → j < (sortM l).toArray.size → (sortM l).toArray[i]! ≤ (sortM l).toArray[j]! := by
    intro i j hij hj
    have hj' : j < (sortM l).length := by simpa using hj
    have hi' : i < (sortM l).length := by omega
    rw [getElem!_pos _ i (by simpa using hi'), getElem!_pos _ j (by simpa using hj')]
    simp only [List.getElem_toArray]
    by_cases e : i = j
    · subst e; exact List.le_refl _
    · exact List.pairwise_iff_getElem.1 (sortM_sorted l) i j hi' hj' (by omega)
  obtain ⟨h3, h4⟩ := compact_asc (sortM l).toArray hs (sortM l).length (by simp)
  have key : Lib.compact (sortM l) = byL (addAll [] l) := by
    refine asc_by _ _ h3 h1 (fun r => ?_)
    show r ∈ Lib.compactUpTo _ _ ↔ _
    rw [h4]
    unfold byL
    rw [List.mem_map]
    have hmem : r ∈ sortM l ↔ r ∈ byL l := (List.mergeSort_perm _ _).mem_iff
    constructor
    · rintro ⟨j, hj, rfl⟩
      have hj' : (sortM l).toArray[j]! = (sortM l)[j] := by rw [getElem!_pos _ j (by simpa using hj)]; simp
      have := hmem.1 (by rw [hj']; exact List.getElem_mem hj)
      unfold byL at this
      rw [List.mem_map] at this
      obtain ⟨a, ha, e⟩ := this
      exact ⟨a, (h2 a).2 (.inr ha), e⟩
    · rintro ⟨a, ha, rfl⟩
      rw [h2] at ha
      rcases ha with ha | ha
      · simp at ha
      · have := hmem.2 (List.mem_map_of_mem ha)
        obtain ⟨j, hj, e⟩ := List.getElem_of_mem this
        exact ⟨j, hj, by rw [getElem!_pos _ j (by simpa using hj)]; simpa using e⟩
  rw [key, un_by]
end Go.Proofs.Ytmbdccbgcobflaa
