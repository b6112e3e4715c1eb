/-
  What the elements of a list of differences with one row sum to; ascending lists without a count of 0 are told by these sums.
-/
import Derived.Test.YtemcpdpbikgfcaaSumDZ
import Derived.Test.YtemcpdpbikgfcaaFindMZ
namespace Go.Proofs.Ytemcpdpbikgfcaa
open Go.RowKit Go.Sort
set_option linter.unusedVariables false

def coef (zs : List GDiff) (r : List GV) : Int := (zs.map fun z => if cmpR z.row r = 0 then z.count else 0).sum
theorem coef_nil (r : List GV) : coef [] r = 0 := rfl
theorem coef_cons (z : GDiff) (zs : List GDiff) (r : List GV) : coef (z :: zs) r = (if cmpR z.row r = 0 then z.count else 0) + coef zs r := by simp [coef]
theorem coef_append (a b : List GDiff) (r : List GV) : coef (a ++ b) r = coef a r + coef b r := by simp [coef]
theorem coef_oneD (x r : List GV) (n : Int) : coef (oneD x n) r = if cmpR x r = 0 then n else 0 := by
  unfold oneD
  by_cases h : n = 0
  · rw [if_pos h]; simp [coef, h]
  · rw [if_neg h]; simp [coef]
theorem coef_addD (r : List GV) : ∀ (n : Nat) (a b : List GDiff), a.length + b.length ≤ n → coef (addD a b) r = coef a r + coef b r := by
  intro n
  induction n with
  | zero =>
    intro a b h
    have ha : a = [] := List.eq_nil_of_length_eq_zero (by omega)
    have hb : b = [] := List.eq_nil_of_length_eq_zero (by omega)
    subst ha hb; simp [addD, coef]
  | succ n ih =>
    intro a b h
    match a, b, h with
    | [], b, _ => simp [addD, coef_nil]
    | x :: a, [], _ => simp [addD, coef_nil]
    | x :: a, y :: b, h =>
      simp only [List.length_cons] at h
      rw [addD]
      by_cases h1 : cmpR x.row y.row < 0
      · rw [if_pos h1, coef_cons, ih a (y :: b) (by simp; omega), coef_cons, coef_cons]; omega
      · rw [if_neg h1]
        by_cases h2 : 0 < cmpR x.row y.row
        · rw [if_pos h2, coef_cons, ih (x :: a) b (by simp; omega), coef_cons, coef_cons]; omega
        · rw [if_neg h2, coef_append, coef_oneD, ih a b (by omega), coef_cons, coef_cons]
          have he : x.row = y.row := (good_cmpR.eq _ _).1 (by omega)
          rw [he]
          by_cases h3 : cmpR y.row r = 0
          · simp only [if_pos h3]; omega
          · simp only [if_neg h3]; omega
theorem coef_ne {zs : List GDiff} {r : List GV} (h : coef zs r ≠ 0) : ∃ z ∈ zs, z.row = r := by
  induction zs with
  | nil => exact absurd rfl h
  | cons z zs ih =>
    rw [coef_cons] at h
    by_cases h1 : cmpR z.row r = 0
    · exact ⟨z, List.mem_cons_self, (good_cmpR.eq _ _).1 h1⟩
    · rw [if_neg h1, Int.zero_add] at h
      obtain ⟨z', hm, e⟩ := ih h
      exact ⟨z', List.mem_cons_of_mem _ hm, e⟩
def AscD (zs : List GDiff) : Prop := zs.Pairwise fun a b => cmpR a.row b.row < 0
def nzD (zs : List GDiff) : Prop := ∀ z ∈ zs, z.count ≠ 0
theorem cmp_irr (r : List GV) : ¬ cmpR r r < 0 := by rw [(good_cmpR.eq r r).2 rfl]; decide
theorem asc_ne {z : GDiff} {zs : List GDiff} (h : AscD (z :: zs)) : ∀ z' ∈ zs, z'.row ≠ z.row := by
  intro z' hm e
  have := (List.pairwise_cons.1 h).1 z' hm
  rw [e] at this
  exact cmp_irr _ this
theorem coef_none {zs : List GDiff} {r : List GV} (h : ∀ z ∈ zs, z.row ≠ r) : coef zs r = 0 := by
  rcases Decidable.em (coef zs r = 0) with h1 | h1
  · exact h1
  · obtain ⟨z, hm, e⟩ := coef_ne h1
    exact absurd e (h z hm)
theorem coef_mem {zs : List GDiff} (h : AscD zs) : ∀ z ∈ zs, coef zs z.row = z.count := by
  induction zs with
  | nil => intro z hz; simp at hz
  | cons x zs ih =>
    intro z hz
    rw [coef_cons]
    rcases List.mem_cons.1 hz with rfl | hz
    · rw [if_pos ((good_cmpR.eq _ _).2 rfl), coef_none (asc_ne h)]; omega
    · have hne := asc_ne h z hz
      rw [if_neg (fun e => hne ((good_cmpR.eq _ _).1 e).symm), ih (List.pairwise_cons.1 h).2 z hz]; omega
theorem diff_ext {x y : GDiff} (h : x.row = y.row) (h' : x.count = y.count) : x = y := by cases x; cases y; simp at h h'; simp [h, h']
theorem mem_coef {zs : List GDiff} (h : AscD zs) {z : GDiff} (hz : z.count ≠ 0) (hc : coef zs z.row = z.count) : z ∈ zs := by
  obtain ⟨z', hm, e⟩ := coef_ne (by rw [hc]; exact hz)
  have := coef_mem h z' hm
  rw [e, hc] at this
  exact (diff_ext e this.symm) ▸ hm
theorem asc_same : ∀ (a b : List GDiff), AscD a → AscD b → (∀ z, z ∈ a ↔ z ∈ b) → a = b
  | [], [], _, _, _ => rfl
  | [], y :: b, _, _, h => by have := (h y).2 List.mem_cons_self; simp at this
  | x :: a, [], _, _, h => by have := (h x).1 List.mem_cons_self; simp at this
  | x :: a, y :: b, ha, hb, h => by
    have pa := List.pairwise_cons.1 ha
    have pb := List.pairwise_cons.1 hb
    have hxy : x = y := by
      rcases List.mem_cons.1 ((h x).1 List.mem_cons_self) with e | hx
      · exact e
      · rcases List.mem_cons.1 ((h y).2 List.mem_cons_self) with e | hy
        · exact e.symm
        · exact absurd (good_cmpR.trans _ _ _ (pa.1 y hy) (pb.1 x hx)) (cmp_irr _)
    subst hxy
    rw [asc_same a b pa.2 pb.2 (fun z => ?_)]
    constructor
    · intro hz
      rcases List.mem_cons.1 ((h z).1 (List.mem_cons_of_mem _ hz)) with rfl | h1
      · exact absurd (pa.1 _ hz) (cmp_irr _)
      · exact h1
    · intro hz
      rcases List.mem_cons.1 ((h z).2 (List.mem_cons_of_mem _ hz)) with rfl | h1
      · exact absurd (pb.1 _ hz) (cmp_irr _)
      · exact h1
theorem ascD_unique {a b : List GDiff} (ha : AscD a) (hb : AscD b) (na : nzD a) (nb : nzD b) (h : ∀ r, coef a r = coef b r) : a = b :=
  asc_same a b ha hb fun z => ⟨fun hz => mem_coef hb (na z hz) (by rw [← h]; exact coef_mem ha z hz), fun hz => mem_coef ha (nb z hz) (by rw [h]; exact coef_mem hb z hz)⟩
theorem addD_mem : ∀ (n : Nat) (a b : List GDiff), a.length + b.length ≤ n → ∀ z ∈ addD a b, (∃ z' ∈ a, z'.row = z.row) ∨ ∃ z' ∈ b, z'.row = z.row := by
  intro n
  induction n with
  | zero =>
    intro a b h z hz
    have h1 : a = [] := List.eq_nil_of_length_eq_zero (by omega)
    subst h1; simp only [addD] at hz; exact .inr ⟨z, hz, rfl⟩
  | succ n ih =>
    intro a b h z hz
    match a, b, h, hz with
    | [], b, _, hz => simp only [addD] at hz; exact .inr ⟨z, hz, rfl⟩
    | x :: a, [], _, hz => simp only [addD] at hz; exact .inl ⟨z, hz, rfl⟩
    | x :: a, y :: b, h, hz =>
      simp only [List.length_cons] at h
      rw [addD] at hz
      have la : ∀ {z : GDiff}, (∃ z' ∈ a, z'.row = z.row) → ∃ z' ∈ x :: a, z'.row = z.row := fun ⟨z', hm, e⟩ => ⟨z', List.mem_cons_of_mem _ hm, e⟩
      have lb : ∀ {z : GDiff}, (∃ z' ∈ b, z'.row = z.row) → ∃ z' ∈ y :: b, z'.row = z.row := fun ⟨z', hm, e⟩ => ⟨z', List.mem_cons_of_mem _ hm, e⟩
      by_cases h1 : cmpR x.row y.row < 0
      · rw [if_pos h1] at hz
        rcases List.mem_cons.1 hz with rfl | hz
        · exact .inl ⟨_, List.mem_cons_self, rfl⟩
        · exact (ih a (y :: b) (by simp; omega) z hz).imp la id
      · rw [if_neg h1] at hz
        by_cases h2 : 0 < cmpR x.row y.row
        · rw [if_pos h2] at hz
          rcases List.mem_cons.1 hz with rfl | hz
          · exact .inr ⟨_, List.mem_cons_self, rfl⟩
          · exact (ih (x :: a) b (by simp; omega) z hz).imp id lb
        · rw [if_neg h2, List.mem_append] at hz
          rcases hz with hz | hz
          · unfold oneD at hz
            by_cases h3 : x.count + y.count = 0
            · rw [if_pos h3] at hz; simp at hz
            · rw [if_neg h3, List.mem_singleton] at hz; subst hz; exact .inl ⟨x, List.mem_cons_self, rfl⟩
          · exact (ih a b (by omega) z hz).imp la lb
theorem asc_addD : ∀ (n : Nat) (a b : List GDiff), a.length + b.length ≤ n → AscD a → AscD b → nzD a → nzD b → AscD (addD a b) ∧ nzD (addD a b) := by
  intro n
  induction n with
  | zero =>
    intro a b h ha hb na nb
    have h1 : a = [] := List.eq_nil_of_length_eq_zero (by omega)
    subst h1; simp only [addD]; exact ⟨hb, nb⟩
  | succ n ih =>
    intro a b h ha hb na nb
    match a, b, h with
    | [], b, _ => simp only [addD]; exact ⟨hb, nb⟩
    | x :: a, [], _ => simp only [addD]; exact ⟨ha, na⟩
    | x :: a, y :: b, h =>
      simp only [List.length_cons] at h
      have pa := List.pairwise_cons.1 ha
      have pb := List.pairwise_cons.1 hb
      have na' : nzD a := fun z hz => na z (List.mem_cons_of_mem _ hz)
      have nb' : nzD b := fun z hz => nb z (List.mem_cons_of_mem _ hz)
      rw [addD]
      by_cases h1 : cmpR x.row y.row < 0
      · rw [if_pos h1]
        obtain ⟨i1, i2⟩ := ih a (y :: b) (by simp; omega) pa.2 hb na' nb
        refine ⟨List.pairwise_cons.2 ⟨fun z hz => ?_, i1⟩, fun z hz => ?_⟩
        · rcases addD_mem _ a (y :: b) (Nat.le_refl _) z hz with ⟨z', hm, e⟩ | ⟨z', hm, e⟩
          · rw [← e]; exact pa.1 z' hm
          · rw [← e]
            rcases List.mem_cons.1 hm with rfl | hm
            · exact h1
            · exact good_cmpR.trans _ _ _ h1 (pb.1 z' hm)
        · rcases List.mem_cons.1 hz with rfl | hz
          · exact na _ List.mem_cons_self
          · exact i2 z hz
      · rw [if_neg h1]
        by_cases h2 : 0 < cmpR x.row y.row
        · rw [if_pos h2]
          have h3 : cmpR y.row x.row < 0 := by have := good_cmpR.anti x.row y.row; omega
          obtain ⟨i1, i2⟩ := ih (x :: a) b (by simp; omega) ha pb.2 na nb'
          refine ⟨List.pairwise_cons.2 ⟨fun z hz => ?_, i1⟩, fun z hz => ?_⟩
          · rcases addD_mem _ (x :: a) b (Nat.le_refl _) z hz with ⟨z', hm, e⟩ | ⟨z', hm, e⟩
            · rw [← e]
              rcases List.mem_cons.1 hm with rfl | hm
              · exact h3
              · exact good_cmpR.trans _ _ _ h3 (pa.1 z' hm)
            · rw [← e]; exact pb.1 z' hm
          · rcases List.mem_cons.1 hz with rfl | hz
            · exact nb _ List.mem_cons_self
            · exact i2 z hz
        · rw [if_neg h2]
          have he : x.row = y.row := (good_cmpR.eq _ _).1 (by omega)
          obtain ⟨i1, i2⟩ := ih a b (by omega) pa.2 pb.2 na' nb'
          unfold oneD
          by_cases h3 : x.count + y.count = 0
          · rw [if_pos h3]; exact ⟨i1, i2⟩
          · rw [if_neg h3]
            refine ⟨List.pairwise_cons.2 ⟨fun z hz => ?_, i1⟩, fun z hz => ?_⟩
            · rcases addD_mem _ a b (Nat.le_refl _) z hz with ⟨z', hm, e⟩ | ⟨z', hm, e⟩
              · rw [← e]; exact pa.1 z' hm
              · rw [← e, he]; exact pb.1 z' hm
            · rcases List.mem_cons.1 hz with rfl | hz
              · exact h3
              · exact i2 z hz
/-- The list of the sums. -/
structure Canon (L zs : List GDiff) : Prop where
  asc : AscD L
  nz : nzD L
  sum : ∀ r, coef L r = coef zs r
theorem canon_addD {a b : List GDiff} (ha : AscD a) (hb : AscD b) (na : nzD a) (nb : nzD b) : Canon (addD a b) (a ++ b) :=
  ⟨(asc_addD _ a b (Nat.le_refl _) ha hb na nb).1, (asc_addD _ a b (Nat.le_refl _) ha hb na nb).2, fun r => by rw [coef_append, coef_addD r _ a b (Nat.le_refl _)]⟩
theorem canon_sumD : ∀ (n : Nat) (zs : List GDiff), zs.length ≤ n → nzD zs → Canon (sumD zs) zs := by
  intro n
  induction n with
  | zero =>
    intro zs h nz
    have : zs = [] := List.eq_nil_of_length_eq_zero (by omega)
    subst this; rw [sumD_small (by simp)]; exact ⟨List.Pairwise.nil, nz, fun r => rfl⟩
  | succ n ih =>
    intro zs h nz
    by_cases h2 : zs.length < 2
    · rw [sumD_small h2]
      refine ⟨?_, nz, fun r => rfl⟩
      match zs, h2 with
      | [], _ => exact List.Pairwise.nil
      | [x], _ => exact List.pairwise_singleton _ _
    · rw [sumD_step h2]
      have c1 := ih (zs.take (zs.length / 2)) (by simp; omega) (fun z hz => nz z (List.mem_of_mem_take hz))
      have c2 := ih (zs.drop (zs.length / 2)) (by simp; omega) (fun z hz => nz z (List.mem_of_mem_drop hz))
      obtain ⟨i1, i2⟩ := asc_addD _ _ _ (Nat.le_refl _) c1.asc c2.asc c1.nz c2.nz
      refine ⟨i1, i2, fun r => ?_⟩
      rw [coef_addD r _ _ _ (Nat.le_refl _), c1.sum, c2.sum, ← coef_append, List.take_append_drop]
theorem ascB_of : ∀ (rows : List (List GV)), rows.Pairwise (fun a b => cmpR a b < 0) → ascB rows = true
  | [], _ => rfl
  | [_], _ => rfl
  | a :: b :: rows, h => by
    have h1 := List.pairwise_cons.1 h
    simp only [ascB, Bool.and_eq_true, decide_eq_true_eq]
    exact ⟨h1.1 b List.mem_cons_self, ascB_of (b :: rows) h1.2⟩
theorem of_ascB : ∀ (rows : List (List GV)), ascB rows = true → rows.Pairwise (fun a b => cmpR a b < 0)
  | [], _ => List.Pairwise.nil
  | [_], _ => List.pairwise_singleton _ _
  | a :: b :: rows, h => by
    simp only [ascB, Bool.and_eq_true, decide_eq_true_eq] at h
    have h1 := of_ascB (b :: rows) h.2
    refine List.pairwise_cons.2 ⟨fun z hz => ?_, h1⟩
    rcases List.mem_cons.1 hz with rfl | hz
    · exact h.1
    · exact good_cmpR.trans _ _ _ h.1 ((List.pairwise_cons.1 h1).1 z hz)
theorem ascD_iff (zs : List GDiff) : ascB (rowsD zs) = true ↔ AscD zs := by
  unfold AscD rowsD
  constructor
  · intro h
    have := of_ascB _ h
    rwa [List.pairwise_map] at this
  · intro h
    exact ascB_of _ (by rw [List.pairwise_map]; exact h)
theorem diffOk_asc {zs : List GDiff} (h : diffOkB zs = true) : AscD zs ∧ nzD zs ∧ ∀ z ∈ zs, goodRow (wid (rowsD zs)) z.row = true ∧ cntB z.count = true := by
  unfold diffOkB at h
  simp only [Bool.and_eq_true, decide_eq_true_eq, List.all_eq_true] at h
  refine ⟨(ascD_iff zs).1 h.2, fun z hz => ?_, fun z hz => ?_⟩
  · have := h.1.2 z hz
    unfold goodD cntB at this
    simp at this
    exact this.2.1.1
  · have := h.1.2 z hz
    unfold goodD at this
    rw [Bool.and_eq_true] at this
    exact this
theorem canon_row {L zs : List GDiff} (h : Canon L zs) {z : GDiff} (hz : z ∈ L) : ∃ z' ∈ zs, z'.row = z.row :=
  coef_ne (by rw [← h.sum, coef_mem h.asc z hz]; exact h.nz z hz)
theorem canon_unique {L L' zs : List GDiff} (h : Canon L zs) (h' : Canon L' zs) : L = L' := ascD_unique h.asc h'.asc h.nz h'.nz (fun r => by rw [h.sum, h'.sum])
theorem canon_ok {L zs : List GDiff} {n : Nat} (h : Canon L zs) (hr : ∀ z ∈ zs, goodRow n z.row = true) (hl : L.length ≤ 3000) (hc : ∀ z ∈ L, cntB z.count = true) : diffOkB L = true := by
  have hg : ∀ z ∈ L, goodRow n z.row = true := fun z hz => by obtain ⟨z', hm, e⟩ := canon_row h hz; rw [← e]; exact hr z' hm
  have hw : ∀ z ∈ L, goodRow (wid (rowsD L)) z.row = true := by
    intro z hz
    have h1 : 0 < L.length := List.length_pos_of_mem hz
    rw [widD_eq h1]
    have h2 := hg z hz
    have h3 := hg L[0] (List.getElem_mem h1)
    unfold goodRow at h2 h3 ⊢
    simp only [Bool.and_eq_true, decide_eq_true_eq] at h2 h3 ⊢
    exact ⟨h2.1, by omega⟩
  unfold diffOkB
  simp only [Bool.and_eq_true, decide_eq_true_eq, List.all_eq_true]
  refine ⟨⟨hl, fun z hz => ?_⟩, (ascD_iff L).2 h.asc⟩
  unfold goodD
  rw [hw z hz, hc z hz]; rfl
theorem len_le {α : Type} : ∀ (rs l : List α), rs.Nodup → (∀ r ∈ rs, r ∈ l) → rs.length ≤ l.length
  | [], l, _, _ => by simp
  | r :: rs, l, hn, hs => by
    obtain ⟨s, t, rfl⟩ := List.append_of_mem (hs r List.mem_cons_self)
    have hn' := List.nodup_cons.1 hn
    have := len_le rs (s ++ t) hn'.2 (fun x hx => by
      have h1 := hs x (List.mem_cons_of_mem _ hx)
      rw [List.mem_append, List.mem_cons] at h1
      rw [List.mem_append]
      rcases h1 with h1 | rfl | h1
      · exact .inl h1
      · exact absurd hx hn'.1
      · exact .inr h1)
    simp only [List.length_append, List.length_cons] at this ⊢
    omega
theorem canon_big {L zs : List GDiff} (h : Canon L zs) {rs : List (List GV)} (hn : rs.Nodup) (hr : ∀ r ∈ rs, coef zs r ≠ 0) : rs.length ≤ L.length := by
  have := len_le rs (rowsD L) hn (fun r hm => by
    obtain ⟨z, hz, e⟩ := coef_ne (by rw [h.sum]; exact hr r hm)
    exact List.mem_map.2 ⟨z, hz, e⟩)
  simpa [rowsD] using this
theorem or_big {L zs : List GDiff} (h : Canon L zs) {rs : List (List GV)} (hn : rs.Nodup) (hr : ∀ r ∈ rs, coef zs r ≠ 0) (hl : 3000 < rs.length) : orD L = [] := by
  unfold orD
  rw [if_neg]
  have := canon_big h hn hr
  unfold diffOkB
  simp; omega
theorem or_cnt {L zs : List GDiff} (h : Canon L zs) {r : List GV} (hr : coef zs r ≠ 0) (hc : cntB (coef zs r) = false) : orD L = [] := by
  unfold orD
  rw [if_neg]
  intro hk
  obtain ⟨z, hz, e⟩ := coef_ne (by rw [h.sum]; exact hr)
  have h1 := ((diffOk_asc hk).2.2 z hz).2
  rw [← coef_mem h.asc z hz, e, h.sum, hc] at h1
  cases h1
theorem or_ok {L Q zs : List GDiff} {n : Nat} (h : Canon L zs) (h' : Canon Q zs) (hr : ∀ z ∈ zs, goodRow n z.row = true) (hl : Q.length ≤ 3000) (hc : ∀ z ∈ Q, cntB z.count = true) : orD L = Q := by
  rw [canon_unique h h']
  unfold orD
  rw [if_pos (canon_ok h' hr hl hc)]
end Go.Proofs.Ytemcpdpbikgfcaa
