/-
  Joins and projections as weighted sums over the rows of a list of differences.
-/
import Derived.Test.YtemcpdpbikgfcaaJoinMIZ
import Derived.Test.YtemcpdpbikgfcaaSumsM
import Derived.Test.YtemcpdpbikgfcaaSumVZ
namespace Go.Proofs.Ytemcpdpbikgfcaa
open Go.RowKit
set_option linter.unusedVariables false

def wsum (g : List GV → Int) (zs : List GDiff) : Int := (zs.map fun z => z.count * g z.row).sum
theorem wsum_nil (g : List GV → Int) : wsum g [] = 0 := rfl
theorem wsum_cons (g : List GV → Int) (z : GDiff) (zs : List GDiff) : wsum g (z :: zs) = z.count * g z.row + wsum g zs := by simp [wsum]
theorem wsum_append (g : List GV → Int) (a b : List GDiff) : wsum g (a ++ b) = wsum g a + wsum g b := by simp [wsum]
theorem wsum_addD (g : List GV → Int) : ∀ a b : List GDiff, wsum g (addD a b) = wsum g a + wsum g b := by
  intro a b
  induction a, b using addD.induct with
  | case1 b => simp only [addD]; rw [wsum_nil]; omega
  | case2 x a => rw [addD_nil, wsum_nil]; omega
  | case3 x a y b hc ih => rw [addD, if_pos hc, wsum_cons, ih, wsum_cons g x a]; omega
  | case4 x a y b hc hc2 ih => rw [addD, if_neg hc, if_pos hc2, wsum_cons, ih, wsum_cons g y]; omega
  | case5 x a y b hc hc2 ih =>
    have he : x.row = y.row := (good_cmpR.eq _ _).1 (by omega)
    rw [addD, if_neg hc, if_neg hc2, wsum_append, ih, wsum_cons, wsum_cons]
    have h1 : wsum g (oneD x.row (x.count + y.count)) = (x.count + y.count) * g x.row := by
      unfold oneD
      by_cases h : x.count + y.count = 0
      · rw [if_pos h, h, Int.zero_mul]; rfl
      · rw [if_neg h, wsum_cons, wsum_nil]; simp
    rw [h1, ← he, Int.add_mul]; omega
theorem coef_wsum (r : List GV) (zs : List GDiff) : coef zs r = wsum (fun s => if cmpR s r = 0 then 1 else 0) zs := by
  induction zs with
  | nil => rfl
  | cons z zs ih =>
    rw [coef_cons, wsum_cons, ih]
    by_cases h : cmpR z.row r = 0
    · simp only [if_pos h]; omega
    · simp only [if_neg h]; omega
/-- A projection. -/
theorem coef_picks (cols : List Int) (r : List GV) (zs : List GDiff) : coef (zs.map (pick cols)) r = wsum (fun s => if cmpR (pRow cols s) r = 0 then 1 else 0) zs := by
  induction zs with
  | nil => rfl
  | cons z zs ih =>
    rw [List.map_cons, coef_cons, wsum_cons, ih]
    show (if cmpR (pRow cols z.row) r = 0 then z.count else 0) + _ = _
    by_cases h : cmpR (pRow cols z.row) r = 0
    · simp only [if_pos h]; omega
    · simp only [if_neg h]; omega
def pairW (n : Nat) (r s t : List GV) : Int := if cmpR (s.take n) (t.take n) = 0 then (if cmpR (s ++ t.drop n) r = 0 then 1 else 0) else 0
theorem coef_pair (n : Nat) (x y : GDiff) (r : List GV) : coef (pairD n x y) r = x.count * y.count * pairW n r x.row y.row := by
  unfold pairD pairW
  by_cases h : cmpR (x.row.take n) (y.row.take n) = 0
  · simp only [if_pos h]
    rw [coef_cons, coef_nil]
    by_cases h2 : cmpR (x.row ++ y.row.drop n) r = 0
    · simp only [if_pos h2]; omega
    · simp only [if_neg h2]; omega
  · simp only [if_neg h]; rw [coef_nil]; omega
theorem coef_rowJ (n : Nat) (x : GDiff) (r : List GV) (b : List GDiff) : coef (rowJ n x b) r = wsum (fun t => x.count * pairW n r x.row t) b := by
  unfold rowJ
  induction b with
  | nil => rfl
  | cons y b ih =>
    rw [List.flatMap_cons, coef_append, ih, coef_pair, wsum_cons]
    congr 1
    rw [Int.mul_comm x.count y.count, Int.mul_assoc]
theorem wsum_mul (c : Int) (g : List GV → Int) (b : List GDiff) : wsum (fun t => c * g t) b = c * wsum g b := by
  induction b with
  | nil => simp [wsum_nil]
  | cons y b ih => rw [wsum_cons, wsum_cons, ih, Int.mul_add, ← Int.mul_assoc, ← Int.mul_assoc, Int.mul_comm c y.count]
/-- A join, as a weighted sum over its first difference. -/
theorem coef_joinL (n : Nat) (r : List GV) (a b : List GDiff) : coef (pairsD n a b) r = wsum (fun s => wsum (fun t => pairW n r s t) b) a := by
  unfold pairsD
  induction a with
  | nil => rfl
  | cons x a ih => rw [List.flatMap_cons, coef_append, ih, coef_rowJ, wsum_mul, wsum_cons]
theorem wsum_add (g h : List GV → Int) (b : List GDiff) : wsum (fun t => g t + h t) b = wsum g b + wsum h b := by
  induction b with
  | nil => rfl
  | cons y b ih => rw [wsum_cons, wsum_cons, wsum_cons, ih, Int.mul_add]; omega
/-- .. and over its second one. -/
theorem coef_joinR (n : Nat) (r : List GV) (a b : List GDiff) : coef (pairsD n a b) r = wsum (fun t => wsum (fun s => pairW n r s t) a) b := by
  unfold pairsD
  induction a with
  | nil =>
    rw [List.flatMap_nil, coef_nil]
    induction b with
    | nil => rfl
    | cons y b ih => rw [wsum_cons, ← ih, wsum_nil]; omega
  | cons x a ih =>
    rw [List.flatMap_cons, coef_append, ih, coef_rowJ, ← wsum_add]
    congr 1
theorem coef_joinL_add (n : Nat) (r : List GV) (a b c : List GDiff) : coef (pairsD n (addD a b) c) r = coef (pairsD n a c) r + coef (pairsD n b c) r := by rw [coef_joinL, coef_joinL, coef_joinL, wsum_addD]
theorem coef_joinR_add (n : Nat) (r : List GV) (a b c : List GDiff) : coef (pairsD n c (addD a b)) r = coef (pairsD n c a) r + coef (pairsD n c b) r := by rw [coef_joinR, coef_joinR, coef_joinR, wsum_addD]
theorem coef_picks_add (cols : List Int) (r : List GV) (a b : List GDiff) : coef ((addD a b).map (pick cols)) r = coef (a.map (pick cols)) r + coef (b.map (pick cols)) r := by rw [coef_picks, coef_picks, coef_picks, wsum_addD]
/-- A weight that one row alone bears. -/
theorem wsum_zero {g : List GV → Int} : ∀ {zs : List GDiff}, (∀ z ∈ zs, g z.row = 0) → wsum g zs = 0
  | [], _ => rfl
  | z :: zs, h => by
    rw [wsum_cons, h z (by simp), wsum_zero (fun y hy => h y (by simp [hy]))]; simp
theorem wsum_one {g : List GV → Int} {s0 : List GV} : ∀ {zs : List GDiff}, AscD zs → (∀ z ∈ zs, z.row ≠ s0 → g z.row = 0) → wsum g zs = 0 ∨ ∃ z ∈ zs, wsum g zs = z.count * g z.row
  | [], _, _ => .inl rfl
  | z :: zs, ha, h => by
    have ha2 : AscD zs := (List.pairwise_cons.1 ha).2
    by_cases e : z.row = s0
    · right
      refine ⟨z, by simp, ?_⟩
      rw [wsum_cons, wsum_zero (fun y hy => h y (by simp [hy]) (fun e2 => asc_ne ha y hy (e2.trans e.symm)))]
      omega
    · rw [wsum_cons, h z (by simp) e]
      rcases wsum_one (s0 := s0) ha2 (fun y hy => h y (by simp [hy])) with h2 | ⟨y, hy, h2⟩
      · left; rw [h2]; simp
      · right; exact ⟨y, by simp [hy], by rw [h2]; simp⟩
theorem pairW_ne {n : Nat} {r s t : List GV} (h : pairW n r s t ≠ 0) : s.take n = t.take n ∧ s ++ t.drop n = r := by
  unfold pairW at h
  split at h
  · rename_i h1
    split at h
    · rename_i h2
      exact ⟨(good_cmpR.eq _ _).1 h1, (good_cmpR.eq _ _).1 h2⟩
    · exact absurd rfl h
  · exact absurd rfl h
theorem pairW_01 (n : Nat) (r s t : List GV) : pairW n r s t = 0 ∨ pairW n r s t = 1 := by
  unfold pairW
  split
  · split
    · exact .inr rfl
    · exact .inl rfl
  · exact .inl rfl
theorem mul_abs {x y : Int} {M N : Nat} (hx : x.natAbs ≤ M) (hy : y.natAbs ≤ N) : (x * y).natAbs ≤ M * N := by
  rw [Int.natAbs_mul]; exact Nat.mul_le_mul hx hy
theorem inner_one (n : Nat) (r s : List GV) {c : List GDiff} (hc : AscD c) : wsum (fun t => pairW n r s t) c = 0 ∨ ∃ y ∈ c, wsum (fun t => pairW n r s t) c = y.count * pairW n r s y.row :=
  wsum_one (s0 := s.take n ++ r.drop s.length) hc (fun z hz hne => by
    by_cases h : pairW n r s z.row = 0
    · exact h
    · exfalso
      obtain ⟨h1, h2⟩ := pairW_ne h
      apply hne
      calc z.row = z.row.take n ++ z.row.drop n := (List.take_append_drop n _).symm
        _ = s.take n ++ r.drop s.length := by rw [← h1, ← h2, List.drop_left])
/-- A joined row comes from one row of each side. -/
theorem coef_join_le {a c : List GDiff} {n wa : Nat} (ha : AscD a) (hc : AscD c) (la : ∀ z ∈ a, z.row.length = wa) (ca : cntLe 1000 a) (cc : cntLe 1000 c) (r : List GV) : -1000000 ≤ coef (pairsD n a c) r ∧ coef (pairsD n a c) r ≤ 1000000 := by
  rw [coef_joinL]
  have hI : ∀ s, (wsum (fun t => pairW n r s t) c).natAbs ≤ 1000 := fun s => by
    rcases inner_one n r s hc with h | ⟨y, hy, h⟩
    · rw [h]; simp
    · rw [h]
      have h1 := cc y hy
      rcases pairW_01 n r s y.row with h2 | h2
      · rw [h2]; simp
      · rw [h2]; omega
  have hO := wsum_one (g := fun s => wsum (fun t => pairW n r s t) c) (s0 := r.take wa) ha (fun z hz hne => by
    show wsum (fun t => pairW n r z.row t) c = 0
    rcases inner_one n r z.row hc with h | ⟨y, hy, h⟩
    · exact h
    · by_cases h2 : pairW n r z.row y.row = 0
      · rw [h, h2]; simp
      · exfalso
        apply hne
        have h3 := (pairW_ne h2).2
        rw [← h3, ← la z hz, List.take_left])
  rcases hO with h | ⟨z, hz, h⟩
  · rw [h]; omega
  · rw [h]
    have h1 := ca z hz
    have h2 : (z.count * wsum (fun t => pairW n r z.row t) c).natAbs ≤ 1000 * 1000 := mul_abs (by omega) (hI z.row)
    show -1000000 ≤ z.count * wsum (fun t => pairW n r z.row t) c ∧ z.count * wsum (fun t => pairW n r z.row t) c ≤ 1000000
    omega
theorem pairs_len (n : Nat) (a b : List GDiff) : (pairsD n a b).length ≤ a.length * b.length := by
  unfold pairsD
  induction a with
  | nil => simp
  | cons x a ih =>
    rw [List.flatMap_cons, List.length_append, List.length_cons, Nat.succ_mul]
    have := rowJ_length n x b
    omega
/-- Two canonical sums of terms, added, are the canonical sum of other terms that sum to the same. -/
theorem sums_eq {P P1 P2 : List GDiff} {n : Nat} (hz : nzD P) (h1 : nzD P1) (h2 : nzD P2) (o1 : diffOkB (sumD P1) = true) (o2 : diffOkB (sumD P2) = true) (g1 : oneWide n (sumD P1)) (g2 : oneWide n (sumD P2)) (h : ∀ r, coef P r = coef P1 r + coef P2 r) : orD (sumD P) = addDD (sumD P1) (sumD P2) := by
  have c := canon_sumD _ P (Nat.le_refl _) hz
  have c1 := canon_sumD _ P1 (Nat.le_refl _) h1
  have c2 := canon_sumD _ P2 (Nat.le_refl _) h2
  have cc := canon_addD c1.asc c2.asc c1.nz c2.nz
  have e : sumD P = addD (sumD P1) (sumD P2) := ascD_unique c.asc cc.asc c.nz cc.nz (fun r => by rw [c.sum, cc.sum, coef_append, c1.sum, c2.sum, h])
  unfold addDD
  rw [o1, o2, compat_good g1 g2, if_pos (by decide), e]
theorem joinD_nil_l (c : List GDiff) (n : Nat) : joinD [] c (n : Int) = [] := by unfold joinD joinB; rw [if_neg (by simp)]
theorem joinD_nil_r (c : List GDiff) (n : Nat) : joinD c [] (n : Int) = [] := by unfold joinD joinB; rw [if_neg (by simp)]
theorem orsum_nil : orD (sumD []) = [] := by rw [sumD_small (by simp)]; decide
theorem addDD_nil : addDD [] [] = [] := by
  unfold addDD orD
  split
  · split
    · exact addD_nil []
    · rfl
  · rfl
/-- The join of two small differences is the sum of the pairs. -/
theorem join_valid {a c : List GDiff} {n : Nat} (ha : diffOkB a = true) (hc : diffOkB c = true) (h4 : n ≤ widD a) (h5 : n ≤ widD c) (h6 : widD a + widD c ≤ 8 + n) (la : a.length ≤ 8) (lc : c.length ≤ 8) (ca : cntLe 1000 a) (cc : cntLe 1000 c) :
    joinD a c (n : Int) = sumD (pairsD n a c) ∧ diffOkB (sumD (pairsD n a c)) = true ∧ nzD (pairsD n a c) ∧ oneWide (widD a + widD c - n) (sumD (pairsD n a c)) := by
  obtain ⟨p1, p2, p3⟩ := pairs_smallI ha hc h6 h5
  have hcan := canon_sumD _ (pairsD n a c) (Nat.le_refl _) p3
  have hlen : (pairsD n a c).length ≤ 64 := Nat.le_trans (pairs_len n a c) (Nat.mul_le_mul la lc)
  have hl2 := (sumD_props 1000000000000 (by omega) (fun _ => True) _ (pairsD n a c) (Nat.le_refl _) p1 (fun _ _ => trivial)).1
  have hok : diffOkB (sumD (pairsD n a c)) = true := canon_ok hcan p2 (by omega) (fun z hz => by
    have e := coef_mem hcan.asc z hz
    rw [hcan.sum] at e
    have b := coef_join_le (n := n) (diffOk_asc ha).1 (diffOk_asc hc).1 (fun x hx => ((diffOk_all ha).2 x hx).1) ca cc z.row
    have nz := hcan.nz z hz
    unfold cntB
    simp [nz]
    omega)
  refine ⟨?_, hok, p3, wide_canon hcan p2⟩
  rw [joinD_eq ha hc h4 h5 h6 (by omega)]
  unfold orD
  rw [if_pos hok]
theorem wide_wid {n : Nat} {s : List GDiff} (h : oneWide n s) (hs : s ≠ []) : widD s = n := by
  cases s with
  | nil => exact absurd rfl hs
  | cons z s =>
    have h1 := h z (by simp)
    unfold goodRow at h1
    simp only [Bool.and_eq_true, decide_eq_true_eq] at h1
    exact h1.2
theorem join_bad {a c : List GDiff} {n : Nat} (h : ¬ (n ≤ widD a ∧ n ≤ widD c ∧ widD a + widD c ≤ 8 + n)) : joinD a c (n : Int) = [] := by
  unfold joinD joinB
  rw [if_neg]
  rintro ⟨h1, _⟩
  simp only [Bool.and_eq_true, decide_eq_true_eq] at h1
  omega
theorem nz_nil : nzD [] := fun z hz => by simp at hz
/-- The join of a sum is the sum of the joins. -/
theorem join_sums_l {a b c : List GDiff} {n : Nat} (ha : diffOkB a = true) (hb : diffOkB b = true) (hc : diffOkB c = true) (hw : widD a = widD b) (la : a.length ≤ 8) (lb : b.length ≤ 8) (lc : c.length ≤ 8) (ca : cntLe 1000 a) (cb : cntLe 1000 b) (cc : cntLe 1000 c) :
    joinD (addDD a b) c (n : Int) = addDD (joinD a c (n : Int)) (joinD b c (n : Int)) := by
  have big : ∀ {l : List GDiff}, cntLe 1000 l → cntLe 100000 l := fun h x hx => by have := h x hx; omega
  obtain ⟨e, ok, hcan, gs, ls⟩ := addDD_small (n := widD a) ha hb (ok_wide ha) (by rw [hw]; exact ok_wide hb) (by omega) (by omega) (big ca) (big cb)
  rw [e]
  by_cases hf : n ≤ widD a ∧ n ≤ widD c ∧ widD a + widD c ≤ 8 + n
  · obtain ⟨h4, h5, h6⟩ := hf
    obtain ⟨j1, o1, z1, w1⟩ := join_valid ha hc h4 h5 h6 la lc ca cc
    obtain ⟨j2, o2, z2, w2⟩ := join_valid (n := n) hb hc (by omega) h5 (by omega) lb lc cb cc
    rw [← hw] at w2
    rw [j1, j2]
    by_cases hs : addD a b = []
    · rw [hs, joinD_nil_l, ← sums_eq nz_nil z1 z2 o1 o2 w1 w2 (fun r => by rw [← coef_joinL_add, hs]; rfl), orsum_nil]
    · have hws := wide_wid gs hs
      have h6' : widD (addD a b) + widD c ≤ 8 + n := by omega
      have hpl := pairs_len n (addD a b) c
      have hm : (addD a b).length * c.length ≤ 16 * 8 := Nat.mul_le_mul (by omega) lc
      rw [joinD_eq ok hc (by omega) h5 h6' (by omega)]
      exact sums_eq (pairs_smallI ok hc h6' h5).2.2 z1 z2 o1 o2 w1 w2 (fun r => coef_joinL_add n r a b c)
  · rw [join_bad hf, join_bad (a := b) (by rw [← hw]; exact hf), addDD_nil]
    by_cases hs : addD a b = []
    · rw [hs, joinD_nil_l]
    · exact join_bad (by rw [wide_wid gs hs]; exact hf)
theorem join_sums_r {a b c : List GDiff} {n : Nat} (ha : diffOkB a = true) (hb : diffOkB b = true) (hc : diffOkB c = true) (hw : widD a = widD b) (la : a.length ≤ 8) (lb : b.length ≤ 8) (lc : c.length ≤ 8) (ca : cntLe 1000 a) (cb : cntLe 1000 b) (cc : cntLe 1000 c) :
    joinD c (addDD a b) (n : Int) = addDD (joinD c a (n : Int)) (joinD c b (n : Int)) := by
  have big : ∀ {l : List GDiff}, cntLe 1000 l → cntLe 100000 l := fun h x hx => by have := h x hx; omega
  obtain ⟨e, ok, hcan, gs, ls⟩ := addDD_small (n := widD a) ha hb (ok_wide ha) (by rw [hw]; exact ok_wide hb) (by omega) (by omega) (big ca) (big cb)
  rw [e]
  by_cases hf : n ≤ widD c ∧ n ≤ widD a ∧ widD c + widD a ≤ 8 + n
  · obtain ⟨h4, h5, h6⟩ := hf
    obtain ⟨j1, o1, z1, w1⟩ := join_valid hc ha h4 h5 h6 lc la cc ca
    obtain ⟨j2, o2, z2, w2⟩ := join_valid (n := n) hc hb h4 (by omega) (by omega) lc lb cc cb
    rw [← hw] at w2
    rw [j1, j2]
    by_cases hs : addD a b = []
    · rw [hs, joinD_nil_r, ← sums_eq nz_nil z1 z2 o1 o2 w1 w2 (fun r => by rw [← coef_joinR_add, hs, pairs_nil]), orsum_nil]
    · have hws := wide_wid gs hs
      have h6' : widD c + widD (addD a b) ≤ 8 + n := by omega
      have hpl := pairs_len n c (addD a b)
      have hm : c.length * (addD a b).length ≤ 8 * 16 := Nat.mul_le_mul lc (by omega)
      rw [joinD_eq hc ok h4 (by omega) h6' (by omega)]
      exact sums_eq (pairs_smallI hc ok h6' (by omega)).2.2 z1 z2 o1 o2 w1 w2 (fun r => coef_joinR_add n r a b c)
  · rw [join_bad hf, join_bad (c := b) (by rw [← hw]; exact hf), addDD_nil]
    by_cases hs : addD a b = []
    · rw [hs, joinD_nil_r]
    · exact join_bad (by rw [wide_wid gs hs]; exact hf)
theorem proj_valid {a : List GDiff} {cols : List Int} (h : projB a cols = true) (la : a.length ≤ 8) (ca : cntLe 1000 a) :
    projD a cols = sumD (a.map (pick cols)) ∧ diffOkB (sumD (a.map (pick cols))) = true ∧ nzD (a.map (pick cols)) ∧ oneWide cols.length (sumD (a.map (pick cols))) := by
  have hg := picks_good h
  have hz : nzD (a.map (pick cols)) := fun z hz => (hg z hz).2.2.2
  have hcan := canon_sumD _ (a.map (pick cols)) (Nat.le_refl _) hz
  have hcl : cntLe 1000 (a.map (pick cols)) := fun z hz => by
    obtain ⟨y, hy, rfl⟩ := List.mem_map.1 hz
    exact ca y hy
  obtain ⟨q1, q2, _⟩ := sumD_props 1000 (by omega) (fun _ => True) _ (a.map (pick cols)) (Nat.le_refl _) hcl (fun _ _ => trivial)
  have hl : (a.map (pick cols)).length ≤ 8 := by simpa using la
  have hok : diffOkB (sumD (a.map (pick cols))) = true := canon_ok hcan (fun z hz => (hg z hz).1) (by omega) (fun z hz2 => by
    have nz := hcan.nz z hz2
    have hne : a.map (pick cols) ≠ [] := fun e => by rw [e, sumD_small (by simp)] at hz2; simp at hz2
    have b := q2 hne z hz2
    have b2 : ((a.map (pick cols)).length : Int) * 1000 ≤ 8000 := by omega
    unfold cntB
    simp [nz]
    omega)
  refine ⟨?_, hok, hz, wide_canon hcan (fun z hz => (hg z hz).1)⟩
  unfold projD
  rw [if_pos h]
  unfold orD
  rw [if_pos hok]
theorem proj_sums {a b : List GDiff} {cols : List Int} (h8 : cols.length ≤ 8) (ha : diffOkB a = true) (hb : diffOkB b = true) (hw : widD a = widD b) (na : a ≠ []) (nb : b ≠ []) (la : a.length ≤ 8) (lb : b.length ≤ 8) (ca : cntLe 1000 a) (cb : cntLe 1000 b) :
    projD (addDD a b) cols = addDD (projD a cols) (projD b cols) := by
  have big : ∀ {l : List GDiff}, cntLe 1000 l → cntLe 100000 l := fun h x hx => by have := h x hx; omega
  obtain ⟨e, ok, hcan, gs, ls⟩ := addDD_small (n := widD a) ha hb (ok_wide ha) (by rw [hw]; exact ok_wide hb) (by omega) (by omega) (big ca) (big cb)
  rw [e]
  have pb : ∀ {s : List GDiff}, diffOkB s = true → s ≠ [] → projB s cols = cols.all (inCol (widD s)) := fun {s} h hs => by
    unfold projB
    rw [h, decide_eq_true h8]
    cases s with
    | nil => exact absurd rfl hs
    | cons _ _ => simp
  cases hcol : cols.all (inCol (widD a)) with
  | true =>
    obtain ⟨j1, o1, z1, w1⟩ := proj_valid ((pb ha na).trans hcol) la ca
    obtain ⟨j2, o2, z2, w2⟩ := proj_valid (a := b) (by rw [pb hb nb, ← hw]; exact hcol) lb cb
    rw [j1, j2]
    have hp : projB (addD a b) cols = true := by
      by_cases hs : addD a b = []
      · exact proj_good ok h8 (.inl hs)
      · rw [pb ok hs, wide_wid gs hs]; exact hcol
    unfold projD
    rw [if_pos hp]
    exact sums_eq (fun z hz => (picks_good hp z hz).2.2.2) z1 z2 o1 o2 w1 w2 (fun r => coef_picks_add cols r a b)
  | false =>
    have n1 : projD a cols = [] := projD_no ((pb ha na).trans hcol)
    have n2 : projD b cols = [] := projD_no (by rw [pb hb nb, ← hw]; exact hcol)
    rw [n1, n2, addDD_nil]
    by_cases hs : addD a b = []
    · rw [hs]
      unfold projD
      split
      · exact orsum_nil
      · rfl
    · exact projD_no (by rw [pb ok hs, wide_wid gs hs]; exact hcol)
end Go.Proofs.Ytemcpdpbikgfcaa
