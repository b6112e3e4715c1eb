/-
  The mathematics of the laws on sums of differences.
-/
import Derived.Test.YtemcpdpbikgfcaaOfSZ
import Derived.Test.YtemcpdpbikgfcaaDiffOfSZ
namespace Go.Proofs.Ytemcpdpbikgfcaa
open Go.RowKit
set_option linter.unusedVariables false

theorem posL_ofL (rows : List (List GV)) : posL (ofL rows 1) = rows := by
  induction rows with
  | nil => rfl
  | cons r rows ih =>
    show posL (⟨r, 1⟩ :: ofL rows 1) = r :: rows
    rw [posL, if_pos (show (0 : Int) < 1 by decide), ih]
theorem coef_negL (r : List GV) (zs : List GDiff) : coef (negL zs) r = - coef zs r := by
  induction zs with
  | nil => rfl
  | cons z zs ih =>
    show coef (neg1 z :: negL zs) r = _
    rw [coef_cons, coef_cons, ih]
    show (if cmpR z.row r = 0 then -z.count else 0) + _ = _
    by_cases h : cmpR z.row r = 0
    · rw [if_pos h, if_pos h]; omega
    · rw [if_neg h, if_neg h]; omega
theorem coef_ofN (r : List GV) (rows : List (List GV)) : coef (ofL rows (-1)) r = - coef (ofL rows 1) r := by rw [← negL_ofL, coef_negL]
/-- The rows of a and b have one width. -/
def oneWide (n : Nat) (a : List GDiff) : Prop := ∀ z ∈ a, goodRow n z.row = true
theorem wide_canon {n : Nat} {L a : List GDiff} (h : Canon L a) (hg : oneWide n a) : oneWide n L := fun z hz => by
  obtain ⟨z', hm, e⟩ := canon_row h hz
  rw [← e]; exact hg z' hm
theorem wide_app {n : Nat} {a b : List GDiff} (ha : oneWide n a) (hb : oneWide n b) : oneWide n (a ++ b) := fun z hz => by
  rcases List.mem_append.1 hz with h | h
  · exact ha z h
  · exact hb z h
/-- Small differences of one width have a sum. -/
theorem addDD_small {a b : List GDiff} {n : Nat} (ha : diffOkB a = true) (hb : diffOkB b = true) (ga : oneWide n a) (gb : oneWide n b) (la : a.length ≤ 1000) (lb : b.length ≤ 1000) (ca : cntLe 100000 a) (cb : cntLe 100000 b) :
    addDD a b = addD a b ∧ diffOkB (addD a b) = true ∧ Canon (addD a b) (a ++ b) ∧ oneWide n (addD a b) ∧ (addD a b).length ≤ a.length + b.length := by
  have h1 := diffOk_asc ha
  have h2 := diffOk_asc hb
  have hcan := canon_addD h1.1 h2.1 h1.2.1 h2.2.1
  obtain ⟨p1, p2, _⟩ := addD_props 100000 100000 a b (fun _ => True) ca cb (by omega) (by omega) (fun _ _ => trivial) (fun _ _ => trivial)
  have hok : diffOkB (addD a b) = true := canon_ok hcan (wide_app ga gb) (by omega) (fun z hz => by
    have h3 := p2 z hz
    have h4 := hcan.nz z hz
    unfold cntB
    simp [h4]; omega)
  refine ⟨?_, hok, hcan, wide_canon hcan (wide_app ga gb), p1⟩
  unfold addDD orD
  rw [ha, hb, compat_good ga gb, if_pos (by decide), if_pos hok]
theorem ofL_wide {n : Nat} {rows : List (List GV)} {m : Int} (h : ∀ r ∈ rows, goodRow n r = true) : oneWide n (ofL rows m) := fun z hz => h _ (ofL_mem hz).1
theorem ofL_cnt {rows : List (List GV)} {m : Int} (h : -1 ≤ m ∧ m ≤ 1) : cntLe 100000 (ofL rows m) := fun z hz => by rw [(ofL_mem hz).2]; omega
theorem diffOf_nil {T : List (List GV)} (hT : tableOkB T = true) : diffOfD [] T = ofL T 1 := by
  have o : diffOkB (ofL T 1) = true := by rw [ofL_ok T (by decide)]; exact hT
  have o2 : diffOkB (ofL [] (-1)) = true := by decide
  have c : compatB (ofL [] (-1)) (ofL T 1) = true := by rw [compat_of]; simp
  unfold diffOfD addDD orD
  rw [o, o2, c, if_pos (by decide)]
  have e : addD (ofL [] (-1)) (ofL T 1) = ofL T 1 := by show addD [] _ = _; rw [addD]
  rw [e, if_pos o]
theorem ok_wide {a : List GDiff} (h : diffOkB a = true) : oneWide (wid (rowsD a)) a := fun z hz => ((diffOk_asc h).2.2 z hz).1
/-- Two differences that may be added have rows of one width. -/
theorem two_wide {a b : List GDiff} (ha : diffOkB a = true) (hb : diffOkB b = true) (hc : compatB a b = true) : ∃ n, oneWide n a ∧ oneWide n b := by
  unfold compatB at hc
  simp only [Bool.or_eq_true, decide_eq_true_eq] at hc
  rcases hc with (hc | hc) | hc
  · obtain rfl := List.eq_nil_of_length_eq_zero hc
    exact ⟨_, fun z hz => by simp at hz, ok_wide hb⟩
  · obtain rfl := List.eq_nil_of_length_eq_zero hc
    exact ⟨_, ok_wide ha, fun z hz => by simp at hz⟩
  · exact ⟨_, ok_wide ha, by rw [hc]; exact ok_wide hb⟩
theorem posL_wide {n : Nat} {a : List GDiff} (h : oneWide n a) : ∀ r ∈ posL a, goodRow n r = true := posL_rows h
theorem posD_ok (a : List GDiff) : tableOkB (posD a) = true := by
  unfold posD
  by_cases h : diffOkB a = true
  · rw [if_pos h, ← ofL_ok (posL a) (n := 1) (by decide)]; exact pos_ok h (by decide)
  · rw [if_neg h]; decide
theorem posD_of {rows : List (List GV)} (h : tableOkB rows = true) : posD (ofL rows 1) = rows := by
  unfold posD
  rw [if_pos (by rw [ofL_ok rows (by decide)]; exact h), posL_ofL]
/-- A table, and what leads from it to another, sum to the other. -/
theorem sum_to {S T : List (List GV)} {n : Nat} {F : List GDiff} (hS : tableOkB S = true) (hT : tableOkB T = true) (gS : ∀ r ∈ S, goodRow n r = true) (gF : oneWide n F) (lS : S.length ≤ 1000) (lF : F.length ≤ 1000) (cF : cntLe 100000 F)
    (hF : diffOkB F = true) (hsum : ∀ r, coef F r = coef (ofL T 1) r - coef (ofL S 1) r) : posD (addDD (diffOfD [] S) F) = T := by
  have oS : diffOkB (ofL S 1) = true := by rw [ofL_ok S (by decide)]; exact hS
  have oT : diffOkB (ofL T 1) = true := by rw [ofL_ok T (by decide)]; exact hT
  rw [diffOf_nil hS]
  obtain ⟨e, _, hcan, _, _⟩ := addDD_small oS hF (ofL_wide (m := 1) gS) gF (by rw [ofL_len]; exact lS) lF (ofL_cnt (by omega)) cF
  have e2 : addD (ofL S 1) F = ofL T 1 := by
    have hT2 := diffOk_asc oT
    exact ascD_unique hcan.asc hT2.1 hcan.nz hT2.2.1 (fun r => by rw [hcan.sum, coef_append, hsum]; omega)
  rw [e, e2, posD_of hT]
/-- What flips, added to the distinct rows, are the distinct rows of the sum. -/
theorem flips_law {z d : List GDiff} (hz : diffOkB z = true) (hd : diffOkB d = true) (hc : compatB z d = true) (lz : z.length ≤ 8) (ld : d.length ≤ 8) (cz : cntLe 1000 z) (cd : cntLe 1000 d) :
    posD (addDD (diffOfD [] (posD z)) (flipsD z d)) = posD (addDD z d) := by
  obtain ⟨n, gz, gd⟩ := two_wide hz hd hc
  have big : ∀ {l : List GDiff}, cntLe 1000 l → cntLe 100000 l := fun h x hx => by have := h x hx; omega
  obtain ⟨e, ok, hcan, gs, ls⟩ := addDD_small hz hd gz gd (by omega) (by omega) (big cz) (big cd)
  have p1 := posL_len (addD z d)
  have p2 := posL_len z
  have ps : posD (addD z d) = posL (addD z d) := by unfold posD; rw [if_pos ok]
  have pz : posD z = posL z := by unfold posD; rw [if_pos hz]
  have tS := posD_ok z
  have tT := posD_ok (addD z d)
  rw [e, ← flips_of hz hd hc ok]
  have o1 : diffOkB (ofL (posD z) (-1)) = true := by rw [ofL_ok _ (by decide)]; exact tS
  have o2 : diffOkB (ofL (posD (addD z d)) 1) = true := by rw [ofL_ok _ (by decide)]; exact tT
  have g1 : ∀ r ∈ posD z, goodRow n r = true := by rw [pz]; exact posL_wide gz
  have g2 : ∀ r ∈ posD (addD z d), goodRow n r = true := by rw [ps]; exact posL_wide gs
  have l1 : (posD z).length ≤ 8 := by rw [pz]; omega
  have l2 : (posD (addD z d)).length ≤ 16 := by rw [ps]; omega
  obtain ⟨e3, ok3, hcan3, gs3, ls3⟩ := addDD_small o1 o2 (ofL_wide (m := -1) g1) (ofL_wide (m := 1) g2) (by rw [ofL_len]; omega) (by rw [ofL_len]; omega) (ofL_cnt (by omega)) (ofL_cnt (by omega))
  have hF : diffOfD (posD z) (posD (addD z d)) = addD (ofL (posD z) (-1)) (ofL (posD (addD z d)) 1) := e3
  rw [hF]
  rw [ofL_len, ofL_len] at ls3
  obtain ⟨_, q2, _⟩ := addD_props 1 1 (ofL (posD z) (-1)) (ofL (posD (addD z d)) 1) (fun _ => True) (fun x hx => by rw [(ofL_mem hx).2]; omega) (fun x hx => by rw [(ofL_mem hx).2]; omega) (by omega) (by omega) (fun _ _ => trivial) (fun _ _ => trivial)
  exact sum_to tS tT g1 gs3 (by omega) (by omega) (fun x hx => by have := q2 x hx; omega) ok3 (fun r => by rw [hcan3.sum, coef_append, coef_ofN]; omega)
/-- What leads from one table to another, added to it, is the other one. -/
theorem diffOf_law {S T : List (List GV)} (hS : tableOkB S = true) (hT : tableOkB T = true) (hc : compatB (ofL S 1) (ofL T 1) = true) (lS : S.length ≤ 8) (lT : T.length ≤ 8) : posD (addDD (diffOfD [] S) (diffOfD S T)) = T := by
  have o1 : diffOkB (ofL S (-1)) = true := by rw [ofL_ok _ (by decide)]; exact hS
  have o1' : diffOkB (ofL S 1) = true := by rw [ofL_ok _ (by decide)]; exact hS
  have o2 : diffOkB (ofL T 1) = true := by rw [ofL_ok _ (by decide)]; exact hT
  obtain ⟨n, ga, gb⟩ := two_wide o1' o2 hc
  have g1 : ∀ r ∈ S, goodRow n r = true := fun r hr => ga ⟨r, 1⟩ (List.mem_map.2 ⟨r, hr, rfl⟩)
  obtain ⟨e3, ok3, hcan3, gs3, ls3⟩ := addDD_small o1 o2 (ofL_wide (m := -1) g1) gb (by rw [ofL_len]; omega) (by rw [ofL_len]; omega) (ofL_cnt (by omega)) (ofL_cnt (by omega))
  have hF : diffOfD S T = addD (ofL S (-1)) (ofL T 1) := e3
  rw [hF]
  rw [ofL_len, ofL_len] at ls3
  obtain ⟨_, q2, _⟩ := addD_props 1 1 (ofL S (-1)) (ofL T 1) (fun _ => True) (fun x hx => by rw [(ofL_mem hx).2]; omega) (fun x hx => by rw [(ofL_mem hx).2]; omega) (by omega) (by omega) (fun _ _ => trivial) (fun _ _ => trivial)
  exact sum_to hS hT g1 gs3 (by omega) (by omega) (fun x hx => by have := q2 x hx; omega) ok3 (fun r => by rw [hcan3.sum, coef_append, coef_ofN]; omega)
theorem compat_comm (a b : List GDiff) : compatB a b = compatB b a := by
  unfold compatB
  rw [Bool.eq_iff_iff]
  simp only [Bool.or_eq_true, decide_eq_true_eq]
  constructor
  · rintro ((h | h) | h)
    · exact .inl (.inr h)
    · exact .inl (.inl h)
    · exact .inr h.symm
  · rintro ((h | h) | h)
    · exact .inl (.inr h)
    · exact .inl (.inl h)
    · exact .inr h.symm
theorem addDD_comm (a b : List GDiff) : addDD a b = addDD b a := by
  unfold addDD
  by_cases h : (diffOkB a && diffOkB b && compatB a b) = true
  · have h2 : (diffOkB b && diffOkB a && compatB b a) = true := by rw [compat_comm b a, Bool.and_comm (diffOkB b)]; exact h
    rw [if_pos h, if_pos h2]
    simp only [Bool.and_eq_true] at h
    have c1 := diffOk_asc h.1.1
    have c2 := diffOk_asc h.1.2
    rw [addD_comm c1.1 c2.1 c1.2.1 c2.2.1]
  · have h2 : ¬ (diffOkB b && diffOkB a && compatB b a) = true := by rw [compat_comm b a, Bool.and_comm (diffOkB b)]; exact h
    rw [if_neg h, if_neg h2]
theorem addDD_neg (a : List GDiff) : addDD a (negD a) = [] := by
  by_cases h : diffOkB a = true
  · have hn : negD a = negL a := by unfold negD; rw [if_pos h]
    rw [hn]
    obtain ⟨h1, h2, h3⟩ := diffOk_asc h
    have hl := (ok_small h).1
    have hcn : Canon (negL a) (negL a) := by
      refine ⟨?_, fun z hz => ?_, fun r => rfl⟩
      · unfold AscD negL; rw [List.pairwise_map]; exact h1
      · obtain ⟨y, hy, rfl⟩ := List.mem_map.1 hz
        have := h2 y hy
        show -y.count ≠ 0
        omega
    have hg : oneWide (wid (rowsD a)) (negL a) := negL_rows (P := fun r => goodRow (wid (rowsD a)) r = true) (fun z hz => (h3 z hz).1)
    have hok : diffOkB (negL a) = true := canon_ok hcn hg (by rw [negL_len]; exact hl) (fun z hz => by
      obtain ⟨y, hy, rfl⟩ := List.mem_map.1 hz
      have h4 := (h3 y hy).2
      have h5 := h2 y hy
      unfold cntB at h4 ⊢
      simp only [Bool.and_eq_true, decide_eq_true_eq, bne_iff_ne, ne_eq] at h4 ⊢
      show ((¬ -y.count = 0) ∧ -1000000 ≤ -y.count) ∧ -y.count ≤ 1000000
      omega)
    have hcan := canon_addD h1 hcn.asc h2 hcn.nz
    have e : addD a (negL a) = [] := ascD_unique hcan.asc List.Pairwise.nil hcan.nz (fun z hz => by simp at hz) (fun r => by rw [hcan.sum, coef_append, coef_negL, coef_nil]; omega)
    unfold addDD
    rw [h, hok, compat_good (ok_wide h) hg, if_pos (by decide), e]
    decide
  · unfold addDD
    rw [if_neg (by simp [h])]
end Go.Proofs.Ytemcpdpbikgfcaa
