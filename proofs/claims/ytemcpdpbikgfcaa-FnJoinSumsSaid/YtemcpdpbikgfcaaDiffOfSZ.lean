/-
  Tables in memory. Tables of arguments as tables. spec.DiffOf; tables of the laws' own as tables with capacities.
-/
import Derived.Test.YtemcpdpbikgfcaaTyDiffZ
import Derived.Test.YtemcpdpbikgfcaaDistSZ
import Derived.Test.YtemcpdpbikgfcaaOfSZ
import Derived.Test.YtemcpdpbikgfcaaTabOkSZ
namespace Go.Proofs.Ytemcpdpbikgfcaa
open Go.RowKit Go.Sort
set_option linter.unusedVariables false

def ValueSAt (w : World) (lo B g o : Nat) (x : List GV) : Prop := ∃ A c, (w.cell? ⟨g, o, none⟩ = some (.slice A x.length c) ∧ CapOk x.length c) ∧ ValuesAt w lo B A x
theorem ValueSAt.same {w w' : World} {lo B g o : Nat} {x : List GV} (h : ValueSAt w lo B g o x) (hc : ∀ j, j < 1 → w'.cell? ⟨g, o + j, none⟩ = w.cell? ⟨g, o + j, none⟩) (hs : ∀ b, lo ≤ b → b < B → w'.heap[b]? = w.heap[b]?) : ValueSAt w' lo B g o x := by
  have h0 := h
  exact (by obtain ⟨A, c, a1, a2⟩ := h0; exact ⟨A, c, ⟨(hc 0 (by omega)).trans a1.1, a1.2⟩, a2.keep hs⟩)
theorem ValueSAt.mono {w : World} {lo lo' B B' g o : Nat} {x : List GV} (h : ValueSAt w lo B g o x) (hlo : lo' ≤ lo) (hB : B ≤ B') : ValueSAt w lo' B' g o x := by
  have h0 := h
  exact (by obtain ⟨A, c, a1, a2⟩ := h0; exact ⟨A, c, a1, a2.mono hlo hB⟩)
def ValueSsAt (w : World) (lo B : Nat) (A : Option Addr) (xs : List (List GV)) : Prop := xs = [] ∨ ∃ g o, A = some ⟨g, o, none⟩ ∧ lo ≤ g ∧ g < B ∧ ∀ i x, xs[i]? = some x → ValueSAt w lo B g (o + i) x
theorem ValueSsAt.keep {w w' : World} {lo B : Nat} {A : Option Addr} {xs : List (List GV)} (h : ValueSsAt w lo B A xs) (hs : ∀ b, lo ≤ b → b < B → w'.heap[b]? = w.heap[b]?) : ValueSsAt w' lo B A xs := by
  rcases h with h | ⟨g, o, hA, h1, h2, hc⟩
  · exact .inl h
  · exact .inr ⟨g, o, hA, h1, h2, fun i x hx => (hc i x hx).same (fun j _ => World.cell?_of_block (w := w) (w' := w') (hs g h1 h2)) hs⟩
theorem ValueSsAt.mono {w : World} {lo lo' B B' : Nat} {A : Option Addr} {xs : List (List GV)} (h : ValueSsAt w lo B A xs) (hlo : lo' ≤ lo) (hB : B ≤ B') : ValueSsAt w lo' B' A xs := by
  rcases h with h | ⟨g, o, hA, h1, h2, hc⟩
  · exact .inl h
  · exact .inr ⟨g, o, hA, by omega, by omega, fun i x hx => (hc i x hx).mono hlo hB⟩
theorem ValueSsAt.to_ {w w' : World} {lo : Nat} {A : Option Addr} {xs : List (List GV)} (h : ValueSsAt w lo w.heap.size A xs) (hb : Below w.heap.size w w') : ValueSsAt w' lo w'.heap.size A xs := (h.keep (fun b _ hb' => hb.block b hb')).mono (Nat.le_refl _) hb.size
theorem ValueSsAt.at_ {w : World} {lo B : Nat} {A : Option Addr} {xs : List (List GV)} (h : ValueSsAt w lo B A xs) {i : Nat} (hi : i < xs.length) : ∃ g o, A = some ⟨g, o, none⟩ ∧ lo ≤ g ∧ g < B ∧ ValueSAt w lo B g (o + i) xs[i] := by
  rcases h with h | ⟨g, o, hA, h1, h2, hc⟩
  · subst h; simp at hi
  · exact ⟨g, o, hA, h1, h2, hc i _ (List.getElem?_eq_getElem hi)⟩
def fitValueS (x : List GV) : Prop := fitValues x
def costValueS (x : List GV) : Nat := costValues x
def fitValueSs (xs : List (List GV)) : Prop := xs.length ≤ maxLen ∧ ∀ x ∈ xs, fitValueS x
def costValueSs (xs : List (List GV)) : Nat := xs.length + sumC costValueS xs

end Go.Proofs.Ytemcpdpbikgfcaa
namespace Go.Proofs.Ytemcpdpbikgfcaa
open Go.RowKit Go.Sort
set_option linter.unusedVariables false

theorem ValueSsAt.tabC {w : World} {lo B : Nat} {A : Option Addr} {rows : List (List GV)} (h : ValueSsAt w lo B A rows) : TabC w B A rows := by
  rcases h with h | ⟨g, o, hA, _, hg, hc⟩
  · exact .inl h
  · refine .inr ⟨g, o, hA, hg, fun i r hr => ?_⟩
    obtain ⟨A', c', ⟨h1, h2⟩, h3⟩ := hc i r hr
    exact ⟨A', c', h1, h2, h3.row⟩
/-- The rows of a relation, as a table. -/
theorem ValueSsAt.tab {w : World} {lo B : Nat} {A : Option Addr} {rows : List (List GV)} (h : ValueSsAt w lo B A rows) : TabAt w B A rows := by
  rcases h with h | ⟨g, o, hA, h1, h2, hc⟩
  · exact .inl h
  · refine .inr ⟨g, o, hA, h2, fun i r hr => ?_⟩
    obtain ⟨A', c', ⟨q1, q2⟩, q3⟩ := hc i r hr
    refine ⟨A', c', q1, ?_⟩
    rcases q3 with q3 | ⟨g', o', hA', h1', h2', hc'⟩
    · exact .inl q3
    · exact .inr ⟨g', o', hA', h2', fun i x hx => hc' i x hx⟩
end Go.Proofs.Ytemcpdpbikgfcaa
namespace Go.Proofs.Ytemcpdpbikgfcaa
open Go.RowKit Go.Sort
set_option linter.unusedVariables false

theorem tab_small {rows : List (List GV)} (h : costValueSs rows ≤ 1048576) : ∀ r ∈ rows, r.length ≤ 1048576 ∧ ∀ v ∈ r, v.t.size ≤ maxLen := by
  intro r hr
  have h1 : costValues r ≤ sumC costValueS rows := sumC_mem costValueS rows r hr
  have h2 : costValues r ≤ 1048576 := by unfold costValueSs at h; omega
  refine ⟨by unfold costValues at h2; omega, fun v hv => ?_⟩
  have h3 : v.t.size ≤ sumC costValue r := sumC_mem costValue r v hv
  unfold costValues at h2
  unfold maxLen
  omega
theorem table_small {rows : List (List GV)} (h : tableOkB rows = true) : rows.length ≤ 3000 ∧ ∀ r ∈ rows, r.length ≤ 8 ∧ ∀ v ∈ r, v.t.size ≤ 60 := by
  rw [← ofL_ok rows (n := 1) (by decide)] at h
  obtain ⟨h1, _, h3⟩ := ok_small h
  rw [ofL_len] at h1
  exact ⟨h1, fun r hr => h3 ⟨r, 1⟩ (List.mem_map.2 ⟨r, hr, rfl⟩)⟩
theorem diffOfD_eq {old fresh : List (List GV)} (h1 : tableOkB old = true) (h2 : tableOkB fresh = true) (h3 : compatB (ofL old 1) (ofL fresh 1) = true) : diffOfD old fresh = orD (addD (ofL fresh 1) (negL (ofL old 1))) := by
  have o1 : diffOkB (ofL old (-1)) = true := by rw [ofL_ok old (by decide)]; exact h1
  have o2 : diffOkB (ofL fresh 1) = true := by rw [ofL_ok fresh (by decide)]; exact h2
  have c : compatB (ofL old (-1)) (ofL fresh 1) = true := by rw [compat_of] at h3 ⊢; exact h3
  unfold diffOfD addDD
  rw [o1, o2, c, negL_ofL]
  have c1 := diffOk_asc o1
  have c2 := diffOk_asc o2
  rw [addD_comm c1.1 c2.1 c1.2.1 c2.2.1]
  rfl
theorem diffOfD_no {old fresh : List (List GV)} (h : (tableOkB old && tableOkB fresh && compatB (ofL old 1) (ofL fresh 1)) = false) : diffOfD old fresh = [] := by
  unfold diffOfD addDD
  rw [ofL_ok old (by decide), ofL_ok fresh (by decide)]
  rw [compat_of] at h ⊢
  rw [h]; rfl
theorem diffOfD_ok (old fresh : List (List GV)) : diffOfD old fresh = [] ∨ diffOkB (diffOfD old fresh) = true := by
  unfold diffOfD addDD orD
  by_cases h : (diffOkB (ofL old (-1)) && diffOkB (ofL fresh 1) && compatB (ofL old (-1)) (ofL fresh 1)) = true
  · rw [if_pos h]
    by_cases h' : diffOkB (addD (ofL old (-1)) (ofL fresh 1)) = true
    · rw [if_pos h']; exact .inr h'
    · rw [if_neg h']; exact .inl rfl
  · rw [if_neg h]; exact .inl rfl
set_option maxRecDepth 100000 in
set_option maxHeartbeats 6400000 in
theorem spec_diffOf {lo lo' : Nat} (A B : Option Addr) (c d : Nat) (old fresh : List (List GV)) (w : World) (ha : ValueSsAt w lo w.heap.size A old) (hb : ValueSsAt w lo' w.heap.size B fresh) (hl : old.length ≤ 1048576) (hl' : fresh.length ≤ 1048576)
    (hla : ∀ r ∈ old, r.length ≤ 1048576 ∧ ∀ v ∈ r, v.t.size ≤ maxLen) (hlb : ∀ r ∈ fresh, r.length ≤ 1048576 ∧ ∀ v ∈ r, v.t.size ≤ maxLen) :
    Calls Try.prog 19 #[.slice A old.length c, .slice B fresh.length d] w (DPost w (diffOfD old fresh)) := by
  have HA := Lib.hid ha.tabC
  have HB := Lib.hid hb.tabC
  have HLA := Lib.hid hla
  have HLB := Lib.hid hlb
  clear ha hb hla hlb
  by_cases h1 : tableOkB old = true
  · by_cases h2 : tableOkB fresh = true
    · have lo1 : (ofL old 1).length ≤ 1048576 := by rw [ofL_len]; exact hl
      have lf1 : (ofL fresh 1).length ≤ 1048576 := by rw [ofL_len]; exact hl'
      by_cases h3 : compatB (ofL old 1) (ofL fresh 1) = true
      · have he := diffOfD_eq h1 h2 h3
        rw [he]
        clear he
        obtain ⟨s1, s2⟩ := table_small h1
        obtain ⟨t1, t2⟩ := table_small h2
        have u1 : cntLe 1000000 (ofL fresh 1) := fun z hz => by rw [(ofL_mem hz).2]; omega
        have v1 : cntLe 1000000 (ofL old 1) := fun z hz => by rw [(ofL_mem hz).2]; omega
        have e2 := negL_ofL old
        have x1 : cntLe 1000000 (negL (ofL old 1)) := by rw [e2]; exact fun z hz => by rw [(ofL_mem hz).2]; omega
        have x2 : ∀ z ∈ negL (ofL old 1), z.row.length ≤ 8 ∧ ∀ v ∈ z.row, v.t.size ≤ 60 := by rw [e2]; exact fun z hz => s2 _ (ofL_mem hz).1
        have u2 : ∀ z ∈ ofL fresh 1, z.row.length ≤ 8 ∧ ∀ v ∈ z.row, v.t.size ≤ 60 := fun z hz => t2 _ (ofL_mem hz).1
        obtain ⟨y1, y2, y3⟩ := addD_props 1000000 1000000 (ofL fresh 1) (negL (ofL old 1)) (fun r => r.length ≤ 8 ∧ ∀ v ∈ r, v.t.size ≤ 60) u1 x1 (by omega) (by omega) u2 x2
        have hnl : (negL (ofL old 1)).length ≤ 1048576 := by rw [negL_len]; exact lo1
        have hyl : (addD (ofL fresh 1) (negL (ofL old 1))).length ≤ 4194304 := by omega
        have HU1 := Lib.hid u1
        have HV1 := Lib.hid v1
        have HX1 := Lib.hid x1
        have HU2 := Lib.hid (show ∀ z ∈ ofL fresh 1, z.row.length ≤ 1048576 from fun z hz => Nat.le_trans (u2 z hz).1 (by omega))
        have HX2 := Lib.hid (show ∀ z ∈ negL (ofL old 1), z.row.length ≤ 1048576 from fun z hz => Nat.le_trans (x2 z hz).1 (by omega))
        have HY := Lib.hid (show ∀ z ∈ addD (ofL fresh 1) (negL (ofL old 1)), z.row.length ≤ 1048576 ∧ ∀ v ∈ z.row, v.t.size ≤ maxLen from fun z hz => ⟨Nat.le_trans (y3 z hz).1 (by omega), fun v hv => Nat.le_trans ((y3 z hz).2 v hv) (by unfold maxLen; omega)⟩)
        clear s1 s2 t1 t2 u1 v1 e2 x1 x2 u2 y1 y2 y3
        go_enter Try.func19, Try.ntmps19
        go_wp2_with fail
        refine (spec_tableOk A c old _ HA.out.tab hl HLA.out).mono ?_
        rintro e w1 ⟨rfl, hb1⟩
        rw [h1]
        go_wp2_with fail
        refine (spec_tableOk B d fresh _ (HB.out.to_ hb1).tab hl' HLB.out).mono ?_
        rintro e w2 ⟨rfl, hb2⟩
        rw [h2]
        have hB2 := below_next hb1 hb2 rfl rfl
        clear hb1 hb2
        go_wp2_with fail
        refine (spec_ofL A c old _ (HA.out.to_ hB2) hl).mono ?_
        rintro e w3 ⟨A3, c3, rfl, hc3, hd3, hb3⟩
        have hB3 := below_next hB2 hb3 rfl rfl
        have HD3 := Lib.hid hd3
        clear hB2 hb3 hd3
        go_wp2_with fail
        refine (spec_ofL B d fresh _ (HB.out.to_ hB3) hl').mono ?_
        rintro e w4 ⟨A4, c4, rfl, hc4, hd4, hb4⟩
        have hB4 := below_next hB3 hb4 rfl rfl
        have HD4 := Lib.hid hd4
        have HD3b := Lib.hid (HD3.out.to_ hb4)
        clear hB3 hb4 hd4 HD3
        go_wp2_with fail
        refine (spec_wide A3 A4 c3 c4 (ofL old 1) (ofL fresh 1) _ HD3b.out HD4.out (by omega) (by omega)).mono ?_
        rintro e w5 ⟨rfl, hb5⟩
        rw [h3]
        have hB5 := below_next hB4 hb5 rfl rfl
        clear hB4 hb5 HD3b HD4
        go_wp2_with fail
        refine (spec_ofL B d fresh _ (HB.out.to_ hB5) hl').mono ?_
        rintro e w6 ⟨A6, c6, rfl, hc6, hd6, hb6⟩
        have hB6 := below_next hB5 hb6 rfl rfl
        have HD6 := Lib.hid hd6
        clear hB5 hb6 hd6
        go_wp2_with fail
        refine (spec_ofL A c old _ (HA.out.to_ hB6) hl).mono ?_
        rintro e w7 ⟨A7, c7, rfl, hc7, hd7, hb7⟩
        have hB7 := below_next hB6 hb7 rfl rfl
        have HD7 := Lib.hid hd7
        have HD6b := Lib.hid (HD6.out.to_ hb7)
        clear hB6 hb7 hd7 HD6
        go_wp2_with fail
        refine (spec_negL A7 c7 (ofL old 1) _ HD7.out lo1 HV1.out).mono ?_
        rintro e w8 ⟨A8, c8, rfl, hc8, hd8, hb8⟩
        have hB8 := below_next hB7 hb8 rfl rfl
        have HD8 := Lib.hid hd8
        have HD6c := Lib.hid (HD6b.out.to_ hb8)
        clear hB7 hb8 hd8 HD7 HD6b
        go_wp2_with fail
        refine (spec_addD A6 A8 c6 c8 (ofL fresh 1) (negL (ofL old 1)) 1000000 1000000 _ HD6c.out HD8.out lf1 hnl HU2.out HX2.out HU1.out HX1.out (by omega)).mono ?_
        rintro e w9 ⟨A9, c9, rfl, hc9, hd9, hb9⟩
        have hB9 := below_next hB8 hb9 rfl rfl
        have HD9 := Lib.hid hd9
        clear hB8 hb9 hd9 HD8 HD6c
        go_wp2_with fail
        refine (spec_orD A9 c9 _ _ HD9.out hyl HY.out).mono ?_
        rintro e w10 ⟨A10, c10, rfl, hc10, hd10, hb10⟩
        have HD10 := Lib.hid hd10
        have HC10 := Lib.hid hc10
        have hB10 := below_next hB9 hb10 rfl rfl
        clear hd10 hc10
        go_wp2_with fail
        go_ret
        exact ⟨A10, c10, rfl, HC10.out, HD10.out, hB10⟩
      · rw [Bool.not_eq_true] at h3
        have he : diffOfD old fresh = [] := diffOfD_no (by rw [h1, h2, h3]; rfl)
        rw [he]
        clear he
        go_enter Try.func19, Try.ntmps19
        go_wp2_with fail
        refine (spec_tableOk A c old _ HA.out.tab hl HLA.out).mono ?_
        rintro e w1 ⟨rfl, hb1⟩
        rw [h1]
        go_wp2_with fail
        refine (spec_tableOk B d fresh _ (HB.out.to_ hb1).tab hl' HLB.out).mono ?_
        rintro e w2 ⟨rfl, hb2⟩
        rw [h2]
        have hB2 := below_next hb1 hb2 rfl rfl
        clear hb1 hb2
        go_wp2_with fail
        refine (spec_ofL A c old _ (HA.out.to_ hB2) hl).mono ?_
        rintro e w3 ⟨A3, c3, rfl, hc3, hd3, hb3⟩
        have hB3 := below_next hB2 hb3 rfl rfl
        have HD3 := Lib.hid hd3
        clear hB2 hb3 hd3
        go_wp2_with fail
        refine (spec_ofL B d fresh _ (HB.out.to_ hB3) hl').mono ?_
        rintro e w4 ⟨A4, c4, rfl, hc4, hd4, hb4⟩
        have hB4 := below_next hB3 hb4 rfl rfl
        have HD4 := Lib.hid hd4
        have HD3b := Lib.hid (HD3.out.to_ hb4)
        clear hB3 hb4 hd4 HD3
        go_wp2_with fail
        refine (spec_wide A3 A4 c3 c4 (ofL old 1) (ofL fresh 1) _ HD3b.out HD4.out (by omega) (by omega)).mono ?_
        rintro e w5 ⟨rfl, hb5⟩
        rw [h3]
        have hB5 := below_next hB4 hb5 rfl rfl
        clear hB4 hb5 HD3b HD4
        go_wp2_with fail
        go_ret
        exact dpost_none hB5 rfl
    · rw [Bool.not_eq_true] at h2
      have he : diffOfD old fresh = [] := diffOfD_no (by rw [h1, h2]; rfl)
      rw [he]
      clear he
      go_enter Try.func19, Try.ntmps19
      go_wp2_with fail
      refine (spec_tableOk A c old _ HA.out.tab hl HLA.out).mono ?_
      rintro e w1 ⟨rfl, hb1⟩
      rw [h1]
      go_wp2_with fail
      refine (spec_tableOk B d fresh _ (HB.out.to_ hb1).tab hl' HLB.out).mono ?_
      rintro e w2 ⟨rfl, hb2⟩
      rw [h2]
      have hB2 := below_next hb1 hb2 rfl rfl
      clear hb1 hb2
      go_wp2_with fail
      go_ret
      exact dpost_none hB2 rfl
  · rw [Bool.not_eq_true] at h1
    have he : diffOfD old fresh = [] := diffOfD_no (by rw [h1]; rfl)
    rw [he]
    clear he
    go_enter Try.func19, Try.ntmps19
    go_wp2_with fail
    refine (spec_tableOk A c old _ HA.out.tab hl HLA.out).mono ?_
    rintro e w1 ⟨rfl, hb1⟩
    rw [h1]
    go_wp2_with fail
    go_ret
    exact dpost_none hb1 rfl
end Go.Proofs.Ytemcpdpbikgfcaa
