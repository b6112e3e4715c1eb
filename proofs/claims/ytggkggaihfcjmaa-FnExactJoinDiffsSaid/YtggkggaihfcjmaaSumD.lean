/-
  Sums by halves; spec.l4Sum.
-/
import Derived.Test.YtggkggaihfcjmaaCntZ
import Derived.Test.YtggkggaihfcjmaaAddD
import Derived.Deep.RegionWith
namespace Go.Proofs.Ytggkggaihfcjmaa
open Go.RowKit Go.Sort
set_option linter.unusedVariables false

def sumD (zs : List GDiff) : List GDiff := if h : zs.length < 2 then zs else addD (sumD (zs.take (zs.length / 2))) (sumD (zs.drop (zs.length / 2)))
termination_by zs.length
decreasing_by
  · simp; omega
  · simp; omega
theorem sumD_step {zs : List GDiff} (h : ¬ zs.length < 2) : sumD zs = addD (sumD (zs.take (zs.length / 2))) (sumD (zs.drop (zs.length / 2))) := by
  conv => lhs; rw [sumD, dif_neg h]
theorem sumD_small {zs : List GDiff} (h : zs.length < 2) : sumD zs = zs := by rw [sumD, dif_pos h]
theorem addD_props (M N : Int) : ∀ (a b : List GDiff) (P : List GV → Prop), cntLe M a → cntLe N b → 0 ≤ M → 0 ≤ N → (∀ z ∈ a, P z.row) → (∀ z ∈ b, P z.row) → (addD a b).length ≤ a.length + b.length ∧ cntLe (M + N) (addD a b) ∧ ∀ z ∈ addD a b, P z.row := by
  intro a b
  induction a, b using addD.induct with
  | case1 b =>
    intro P ha hb h0 h1 hP hQ
    simp only [addD]
    exact ⟨by simp, fun z hz => by have := hb z hz; omega, hQ⟩
  | case2 x a =>
    intro P ha hb h0 h1 hP hQ
    rw [addD_nil]
    exact ⟨by simp, fun z hz => by have := ha z hz; omega, hP⟩
  | case3 x a y b hc ih =>
    intro P ha hb h0 h1 hP hQ
    rw [addD, if_pos hc]
    obtain ⟨h2, h3, h4⟩ := ih P (fun z hz => ha z (List.mem_cons_of_mem _ hz)) hb h0 h1 (fun z hz => hP z (List.mem_cons_of_mem _ hz)) hQ
    refine ⟨by simp at h2 ⊢; omega, fun z hz => ?_, fun z hz => ?_⟩
    · rw [List.mem_cons] at hz
      rcases hz with rfl | hz
      · have := ha z (by simp); omega
      · exact h3 z hz
    · rw [List.mem_cons] at hz
      rcases hz with rfl | hz
      · exact hP z (by simp)
      · exact h4 z hz
  | case4 x a y b hc hc2 ih =>
    intro P ha hb h0 h1 hP hQ
    rw [addD, if_neg hc, if_pos hc2]
    obtain ⟨h2, h3, h4⟩ := ih P ha (fun z hz => hb z (List.mem_cons_of_mem _ hz)) h0 h1 hP (fun z hz => hQ z (List.mem_cons_of_mem _ hz))
    refine ⟨by simp at h2 ⊢; omega, fun z hz => ?_, fun z hz => ?_⟩
    · rw [List.mem_cons] at hz
      rcases hz with rfl | hz
      · have := hb z (by simp); omega
      · exact h3 z hz
    · rw [List.mem_cons] at hz
      rcases hz with rfl | hz
      · exact hQ z (by simp)
      · exact h4 z hz
  | case5 x a y b hc hc2 ih =>
    intro P ha hb h0 h1 hP hQ
    rw [addD, if_neg hc, if_neg hc2]
    obtain ⟨h2, h3, h4⟩ := ih P (fun z hz => ha z (List.mem_cons_of_mem _ hz)) (fun z hz => hb z (List.mem_cons_of_mem _ hz)) h0 h1 (fun z hz => hP z (List.mem_cons_of_mem _ hz)) (fun z hz => hQ z (List.mem_cons_of_mem _ hz))
    have ho : (oneD x.row (x.count + y.count)).length ≤ 1 := by unfold oneD; split <;> simp
    refine ⟨by rw [List.length_append]; simp at h2 ⊢; omega, fun z hz => ?_, fun z hz => ?_⟩
    · rw [List.mem_append] at hz
      rcases hz with hz | hz
      · unfold oneD at hz
        split at hz
        · simp at hz
        · simp at hz; subst hz
          have h5 := ha x (by simp)
          have h6 := hb y (by simp)
          show -(M + N) ≤ x.count + y.count ∧ x.count + y.count ≤ M + N
          omega
      · exact h3 z hz
    · rw [List.mem_append] at hz
      rcases hz with hz | hz
      · unfold oneD at hz
        split at hz
        · simp at hz
        · simp at hz; subst hz; exact hP x (by simp)
      · exact h4 z hz
/-- Sums by halves: no longer than the list, counts at most n times as large, rows from the list. -/
theorem sumD_props (M : Int) (h0 : 0 ≤ M) (P : List GV → Prop) : ∀ (n : Nat) (zs : List GDiff), zs.length ≤ n → cntLe M zs → (∀ z ∈ zs, P z.row) → (sumD zs).length ≤ zs.length ∧ (zs ≠ [] → cntLe (zs.length * M) (sumD zs)) ∧ ∀ z ∈ sumD zs, P z.row := by
  intro n
  induction n with
  | zero =>
    intro zs hl hc hP
    obtain rfl := List.eq_nil_of_length_eq_zero (Nat.le_zero.1 hl)
    rw [sumD_small (by simp)]
    exact ⟨Nat.le_refl _, fun h => absurd rfl h, hP⟩
  | succ n ih =>
    intro zs hl hc hP
    by_cases h : zs.length < 2
    · rw [sumD_small h]
      refine ⟨Nat.le_refl _, fun hne => ?_, hP⟩
      have h1 : zs.length = 1 := by have := List.length_pos_iff.2 hne; omega
      rw [h1]
      simpa using hc
    · rw [sumD_step h]
      have hm : ∀ z ∈ zs.take (zs.length / 2), z ∈ zs := fun z hz => List.mem_of_mem_take hz
      have hd : ∀ z ∈ zs.drop (zs.length / 2), z ∈ zs := fun z hz => List.mem_of_mem_drop hz
      have hlt : (zs.take (zs.length / 2)).length = zs.length / 2 := by rw [List.length_take]; omega
      have hld : (zs.drop (zs.length / 2)).length = zs.length - zs.length / 2 := List.length_drop
      obtain ⟨a1, a2, a3⟩ := ih (zs.take (zs.length / 2)) (by omega) (fun z hz => hc z (hm z hz)) (fun z hz => hP z (hm z hz))
      obtain ⟨b1, b2, b3⟩ := ih (zs.drop (zs.length / 2)) (by omega) (fun z hz => hc z (hd z hz)) (fun z hz => hP z (hd z hz))
      have e1 : zs.take (zs.length / 2) ≠ [] := fun e => by rw [e] at hlt; simp at hlt; omega
      have e2 : zs.drop (zs.length / 2) ≠ [] := fun e => by rw [e] at hld; simp at hld; omega
      obtain ⟨c1, c2, c3⟩ := addD_props _ _ _ _ P (a2 e1) (b2 e2) (Int.mul_nonneg (by omega) h0) (Int.mul_nonneg (by omega) h0) a3 b3
      refine ⟨by omega, fun _ => ?_, c3⟩
      rw [hlt, hld, ← Int.add_mul, show ((zs.length / 2 : Nat) : Int) + ((zs.length - zs.length / 2 : Nat) : Int) = (zs.length : Int) by omega] at c2
      exact c2
theorem DiffsAt.first {w : World} {lo B : Nat} {A : Option Addr} {zs : List GDiff} (h : DiffsAt w lo B A zs) (k : Nat) : DiffsAt w lo B A (zs.take k) := by
  rcases h with rfl | ⟨g, o, hA, h1, h2, hc⟩
  · exact .inl (by simp)
  · refine .inr ⟨g, o, hA, h1, h2, fun i x hx => hc i x ?_⟩
    rw [List.getElem?_take] at hx
    split at hx
    · exact hx
    · cases hx
theorem DiffsAt.rest {w : World} {lo B g o c k : Nat} {zs : List GDiff} (h : DiffsAt w lo B (some ⟨g, o, none⟩) zs) (hc : zs.length ≤ c) (hk : k ≤ zs.length) : DiffsAt w lo B (if c = k then some ⟨g, o, none⟩ else some ⟨g, o + k * 2, none⟩) (zs.drop k) := by
  by_cases hck : c = k
  · left; exact List.drop_of_length_le (by omega)
  · rw [if_neg hck]
    rcases h with rfl | ⟨g', o', hA, h1, h2, hcell⟩
    · exact .inl (by simp)
    · cases hA
      refine .inr ⟨g, o + k * 2, rfl, h1, h2, fun i x hx => ?_⟩
      rw [List.getElem?_drop] at hx
      have := hcell (k + i) x hx
      rwa [show o + (k + i) * 2 = o + k * 2 + i * 2 by omega] at this
set_option maxRecDepth 100000 in
set_option maxHeartbeats 3200000 in
theorem spec_sumD (M : Int) (h0 : 0 ≤ M) (hM : 3100 * M ≤ 9000000000000000000) : ∀ (n : Nat) {lo : Nat} (A : Option Addr) (c : Nat) (zs : List GDiff) (w : World), zs.length ≤ n → n ≤ 3100 → DiffsAt w lo w.heap.size A zs → CapOk zs.length c → (∀ z ∈ zs, z.row.length ≤ 1048576) → cntLe M zs →
    Calls Try.prog 62 #[.slice A zs.length c] w (DPost w (sumD zs)) := by
  intro n
  induction n with
  | zero =>
    intro lo A c zs w hl hn hr hc hlr hcn
    obtain rfl := List.eq_nil_of_length_eq_zero (Nat.le_zero.1 hl)
    rw [sumD_small (by simp)]
    go_enter Try.func62, Try.ntmps62
    go_wp2_with fail
    go_ret
    exact ⟨A, c, rfl, hc, .inl rfl, Below.refl _ _⟩
  | succ n ih =>
    intro lo A c zs w hl hn hr hc hlr hcn
    by_cases h2 : zs.length < 2
    · rw [sumD_small h2]
      have hi1 : (zs.length : Int) < 2 := by omega
      have HR := Lib.hid hr
      have HC := Lib.hid hc
      clear hr hc hlr hcn
      go_enter Try.func62, Try.ntmps62
      go_wp2_with fail
      go_ret
      exact ⟨A, c, rfl, HC.out, HR.out.mono (Nat.zero_le _) (Nat.le_refl _), Below.refl _ _⟩
    · rw [sumD_step h2]
      obtain ⟨g, o, rfl, _, _, _⟩ := hr.at_ (i := 0) (by omega)
      obtain ⟨h, hh⟩ : ∃ h, zs.length / 2 = h := ⟨_, rfl⟩
      rw [hh]
      have hi1 : ¬ (zs.length : Int) < 2 := by omega
      have hq : Int.tdiv (zs.length : Int) 2 = (h : Int) := by rw [Int.tdiv_eq_ediv_of_nonneg (by omega)]; omega
      have hq2 : (zs.length : Int) / 2 = (h : Int) := by omega
      have hlt : (zs.take h).length = h := by rw [List.length_take]; omega
      have hld : (zs.drop h).length = zs.length - h := List.length_drop
      have HR := Lib.hid hr
      have HC := Lib.hid hc
      have hk0 : (0 : Int) ≤ (h : Int) := by omega
      have hkl : (h : Int) ≤ (zs.length : Int) := by omega
      have hkc : (h : Int) ≤ (c : Int) := by have := hc.1; omega
      have hlc : (zs.length : Int) ≤ (c : Int) := by have := hc.1; omega
      obtain ⟨A2, hA2⟩ : ∃ A2 : Option Addr, (if c = h then some (⟨g, o, none⟩ : Addr) else some ⟨g, o + h * 2, none⟩) = A2 := ⟨_, rfl⟩
      have hwr : IntKind.i64.wrap (h : Int) = (h : Int) := by rw [IntKind.wrap_i64]; omega
      have hm : ∀ z ∈ zs.take h, z ∈ zs := fun z hz => List.mem_of_mem_take hz
      have hd : ∀ z ∈ zs.drop h, z ∈ zs := fun z hz => List.mem_of_mem_drop hz
      have C1 : ∀ W, Below w.heap.size w W → Calls Try.prog 62 #[.slice (some ⟨g, o, none⟩) h c] W (DPost W (sumD (zs.take h))) := by
        intro W hb
        have := ih (some ⟨g, o, none⟩) c (zs.take h) W (by omega) (by omega) ((HR.out.to_ hb).first h) ⟨by have := hc.1; omega, hc.2⟩ (fun z hz => hlr z (hm z hz)) (fun z hz => hcn z (hm z hz))
        rwa [hlt] at this
      have C2 : ∀ W, Below w.heap.size w W → Calls Try.prog 62 #[.slice A2 (zs.length - h) (c - h)] W (DPost W (sumD (zs.drop h))) := by
        intro W hb
        have := ih A2 (c - h) (zs.drop h) W (by omega) (by omega) (by rw [← hA2]; exact (HR.out.to_ hb).rest hc.1 (by omega)) ⟨by have := hc.1; omega, by have := hc.2; omega⟩ (fun z hz => hlr z (hd z hz)) (fun z hz => hcn z (hd z hz))
        rwa [hld] at this
      obtain ⟨a1, a2, a3⟩ := sumD_props M h0 (fun r => r.length ≤ 1048576) _ (zs.take h) (Nat.le_refl _) (fun z hz => hcn z (hm z hz)) (fun z hz => hlr z (hm z hz))
      obtain ⟨b1, b2, b3⟩ := sumD_props M h0 (fun r => r.length ≤ 1048576) _ (zs.drop h) (Nat.le_refl _) (fun z hz => hcn z (hd z hz)) (fun z hz => hlr z (hd z hz))
      have a2' := a2 (fun e => by rw [e] at hlt; simp at hlt; omega)
      have b2' := b2 (fun e => by rw [e] at hld; simp at hld; omega)
      rw [hlt] at a1 a2'
      rw [hld] at b1 b2'
      have hsum : (h : Int) * M + ((zs.length - h : Nat) : Int) * M ≤ 9000000000000000000 := by
        rw [← Int.add_mul, show (h : Int) + ((zs.length - h : Nat) : Int) = (zs.length : Int) by omega]
        exact Int.le_trans (Int.mul_le_mul_of_nonneg_right (by omega) h0) hM
      generalize sumD (zs.take h) = F at *
      generalize sumD (zs.drop h) = G at *
      have C3 : ∀ W (E1 E2 : Option Addr) (e1 e2 : Nat), DiffsAt W 0 W.heap.size E1 F → DiffsAt W 0 W.heap.size E2 G → Calls Try.prog 48 #[.slice E1 F.length e1, .slice E2 G.length e2] W (DPost W (addD F G)) :=
        fun W E1 E2 e1 e2 h1 h2 => spec_addD E1 E2 e1 e2 F G _ _ W h1 h2 (by omega) (by omega) a3 b3 a2' b2' hsum
      have HC1 := Lib.hid C1
      have HC2 := Lib.hid C2
      have HC3 := Lib.hid C3
      have hlh : h ≤ zs.length := by omega
      clear C1 C2 C3 a1 a2 a3 a2' b1 b2 b3 b2' hsum hm hd hr hc hlr hcn ih hlt hld HC HR hh
      go_enter Try.func62, Try.ntmps62
      go_wp2_with fail
      go_region_with (first
        | (go_at_call 62; (with_reducible show Calls _ _ #[.slice (some ⟨g, o, none⟩) h c] _ _); refine (HC1.out _ (by first | exact (Below.refl _ _).drew | exact Below.refl _ _ | exact hB2)).mono ?_; rintro e w1 ⟨E1, e1, rfl, _, hd1, hb1⟩; have hB1 : Below w.heap.size w w1 := (by first | exact below_next hB2 hb1 rfl rfl | exact below_next ((Below.refl _ _).drew) hb1 rfl rfl))
        | (go_at_call 62; (with_reducible show Calls _ _ #[.slice A2 (zs.length - h) (c - h)] _ _); refine (HC2.out _ (by first | exact (Below.refl _ _).drew | exact Below.refl _ _ | exact hB1)).mono ?_; rintro e w2 ⟨E2, e2, rfl, _, hd2, hb2⟩; have hB2 : Below w.heap.size w w2 := (by first | exact below_next hB1 hb2 rfl rfl | exact below_next ((Below.refl _ _).drew) hb2 rfl rfl))
        | (go_at_call 48; refine (HC3.out _ E1 E2 e1 e2 (by first | exact hd1 | exact hd1.to_ hb2) (by first | exact hd2 | exact hd2.to_ hb1)).mono ?_; rintro e w3 ⟨E3, e3, rfl, hcp3, hd3, hb3⟩; have hB3 : Below w.heap.size w w3 := (by first | exact below_next hB2 hb3 rfl rfl | exact below_next hB1 hb3 rfl rfl)))
      all_goals have HD3 := Lib.hid hd3
      all_goals clear hd1 hd2 hd3
      all_goals go_wp2_with fail
      all_goals go_ret
      all_goals exact ⟨_, _, rfl, hcp3, HD3.out, hB3⟩
end Go.Proofs.Ytggkggaihfcjmaa
