/-
  For every two slices of differences and every integer, laws.FnExactJoinDiffs returns true and leaves its arguments as they were. No condition.
-/
import Derived.Test.YtggkggaihfcjmaaMarkD
import Derived.Test.YtggkggaihfcjmaaToValZ
import Derived.Test.YtggkggaihfcjmaaToDiff
import Derived.Test.YtggkggaihfcjmaaKkZ
import Derived.Test.YtggkggaihfcjmaaMkDiff
import Derived.Test.YtggkggaihfcjmaaKeyMZ
import Derived.Test.YtggkggaihfcjmaaJoinY
import Derived.Test.YtggkggaihfcjmaaJoinIZ
import Derived.Test.YtggkggaihfcjmaaOpenDZ
import Derived.Test.YtggkggaihfcjmaaRows
namespace Go.Proofs.Ytggkggaihfcjmaa.joinDiffs
open Go.RowKit Go.Sort
set_option linter.unusedVariables false
def mcR (R : List GDiff) : Nat := (R.map fun z => 3 * z.row.length + 1).sum
theorem mcD_R (ps : List DH) : mcD ps = mcR (ps.map (·.2)) := by unfold mcD mcR; rw [List.map_map]; rfl
theorem kk_below {w w' : World} {n lo B : Nat} (h : KK w w' lo B) (hn : n ≤ lo) (hs : lo ≤ w.heap.size) : Below n w w' := ⟨h.os, h.tape, h.output, h.size, fun b hb => h.out b (by omega) (.inl (by omega))⟩
set_option maxRecDepth 100000 in
set_option maxHeartbeats 4000000 in
theorem walk (a : List GDiff) (b : List GDiff) (c_ : Int) (A0 : Option Addr) (c0 : Nat) (A1 : Option Addr) (c1 : Nat) (R : List GDiff) (hR : costDiffs R ≤ 16777216) (hRm : mcR R ≤ 10000000) (hRn : R.length ≤ 1048576) (w : World)
    (f0 : fitDiffs a) (s0 : DiffsAt w 0 w.heap.size A0 a) (f1 : fitDiffs b) (s1 : DiffsAt w 0 w.heap.size A1 b)
    (HSp : costDiffs a + costDiffs b ≤ 1048576 → ∀ (W : World) (A0 : Option Addr) (c0 : Nat) (l0 : Nat) (A1 : Option Addr) (c1 : Nat) (l1 : Nat), DiffsAt W l0 W.heap.size A0 a → CapOk a.length c0 → DiffsAt W l1 W.heap.size A1 b → CapOk b.length c1 → Calls Try.prog 26 #[.slice A0 a.length c0, .slice A1 b.length c1, .int .i64 c_] W (DPost W R))
    (HIm : costDiffs a + costDiffs b ≤ 1048576 → ∀ (W : World) (A0 : Option Addr) (c0 : Nat) (l0 : Nat) (A1 : Option Addr) (c1 : Nat) (l1 : Nat), DiffsAt W l0 W.heap.size A0 a → CapOk a.length c0 → DiffsAt W l1 W.heap.size A1 b → CapOk b.length c1 → Calls Try.prog 27 #[.slice A0 a.length c0, .slice A1 b.length c1, .int .i64 c_] W (IPost W R)) :
    Calls Try.prog 6 #[.slice A0 a.length c0, .slice A1 b.length c1, .int .i64 c_] w fun e w' => e = .returned (.bool true) ∧ Below w.heap.size w w' := by
  have S0 := Lib.hid s0
  have S1 := Lib.hid s1
  have HSP := Lib.hid HSp
  have HIM := Lib.hid HIm
  have HRC := Lib.hid hR
  have HRM := Lib.hid hRm
  have HRN := Lib.hid hRn
  clear hRn
  clear HSp HIm hR hRm s0 s1
  have hB0 : Below w.heap.size w w := Below.refl _ _
  go_enter Try.func6, Try.ntmps6
  go_wp2_with fail
  refine (sz_Diffs A0 c0 a _ _ f0 (S0.out.to_ hB0) (by omega) (by omega)).mono ?_
  rintro e w1 ⟨rfl, hb1⟩
  have hB1 := below_next hB0 hb1 rfl rfl
  go_wp2_with fail
  · go_ret
    exact ⟨rfl, hB1⟩
  have hp0 : 0 ≤ szC (costDiffs a) (1048576 : Int) := by assumption
  obtain ⟨hq0, hr0⟩ := szC_pos hp0
  have hu0 : szC (costDiffs a) (1048576 : Int) = (1048576 : Int) - (costDiffs a : Int) := by unfold szC at hp0 ⊢; split <;> omega
  generalize szC (costDiffs a) (1048576 : Int) = L0 at *
  have HU0 := Lib.hid hu0
  clear hu0
  refine (sz_Diffs A1 c1 b _ _ f1 (S1.out.to_ hB1) (by omega) (by omega)).mono ?_
  rintro e w2 ⟨rfl, hb2⟩
  have hB2 := below_next hB1 hb2 rfl rfl
  go_wp2_with fail
  · go_ret
    exact ⟨rfl, hB2⟩
  have hp1 : 0 ≤ szC (costDiffs b) L0 := by assumption
  obtain ⟨hq1, hr1⟩ := szC_pos hp1
  have hu1 : szC (costDiffs b) L0 = L0 - (costDiffs b : Int) := by unfold szC at hp1 ⊢; split <;> omega
  generalize szC (costDiffs b) L0 = L1 at *
  have HU1 := Lib.hid hu1
  clear hu1
  have hcost0 : costDiffs a + costDiffs b ≤ 1048576 := by have := HU0.out; have := HU1.out; omega
  have hcost : costDiffs a + costDiffs b ≤ 1048576 := hcost0
  have hc0 : costDiffs a ≤ 1048576 := by omega
  have hl0 : a.length ≤ 1048576 := by unfold costDiffs at hc0; omega
  have hc1 : costDiffs b ≤ 1048576 := by omega
  have hl1 : b.length ≤ 1048576 := by unfold costDiffs at hc1; omega
  clear hp0 hq0 hr0 HU0 hp1 hq1 hr1 HU1
  refine (to_Diffs A0 c0 a _ hc0 (S0.out.to_ hB2)).mono ?_
  rintro e w3 ⟨p0A, p0c, rfl, ⟨p0q, p0d⟩, p0u, hb3⟩
  have hB3 := below_next hB2 hb3 rfl rfl
  go_wp2_with fail
  refine (to_Diffs A1 c1 b _ hc1 (S1.out.to_ hB3)).mono ?_
  rintro e w4 ⟨p1A, p1c, rfl, ⟨p1q, p1d⟩, p1u, hb4⟩
  have hB4 := below_next hB3 hb4 rfl rfl
  go_wp2_with fail
  refine (HSP.out hcost _ p0A p0c _ p1A p1c _ (p0d.to_ hb4) p0q p1d p1q).mono ?_
  rintro e w5 ⟨G0, g0, rfl, _, hW, hb5⟩
  have hB5 := below_next hB4 hb5 rfl rfl
  have HW := Lib.hid hW
  clear hW p0d p0u p1d p1u
  go_wp2_with fail
  refine (to_Diffs A0 c0 a _ hc0 (S0.out.to_ hB5)).mono ?_
  rintro e w6 ⟨x0A, x0c, rfl, ⟨x0q, x0d⟩, x0u, hb6⟩
  have hB6 := below_next hB5 hb6 rfl rfl
  go_wp2_with fail
  refine (to_Diffs A1 c1 b _ hc1 (S1.out.to_ hB6)).mono ?_
  rintro e w7 ⟨x1A, x1c, rfl, ⟨x1q, x1d⟩, x1u, hb7⟩
  have hB7 := below_next hB6 hb7 rfl rfl
  go_wp2_with fail
  refine (HIM.out hcost _ x0A x0c _ x1A x1c _ (x0d.to_ hb7) x0q x1d x1q).mono ?_
  rintro e w8 ⟨R6, l6, ps, rfl, hps, hG, hb8⟩
  have hB8 := below_next hB7 hb8 rfl rfl
  have HPL := Lib.hid (show ps.length = R.length by rw [← hps]; simp)
  have hpn : ps.length ≤ 1048576 := by rw [HPL.out]; exact HRN.out
  have hmc : mcD ps ≤ 10000000 := by rw [mcD_R, hps]; exact HRM.out
  have X0 := Lib.hid x0d
  have U0 := Lib.hid x0u
  have X1 := Lib.hid x1d
  have U1 := Lib.hid x1u
  have HG := Lib.hid hG
  have HPS := Lib.hid hps
  have EQ := Lib.hid (show ∀ W : World, DiffsAt W 0 W.heap.size R6 R → DiffsAt W 0 W.heap.size G0 R → Calls Try.prog 15 #[.slice R6 ps.length l6, .slice G0 R.length g0] W (EqYes W) from fun W h1 h2 => by rw [HPL.out]; exact eq_Diffs R6 G0 l6 g0 R W HRC.out h1 h2)
  clear hG hps x0d x0u x1d x1u
  have z6 : w5.heap.size ≤ w6.heap.size := hb6.size
  have z7 : w6.heap.size ≤ w7.heap.size := hb7.size
  have hS6 : Below w5.heap.size w5 w6 := hb6
  have hS7 := below_next hS6 hb7 rfl rfl
  have hS8 := below_next hS7 hb8 rfl rfl
  go_wp2_with fail
  have hg8 := Lib.hid HG.out
  refine (EQ.out _ (by rw [← HPS.out]; exact hg8.out.diffs) ((HW.out.keep (fun b _ h => hS8.block b h)).mono (Nat.le_refl _) hS8.size)).mono ?_
  rintro e w9 ⟨rfl, hb9⟩
  have hB9 := below_next hB8 hb9 rfl rfl
  have hS9 := below_next hS8 hb9 rfl rfl
  have hg9 := Lib.hid (hg8.out.below hb9)
  have hX0_6 : Below w6.heap.size w6 w6 := Below.refl _ _
  have hX0_7 := below_next hX0_6 hb7 rfl rfl
  have hX0_8 := below_next hX0_7 hb8 rfl rfl
  have hX0_9 := below_next hX0_8 hb9 rfl rfl
  have hX1_7 : Below w7.heap.size w7 w7 := Below.refl _ _
  have hX1_8 := below_next hX1_7 hb8 rfl rfl
  have hX1_9 := below_next hX1_8 hb9 rfl rfl
  go_wp2_with fail
  refine (to_Diffs A0 c0 a _ hc0 (S0.out.to_ hB9)).mono ?_
  rintro e w10 ⟨y0A, y0c, rfl, ⟨_, y0d⟩, _, hb10⟩
  have hB10 := below_next hB9 hb10 rfl rfl
  have hS10 := below_next hS9 hb10 rfl rfl
  have hX0_10 := below_next hX0_9 hb10 rfl rfl
  have hX1_10 := below_next hX1_9 hb10 rfl rfl
  have hg10 := Lib.hid (hg9.out.below hb10)
  go_wp2_with fail
  refine (eq_Diffs x0A y0A x0c y0c a _ (by omega) ((X0.out.keep (fun b _ h => hX0_10.block b h)).mono (Nat.le_refl _) hX0_10.size) y0d).mono ?_
  rintro e w11 ⟨rfl, hb11⟩
  have hB11 := below_next hB10 hb11 rfl rfl
  have hS11 := below_next hS10 hb11 rfl rfl
  have hX0_11 := below_next hX0_10 hb11 rfl rfl
  have hX1_11 := below_next hX1_10 hb11 rfl rfl
  have hg11 := Lib.hid (hg10.out.below hb11)
  clear y0d
  go_wp2_with fail
  refine (to_Diffs A1 c1 b _ hc1 (S1.out.to_ hB11)).mono ?_
  rintro e w12 ⟨y1A, y1c, rfl, ⟨_, y1d⟩, _, hb12⟩
  have hB12 := below_next hB11 hb12 rfl rfl
  have hS12 := below_next hS11 hb12 rfl rfl
  have hX0_12 := below_next hX0_11 hb12 rfl rfl
  have hX1_12 := below_next hX1_11 hb12 rfl rfl
  have hg12 := Lib.hid (hg11.out.below hb12)
  go_wp2_with fail
  refine (eq_Diffs x1A y1A x1c y1c b _ (by omega) ((X1.out.keep (fun b _ h => hX1_12.block b h)).mono (Nat.le_refl _) hX1_12.size) y1d).mono ?_
  rintro e w13 ⟨rfl, hb13⟩
  have hB13 := below_next hB12 hb13 rfl rfl
  have hS13 := below_next hS12 hb13 rfl rfl
  have hX0_13 := below_next hX0_12 hb13 rfl rfl
  have hX1_13 := below_next hX1_12 hb13 rfl rfl
  have hg13 := Lib.hid (hg12.out.below hb13)
  clear y1d
  go_wp2_with fail
  have mb0 := mcDiffs_le a
  refine (mark_Diffs (lo := w5.heap.size) (B := w6.heap.size) x0A x0c a _ _ ((X0.out.keep (fun b _ h => hX0_13.block b h)).sh) (fun b h1 h2 o => (World.frozen?_of_block (hX0_13.block b h2)).trans (U0.out b h1 h2 o)) hX0_13.size (by omega) (by omega) hl0 hc0).mono ?_
  rintro e w14 ⟨K0, rfl, kl0, kh0, hkk14⟩
  have hb14x : Below w5.heap.size w13 w14 := kk_below hkk14 (Nat.le_refl _) (by have := hX0_13.size; have := z6; omega)
  have hB14 : Below w.heap.size w w14 := hB13.trans (hb14x.mono hB5.size)
  have hS14 : Below w5.heap.size w5 w14 := hS13.trans (hb14x.mono (by  omega))
  have hg14 := Lib.hid (hg13.out.keep (fun b h1 h2 => hkk14.out b h2 (.inr (by have := z6; have := z7; omega))))
  have X1_14 := Lib.hid ((X1.out.keep (fun b _ h => hX1_13.block b h)).keep (fun b h1 h2 => hkk14.out b (Nat.lt_of_lt_of_le h2 hX1_13.size) (.inr (by have := z6; omega))))
  have U1_14 := Lib.hid (show UF w14 w6.heap.size w7.heap.size from fun b h1 h2 o => (World.frozen?_of_block ((hkk14.out b (Nat.lt_of_lt_of_le h2 hX1_13.size) (.inr (by have := z6; omega))).trans (hX1_13.block b h2))).trans (U1.out b h1 h2 o))
  have hX1_14 : w7.heap.size ≤ w14.heap.size := Nat.le_trans hX1_13.size hb14x.size
  go_wp2_with fail
  have mb1 := mcDiffs_le b
  refine (mark_Diffs (lo := w6.heap.size) (B := w7.heap.size) x1A x1c b _ _ (X1_14.out.sh) U1_14.out hX1_14 (by omega) (by omega) hl1 hc1).mono ?_
  rintro e w15 ⟨K1, rfl, kl1, kh1, hkk15⟩
  have hb15x : Below w6.heap.size w14 w15 := kk_below hkk15 (Nat.le_refl _) (by have := hX1_14; have := z7; omega)
  have hB15 : Below w.heap.size w w15 := hB14.trans (hb15x.mono hB6.size)
  have hS15 : Below w5.heap.size w5 w15 := hS14.trans (hb15x.mono (by have := z6; omega))
  have hg15 := Lib.hid (hg14.out.keep (fun b h1 h2 => hkk15.out b h2 (.inr (by have := z7; omega))))
  have hk0 : ¬ (K1 < 0) := by omega
  have hk1 : decide (K1 < 0) = false := by simpa using hk0
  go_wp2_with fail
  refine (EQ.out _ (by rw [← HPS.out]; exact hg15.out.diffs) ((HW.out.keep (fun b _ h => hS15.block b h)).mono (Nat.le_refl _) hS15.size)).mono ?_
  rintro e w16 ⟨rfl, hb16⟩
  have hB16 := below_next hB15 hb16 rfl rfl
  have hS16 := below_next hS15 hb16 rfl rfl
  have hg16 := Lib.hid (hg15.out.below hb16)
  have hBg : w7.heap.size ≤ w16.heap.size := by have h8s := hb8.size; have h9s := hb9.size; have h10s := hb10.size; have h11s := hb11.size; have h12s := hb12.size; have h13s := hb13.size; have h14s := hb14x.size; have h15s := hb15x.size; have h16s := hb16.size; omega
  have MK := Lib.hid (mark_diffs R6 l6 1 ps w16 hg16.out hBg (by omega) (by omega) hpn hmc)
  go_wp2_with fail
  refine (MK.out).mono ?_
  rintro e w17 ⟨rfl, hg17, hb17x⟩
  have hS17 : Below w5.heap.size w5 w17 := hS16.trans (hb17x.mono (by have := z6; have := z7; omega))
  have hB17 : Below w.heap.size w w17 := hB16.trans (hb17x.mono hB7.size)
  have HM := Lib.hid hg17
  clear hg17 MK
  have HD := Lib.hid (fun (W : World) (h : DGA w7.heap.size W R6 (mkD 1 ps)) => held_diffs R6 l6 1 ps W h (by omega) (by omega) hpn hmc)
  have hk2 : 0 ≤ ((1 + mcD ps : Nat) : Int) := by omega
  have hk3 : ¬ (((1 + mcD ps : Nat) : Int) < 0) := by omega
  have hk4 : decide (((1 + mcD ps : Nat) : Int) < 0) = false := by simpa using hk3
  generalize hQ : ((1 + mcD ps : Nat) : Int) = Q at *
  go_wp2_with fail
  refine (HD.out _ HM.out).mono ?_
  rintro e w18 ⟨rfl, hb18⟩
  have hB18 := below_next hB17 hb18 rfl rfl
  have hS18 := below_next hS17 hb18 rfl rfl
  have hM18 : Below w17.heap.size w17 w18 := hb18
  go_wp2_with fail
  refine (to_Diffs A0 c0 a _ hc0 (S0.out.to_ hB18)).mono ?_
  rintro e w19 ⟨v0A, v0c, rfl, ⟨v0q, v0d⟩, _, hb19⟩
  have hB19 := below_next hB18 hb19 rfl rfl
  have hS19 := below_next hS18 hb19 rfl rfl
  have hM19 := below_next hM18 hb19 rfl rfl
  go_wp2_with fail
  refine (to_Diffs A1 c1 b _ hc1 (S1.out.to_ hB19)).mono ?_
  rintro e w20 ⟨v1A, v1c, rfl, ⟨v1q, v1d⟩, _, hb20⟩
  have hB20 := below_next hB19 hb20 rfl rfl
  have hS20 := below_next hS19 hb20 rfl rfl
  have hM20 := below_next hM19 hb20 rfl rfl
  go_wp2_with fail
  refine (HIM.out hcost _ v0A v0c _ v1A v1c _ (v0d.to_ hb20) v0q v1d v1q).mono ?_
  rintro e w21 ⟨R9, l9, qs, rfl, hqs, hH, hb21⟩
  have hB21 := below_next hB20 hb21 rfl rfl
  have hS21 := below_next hS20 hb21 rfl rfl
  have hM21 := below_next hM20 hb21 rfl rfl
  have HQL := Lib.hid (show qs.length = R.length by rw [← hqs]; simp)
  have HH := Lib.hid (show DiffsAt w21 0 w21.heap.size R9 R by rw [← hqs]; exact hH.diffs)
  have EQ9 := Lib.hid (show Calls Try.prog 15 #[.slice R9 qs.length l9, .slice G0 R.length g0] w21 (EqYes w21) by rw [HQL.out]; exact eq_Diffs R9 G0 l9 g0 R w21 HRC.out HH.out ((HW.out.keep (fun b _ h => hS21.block b h)).mono (Nat.le_refl _) hS21.size))
  clear hH hqs v0d v1d
  go_wp2_with fail
  refine (EQ9.out).mono ?_
  rintro e w22 ⟨rfl, hb22⟩
  have hB22 := below_next hB21 hb22 rfl rfl
  have hS22 := below_next hS21 hb22 rfl rfl
  have hM22 := below_next hM21 hb22 rfl rfl
  go_wp2_with fail
  refine (HD.out _ (HM.out.below hM22)).mono ?_
  rintro e w23 ⟨rfl, hb23⟩
  have hB23 := below_next hB22 hb23 rfl rfl
  go_wp2_with fail
  go_ret
  exact ⟨rfl, hB23⟩
end Go.Proofs.Ytggkggaihfcjmaa.joinDiffs
namespace Go.Proofs.Ytggkggaihfcjmaa.joinDiffs
open Go.ChangeShapes Go.WideShapes Go.ChangeAt Go.RowKit Go.Joins
set_option linter.unusedVariables false

theorem law (A0 : Option Addr) (c0 : Nat) (a : List GDiff) (A1 : Option Addr) (c1 : Nat) (b : List GDiff) (c_ : Int) (w : World) (f0 : fitDiffs a) (s0 : DiffsAt w 0 w.heap.size A0 a) (f1 : fitDiffs b) (s1 : DiffsAt w 0 w.heap.size A1 b) (wf2 : (Lit.int .i64 c_).wf = true) :
    Calls Try.prog 6 #[.slice A0 a.length c0, .slice A1 b.length c1, .int .i64 c_] w fun e w' => e = .returned (.bool true) ∧ Below w.heap.size w w' := by
  by_cases h : costDiffs a + costDiffs b ≤ 1048576
  · obtain ⟨r1, r2, r3⟩ := ok_cost (joinD_ok a b c_)
    have hk0 : costDiffs a ≤ 1048576 := by omega
    have hl0 : a.length ≤ 1048576 := by unfold costDiffs at hk0; omega
    have hs0 := diffs_small hk0
    have hk1 : costDiffs b ≤ 1048576 := by omega
    have hl1 : b.length ≤ 1048576 := by unfold costDiffs at hk1; omega
    have hs1 := diffs_small hk1
    exact walk a b c_ A0 c0 A1 c1 (joinD a b c_) (by omega) (by unfold mcR; omega) (by omega) w f0 s0 f1 s1
      (fun _ W A0 c0 l0 A1 c1 l1 d0 q0 d1 q1 => spec_joinDiffs A0 A1 c0 c1 a b c_ W d0 d1 hl0 hl1 hs0 hs1 wf2)
      (fun _ W A0 c0 l0 A1 c1 l1 d0 q0 d1 q1 => impl_joinDiffs A0 A1 c0 c1 a b c_ W d0 d1 hl0 hl1 hs0 hs1 wf2)
  · exact walk a b c_ A0 c0 A1 c1 [] (by simp [costDiffs, sumC]) (by simp [mcR]) (by simp) w f0 s0 f1 s1 (fun h' => absurd h' h) (fun h' => absurd h' h)

set_option maxRecDepth 100000 in
theorem lifted (os : Os) (started : os.Started) (H : Type) (enc : TypeId × Value → H) :
    ReturnsInHanded {} Try.checked os 6 .any (Rows.fnExactJoinDiffsSpec.pre6 enc Try.prog Try.f6 Rows.fnExactJoinDiffsRow.domain false) (Rows.fnExactJoinDiffsSpec.post enc Try.prog Try.f6 false true false false) := by
  refine returnsInHanded_of_change (C := Try.checked) own started (by kernel_rfl) Try.func6
    (ChangeSpec.witness6 (enc := enc) (C := Try.checked) false ⟨#[], #[.slice none 0 0, .slice none 0 0, .int .i64 0], []⟩ 8 (by kernel_rfl) (by kernel_rfl) (by kernel_rfl) (by kernel_rfl)) ?_
  intro W base args ds gs before hval0 hW hcnd _
  have hval : ∀ (j : Nat) t v, Try.f6.params[j]? = some t → args[j]? = some v → Value.okWide Try.prog W .any base t v := hval0
  have hW' := hW
  obtain ⟨p, q, hA0, hV, rfl, hfz, hnd⟩ := hW
  have hA : DataW.TrodAll enc Try.prog W 0 (fun _ => true) true Try.f6.params.toList args.toList ds p := hA0
  rw [Try.params6] at hA hval
  obtain ⟨v0, vs0, d0, ds0, p0, q0, hargs, rfl, rfl, h0, r0⟩ := trodAll_cons hA
  obtain ⟨v1, vs1, d1, ds1, p1, q1, rfl, rfl, rfl, h1, r1⟩ := trodAll_cons r0
  obtain ⟨v2, vs2, d2, ds2, p2, q2, rfl, rfl, rfl, h2, r2⟩ := trodAll_cons r1
  obtain ⟨rfl, rfl, rfl⟩ := trodAll_nil r2
  obtain rfl : args = #[v0, v1, v2] := by cases args; simp_all
  obtain ⟨rfl, rfl⟩ := trodVars_none hV
  have z0 := h0
  have lt0 : ∀ x ∈ p0, x.block < W.heap.size := by obtain ⟨m, hm⟩ := z0; exact DataW.trod_lt m _ _ _ hm
  obtain ⟨a0, c0, xs0, rfl, fit0, s0⟩ := open_Diffs_arg (hval 0 22 v0 rfl rfl) h0
  have z1 := h1
  have lt1 : ∀ x ∈ p1, x.block < W.heap.size := by obtain ⟨m, hm⟩ := z1; exact DataW.trod_lt m _ _ _ hm
  obtain ⟨a1, c1, xs1, rfl, fit1, s1⟩ := open_Diffs_arg (hval 1 22 v1 rfl rfl) h1
  have z2 := h2
  have lt2 : ∀ x ∈ p2, x.block < W.heap.size := by obtain ⟨m, hm⟩ := z2; exact DataW.trod_lt m _ _ _ hm
  obtain ⟨n2, rfl, _, _, wf2⟩ := open_int Try.underlying2 (hval 2 2 v2 rfl rfl) h2
  clear hA0 hval0
  refine (law a0 c0 xs0 a1 c1 xs1 n2 W fit0 s0 fit1 s1 wf2).mono fun e W' ⟨he, bel⟩ => ?_
  subst he
  exact ⟨_, rfl, _, _, _, [], _, [], hW', trodAll_mk1 (shut_bool Try.underlying4 _), (trodAll_cons_mk (Below.trod laidOut (by kernel_rfl) (of_decide_eq_true (by kernel_rfl)) z0 bel lt0) (trodAll_cons_mk (Below.trod laidOut (by kernel_rfl) (of_decide_eq_true (by kernel_rfl)) z1 bel lt1) (trodAll_cons_mk (Below.trod laidOut (by kernel_rfl) (of_decide_eq_true (by kernel_rfl)) z2 bel lt2) trodAll_mk0))), rfl, bel.frame _, fun h => by cases h⟩

theorem over : Rows.fnExactJoinDiffsRow.holds Try.pinned (OpenSpec.ofChange Rows.fnExactJoinDiffsSpec) :=
  OpenClaim.holds_of_wide 6 Try.f6 rfl rfl rfl rfl rfl rfl rfl ⟨rfl, rfl, rfl, rfl, rfl⟩ rfl rfl rfl rfl rfl (by kernel_rfl) Try.func6 (by kernel_rfl)
    (of_decide_eq_true (by kernel_rfl)) (by unfold Func.isWrapper; first | (rw [if_pos (by decide +kernel)]; kernel_rfl) | (rw [if_neg (by decide +kernel)]; exact ⟨rfl, rfl⟩))
    (fun os started H enc _ => lifted os started H enc)

theorem proved : Rows.FnExactJoinDiffsSaid := over
end Go.Proofs.Ytggkggaihfcjmaa.joinDiffs
