/-
  For every list of relations and every atom, laws.FnExactAsk returns true and leaves its arguments as they were. No condition.
-/
import Derived.Test.YteoepnadjkjlmaaGreatTGAZ
import Derived.Test.YteoepnadjkjlmaaGreatEqTZ
import Derived.Test.YteoepnadjkjlmaaGreatToValZ
import Derived.Test.YteoepnadjkjlmaaGreatToRel
import Derived.Test.YteoepnadjkjlmaaGreatEqRelZ
import Derived.Test.YteoepnadjkjlmaaGreatMkRelZ
import Derived.Deep.RegionHeld3
import Derived.Test.YteoepnadjkjlmaaGreatSzAtomZ
import Derived.Test.YteoepnadjkjlmaaGreatEqNodeZ
import Derived.Test.YteoepnadjkjlmaaGreatMkNodeZ
import Derived.Test.YteoepnadjkjlmaaGreatOpen0Z
import Derived.Test.YteoepnadjkjlmaaGreatOpenTabZ
import Derived.Test.YteoepnadjkjlmaaGreatNameZ
import Derived.Test.YteoepnadjkjlmaaGreatAskS
import Derived.Test.YteoepnadjkjlmaaGreatAskI
import Derived.Test.YteoepnadjkjlmaaGreatRows
namespace Go.Proofs.YteoepnadjkjlmaaGreat.ask
open Go.RowKit Go.Sort
set_option linter.unusedVariables false
def mcR (R : List (List GV)) : Nat := (R.map fun r => r.length).sum
theorem mcD_R (ps : List PR) : sumP ps = mcR (ps.map (·.2)) := by unfold sumP mcR; rw [List.map_map]; rfl
theorem kk_below {w w' : World} {n lo B : Nat} (h : KK w w' lo B) (hn : n ≤ lo) (hs : lo ≤ w.heap.size) : Below n w w' := ⟨h.os, h.tape, h.output, h.size, fun b hb => h.out b (by omega) (.inl (by omega))⟩
set_option maxRecDepth 100000 in
set_option maxHeartbeats 8000000 in
theorem walk (a : List GRel) (b : GAtom) (A0 : Option Addr) (c0 : Nat) (A1 : Option Addr) (c1 : Nat) (R : List (List GV)) (hR : ∀ r ∈ R, r.length ≤ 1048576) (hRm : mcR R ≤ 1048576) (hRn : R.length ≤ 1048576) (w : World)
    (f0 : fitRels a) (s0 : RelsAt w 0 w.heap.size A0 a) (f1 : fitAtom b) (s1 : NodeSsAt w 0 w.heap.size A1 b.args)
    (HSp : costRels a + costAtom b ≤ 1048576 → ∀ (W : World) (A0 : Option Addr) (c0 : Nat) (l0 : Nat) (A1 : Option Addr) (c1 : Nat) (l1 : Nat), RelsAt W l0 W.heap.size A0 a → CapOk a.length c0 → NodeSsAt W l1 W.heap.size A1 b.args → Calls Tryz.prog 6 #[.slice A0 a.length c0, .agg #[.string b.name, .slice A1 b.args.length c1]] W (TPost W R))
    (HIm : costRels a + costAtom b ≤ 1048576 → ∀ (W : World) (A0 : Option Addr) (c0 : Nat) (l0 : Nat) (A1 : Option Addr) (c1 : Nat) (l1 : Nat), RelsAt W l0 W.heap.size A0 a → CapOk a.length c0 → NodeSsAt W l1 W.heap.size A1 b.args → Calls Tryz.prog 9 #[.slice A0 a.length c0, .agg #[.string b.name, .slice A1 b.args.length c1]] W (ITPost W R)) :
    Calls Tryz.prog 3 #[.slice A0 a.length c0, .agg #[.string b.name, .slice A1 b.args.length c1]] w fun e w' => e = .returned (.bool true) ∧ Below w.heap.size w w' := by
  have S0 := Lib.hid s0
  have S1 := Lib.hid s1
  have HSP := Lib.hid HSp
  have HIM := Lib.hid HIm
  have HRC := Lib.hid hR
  have HRM := Lib.hid hRm
  have HRN := Lib.hid hRn
  clear hRn HSp HIm hR hRm s0 s1
  have hB0 : Below w.heap.size w (w.alloc (.cells #[.string b.name, .slice A1 b.args.length c1] 25)) := (Below.refl _ _).alloc (Nat.le_refl _) _
  have hP := Lib.hid (Whole.new w 25 [.string b.name, .slice A1 b.args.length c1])
  go_enter Tryz.func3, Tryz.ntmps3
  go_wp2_with fail
  generalize hwb : w.alloc _ = wb at *
  clear hwb
  have hC0 : Below wb.heap.size wb wb := Below.refl _ _
  have hwl : w.heap.size < wb.heap.size := hP.out.lt
  have HPC := Lib.hid (fun W (hb : Below wb.heap.size wb W) => hP.out.below hb hP.out.lt)
  have hSw : ∀ W, Below wb.heap.size wb W → W.cell? ⟨w.heap.size, 0, none⟩ = some (.string b.name) ∧ W.cell? ⟨w.heap.size, 1, none⟩ = some (.slice A1 b.args.length c1) := fun W hb => ⟨(HPC.out W hb).cell 0, (HPC.out W hb).cell 1⟩
  clear hP
  refine (sz_Rels A0 c0 a _ _ f0 (S0.out.to_ hB0) (by omega) (by omega)).mono ?_
  rintro e w1 ⟨rfl, hb1⟩
  have hB1 := below_next hB0 hb1 rfl rfl
  have hC1 := below_next hC0 hb1 rfl rfl
  obtain ⟨p0, p1⟩ := hSw _ hC1
  go_wp2_with fail
  · go_ret
    exact ⟨rfl, hB1⟩
  have hp0 : 0 ≤ szC (costRels a) (1048576 : Int) := by assumption
  obtain ⟨hq0, hr0⟩ := szC_pos hp0
  have hu0 : szC (costRels a) (1048576 : Int) = (1048576 : Int) - (costRels a : Int) := by unfold szC at hp0 ⊢; split <;> omega
  generalize szC (costRels a) (1048576 : Int) = L0 at *
  have HU0 := Lib.hid hu0
  clear hu0
  refine (sz_Atom b A1 c1 _ _ f1 (S1.out.to_ hB1) (by omega) (by omega)).mono ?_
  rintro e w2 ⟨rfl, hb2⟩
  have hB2 := below_next hB1 hb2 rfl rfl
  have hC2 := below_next hC1 hb2 rfl rfl
  clear p0 p1
  go_wp2_with fail
  · go_ret
    exact ⟨rfl, hB2⟩
  have hp1 : 0 ≤ szC (costAtom b) L0 := by assumption
  obtain ⟨hq1, hr1⟩ := szC_pos hp1
  have hu1 : szC (costAtom b) L0 = L0 - (costAtom b : Int) := by unfold szC at hp1 ⊢; split <;> omega
  generalize szC (costAtom b) L0 = L1 at *
  have HU1 := Lib.hid hu1
  clear hu1
  have hcost : costRels a + costAtom b ≤ 1048576 := by have := HU0.out; have := HU1.out; omega
  have hc0 : costRels a ≤ 1048576 := by omega
  have hl0 : a.length ≤ 1048576 := by unfold costRels at hc0; omega
  have hc1 : costAtom b ≤ 1048576 := by omega
  clear hp0 hq0 hr0 HU0 hp1 hq1 hr1 HU1
  have hB2d : Below w.heap.size w w2.drew := hB2.drew
  have hC2d : Below wb.heap.size wb w2.drew := hC2.drew
  go_region_held3 (fun W => W.cell? ⟨w.heap.size, 0, none⟩ = some (.string b.name) ∧ W.cell? ⟨w.heap.size, 1, none⟩ = some (.slice A1 b.args.length c1)) (first | assumption | exact hSw _ hC5 | exact hSw _ hC4 | exact hSw _ hC3 | exact hSw _ hC2d)
    (first
      | (go_at_call 7; refine (to_Rels A0 c0 a _ hc0 (S0.out.to_ hB2d)).mono ?_; rintro e w3 ⟨p0A, p0c, rfl, ⟨p0q, p0d⟩, p0u, hb3⟩; have hb3 := below_next (show Below w2.heap.size w2 w2.drew from (Below.refl _ _).drew) hb3 rfl rfl; have hB3 := below_next hB2 hb3 rfl rfl; have hC3 := below_next hC2 hb3 rfl rfl)
      | (go_at_call 8; refine (to_Atom b A1 c1 _ hc1 (S1.out.to_ hB3)).mono ?_; rintro e w4 ⟨p1A, p1c, rfl, p1d, p1u, hb4⟩; have hB4 := below_next hB3 hb4 rfl rfl; have hC4 := below_next hC3 hb4 rfl rfl)
      | (go_at_call 6; refine (HSP.out hcost _ p0A p0c _ p1A p1c _ (p0d.to_ hb4) p0q p1d).mono ?_; rintro e w5 ⟨G0, g0, rfl, _, hW, hb5⟩; have hB5 := below_next hB4 hb5 rfl rfl; have hC5 := below_next hC4 hb5 rfl rfl))
  have HW := Lib.hid hW
  clear hW p0d p0u p1d p1u hB2d hC2d
  go_wp2_with fail
  have hS5 : Below w5.heap.size w5 w5 := Below.refl _ _
  refine (to_Rels A0 c0 a _ hc0 (S0.out.to_ hB5)).mono ?_
  rintro e w6 ⟨x0A, x0c, rfl, ⟨x0q, x0d⟩, x0u, hb6⟩
  have hB6 := below_next hB5 hb6 rfl rfl
  have hC6 := below_next hC5 hb6 rfl rfl
  have hS6 := below_next hS5 hb6 rfl rfl
  have hX0_6 : Below w6.heap.size w6 w6 := Below.refl _ _
  obtain ⟨p0, p1⟩ := hSw _ hC6
  go_wp2_with fail
  refine (to_Atom b A1 c1 _ hc1 (S1.out.to_ hB6)).mono ?_
  rintro e w7 ⟨x1A, x1c, rfl, x1d, x1u, hb7⟩
  have hB7 := below_next hB6 hb7 rfl rfl
  have hC7 := below_next hC6 hb7 rfl rfl
  have hS7 := below_next hS6 hb7 rfl rfl
  have hX0_7 := below_next hX0_6 hb7 rfl rfl
  clear p0 p1
  have hX1_7 : Below w7.heap.size w7 w7 := Below.refl _ _
  have hb8 : Below w7.heap.size w7 (w7.alloc (.cells #[.string b.name, .slice x1A b.args.length x1c] 34)) := (Below.refl _ _).alloc (Nat.le_refl _) _
  have hXb := Lib.hid (show Whole (w7.alloc (.cells #[.string b.name, .slice x1A b.args.length x1c] 34)) w7.heap.size 34 [.string b.name, .slice x1A b.args.length x1c] from Whole.new w7 34 [.string b.name, .slice x1A b.args.length x1c])
  go_wp2_with fail
  generalize hw8 : w7.alloc _ = w8 at *
  clear hw8
  have hB8 := below_next hB7 hb8 rfl rfl
  have hC8 := below_next hC7 hb8 rfl rfl
  have hS8 := below_next hS7 hb8 rfl rfl
  have hX0_8 := below_next hX0_7 hb8 rfl rfl
  have hX1_8 := below_next hX1_7 hb8 rfl rfl
  have hD8 : Below w8.heap.size w8 w8 := Below.refl _ _
  have HXC := Lib.hid (fun W (hb : Below w8.heap.size w8 W) => hXb.out.below hb hXb.out.lt)
  have hxl : w7.heap.size < w8.heap.size := hXb.out.lt
  refine (HIM.out hcost _ x0A x0c _ x1A x1c _ ((x0d.to_ hb7).to_ hb8) x0q (x1d.to_ hb8)).mono ?_
  rintro e w9 ⟨R6, l6, ps, rfl, hps, hG, hb9⟩
  have hB9 := below_next hB8 hb9 rfl rfl
  have hC9 := below_next hC8 hb9 rfl rfl
  have hS9 := below_next hS8 hb9 rfl rfl
  have hX0_9 := below_next hX0_8 hb9 rfl rfl
  have hX1_9 := below_next hX1_8 hb9 rfl rfl
  have hD9 := below_next hD8 hb9 rfl rfl
  have HPL := Lib.hid (show ps.length = R.length by rw [← hps]; simp)
  have hpn : ps.length ≤ 1048576 := by rw [HPL.out]; exact HRN.out
  have hmc : sumP ps ≤ 1048576 := by rw [mcD_R, hps]; exact HRM.out
  have X0 := Lib.hid x0d
  have U0 := Lib.hid x0u
  have X1 := Lib.hid x1d
  have U1 := Lib.hid x1u
  have HPS := Lib.hid hps
  have EQ := Lib.hid (show ∀ W : World, TabAt W W.heap.size R6 R → TabAt W W.heap.size G0 R → Calls Tryz.prog 10 #[.slice R6 ps.length l6, .slice G0 R.length g0] W (EqYes W) from fun W h1 h2 => by rw [HPL.out]; exact eq_tables R6 G0 l6 g0 R W h1 h2 HRN.out HRC.out)
  have hg9 := Lib.hid hG
  clear hG hps x0d x0u x1d x1u
  have z6 : w5.heap.size ≤ w6.heap.size := hb6.size
  have z7 : w6.heap.size ≤ w7.heap.size := hb7.size
  have z8 : w7.heap.size ≤ w8.heap.size := hb8.size
  go_wp2_with fail
  refine (EQ.out _ (by rw [← HPS.out]; exact hg9.out.tab) (HW.out.to_ hS9)).mono ?_
  rintro e w10 ⟨rfl, hb10⟩
  have hB10 := below_next hB9 hb10 rfl rfl
  have hC10 := below_next hC9 hb10 rfl rfl
  have hS10 := below_next hS9 hb10 rfl rfl
  have hX0_10 := below_next hX0_9 hb10 rfl rfl
  have hX1_10 := below_next hX1_9 hb10 rfl rfl
  have hD10 := below_next hD9 hb10 rfl rfl
  have hg10 := Lib.hid (hg9.out.below hb10)
  go_wp2_with fail
  refine (to_Rels A0 c0 a _ hc0 (S0.out.to_ hB10)).mono ?_
  rintro e w11 ⟨y0A, y0c, rfl, ⟨_, y0d⟩, _, hb11⟩
  have hB11 := below_next hB10 hb11 rfl rfl
  have hC11 := below_next hC10 hb11 rfl rfl
  have hS11 := below_next hS10 hb11 rfl rfl
  have hX0_11 := below_next hX0_10 hb11 rfl rfl
  have hX1_11 := below_next hX1_10 hb11 rfl rfl
  have hD11 := below_next hD10 hb11 rfl rfl
  have hg11 := Lib.hid (hg10.out.below hb11)
  go_wp2_with fail
  refine (eq_Rels x0A y0A x0c y0c a _ (by omega) ((X0.out.keep (fun b _ h => hX0_11.block b h)).mono (Nat.le_refl _) hX0_11.size) y0d).mono ?_
  rintro e w12 ⟨rfl, hb12⟩
  have hB12 := below_next hB11 hb12 rfl rfl
  have hC12 := below_next hC11 hb12 rfl rfl
  have hS12 := below_next hS11 hb12 rfl rfl
  have hX0_12 := below_next hX0_11 hb12 rfl rfl
  have hX1_12 := below_next hX1_11 hb12 rfl rfl
  have hD12 := below_next hD11 hb12 rfl rfl
  have hg12 := Lib.hid (hg11.out.below hb12)
  clear y0d
  go_wp2_with fail
  have hXw : ∀ W, Below w8.heap.size w8 W → W.cell? ⟨w7.heap.size, 0, none⟩ = some (.string b.name) ∧ W.cell? ⟨w7.heap.size, 1, none⟩ = some (.slice x1A b.args.length x1c) := fun W hb => ⟨(HXC.out W hb).cell 0, (HXC.out W hb).cell 1⟩
  have hSx : ∀ W, Below wb.heap.size wb W → Below w8.heap.size w8 W → W.cell? ⟨w.heap.size, 0, none⟩ = some (.string b.name) ∧ W.cell? ⟨w.heap.size, 1, none⟩ = some (.slice A1 b.args.length c1) ∧ W.cell? ⟨w7.heap.size, 0, none⟩ = some (.string b.name) ∧ W.cell? ⟨w7.heap.size, 1, none⟩ = some (.slice x1A b.args.length x1c) := fun W h1 h2 => ⟨(hSw W h1).1, (hSw W h1).2, (hXw W h2).1, (hXw W h2).2⟩
  have hB12d : Below w.heap.size w w12.drew := hB12.drew
  have hC12d : Below wb.heap.size wb w12.drew := hC12.drew
  have hD12d : Below w8.heap.size w8 w12.drew := hD12.drew
  go_region_held3 (fun W => W.cell? ⟨w.heap.size, 0, none⟩ = some (.string b.name) ∧ W.cell? ⟨w.heap.size, 1, none⟩ = some (.slice A1 b.args.length c1) ∧ W.cell? ⟨w7.heap.size, 0, none⟩ = some (.string b.name) ∧ W.cell? ⟨w7.heap.size, 1, none⟩ = some (.slice x1A b.args.length x1c)) (first | assumption | exact hSx _ hC14 hD14 | exact hSx _ hC13 hD13 | exact hSx _ hC12d hD12d)
    (first
      | (go_at_call 8; refine (to_Atom b A1 c1 _ hc1 (S1.out.to_ hB12d)).mono ?_; rintro e w13 ⟨y1A, y1c, rfl, y1d, _, hb13⟩; have hb13 := below_next (show Below w12.heap.size w12 w12.drew from (Below.refl _ _).drew) hb13 rfl rfl; have hB13 := below_next hB12 hb13 rfl rfl; have hC13 := below_next hC12 hb13 rfl rfl; have hD13 := below_next hD12 hb13 rfl rfl; have hS13 := below_next hS12 hb13 rfl rfl; have hX0_13 := below_next hX0_12 hb13 rfl rfl; have hX1_13 := below_next hX1_12 hb13 rfl rfl; have hg13 := Lib.hid (hg12.out.below hb13))
      | (go_at_call 12; refine (eq_Atom b x1A y1A x1c y1c _ (by omega) ((X1.out.keep (fun b _ h => hX1_13.block b h)).mono (Nat.le_refl _) hX1_13.size) y1d).mono ?_; rintro e w14 ⟨rfl, hb14⟩; have hB14 := below_next hB13 hb14 rfl rfl; have hC14 := below_next hC13 hb14 rfl rfl; have hD14 := below_next hD13 hb14 rfl rfl; have hS14 := below_next hS13 hb14 rfl rfl; have hX0_14 := below_next hX0_13 hb14 rfl rfl; have hX1_14 := below_next hX1_13 hb14 rfl rfl; have hg14 := Lib.hid (hg13.out.below hb14)))
  clear y1d hB12d hC12d hD12d
  go_wp2_with fail
  have mb0 := mcRels_le a
  refine (mark_Rels (lo := w5.heap.size) (B := w6.heap.size) x0A x0c a _ _ ((X0.out.keep (fun b _ h => hX0_14.block b h)).sh) (fun b h1 h2 o => (World.frozen?_of_block (hX0_14.block b h2)).trans (U0.out b h1 h2 o)) hX0_14.size (by omega) (by omega) hl0 hc0).mono ?_
  rintro e w15 ⟨K0, rfl, kl0, kh0, hkk15⟩
  have hb15x : Below w5.heap.size w14 w15 := kk_below hkk15 (Nat.le_refl _) (by have := hX0_14.size; have := z6; omega)
  have hB15 : Below w.heap.size w w15 := hB14.trans (hb15x.mono hB5.size)
  have hC15 : Below wb.heap.size wb w15 := hC14.trans (hb15x.mono hC5.size)
  have hS15 : Below w5.heap.size w5 w15 := hS14.trans (hb15x.mono (Nat.le_refl _))
  have hg15 := Lib.hid (hg14.out.keep (fun b h1 h2 => hkk15.out b h2 (.inr (by have := z6; have := z7; have := z8; omega))))
  have X1_15 := Lib.hid ((X1.out.keep (fun b _ h => hX1_14.block b h)).keep (fun b h1 h2 => hkk15.out b (Nat.lt_of_lt_of_le h2 hX1_14.size) (.inr (by have := z6; omega))))
  have U1_15 := Lib.hid (show UF w15 w6.heap.size w7.heap.size from fun b h1 h2 o => (World.frozen?_of_block ((hkk15.out b (Nat.lt_of_lt_of_le h2 hX1_14.size) (.inr (by have := z6; omega))).trans (hX1_14.block b h2))).trans (U1.out b h1 h2 o))
  have hX1_15 : w7.heap.size ≤ w15.heap.size := Nat.le_trans hX1_14.size hb15x.size
  have hXb15 : Whole w15 w7.heap.size 34 [.string b.name, .slice x1A b.args.length x1c] := (hkk15.out w7.heap.size (HXC.out _ hD14).lt (.inr z7)).trans (HXC.out _ hD14)
  have y0 : w15.cell? ⟨w7.heap.size, 0, none⟩ = some (.string b.name) := hXb15.cell 0
  have y1 : w15.cell? ⟨w7.heap.size, 1, none⟩ = some (.slice x1A b.args.length x1c) := hXb15.cell 1
  go_wp2_with fail
  have mb1 := msAtom_le b
  refine (mark_Atom (lo := w6.heap.size) (B := w7.heap.size) b x1A x1c _ _ (X1_15.out.sh) U1_15.out hX1_15 (by omega) (by omega) hc1).mono ?_
  rintro e w16 ⟨K1, rfl, kl1, kh1, hkk16⟩
  have hb16x : Below w6.heap.size w15 w16 := kk_below hkk16 (Nat.le_refl _) (by have := hX1_15; have := z7; omega)
  have hB16 : Below w.heap.size w w16 := hB15.trans (hb16x.mono hB6.size)
  have hC16 : Below wb.heap.size wb w16 := hC15.trans (hb16x.mono hC6.size)
  have hS16 : Below w5.heap.size w5 w16 := hS15.trans (hb16x.mono (by have := z6; omega))
  have hg16 := Lib.hid (hg15.out.keep (fun b h1 h2 => hkk16.out b h2 (.inr (by have := z7; have := z8; omega))))
  have hk0 : ¬ (K1 < 0) := by omega
  have hk1 : decide (K1 < 0) = false := by simpa using hk0
  clear y0 y1 hXb15
  go_wp2_with fail
  refine (EQ.out _ (by rw [← HPS.out]; exact hg16.out.tab) (HW.out.to_ hS16)).mono ?_
  rintro e w17 ⟨rfl, hb17⟩
  have hB17 := below_next hB16 hb17 rfl rfl
  have hC17 := below_next hC16 hb17 rfl rfl
  have hS17 := below_next hS16 hb17 rfl rfl
  have hg17 := Lib.hid (hg16.out.below hb17)
  have hBg : w8.heap.size ≤ w17.heap.size := by have h8s := hD14.size; have h15s := hb15x.size; have h16s := hb16x.size; have h17s := hb17.size; omega
  have MK := Lib.hid (mark_tab R6 l6 1 ps w17 hg17.out hBg (by omega) (by omega) hpn hmc)
  go_wp2_with fail
  refine (MK.out).mono ?_
  rintro e w18 ⟨rfl, hg18, hb18x⟩
  have hS18 : Below w5.heap.size w5 w18 := hS17.trans (hb18x.mono (by have := z6; have := z7; have := z8; omega))
  have hB18 : Below w.heap.size w w18 := hB17.trans (hb18x.mono hB8.size)
  have hC18 : Below wb.heap.size wb w18 := hC17.trans (hb18x.mono hC8.size)
  have HM := Lib.hid hg18
  clear hg18 MK
  have HD := Lib.hid (fun (W : World) (h : TGA w8.heap.size W R6 (markP 1 ps)) => held_tab R6 l6 1 ps W h (by omega) (by omega) hpn hmc)
  have hk2 : 0 ≤ ((1 + 3 * sumP ps : Nat) : Int) := by omega
  have hk3 : ¬ (((1 + 3 * sumP ps : Nat) : Int) < 0) := by omega
  have hk4 : decide (((1 + 3 * sumP ps : Nat) : Int) < 0) = false := by simpa using hk3
  generalize hQ : ((1 + 3 * sumP ps : Nat) : Int) = Q at *
  go_wp2_with fail
  refine (HD.out _ HM.out).mono ?_
  rintro e w19 ⟨rfl, hb19⟩
  have hB19 := below_next hB18 hb19 rfl rfl
  have hC19 := below_next hC18 hb19 rfl rfl
  have hS19 := below_next hS18 hb19 rfl rfl
  have hM19 : Below w18.heap.size w18 w19 := hb19
  go_wp2_with fail
  have hB19d : Below w.heap.size w w19.drew := hB19.drew
  have hC19d : Below wb.heap.size wb w19.drew := hC19.drew
  go_region_held3 (fun W => W.cell? ⟨w.heap.size, 0, none⟩ = some (.string b.name) ∧ W.cell? ⟨w.heap.size, 1, none⟩ = some (.slice A1 b.args.length c1)) (first | assumption | exact hSw _ hC22 | exact hSw _ hC21 | exact hSw _ hC20 | exact hSw _ hC19d)
    (first
      | (go_at_call 7; refine (to_Rels A0 c0 a _ hc0 (S0.out.to_ hB19d)).mono ?_; rintro e w20 ⟨v0A, v0c, rfl, ⟨v0q, v0d⟩, _, hb20⟩; have hb20 := below_next (show Below w19.heap.size w19 w19.drew from (Below.refl _ _).drew) hb20 rfl rfl; have hB20 := below_next hB19 hb20 rfl rfl; have hC20 := below_next hC19 hb20 rfl rfl; have hS20 := below_next hS19 hb20 rfl rfl; have hM20 := below_next hM19 hb20 rfl rfl)
      | (go_at_call 8; refine (to_Atom b A1 c1 _ hc1 (S1.out.to_ hB20)).mono ?_; rintro e w21 ⟨v1A, v1c, rfl, v1d, _, hb21⟩; have hB21 := below_next hB20 hb21 rfl rfl; have hC21 := below_next hC20 hb21 rfl rfl; have hS21 := below_next hS20 hb21 rfl rfl; have hM21 := below_next hM20 hb21 rfl rfl)
      | (go_at_call 9; refine (HIM.out hcost _ v0A v0c _ v1A v1c _ (v0d.to_ hb21) v0q v1d).mono ?_; rintro e w22 ⟨R9, l9, qs, rfl, hqs, hH, hb22⟩; have hB22 := below_next hB21 hb22 rfl rfl; have hC22 := below_next hC21 hb22 rfl rfl; have hS22 := below_next hS21 hb22 rfl rfl; have hM22 := below_next hM21 hb22 rfl rfl))
  have HQL := Lib.hid (show qs.length = R.length by rw [← hqs]; simp)
  have HH := Lib.hid (show TabAt w22 w22.heap.size R9 R by rw [← hqs]; exact hH.tab)
  have EQ9 := Lib.hid (show Calls Tryz.prog 10 #[.slice R9 qs.length l9, .slice G0 R.length g0] w22 (EqYes w22) by rw [HQL.out]; exact eq_tables R9 G0 l9 g0 R w22 HH.out (HW.out.to_ hS22) HRN.out HRC.out)
  clear hH hqs v0d v1d hB19d hC19d
  go_wp2_with fail
  refine (EQ9.out).mono ?_
  rintro e w23 ⟨rfl, hb23⟩
  have hB23 := below_next hB22 hb23 rfl rfl
  have hM23 := below_next hM22 hb23 rfl rfl
  go_wp2_with fail
  refine (HD.out _ (HM.out.below hM23)).mono ?_
  rintro e w24 ⟨rfl, hb24⟩
  have hB24 := below_next hB23 hb24 rfl rfl
  go_wp2_with fail
  go_ret
  exact ⟨rfl, hB24⟩
end Go.Proofs.YteoepnadjkjlmaaGreat.ask
namespace Go.Proofs.YteoepnadjkjlmaaGreat.ask
open Go.ChangeShapes Go.WideShapes Go.ChangeAt Go.RowKit Go.Joins
set_option linter.unusedVariables false

theorem mcR_cost : ∀ rows : List (List GV), mcR rows ≤ costValueSs rows
  | [] => by simp [mcR]
  | r :: rows => by
    have h1 := mcR_cost rows
    have h2 : mcR (r :: rows) = r.length + mcR rows := by simp [mcR]
    have h3 : costValueSs (r :: rows) = 1 + costValues r + costValueSs rows := by simp [costValueSs, sumC, costValueS]; omega
    have h4 : r.length ≤ costValues r := by unfold costValues; omega
    omega
theorem filter_cost (p : List GV → Bool) : ∀ rows : List (List GV), costValueSs (rows.filter p) ≤ costValueSs rows
  | [] => by simp [costValueSs, sumC]
  | r :: rows => by
    have h1 := filter_cost p rows
    have h3 : ∀ (r : List GV) (rows : List (List GV)), costValueSs (r :: rows) = 1 + costValues r + costValueSs rows := fun r rows => by simp [costValueSs, sumC, costValueS]; omega
    by_cases h : p r = true
    · rw [List.filter_cons_of_pos h, h3, h3]; omega
    · rw [List.filter_cons_of_neg h, h3]; omega
theorem rowsR_cost {xs : List GRel} (h : costRels xs ≤ 1048576) (s : ByteArray) : costValueSs (rowsR xs s) ≤ 1048576 := by
  unfold rowsR
  split
  · rename_i x hx
    have h1 := sumC_mem costRel xs x (List.mem_of_getElem? hx)
    have h2 : costRel x = x.name.size + costValueSs x.rows := rfl
    unfold costRels at h
    omega
  · simp [costValueSs, sumC]
theorem askR_cost {xs : List GRel} (h : costRels xs ≤ 1048576) (x : GAtom) : costValueSs (askR xs x) ≤ 1048576 := by
  have h0 : costValueSs ([] : List (List GV)) ≤ 1048576 := by simp [costValueSs, sumC]
  unfold askR
  split
  · split
    · exact Nat.le_trans (filter_cost _ _) (rowsR_cost h _)
    · exact h0
  · exact h0
theorem law (A0 : Option Addr) (c0 : Nat) (a : List GRel) (b : GAtom) (A1 : Option Addr) (c1 : Nat) (w : World) (f : fitRels a) (s : RelsAt w 0 w.heap.size A0 a) (f1 : fitAtom b) (s1 : NodeSsAt w 0 w.heap.size A1 b.args) :
    Calls Tryz.prog 3 #[.slice A0 a.length c0, .agg #[.string b.name, .slice A1 b.args.length c1]] w fun e w' => e = .returned (.bool true) ∧ Below w.heap.size w w' := by
  by_cases h : costRels a + costAtom b ≤ 1048576
  · have h1 := askR_cost (xs := a) (by omega) b
    have h2 := mcR_cost (askR a b)
    have h3 : (askR a b).length ≤ 1048576 := by unfold costValueSs at h1; omega
    have h4 : ∀ r ∈ askR a b, r.length ≤ 1048576 := fun r hr => by
      have h5 := sumC_mem costValueS (askR a b) r hr
      have h6 : costValueS r = r.length + sumC costValue r := rfl
      unfold costValueSs at h1
      omega
    exact walk a b A0 c0 A1 c1 (askR a b) h4 (by omega) h3 w f s f1 s1
      (fun _ W A c l B d m hd _ he => spec_ask A B c d a b W f (by omega) hd f1 (by omega) he)
      (fun _ W A c l B d m hd _ he => impl_ask A B c d a b W f (by omega) hd f1 (by omega) he)
  · exact walk a b A0 c0 A1 c1 [] (by simp) (by simp [mcR]) (by simp) w f s f1 s1 (fun h' => absurd h' h) (fun h' => absurd h' h)

set_option maxRecDepth 100000 in
theorem lifted (os : Os) (started : os.Started) (H : Type) (enc : TypeId × Value → H) :
    ReturnsInHanded {} Tryz.checked os 3 .any (Rows.fnExactAskSpec.pre6 enc Tryz.prog Tryz.f3 Rows.fnExactAskRow.domain false) (Rows.fnExactAskSpec.post enc Tryz.prog Tryz.f3 false true false false) := by
  refine returnsInHanded_of_change (C := Tryz.checked) own started (by kernel_rfl) Tryz.func3
    (ChangeSpec.witness6 (enc := enc) (C := Tryz.checked) false ⟨#[], #[.slice none 0 0, .agg #[.string ByteArray.empty, .slice none 0 0]], []⟩ 8 (by kernel_rfl) (by kernel_rfl) (by kernel_rfl) (by kernel_rfl)) ?_
  intro W base args ds gs before hval0 hW hcnd _
  have hval : ∀ (j : Nat) t v, Tryz.f3.params[j]? = some t → args[j]? = some v → Value.okWide Tryz.prog W .any base t v := hval0
  have hW' := hW
  obtain ⟨p, q, hA0, hV, rfl, hfz, hnd⟩ := hW
  have hA : DataW.TrodAll enc Tryz.prog W 0 (fun _ => true) true Tryz.f3.params.toList args.toList ds p := hA0
  rw [Tryz.params3] at hA hval
  obtain ⟨v0, vs0, d0, ds0, p0, q0, hargs, rfl, rfl, h0, r0⟩ := trodAll_cons hA
  obtain ⟨v1, vs1, d1, ds1, p1, q1, rfl, rfl, rfl, h1, r1⟩ := trodAll_cons r0
  obtain ⟨rfl, rfl, rfl⟩ := trodAll_nil r1
  obtain rfl : args = #[v0, v1] := by cases args; simp_all
  obtain ⟨rfl, rfl⟩ := trodVars_none hV
  have z0 := h0
  have lt0 : ∀ x ∈ p0, x.block < W.heap.size := by obtain ⟨m, hm⟩ := z0; exact DataW.trod_lt m _ _ _ hm
  obtain ⟨a0, c0, xs0, rfl, fit0, s0⟩ := open_Rels_arg (hval 0 22 v0 rfl rfl) h0
  have z1 := h1
  have lt1 : ∀ x ∈ p1, x.block < W.heap.size := by obtain ⟨m, hm⟩ := z1; exact DataW.trod_lt m _ _ _ hm
  obtain ⟨x1, a1_0, c1_0, rfl, fit1, s1_0⟩ := open_Atom_arg (hval 1 25 v1 rfl rfl) h1
  clear hA0 hval0
  refine (law a0 c0 xs0 x1 a1_0 c1_0 W fit0 s0 fit1 s1_0).mono fun e W' ⟨he, bel⟩ => ?_
  subst he
  exact ⟨_, rfl, _, _, _, [], _, [], hW', trodAll_mk1 (shut_bool Tryz.underlying4 _), (trodAll_cons_mk (Below.trod laidOut (by kernel_rfl) (of_decide_eq_true (by kernel_rfl)) z0 bel lt0) (trodAll_cons_mk (Below.trod laidOut (by kernel_rfl) (of_decide_eq_true (by kernel_rfl)) z1 bel lt1) trodAll_mk0)), rfl, bel.frame _, fun h => by cases h⟩

theorem over : Rows.fnExactAskRow.holds Tryz.pinned (OpenSpec.ofChange Rows.fnExactAskSpec) :=
  OpenClaim.holds_of_wide 3 Tryz.f3 rfl rfl rfl rfl rfl rfl rfl ⟨rfl, rfl, rfl, rfl, rfl⟩ rfl rfl rfl rfl rfl (by kernel_rfl) Tryz.func3 (by kernel_rfl)
    (of_decide_eq_true (by kernel_rfl)) (by unfold Func.isWrapper; first | (rw [if_pos (by decide +kernel)]; kernel_rfl) | (rw [if_neg (by decide +kernel)]; exact ⟨rfl, rfl⟩))
    (fun os started H enc _ => lifted os started H enc)

theorem proved : Rows.FnExactAskSaid := over
end Go.Proofs.YteoepnadjkjlmaaGreat.ask
