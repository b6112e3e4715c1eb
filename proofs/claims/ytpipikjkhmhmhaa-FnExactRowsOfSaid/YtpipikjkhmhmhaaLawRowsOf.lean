/-
  For every list of relations and every text, laws.FnExactRowsOf returns true and leaves its arguments as they were. No condition.
-/
import Derived.Test.YtpipikjkhmhmhaaTGA
import Derived.Test.YtpipikjkhmhmhaaEqTZ
import Derived.Test.YtpipikjkhmhmhaaToValZ
import Derived.Test.YtpipikjkhmhmhaaToRel
import Derived.Test.YtpipikjkhmhmhaaEqRelZ
import Derived.Test.YtpipikjkhmhmhaaMkRel
import Derived.Test.YtpipikjkhmhmhaaRowsOfIZ
import Derived.Test.YtpipikjkhmhmhaaOpen0Z
import Derived.Test.YtpipikjkhmhmhaaOpenXZ
import Derived.Test.YtpipikjkhmhmhaaRows
namespace Go.Proofs.Ytpipikjkhmhmhaa.rowsOf
open Go.RowKit Go.Sort
set_option linter.unusedVariables false
def mcR (R : List (List GV)) : Nat := (R.map fun r => r.length).sum
theorem mcD_R (ps : List PR) : sumP ps = mcR (ps.map (·.2)) := by unfold sumP mcR; rw [List.map_map]; rfl
theorem kk_below {w w' : World} {n lo B : Nat} (h : KK w w' lo B) (hn : n ≤ lo) (hs : lo ≤ w.heap.size) : Below n w w' := ⟨h.os, h.tape, h.output, h.size, fun b hb => h.out b (by omega) (.inl (by omega))⟩
set_option maxRecDepth 100000 in
set_option maxHeartbeats 4000000 in
theorem walk (a : List GRel) (b : ByteArray) (A0 : Option Addr) (c0 : Nat) (R : List (List GV)) (hR : ∀ r ∈ R, r.length ≤ 1048576) (hRm : mcR R ≤ 1048576) (hRn : R.length ≤ 1048576) (w : World)
    (f0 : fitRels a) (s0 : RelsAt w 0 w.heap.size A0 a)
    (HSp : costRels a ≤ 1048576 ∧ b.size ≤ 1048576 → ∀ (W : World) (A0 : Option Addr) (c0 : Nat) (l0 : Nat), RelsAt W l0 W.heap.size A0 a → CapOk a.length c0 → Calls Try.prog 21 #[.slice A0 a.length c0, .string b] W (TPost W R))
    (HIm : costRels a ≤ 1048576 ∧ b.size ≤ 1048576 → ∀ (W : World) (A0 : Option Addr) (c0 : Nat) (l0 : Nat), RelsAt W l0 W.heap.size A0 a → CapOk a.length c0 → Calls Try.prog 22 #[.slice A0 a.length c0, .string b] W (ITPost W R)) :
    Calls Try.prog 5 #[.slice A0 a.length c0, .string b] w fun e w' => e = .returned (.bool true) ∧ Below w.heap.size w w' := by
  have S0 := Lib.hid s0
  have HSP := Lib.hid HSp
  have HIM := Lib.hid HIm
  have HRC := Lib.hid hR
  have HRM := Lib.hid hRm
  have HRN := Lib.hid hRn
  clear hRn
  clear HSp HIm hR hRm s0
  have hB0 : Below w.heap.size w w := Below.refl _ _
  go_enter Try.func5, Try.ntmps5
  go_wp2_with fail
  · go_ret
    exact ⟨rfl, hB0⟩
  have hl1 : b.size ≤ 1048576 := by omega
  refine (sz_Rels A0 c0 a _ _ f0 (S0.out.to_ hB0) (by omega) (by omega)).mono ?_
  rintro e w1 ⟨rfl, hb1⟩
  have hB1 := below_next hB0 hb1 rfl rfl
  go_wp2_with fail
  · go_ret
    exact ⟨rfl, hB1⟩
  have hp0 : 0 ≤ szC (costRels a) (1048576 : Int) := by assumption
  obtain ⟨hq0, hr0⟩ := szC_pos hp0
  have hu0 : szC (costRels a) (1048576 : Int) = (1048576 : Int) - (costRels a : Int) := by unfold szC at hp0 ⊢; split <;> omega
  generalize szC (costRels a) (1048576 : Int) = L0 at *
  have HU0 := Lib.hid hu0
  clear hu0
  have hcost0 : costRels a ≤ 1048576 := by have := HU0.out; omega
  have hcost : costRels a ≤ 1048576 ∧ b.size ≤ 1048576 := ⟨hcost0, hl1⟩
  have hc0 : costRels a ≤ 1048576 := by omega
  have hl0 : a.length ≤ 1048576 := by unfold costRels at hc0; omega
  clear hp0 hq0 hr0 HU0
  refine (to_Rels A0 c0 a _ hc0 (S0.out.to_ hB1)).mono ?_
  rintro e w2 ⟨p0A, p0c, rfl, ⟨p0q, p0d⟩, p0u, hb2⟩
  have hB2 := below_next hB1 hb2 rfl rfl
  go_wp2_with fail
  refine (HSP.out hcost _ p0A p0c _ p0d p0q).mono ?_
  rintro e w3 ⟨G0, g0, rfl, _, hW, hb3⟩
  have hB3 := below_next hB2 hb3 rfl rfl
  have HW := Lib.hid hW
  clear hW p0d p0u
  go_wp2_with fail
  refine (to_Rels A0 c0 a _ hc0 (S0.out.to_ hB3)).mono ?_
  rintro e w4 ⟨x0A, x0c, rfl, ⟨x0q, x0d⟩, x0u, hb4⟩
  have hB4 := below_next hB3 hb4 rfl rfl
  go_wp2_with fail
  refine (HIM.out hcost _ x0A x0c _ x0d x0q).mono ?_
  rintro e w5 ⟨R6, l6, ps, rfl, hps, hG, hb5⟩
  have hB5 := below_next hB4 hb5 rfl rfl
  have HPL := Lib.hid (show ps.length = R.length by rw [← hps]; simp)
  have hpn : ps.length ≤ 1048576 := by rw [HPL.out]; exact HRN.out
  have hmc : sumP ps ≤ 1048576 := by rw [mcD_R, hps]; exact HRM.out
  have X0 := Lib.hid x0d
  have U0 := Lib.hid x0u
  have HG := Lib.hid hG
  have HPS := Lib.hid hps
  have EQ := Lib.hid (show ∀ W : World, TabAt W W.heap.size R6 R → TabAt W W.heap.size G0 R → Calls Try.prog 23 #[.slice R6 ps.length l6, .slice G0 R.length g0] W (EqYes W) from fun W h1 h2 => by rw [HPL.out]; exact eq_tables R6 G0 l6 g0 R W h1 h2 HRN.out HRC.out)
  clear hG hps x0d x0u
  have z4 : w3.heap.size ≤ w4.heap.size := hb4.size
  have hS4 : Below w3.heap.size w3 w4 := hb4
  have hS5 := below_next hS4 hb5 rfl rfl
  go_wp2_with fail
  have hg5 := Lib.hid HG.out
  refine (EQ.out _ (by rw [← HPS.out]; exact hg5.out.tab) (HW.out.to_ hS5)).mono ?_
  rintro e w6 ⟨rfl, hb6⟩
  have hB6 := below_next hB5 hb6 rfl rfl
  have hS6 := below_next hS5 hb6 rfl rfl
  have hg6 := Lib.hid (hg5.out.below hb6)
  have hX0_4 : Below w4.heap.size w4 w4 := Below.refl _ _
  have hX0_5 := below_next hX0_4 hb5 rfl rfl
  have hX0_6 := below_next hX0_5 hb6 rfl rfl
  go_wp2_with fail
  refine (to_Rels A0 c0 a _ hc0 (S0.out.to_ hB6)).mono ?_
  rintro e w7 ⟨y0A, y0c, rfl, ⟨_, y0d⟩, _, hb7⟩
  have hB7 := below_next hB6 hb7 rfl rfl
  have hS7 := below_next hS6 hb7 rfl rfl
  have hX0_7 := below_next hX0_6 hb7 rfl rfl
  have hg7 := Lib.hid (hg6.out.below hb7)
  go_wp2_with fail
  refine (eq_Rels x0A y0A x0c y0c a _ (by omega) ((X0.out.keep (fun b _ h => hX0_7.block b h)).mono (Nat.le_refl _) hX0_7.size) y0d).mono ?_
  rintro e w8 ⟨rfl, hb8⟩
  have hB8 := below_next hB7 hb8 rfl rfl
  have hS8 := below_next hS7 hb8 rfl rfl
  have hX0_8 := below_next hX0_7 hb8 rfl rfl
  have hg8 := Lib.hid (hg7.out.below hb8)
  clear y0d
  go_wp2_with fail
  have mb0 := mcRels_le a
  refine (mark_Rels (lo := w3.heap.size) (B := w4.heap.size) x0A x0c a _ _ ((X0.out.keep (fun b _ h => hX0_8.block b h)).sh) (fun b h1 h2 o => (World.frozen?_of_block (hX0_8.block b h2)).trans (U0.out b h1 h2 o)) hX0_8.size (by omega) (by omega) hl0 hc0).mono ?_
  rintro e w9 ⟨K0, rfl, kl0, kh0, hkk9⟩
  have hb9x : Below w3.heap.size w8 w9 := kk_below hkk9 (Nat.le_refl _) (by have := hX0_8.size; have := z4; omega)
  have hB9 : Below w.heap.size w w9 := hB8.trans (hb9x.mono hB3.size)
  have hS9 : Below w3.heap.size w3 w9 := hS8.trans (hb9x.mono (by  omega))
  have hg9 := Lib.hid (hg8.out.keep (fun b h1 h2 => hkk9.out b h2 (.inr (by have := z4; omega))))
  have hk0 : ¬ (K0 < 0) := by omega
  have hk1 : decide (K0 < 0) = false := by simpa using hk0
  go_wp2_with fail
  refine (EQ.out _ (by rw [← HPS.out]; exact hg9.out.tab) (HW.out.to_ hS9)).mono ?_
  rintro e w10 ⟨rfl, hb10⟩
  have hB10 := below_next hB9 hb10 rfl rfl
  have hS10 := below_next hS9 hb10 rfl rfl
  have hg10 := Lib.hid (hg9.out.below hb10)
  have hBg : w4.heap.size ≤ w10.heap.size := by have h5s := hb5.size; have h6s := hb6.size; have h7s := hb7.size; have h8s := hb8.size; have h9s := hb9x.size; have h10s := hb10.size; omega
  have MK := Lib.hid (mark_tab R6 l6 1 ps w10 hg10.out hBg (by omega) (by omega) hpn hmc)
  go_wp2_with fail
  refine (MK.out).mono ?_
  rintro e w11 ⟨rfl, hg11, hb11x⟩
  have hS11 : Below w3.heap.size w3 w11 := hS10.trans (hb11x.mono (by have := z4; omega))
  have hB11 : Below w.heap.size w w11 := hB10.trans (hb11x.mono hB4.size)
  have HM := Lib.hid hg11
  clear hg11 MK
  have HD := Lib.hid (fun (W : World) (h : TGA w4.heap.size W R6 (markP 1 ps)) => held_tab R6 l6 1 ps W h (by omega) (by omega) hpn hmc)
  have hk2 : 0 ≤ ((1 + 3 * sumP ps : Nat) : Int) := by omega
  have hk3 : ¬ (((1 + 3 * sumP ps : Nat) : Int) < 0) := by omega
  have hk4 : decide (((1 + 3 * sumP ps : Nat) : Int) < 0) = false := by simpa using hk3
  generalize hQ : ((1 + 3 * sumP ps : Nat) : Int) = Q at *
  go_wp2_with fail
  refine (HD.out _ HM.out).mono ?_
  rintro e w12 ⟨rfl, hb12⟩
  have hB12 := below_next hB11 hb12 rfl rfl
  have hS12 := below_next hS11 hb12 rfl rfl
  have hM12 : Below w11.heap.size w11 w12 := hb12
  go_wp2_with fail
  refine (to_Rels A0 c0 a _ hc0 (S0.out.to_ hB12)).mono ?_
  rintro e w13 ⟨v0A, v0c, rfl, ⟨v0q, v0d⟩, _, hb13⟩
  have hB13 := below_next hB12 hb13 rfl rfl
  have hS13 := below_next hS12 hb13 rfl rfl
  have hM13 := below_next hM12 hb13 rfl rfl
  go_wp2_with fail
  refine (HIM.out hcost _ v0A v0c _ v0d v0q).mono ?_
  rintro e w14 ⟨R9, l9, qs, rfl, hqs, hH, hb14⟩
  have hB14 := below_next hB13 hb14 rfl rfl
  have hS14 := below_next hS13 hb14 rfl rfl
  have hM14 := below_next hM13 hb14 rfl rfl
  have HQL := Lib.hid (show qs.length = R.length by rw [← hqs]; simp)
  have HH := Lib.hid (show TabAt w14 w14.heap.size R9 R by rw [← hqs]; exact hH.tab)
  have EQ9 := Lib.hid (show Calls Try.prog 23 #[.slice R9 qs.length l9, .slice G0 R.length g0] w14 (EqYes w14) by rw [HQL.out]; exact eq_tables R9 G0 l9 g0 R w14 HH.out (HW.out.to_ hS14) HRN.out HRC.out)
  clear hH hqs v0d
  go_wp2_with fail
  refine (EQ9.out).mono ?_
  rintro e w15 ⟨rfl, hb15⟩
  have hB15 := below_next hB14 hb15 rfl rfl
  have hS15 := below_next hS14 hb15 rfl rfl
  have hM15 := below_next hM14 hb15 rfl rfl
  go_wp2_with fail
  refine (HD.out _ (HM.out.below hM15)).mono ?_
  rintro e w16 ⟨rfl, hb16⟩
  have hB16 := below_next hB15 hb16 rfl rfl
  go_wp2_with fail
  go_ret
  exact ⟨rfl, hB16⟩
end Go.Proofs.Ytpipikjkhmhmhaa.rowsOf
namespace Go.Proofs.Ytpipikjkhmhmhaa.rowsOf
open Go.ChangeShapes Go.WideShapes Go.ChangeAt Go.RowKit Go.Joins
set_option linter.unusedVariables false

theorem mcR_cost : ∀ rows : List (List GV), mcR rows ≤ costValueSs rows
  | [] => by simp [mcR]
  | r :: rows => by
    have h1 := mcR_cost rows
    have h2 : mcR (r :: rows) = r.length + mcR rows := by simp [mcR]
    have h3 : costValueSs (r :: rows) = 1 + costValues r + costValueSs rows := by simp [costValueSs, sumC, costValueS]; omega
    have h4 : r.length ≤ costValues r := by unfold costValues; omega
    omega
theorem rowsR_cost {xs : List GRel} (h : costRels xs ≤ 1048576) (s : ByteArray) : costValueSs (rowsR xs s) ≤ 1048576 := by
  unfold rowsR
  split
  · rename_i x hx
    have h1 := sumC_mem costRel xs x (List.mem_of_getElem? hx)
    have h2 : costRel x = x.name.size + costValueSs x.rows := rfl
    unfold costRels at h
    omega
  · simp [costValueSs, sumC]
theorem rowsOfB_cost {xs : List GRel} (h : costRels xs ≤ 1048576) (s : ByteArray) : costValueSs (rowsOfB xs s) ≤ 1048576 := by
  unfold rowsOfB
  split
  · exact rowsR_cost h s
  · simp [costValueSs, sumC]
theorem law (A0 : Option Addr) (c0 : Nat) (a : List GRel) (b : ByteArray) (w : World) (f : fitRels a) (s : RelsAt w 0 w.heap.size A0 a) :
    Calls Try.prog 5 #[.slice A0 a.length c0, .string b] w fun e w' => e = .returned (.bool true) ∧ Below w.heap.size w w' := by
  by_cases h : costRels a ≤ 1048576 ∧ b.size ≤ 1048576
  · have h1 := rowsOfB_cost h.1 b
    have h2 := mcR_cost (rowsOfB a b)
    have h3 : (rowsOfB a b).length ≤ 1048576 := by unfold costValueSs at h1; omega
    have h4 : ∀ r ∈ rowsOfB a b, r.length ≤ 1048576 := fun r hr => by
      have h5 := sumC_mem costValueS (rowsOfB a b) r hr
      have h6 : costValueS r = r.length + sumC costValue r := rfl
      unfold costValueSs at h1
      omega
    exact walk a b A0 c0 (rowsOfB a b) h4 (by omega) h3 w f s
      (fun _ W A c l hd _ => spec_rowsOf A c a b W f h.1 hd)
      (fun _ W A c l hd _ => impl_rowsOf A c a b W f h.1 hd)
  · exact walk a b A0 c0 [] (by simp) (by simp [mcR]) (by simp) w f s (fun h' => absurd h' h) (fun h' => absurd h' h)

set_option maxRecDepth 100000 in
theorem lifted (os : Os) (started : os.Started) (H : Type) (enc : TypeId × Value → H) :
    ReturnsInHanded {} Try.checked os 5 .any (Rows.fnExactRowsOfSpec.pre6 enc Try.prog Try.f5 Rows.fnExactRowsOfRow.domain false) (Rows.fnExactRowsOfSpec.post enc Try.prog Try.f5 false true false false) := by
  refine returnsInHanded_of_change (C := Try.checked) own started (by kernel_rfl) Try.func5
    (ChangeSpec.witness6 (enc := enc) (C := Try.checked) false ⟨#[], #[.slice none 0 0, .string ByteArray.empty], []⟩ 8 (by kernel_rfl) (by kernel_rfl) (by kernel_rfl) (by kernel_rfl)) ?_
  intro W base args ds gs before hval0 hW hcnd _
  have hval : ∀ (j : Nat) t v, Try.f5.params[j]? = some t → args[j]? = some v → Value.okWide Try.prog W .any base t v := hval0
  have hW' := hW
  obtain ⟨p, q, hA0, hV, rfl, hfz, hnd⟩ := hW
  have hA : DataW.TrodAll enc Try.prog W 0 (fun _ => true) true Try.f5.params.toList args.toList ds p := hA0
  rw [Try.params5] at hA hval
  obtain ⟨v0, vs0, d0, ds0, p0, q0, hargs, rfl, rfl, h0, r0⟩ := trodAll_cons hA
  obtain ⟨v1, vs1, d1, ds1, p1, q1, rfl, rfl, rfl, h1, r1⟩ := trodAll_cons r0
  obtain ⟨rfl, rfl, rfl⟩ := trodAll_nil r1
  obtain rfl : args = #[v0, v1] := by cases args; simp_all
  obtain ⟨rfl, rfl⟩ := trodVars_none hV
  have z0 := h0
  have lt0 : ∀ x ∈ p0, x.block < W.heap.size := by obtain ⟨m, hm⟩ := z0; exact DataW.trod_lt m _ _ _ hm
  obtain ⟨a0, c0, xs0, rfl, fit0, s0⟩ := open_Rels_arg (hval 0 39 v0 rfl rfl) h0
  have z1 := h1
  have lt1 : ∀ x ∈ p1, x.block < W.heap.size := by obtain ⟨m, hm⟩ := z1; exact DataW.trod_lt m _ _ _ hm
  obtain ⟨s1, rfl, fit1⟩ := open_text (hval 1 9 v1 rfl rfl) h1
  clear hA0 hval0
  refine (law a0 c0 xs0 s1 W fit0 s0).mono fun e W' ⟨he, bel⟩ => ?_
  subst he
  exact ⟨_, rfl, _, _, _, [], _, [], hW', trodAll_mk1 (shut_bool Try.underlying4 _), (trodAll_cons_mk (Below.trod laidOut (by kernel_rfl) (of_decide_eq_true (by kernel_rfl)) z0 bel lt0) (trodAll_cons_mk (Below.trod laidOut (by kernel_rfl) (of_decide_eq_true (by kernel_rfl)) z1 bel lt1) trodAll_mk0)), rfl, bel.frame _, fun h => by cases h⟩

theorem over : Rows.fnExactRowsOfRow.holds Try.pinned (OpenSpec.ofChange Rows.fnExactRowsOfSpec) :=
  OpenClaim.holds_of_wide 5 Try.f5 rfl rfl rfl rfl rfl rfl rfl ⟨rfl, rfl, rfl, rfl, rfl⟩ rfl rfl rfl rfl rfl (by kernel_rfl) Try.func5 (by kernel_rfl)
    (of_decide_eq_true (by kernel_rfl)) (by unfold Func.isWrapper; first | (rw [if_pos (by decide +kernel)]; kernel_rfl) | (rw [if_neg (by decide +kernel)]; exact ⟨rfl, rfl⟩))
    (fun os started H enc _ => lifted os started H enc)

theorem proved : Rows.FnExactRowsOfSaid := over
end Go.Proofs.Ytpipikjkhmhmhaa.rowsOf
