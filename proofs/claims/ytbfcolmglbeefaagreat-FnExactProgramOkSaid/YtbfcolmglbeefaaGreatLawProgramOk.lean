/-
  For every program (laws.Program), laws.FnExactProgramOk returns true and leaves its argument as it was. No condition.
-/
import Derived.Test.YtbfcolmglbeefaaGreatSpecProg
import Derived.Test.YtbfcolmglbeefaaGreatProgOk
import Derived.Test.YtbfcolmglbeefaaGreatSzProg
import Derived.Test.YtbfcolmglbeefaaGreatToProg
import Derived.Test.YtbfcolmglbeefaaGreatEqProg
import Derived.Test.YtbfcolmglbeefaaGreatOpenP
import Derived.Test.YtbfcolmglbeefaaGreatRows
import Derived.Deep.RegionHeld3
namespace Go.Proofs.YtbfcolmglbeefaaGreat.programOk
open Go.ChangeShapes Go.WideShapes Go.ChangeAt Go.RowKit Go.Joins
set_option linter.unusedVariables false

def LK (w : World) (x : GProgram) (px lo : Nat) (A0 A1 E0 E1 : Option Addr) (c0 c1 e0 e1 : Nat) (w' : World) : Prop :=
  w'.cell? ⟨w.heap.size, 0, none⟩ = some (.slice A0 x.decls.length c0) ∧ w'.cell? ⟨w.heap.size, 1, none⟩ = some (.slice A1 x.rules.length c1) ∧ w'.cell? ⟨px, 0, none⟩ = some (.slice E0 x.decls.length e0) ∧ w'.cell? ⟨px, 1, none⟩ = some (.slice E1 x.rules.length e1) ∧ Hid (DeclsAt w' lo w'.heap.size E0 x.decls) ∧ Hid (RulesAt w' lo w'.heap.size E1 x.rules) ∧ Below w.heap.size w w' ∧ w.heap.size ≤ w'.heap.size
theorem LK.next {w : World} {x : GProgram} {px lo : Nat} {A0 A1 E0 E1 : Option Addr} {c0 c1 e0 e1 : Nat} {w1 w2 : World} (h : LK w x px lo A0 A1 E0 E1 c0 c1 e0 e1 w1) (hb : Below w1.heap.size w1 w2) : LK w x px lo A0 A1 E0 E1 c0 c1 e0 e1 w2 := by
  obtain ⟨h0, h1, h2, h3, h4, h5, h6, h7⟩ := h
  have key : ∀ {p : Addr} {v : Value}, w1.cell? p = some v → w2.cell? p = some v := fun {p v} hc => (hb.cell (p := p) (World.block_lt_of_cell? w1 p hc)).trans hc
  exact ⟨key h0, key h1, key h2, key h3, Lib.hid (h4.out.to_ hb), Lib.hid (h5.out.to_ hb), h6.trans (hb.mono h7), Nat.le_trans h7 hb.size⟩
set_option maxRecDepth 100000 in
set_option maxHeartbeats 4000000 in
theorem walk (x : GProgram) (A0 : Option Addr) (c0 : Nat) (A1 : Option Addr) (c1 : Nat) (w : World) (hf : fitProgram x) (s0 : DeclsAt w 0 w.heap.size A0 x.decls) (s1 : RulesAt w 0 w.heap.size A1 x.rules) :
    Calls Tryz.prog 3 #[.agg #[.slice A0 x.decls.length c0, .slice A1 x.rules.length c1]] w fun e w' => e = .returned (.bool true) ∧ Below w.heap.size w w' := by
  have hB0 : Below w.heap.size w (w.alloc (.cells #[.slice A0 x.decls.length c0, .slice A1 x.rules.length c1] 25)) := (Below.refl _ _).alloc (Nat.le_refl _) _
  have hP := Lib.hid (Whole.new w 25 [.slice A0 x.decls.length c0, .slice A1 x.rules.length c1])
  go_enter Tryz.func3, Tryz.ntmps3
  go_wp2_with fail
  refine (sz_Program x A0 c0 A1 c1 _ _ hf (s0.to_ hB0) (s1.to_ hB0) (by omega) (by omega)).mono ?_
  rintro e w1 ⟨rfl, hb1⟩
  have hB1 := below_next hB0 hb1 rfl rfl
  have P1 := hP.out.below hb1 hP.out.lt
  have p0 : w1.cell? ⟨w.heap.size, 0, none⟩ = some (.slice A0 x.decls.length c0) := P1.cell 0
  have p1 : w1.cell? ⟨w.heap.size, 1, none⟩ = some (.slice A1 x.rules.length c1) := P1.cell 1
  have hP1 := Lib.hid P1
  clear P1 hb1
  go_wp2_with fail
  · go_ret
    exact ⟨rfl, hB1⟩
  have hp1 : 0 ≤ szC (costProgram x) 1048576 := by assumption
  obtain ⟨hc1, hc2⟩ := szC_pos hp1
  have hk : costProgram x ≤ 1048576 := by omega
  clear hc1 hc2
  refine (to_Program x A0 c0 A1 c1 _ hk (s0.to_ hB1) (s1.to_ hB1)).mono ?_
  rintro e w2 ⟨D0, d0, D1, d1, rfl, hD, hR, _, hb2⟩
  have hB2 := below_next hB1 hb2 rfl rfl
  have P2 := hP1.out.below hb2 hP1.out.lt
  clear p0 p1
  have hP2 := Lib.hid P2
  clear P2 hb2
  go_wp2_with fail
  refine (sp_prog x D0 d0 D1 d1 _ hf hk hD hR).mono ?_
  rintro e w3 ⟨rfl, hb3⟩
  have hB3 := below_next hB2 hb3 rfl rfl
  have P3 := hP2.out.below hb3 hP2.out.lt
  have p0 : w3.cell? ⟨w.heap.size, 0, none⟩ = some (.slice A0 x.decls.length c0) := P3.cell 0
  have p1 : w3.cell? ⟨w.heap.size, 1, none⟩ = some (.slice A1 x.rules.length c1) := P3.cell 1
  have hP3 := Lib.hid P3
  clear P3 hb3 hD hR
  go_wp2_with fail
  refine (to_Program x A0 c0 A1 c1 _ hk (s0.to_ hB3) (s1.to_ hB3)).mono ?_
  rintro e w4 ⟨E0, e0, E1, e1, rfl, hD, hR, _, hb4⟩
  have hB4 := below_next hB3 hb4 rfl rfl
  have P4 := hP3.out.below hb4 hP3.out.lt
  have hs4 : w.heap.size ≤ w4.heap.size := hB4.size
  have hw4 : w3.heap.size ≤ w4.heap.size := hb4.size
  clear p0 p1
  have hP4 := Lib.hid P4
  clear P4 hb4
  go_wp2_with fail
  have hb5 : Below w4.heap.size w4 (w4.alloc (.cells #[.slice E0 x.decls.length e0, .slice E1 x.rules.length e1] 31)) := (Below.refl _ _).alloc (Nat.le_refl _) _
  have hB5 := hB4.trans (hb5.mono hs4)
  have hX := Lib.hid (Whole.new w4 31 [.slice E0 x.decls.length e0, .slice E1 x.rules.length e1])
  refine (ok_prog x E0 e0 E1 e1 _ hf hk (hD.to_ hb5) (hR.to_ hb5)).mono ?_
  rintro e w6 ⟨rfl, hb6⟩
  have hB6 := below_next hB5 hb6 rfl rfl
  have hs6 : w.heap.size ≤ w6.heap.size := hB6.size
  have P6 := (hP4.out.below hb5 hP4.out.lt).below hb6 (hP4.out.below hb5 hP4.out.lt).lt
  have X6 := hX.out.below hb6 hX.out.lt
  obtain ⟨px, hpx⟩ : ∃ n, w4.heap.size = n := ⟨_, rfl⟩
  obtain ⟨lo, hlo⟩ : ∃ n, w3.heap.size = n := ⟨_, rfl⟩
  have HS : LK w x px lo A0 A1 E0 E1 c0 c1 e0 e1 w6 := by
    subst hpx hlo
    exact ⟨P6.cell 0, P6.cell 1, X6.cell 0, X6.cell 1, Lib.hid ((hD.to_ hb5).to_ hb6), Lib.hid ((hR.to_ hb5).to_ hb6), hB6, hs6⟩
  have HS2 : LK w x px lo A0 A1 E0 E1 c0 c1 e0 e1 w6.drew := HS.next ((Below.refl _ _).drew)
  rw [hpx]
  clear P6 X6 hD hR hP1 hP2 hP3 hP4 hX hb5 hb6 hB1 hB2 hB3 hB4 hB5 hs4 hw4 hB0 hP hpx hlo
  generalize progB x = pb
  have hbb : (pb != pb) = false := by simp
  go_wp2_with fail
  go_region_held3 (fun w' => w'.cell? ⟨w.heap.size, 0, none⟩ = some (.slice A0 x.decls.length c0) ∧ w'.cell? ⟨w.heap.size, 1, none⟩ = some (.slice A1 x.rules.length c1) ∧ w'.cell? ⟨px, 0, none⟩ = some (.slice E0 x.decls.length e0) ∧ w'.cell? ⟨px, 1, none⟩ = some (.slice E1 x.rules.length e1) ∧ Hid (DeclsAt w' lo w'.heap.size E0 x.decls) ∧ Hid (RulesAt w' lo w'.heap.size E1 x.rules) ∧ Below w.heap.size w w' ∧ w.heap.size ≤ w'.heap.size)
    (first | exact HS2 | exact HS
           | (exact LK.next (w := w) (x := x) (px := px) (lo := lo) (by go_split_ands; exact ⟨by assumption, by assumption, by assumption, by assumption, by assumption, by assumption, by assumption, by assumption⟩) hbx))
    (first
      | (go_at_call 6; refine (to_Program x A0 c0 A1 c1 _ hk (s0.to_ (by go_split_ands; assumption)) (s1.to_ (by go_split_ands; assumption))).mono ?_; rintro e wx ⟨G0, g0, G1, g1, rfl, hDx, hRx, _, hbx⟩)
      | (go_at_call 8; refine (eq_Program (lo := lo) x E0 G0 e0 g0 E1 G1 e1 g1 _ hk (Hid.out (by go_split_ands; assumption)) hDx (Hid.out (by go_split_ands; assumption)) hRx).mono ?_; rintro e wy ⟨rfl, hbx⟩))
  have hBf : Below w.heap.size w wy := (LK.next (LK.next HS2 (by assumption)) hbx).2.2.2.2.2.2.1
  go_wp2_with fail
  go_ret
  exact ⟨rfl, hBf⟩

set_option maxRecDepth 100000 in
theorem lifted (os : Os) (started : os.Started) (H : Type) (enc : TypeId × Value → H) :
    ReturnsInHanded {} Tryz.checked os 3 .any (Rows.fnExactProgramOkSpec.pre6 enc Tryz.prog Tryz.f3 Rows.fnExactProgramOkRow.domain false) (Rows.fnExactProgramOkSpec.post enc Tryz.prog Tryz.f3 false true false false) := by
  refine returnsInHanded_of_change (C := Tryz.checked) own started (by kernel_rfl) Tryz.func3
    (ChangeSpec.witness6 (enc := enc) (C := Tryz.checked) false ⟨#[], #[.agg #[.slice none 0 0, .slice none 0 0]], []⟩ 8 (by kernel_rfl) (by kernel_rfl) (by kernel_rfl) (by kernel_rfl)) ?_
  intro W base args ds gs before hval0 hW hcnd _
  have hval : ∀ (j : Nat) t v, Tryz.f3.params[j]? = some t → args[j]? = some v → Value.okWide Tryz.prog W .any base t v := hval0
  have hW' := hW
  obtain ⟨p, q, hA0, hV, rfl, hfz, hnd⟩ := hW
  have hA : DataW.TrodAll enc Tryz.prog W 0 (fun _ => true) true Tryz.f3.params.toList args.toList ds p := hA0
  rw [Tryz.params3] at hA hval
  obtain ⟨v0, vs0, d0, ds0, p0, q0, hargs, rfl, rfl, h0, r0⟩ := trodAll_cons hA
  obtain ⟨rfl, rfl, rfl⟩ := trodAll_nil r0
  obtain rfl : args = #[v0] := by cases args; simp_all
  obtain ⟨rfl, rfl⟩ := trodVars_none hV
  have z0 := h0
  have lt0 : ∀ x ∈ p0, x.block < W.heap.size := by obtain ⟨m, hm⟩ := z0; exact DataW.trod_lt m _ _ _ hm
  obtain ⟨x0, a0_0, c0_0, a0_1, c0_1, rfl, fit0, s0_0, s0_1⟩ := open_Program_arg (hval 0 25 v0 rfl rfl) h0
  clear hA0 hval0
  refine (walk x0 a0_0 c0_0 a0_1 c0_1 W fit0 s0_0 s0_1).mono fun e W' ⟨he, bel⟩ => ?_
  subst he
  exact ⟨_, rfl, _, _, _, [], _, [], hW', trodAll_mk1 (shut_bool Tryz.underlying4 _), (trodAll_cons_mk (Below.trod laidOut (by kernel_rfl) (of_decide_eq_true (by kernel_rfl)) z0 bel lt0) trodAll_mk0), rfl, bel.frame _, fun h => by cases h⟩

theorem over : Rows.fnExactProgramOkRow.holds Tryz.pinned (OpenSpec.ofChange Rows.fnExactProgramOkSpec) :=
  OpenClaim.holds_of_wide 3 Tryz.f3 rfl rfl rfl rfl rfl rfl rfl ⟨rfl, rfl, rfl, rfl, rfl⟩ rfl rfl rfl rfl rfl (by kernel_rfl) Tryz.func3 (by kernel_rfl)
    (of_decide_eq_true (by kernel_rfl)) (by unfold Func.isWrapper; first | (rw [if_pos (by decide +kernel)]; kernel_rfl) | (rw [if_neg (by decide +kernel)]; exact ⟨rfl, rfl⟩))
    (fun os started H enc _ => lifted os started H enc)

theorem proved : Rows.FnExactProgramOkSaid := over
end Go.Proofs.YtbfcolmglbeefaaGreat.programOk
