/-
  For every slice of differences, laws.FnExactDiffOk returns true and leaves its argument as it was. No condition.
-/
import Derived.Test.YtkkgiojgejfhlaaDiffOkI
import Derived.Test.YtkkgiojgejfhlaaDiffCost
import Derived.Test.YtkkgiojgejfhlaaSzDiff
import Derived.Test.YtkkgiojgejfhlaaToDiff
import Derived.Test.YtkkgiojgejfhlaaEqDiff
import Derived.Test.YtkkgiojgejfhlaaOpenD
import Derived.Test.YtkkgiojgejfhlaaRows
namespace Go.Proofs.Ytkkgiojgejfhlaa.diffOk
open Go.ChangeShapes Go.WideShapes Go.ChangeAt Go.RowKit Go.Joins
set_option linter.unusedVariables false

set_option maxRecDepth 100000 in
set_option maxHeartbeats 2000000 in
theorem walk (A : Option Addr) (c : Nat) (a : List GDiff) (w : World) (f : fitDiffs a) (s : DiffsAt w 0 w.heap.size A a) :
    Calls Try.prog 3 #[.slice A a.length c] w fun e w' => e = .returned (.bool true) ∧ Below w.heap.size w w' := by
  have S := Lib.hid s
  clear s
  go_enter Try.func3, Try.ntmps3
  go_wp2_with fail
  refine (sz_Diffs A c a _ _ f S.out (by omega) (by omega)).mono ?_
  rintro e w1 ⟨rfl, hb1⟩
  go_wp2_with fail
  · go_ret
    exact ⟨rfl, hb1⟩
  have hp1 : 0 ≤ szC (costDiffs a) 1048576 := by assumption
  obtain ⟨hc1, hc2⟩ := szC_pos hp1
  have hc : costDiffs a ≤ 1048576 := by omega
  have hl : a.length ≤ 1048576 := by unfold costDiffs at hc; omega
  have HLR := Lib.hid (diffs_small hc)
  refine (to_Diffs A c a _ hc (S.out.to_ hb1)).mono ?_
  rintro e w2 ⟨A2, c2, rfl, ⟨_, d2⟩, _, hb2⟩
  have hB2 := below_next hb1 hb2 rfl rfl
  have D2 := Lib.hid d2
  clear d2
  go_wp2_with fail
  refine (spec_diffOk A2 c2 a _ D2.out (by omega) HLR.out).mono ?_
  rintro e w3 ⟨rfl, hb3⟩
  have hB3 := below_next hB2 hb3 rfl rfl
  go_wp2_with fail
  refine (to_Diffs A c a _ hc (S.out.to_ hB3)).mono ?_
  rintro e w4 ⟨A4, c4, rfl, ⟨_, d4⟩, _, hb4⟩
  have hB4 := below_next hB3 hb4 rfl rfl
  have D4 := Lib.hid d4
  clear d4
  go_wp2_with fail
  refine (impl_diffOk A4 c4 a _ D4.out hl HLR.out).mono ?_
  rintro e w5 ⟨rfl, hb5⟩
  have hB5 := below_next hB4 hb5 rfl rfl
  have hbb : (diffOkB a != diffOkB a) = false := by simp
  generalize diffOkB a = b at *
  go_wp2_with fail
  refine (to_Diffs A c a _ hc (S.out.to_ hB5)).mono ?_
  rintro e w6 ⟨A6, c6, rfl, ⟨_, d6⟩, _, hb6⟩
  have hB6 := below_next hB5 hb6 rfl rfl
  have D6 := Lib.hid d6
  have D4' := Lib.hid ((D4.out.to_ hb5).to_ hb6)
  clear d6
  go_wp2_with fail
  refine (eq_Diffs A4 A6 c4 c6 a _ (by omega) D4'.out D6.out).mono ?_
  rintro e w7 ⟨rfl, hb7⟩
  have hB7 := below_next hB6 hb7 rfl rfl
  go_wp2_with fail
  go_ret
  exact ⟨rfl, hB7⟩

set_option maxRecDepth 100000 in
theorem lifted (os : Os) (started : os.Started) (H : Type) (enc : TypeId × Value → H) :
    ReturnsInHanded {} Try.checked os 3 .any (Rows.fnExactDiffOkSpec.pre6 enc Try.prog Try.f3 Rows.fnExactDiffOkRow.domain false) (Rows.fnExactDiffOkSpec.post enc Try.prog Try.f3 false true false false) := by
  refine returnsInHanded_of_change (C := Try.checked) own started (by kernel_rfl) Try.func3
    (ChangeSpec.witness6 (enc := enc) (C := Try.checked) false ⟨#[], #[.slice none 0 0], []⟩ 8 (by kernel_rfl) (by kernel_rfl) (by kernel_rfl) (by kernel_rfl)) ?_
  intro W base args ds gs before hval0 hW hcnd _
  have hval : ∀ (j : Nat) t v, Try.f3.params[j]? = some t → args[j]? = some v → Value.okWide Try.prog W .any base t v := hval0
  have hW' := hW
  obtain ⟨p, q, hA0, hV, rfl, hfz, hnd⟩ := hW
  have hA : DataW.TrodAll enc Try.prog W 0 (fun _ => true) true Try.f3.params.toList args.toList ds p := hA0
  rw [Try.params3] at hA hval
  obtain ⟨v0, vs0, d0, ds0, p0, q0, hargs, rfl, rfl, h0, r0⟩ := trodAll_cons hA
  obtain ⟨rfl, rfl, rfl⟩ := trodAll_nil r0
  obtain rfl : args = #[v0] := by cases args; simp_all
  obtain ⟨rfl, rfl⟩ := trodVars_none hV
  have z0 := h0
  have lt0 : ∀ x ∈ p0, x.block < W.heap.size := by obtain ⟨m, hm⟩ := z0; exact DataW.trod_lt m _ _ _ hm
  obtain ⟨a0, c0, xs0, rfl, fit0, s0⟩ := open_Diffs_arg (hval 0 22 v0 rfl rfl) h0
  clear hA0 hval0
  refine (walk a0 c0 xs0 W fit0 s0).mono fun e W' ⟨he, bel⟩ => ?_
  subst he
  exact ⟨_, rfl, _, _, _, [], _, [], hW', trodAll_mk1 (shut_bool Try.underlying4 _), (trodAll_cons_mk (Below.trod laidOut (by kernel_rfl) (of_decide_eq_true (by kernel_rfl)) z0 bel lt0) trodAll_mk0), rfl, bel.frame _, fun h => by cases h⟩

theorem over : Rows.fnExactDiffOkRow.holds Try.pinned (OpenSpec.ofChange Rows.fnExactDiffOkSpec) :=
  OpenClaim.holds_of_wide 3 Try.f3 rfl rfl rfl rfl rfl rfl rfl ⟨rfl, rfl, rfl, rfl, rfl⟩ rfl rfl rfl rfl rfl (by kernel_rfl) Try.func3 (by kernel_rfl)
    (of_decide_eq_true (by kernel_rfl)) (by unfold Func.isWrapper; first | (rw [if_pos (by decide +kernel)]; kernel_rfl) | (rw [if_neg (by decide +kernel)]; exact ⟨rfl, rfl⟩))
    (fun os started H enc _ => lifted os started H enc)

theorem proved : Rows.FnExactDiffOkSaid := over
end Go.Proofs.Ytkkgiojgejfhlaa.diffOk
