/-
  For every list of relations, laws.FnExactDbOk returns true and leaves its argument as it was. No condition.
-/
import Derived.Test.YtpipikjkhmhmhaaDbOkI
import Derived.Test.YtpipikjkhmhmhaaDbOkS
import Derived.Test.YtpipikjkhmhmhaaSzRel
import Derived.Test.YtpipikjkhmhmhaaToRel
import Derived.Test.YtpipikjkhmhmhaaEqRel
import Derived.Test.YtpipikjkhmhmhaaOpenRel
import Derived.Test.YtpipikjkhmhmhaaRows
namespace Go.Proofs.Ytpipikjkhmhmhaa.dbOk
open Go.ChangeShapes Go.WideShapes Go.ChangeAt Go.RowKit Go.Joins
set_option linter.unusedVariables false

set_option maxRecDepth 100000 in
set_option maxHeartbeats 2000000 in
theorem walk (A : Option Addr) (c : Nat) (a : List GRel) (w : World) (f : fitRels a) (s : RelsAt w 0 w.heap.size A a) :
    Calls Try.prog 4 #[.slice A a.length c] w fun e w' => e = .returned (.bool true) ∧ Below w.heap.size w w' := by
  have S := Lib.hid s
  clear s
  go_enter Try.func4, Try.ntmps4
  go_wp2_with fail
  refine (sz_Rels A c a _ _ f S.out (by omega) (by omega)).mono ?_
  rintro e w1 ⟨rfl, hb1⟩
  go_wp2_with fail
  · go_ret
    exact ⟨rfl, hb1⟩
  have hp1 : 0 ≤ szC (costRels a) 1048576 := by assumption
  obtain ⟨hc1, hc2⟩ := szC_pos hp1
  have hc : costRels a ≤ 1048576 := by omega
  have hl : a.length ≤ 1048576 := by unfold costRels at hc; omega
  refine (to_Rels A c a _ hc (S.out.to_ hb1)).mono ?_
  rintro e w2 ⟨A2, c2, rfl, ⟨_, d2⟩, _, hb2⟩
  have hB2 := below_next hb1 hb2 rfl rfl
  have D2 := Lib.hid d2
  clear d2
  go_wp2_with fail
  refine (spec_dbOk A2 c2 a _ f hc D2.out).mono ?_
  rintro e w3 ⟨rfl, hb3⟩
  have hB3 := below_next hB2 hb3 rfl rfl
  go_wp2_with fail
  refine (to_Rels A c a _ hc (S.out.to_ hB3)).mono ?_
  rintro e w4 ⟨A4, c4, rfl, ⟨_, d4⟩, _, hb4⟩
  have hB4 := below_next hB3 hb4 rfl rfl
  have D4 := Lib.hid d4
  clear d4
  go_wp2_with fail
  refine (impl_dbOk A4 c4 a _ f hc D4.out).mono ?_
  rintro e w5 ⟨rfl, hb5⟩
  have hB5 := below_next hB4 hb5 rfl rfl
  have hbb : (dbOkB a != dbOkB a) = false := by simp
  generalize dbOkB a = b at *
  go_wp2_with fail
  refine (to_Rels A c a _ hc (S.out.to_ hB5)).mono ?_
  rintro e w6 ⟨A6, c6, rfl, ⟨_, d6⟩, _, hb6⟩
  have hB6 := below_next hB5 hb6 rfl rfl
  have D6 := Lib.hid d6
  have D4' := Lib.hid ((D4.out.to_ hb5).to_ hb6)
  clear d6
  go_wp2_with fail
  refine (eq_Rels A4 A6 c4 c6 a _ (by omega) D4'.out D6.out).mono ?_
  rintro e w7 ⟨rfl, hb7⟩
  have hB7 := below_next hB6 hb7 rfl rfl
  go_wp2_with fail
  go_ret
  exact ⟨rfl, hB7⟩

set_option maxRecDepth 100000 in
theorem lifted (os : Os) (started : os.Started) (H : Type) (enc : TypeId × Value → H) :
    ReturnsInHanded {} Try.checked os 4 .any (Rows.fnExactDbOkSpec.pre6 enc Try.prog Try.f4 Rows.fnExactDbOkRow.domain false) (Rows.fnExactDbOkSpec.post enc Try.prog Try.f4 false true false false) := by
  refine returnsInHanded_of_change (C := Try.checked) own started (by kernel_rfl) Try.func4
    (ChangeSpec.witness6 (enc := enc) (C := Try.checked) false ⟨#[], #[.slice none 0 0], []⟩ 8 (by kernel_rfl) (by kernel_rfl) (by kernel_rfl) (by kernel_rfl)) ?_
  intro W base args ds gs before hval0 hW hcnd _
  have hval : ∀ (j : Nat) t v, Try.f4.params[j]? = some t → args[j]? = some v → Value.okWide Try.prog W .any base t v := hval0
  have hW' := hW
  obtain ⟨p, q, hA0, hV, rfl, hfz, hnd⟩ := hW
  have hA : DataW.TrodAll enc Try.prog W 0 (fun _ => true) true Try.f4.params.toList args.toList ds p := hA0
  rw [Try.params4] at hA hval
  obtain ⟨v0, vs0, d0, ds0, p0, q0, hargs, rfl, rfl, h0, r0⟩ := trodAll_cons hA
  obtain ⟨rfl, rfl, rfl⟩ := trodAll_nil r0
  obtain rfl : args = #[v0] := by cases args; simp_all
  obtain ⟨rfl, rfl⟩ := trodVars_none hV
  have z0 := h0
  have lt0 : ∀ x ∈ p0, x.block < W.heap.size := by obtain ⟨m, hm⟩ := z0; exact DataW.trod_lt m _ _ _ hm
  obtain ⟨a0, c0, xs0, rfl, fit0, s0⟩ := open_Rels_arg (hval 0 39 v0 rfl rfl) h0
  clear hA0 hval0
  refine (walk a0 c0 xs0 W fit0 s0).mono fun e W' ⟨he, bel⟩ => ?_
  subst he
  exact ⟨_, rfl, _, _, _, [], _, [], hW', trodAll_mk1 (shut_bool Try.underlying4 _), (trodAll_cons_mk (Below.trod laidOut (by kernel_rfl) (of_decide_eq_true (by kernel_rfl)) z0 bel lt0) trodAll_mk0), rfl, bel.frame _, fun h => by cases h⟩

theorem over : Rows.fnExactDbOkRow.holds Try.pinned (OpenSpec.ofChange Rows.fnExactDbOkSpec) :=
  OpenClaim.holds_of_wide 4 Try.f4 rfl rfl rfl rfl rfl rfl rfl ⟨rfl, rfl, rfl, rfl, rfl⟩ rfl rfl rfl rfl rfl (by kernel_rfl) Try.func4 (by kernel_rfl)
    (of_decide_eq_true (by kernel_rfl)) (by unfold Func.isWrapper; first | (rw [if_pos (by decide +kernel)]; kernel_rfl) | (rw [if_neg (by decide +kernel)]; exact ⟨rfl, rfl⟩))
    (fun os started H enc _ => lifted os started H enc)

theorem proved : Rows.FnExactDbOkSaid := over
end Go.Proofs.Ytpipikjkhmhmhaa.dbOk
