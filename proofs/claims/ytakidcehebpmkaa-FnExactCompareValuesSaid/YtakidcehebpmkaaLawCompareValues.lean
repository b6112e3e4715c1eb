/-
  For all two values, laws.FnExactCompareValues returns true and leaves its arguments as they were. No condition.
-/
import Derived.Test.YtakidcehebpmkaaValueOk
import Derived.Test.YtakidcehebpmkaaCmp
import Derived.Test.YtakidcehebpmkaaOpen
import Derived.Test.YtakidcehebpmkaaRows
namespace Go.Proofs.Ytakidcehebpmkaa.compareValues
open Go.ChangeShapes Go.WideShapes Go.ChangeAt Go.RowKit Go.Joins
set_option linter.unusedVariables false

set_option maxHeartbeats 1000000 in
theorem walk (k n : Int) (t : ByteArray) (k' n' : Int) (t' : ByteArray) (w : World) (f0 : FitV k n t) (f1 : FitV k' n' t') :
    Calls Try.prog 5 #[.agg #[.int .i64 k, .int .i64 n, .string t], .agg #[.int .i64 k', .int .i64 n', .string t']] w fun e w' => e = .returned (.bool true) ∧ Below w.heap.size w w' := by
  obtain ⟨_, _, ht⟩ := f0
  obtain ⟨_, _, ht'⟩ := f1
  go_enter Try.func5, Try.ntmps5
  go_wp2_with fail
  refine (sz_value k n t _ _ ht (by omega) (by omega)).mono ?_
  rintro e w1 ⟨rfl, hb1⟩
  obtain ⟨hc1, hf1⟩ := bcell hb1
  have hz1 : w.heap.size + 1 < w1.heap.size := by have := hb1.size; simp at this; omega
  have hB1 : Below w.heap.size w w1 := (((Below.refl _ _).alloc (Nat.le_refl _) _).alloc (by simp) _).trans (hb1.mono (by simp; omega))
  go_wp2_with fail
  · go_ret
    exact ⟨rfl, hB1⟩
  have hsz := szV_le t 1048576
  refine (sz_value k' n' t' _ _ ht' (by omega) (by omega)).mono ?_
  rintro e w2 ⟨rfl, hb2⟩
  obtain ⟨hc2, hf2⟩ := bcell hb2
  have hz2 : w.heap.size + 1 < w2.heap.size := by have := hb2.size; omega
  have hB2 : Below w.heap.size w w2 := hB1.trans (hb2.mono (by omega))
  have a0 : w2.cell? ⟨w.heap.size, 0, none⟩ = some (.int .i64 k) := by rw [hc2 _ _ (by omega), hc1 _ _ (by simp; omega)]; go_simp
  have a1 : w2.cell? ⟨w.heap.size, 1, none⟩ = some (.int .i64 n) := by rw [hc2 _ _ (by omega), hc1 _ _ (by simp; omega)]; go_simp
  have a2 : w2.cell? ⟨w.heap.size, 2, none⟩ = some (.string t) := by rw [hc2 _ _ (by omega), hc1 _ _ (by simp; omega)]; go_simp
  have b0 : w2.cell? ⟨w.heap.size + 1, 0, none⟩ = some (.int .i64 k') := by rw [hc2 _ _ (by omega), hc1 _ _ (by simp)]; go_simp
  have b1 : w2.cell? ⟨w.heap.size + 1, 1, none⟩ = some (.int .i64 n') := by rw [hc2 _ _ (by omega), hc1 _ _ (by simp)]; go_simp
  have b2 : w2.cell? ⟨w.heap.size + 1, 2, none⟩ = some (.string t') := by rw [hc2 _ _ (by omega), hc1 _ _ (by simp)]; go_simp
  clear hc2 hc1 hf1 hf2 hb1 hb2 hB1 hz1
  go_wp2_with fail
  · go_ret
    exact ⟨rfl, hB2⟩
  go_region_held3 (fun w' => w'.cell? ⟨w.heap.size, 0, none⟩ = some (.int .i64 k) ∧ w'.cell? ⟨w.heap.size, 1, none⟩ = some (.int .i64 n) ∧ w'.cell? ⟨w.heap.size, 2, none⟩ = some (.string t) ∧
      w'.cell? ⟨w.heap.size + 1, 0, none⟩ = some (.int .i64 k') ∧ w'.cell? ⟨w.heap.size + 1, 1, none⟩ = some (.int .i64 n') ∧ w'.cell? ⟨w.heap.size + 1, 2, none⟩ = some (.string t') ∧ w.heap.size + 1 < w'.heap.size ∧ Below w2.heap.size w2 w')
    (first | (go_split_ands; exact ⟨by assumption, by assumption, by assumption, by assumption, by assumption, by assumption, hz2, (Below.refl _ _).drew⟩)
           | (go_split_ands; refine ⟨?_, ?_, ?_, ?_, ?_, ?_, ?_, ?_⟩; all_goals first | (have := hbx.size; omega) | (rw [hcx _ _ (by omega)]; assumption) | exact below_next (by assumption) hbx rfl rfl))
    (first
      | (go_at_call 21; refine (to_value _ _ _ _).mono ?_; rintro e wx ⟨rfl, hbx⟩; obtain ⟨hcx, hfx⟩ := bcell hbx)
      | (go_at_call 23; refine (spec_compare _ _ _ _ _ _ _).mono ?_; rintro e wx ⟨rfl, hbx⟩; obtain ⟨hcx, hfx⟩ := bcell hbx))
  have hB3 : Below w.heap.size w wx := hB2.trans (Below.mono (by go_split_ands; assumption) (by omega))
  go_split_ands
  clear hcx hfx hbx a0 a1 a2 b0 b1 b2
  go_wp2_with fail
  rename_i hzx _
  go_region_held3 (fun w' => w'.cell? ⟨w.heap.size, 0, none⟩ = some (.int .i64 k) ∧ w'.cell? ⟨w.heap.size, 1, none⟩ = some (.int .i64 n) ∧ w'.cell? ⟨w.heap.size, 2, none⟩ = some (.string t) ∧
      w'.cell? ⟨w.heap.size + 1, 0, none⟩ = some (.int .i64 k') ∧ w'.cell? ⟨w.heap.size + 1, 1, none⟩ = some (.int .i64 n') ∧ w'.cell? ⟨w.heap.size + 1, 2, none⟩ = some (.string t') ∧ w.heap.size + 1 < w'.heap.size ∧ Below wx.heap.size wx w')
    (first | (go_split_ands; exact ⟨by assumption, by assumption, by assumption, by assumption, by assumption, by assumption, by assumption, (Below.refl _ _).drew⟩)
           | (go_split_ands; refine ⟨?_, ?_, ?_, ?_, ?_, ?_, ?_, ?_⟩; all_goals first | (have := hby.size; omega) | (rw [hcy _ _ (by omega)]; assumption) | exact below_next (by assumption) hby rfl rfl))
    (first
      | (go_at_call 21; refine (to_value _ _ _ _).mono ?_; rintro e wy ⟨rfl, hby⟩; obtain ⟨hcy, hfy⟩ := bcell hby)
      | (go_at_call 24; refine (impl_compare _ _ _ _ _ _ _).mono ?_; rintro e wy ⟨rfl, hby⟩; obtain ⟨hcy, hfy⟩ := bcell hby))
  have hB4 : Below w.heap.size w wy := hB3.trans (Below.mono (by go_split_ands; assumption) (by omega))
  go_wp2_with fail
  go_ret
  exact ⟨rfl, hB4⟩

set_option maxRecDepth 100000 in
theorem lifted (os : Os) (started : os.Started) (H : Type) (enc : TypeId × Value → H) :
    ReturnsInHanded {} Try.checked os 5 .any (Rows.fnExactCompareValuesSpec.pre6 enc Try.prog Try.f5 Rows.fnExactCompareValuesRow.domain false) (Rows.fnExactCompareValuesSpec.post enc Try.prog Try.f5 false true false false) := by
  refine returnsInHanded_of_change (C := Try.checked) own started (by kernel_rfl) Try.func5
    (ChangeSpec.witness6 (enc := enc) (C := Try.checked) false ⟨#[], #[.agg #[.int .i64 0, .int .i64 0, .string ByteArray.empty], .agg #[.int .i64 0, .int .i64 0, .string ByteArray.empty]], []⟩ 8 (by kernel_rfl) (by kernel_rfl) (by kernel_rfl) (by kernel_rfl)) ?_
  intro W base args ds gs before hval0 hW hcnd _
  have hval : ∀ (j : Nat) t v, Try.f5.params[j]? = some t → args[j]? = some v → Value.okWide Try.prog W .any base t v := hval0
  have hW' := hW
  obtain ⟨p, q, hA0, hV, rfl, hfz, hnd⟩ := hW
  have hA : DataW.TrodAll enc Try.prog W 0 (fun _ => true) true Try.f5.params.toList args.toList ds p := hA0
  rw [Try.params5] at hA hval
  obtain ⟨v0, vs0, d0, ds0, p0, q0, hargs, rfl, rfl, h0, r0⟩ := trodAll_cons hA
  obtain ⟨v1, vs1, d1, ds1, p1, q1, rfl, rfl, rfl, h1, r1⟩ := trodAll_cons r0
  obtain ⟨rfl, rfl, rfl⟩ := trodAll_nil r1
  obtain rfl : args = #[v0, v1] := by cases args; simp_all
  obtain ⟨rfl, rfl⟩ := trodVars_none hV
  have z0 := h0
  have lt0 : ∀ x ∈ p0, x.block < W.heap.size := by obtain ⟨m, hm⟩ := z0; exact DataW.trod_lt m _ _ _ hm
  obtain ⟨k0, n0, t0, rfl, fit0⟩ := open_value (hval 0 32 v0 rfl rfl) h0
  have z1 := h1
  have lt1 : ∀ x ∈ p1, x.block < W.heap.size := by obtain ⟨m, hm⟩ := z1; exact DataW.trod_lt m _ _ _ hm
  obtain ⟨k1, n1, t1, rfl, fit1⟩ := open_value (hval 1 32 v1 rfl rfl) h1
  clear hA0 hval0
  refine (walk k0 n0 t0 k1 n1 t1 W fit0 fit1).mono fun e W' ⟨he, bel⟩ => ?_
  subst he
  exact ⟨_, rfl, _, _, _, [], _, [], hW', trodAll_mk1 (shut_bool Try.underlying4 _), (trodAll_cons_mk (Below.trod laidOut (by kernel_rfl) (of_decide_eq_true (by kernel_rfl)) z0 bel lt0) (trodAll_cons_mk (Below.trod laidOut (by kernel_rfl) (of_decide_eq_true (by kernel_rfl)) z1 bel lt1) trodAll_mk0)), rfl, bel.frame _, fun h => by cases h⟩

theorem over : Rows.fnExactCompareValuesRow.holds Try.pinned (OpenSpec.ofChange Rows.fnExactCompareValuesSpec) :=
  OpenClaim.holds_of_wide 5 Try.f5 rfl rfl rfl rfl rfl rfl rfl ⟨rfl, rfl, rfl, rfl, rfl⟩ rfl rfl rfl rfl rfl (by kernel_rfl) Try.func5 (by kernel_rfl)
    (of_decide_eq_true (by kernel_rfl)) (by unfold Func.isWrapper; first | (rw [if_pos (by decide +kernel)]; kernel_rfl) | (rw [if_neg (by decide +kernel)]; exact ⟨rfl, rfl⟩))
    (fun os started H enc _ => lifted os started H enc)

theorem proved : Rows.FnExactCompareValuesSaid := over

end Go.Proofs.Ytakidcehebpmkaa.compareValues
