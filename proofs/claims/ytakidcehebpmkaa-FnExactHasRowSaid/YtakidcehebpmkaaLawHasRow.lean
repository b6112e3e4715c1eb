/-
  For every slice of slices of values and every slice of values, laws.FnExactHasRow returns true and leaves its arguments as they were. No condition.
-/
import Derived.Test.YtakidcehebpmkaaFind
import Derived.Test.YtakidcehebpmkaaTabMake
import Derived.Test.YtakidcehebpmkaaOpenT
import Derived.Test.YtakidcehebpmkaaRows
namespace Go.Proofs.Ytakidcehebpmkaa.hasRow
open Go.ChangeShapes Go.WideShapes Go.ChangeAt Go.RowKit Go.Joins
set_option linter.unusedVariables false

set_option maxHeartbeats 1000000 in
theorem walk (A : Option Addr) (l c : Nat) (rows : List (List GV)) (A' : Option Addr) (l' c' : Nat) (us : List GV) (w : World) (f0 : FitT w A l rows) (f1 : FitVs w A' l' us) :
    Calls Try.prog 9 #[.slice A l c, .slice A' l' c'] w fun e w' => e = .returned (.bool true) ∧ Below w.heap.size w w' := by
  obtain ⟨rfl, hr, hl, hv⟩ := f0
  obtain ⟨rfl, hr', hl', hv'⟩ := f1
  go_enter Try.func9, Try.ntmps9
  go_wp2_with fail
  refine (sz_tables A c rows _ _ hr hl (fun r h => ⟨(hv r h).1, fun v h' => ((hv r h).2 v h').2.2⟩) (by omega) (by omega)).mono ?_
  rintro e w1 ⟨rfl, hb1⟩
  go_wp2_with fail
  · go_ret
    exact ⟨rfl, hb1⟩
  have hp1 : 0 ≤ szC (costT rows) 1048576 := by assumption
  obtain ⟨hc1, hc2⟩ := szC_pos hp1
  have hn1 : rows.length ≤ 1048576 := by have := len_le_costT rows; omega
  have hn2 : ∀ r ∈ rows, r.length ≤ 1048576 := fun r h => by have h1 := cost_le_costT rows r h; have h2 := len_cost r; omega
  have hn3 : ∀ r ∈ rows, r.length ≤ 1048576 ∧ ∀ v ∈ r, v.t.size ≤ maxLen := fun r h => ⟨hn2 r h, fun v h' => ((hv r h).2 v h').2.2⟩
  refine (sz_values A' c' us _ _ (hr'.to_ hb1) hl' (fun v h => (hv' v h).2.2) (by omega) (by omega)).mono ?_
  rintro e w2 ⟨rfl, hb2⟩
  have hB2 := below_next hb1 hb2 rfl rfl
  go_wp2_with fail
  · go_ret
    exact ⟨rfl, hB2⟩
  have hp2 : 0 ≤ szC (cost us) (szC (costT rows) 1048576) := by assumption
  obtain ⟨hc3, hc4⟩ := szC_pos hp2
  have hn4 : us.length ≤ 1048576 := by have := len_cost us; omega
  refine (to_tables A c rows _ (hr.to_ hB2) hn1 hn2).mono ?_
  rintro e w3 ⟨rfl, ⟨gs3, ho3⟩, hb3⟩
  have hB3 := below_next hB2 hb3 rfl rfl
  go_wp2_with fail
  refine (to_values A' c' us _ (hr'.to_ hB3) hn4).mono ?_
  rintro e w4 ⟨rfl, hW4, hb4⟩
  have hB4 := below_next hB3 hb4 rfl rfl
  go_wp2_with fail
  refine (spec_hasRow _ _ _ _ rows us _ (ho3.tab.to_ hb4) (hW4.row hW4.lt) hn1 hn4 hn3).mono ?_
  rintro e w5 ⟨rfl, hb5⟩
  have hB5 := below_next hB4 hb5 rfl rfl
  go_wp2_with fail
  refine (to_tables A c rows _ (hr.to_ hB5) hn1 hn2).mono ?_
  rintro e w6 ⟨rfl, ⟨gs6, ho6⟩, hb6⟩
  have hB6 := below_next hB5 hb6 rfl rfl
  go_wp2_with fail
  refine (to_values A' c' us _ (hr'.to_ hB6) hn4).mono ?_
  rintro e w7 ⟨rfl, hW7, hb7⟩
  have hB7 := below_next hB6 hb7 rfl rfl
  go_wp2_with fail
  refine (impl_hasRow _ _ _ _ rows us _ (ho6.tab.to_ hb7) (hW7.row hW7.lt) hn1 hn4 hn3).mono ?_
  rintro e w8 ⟨rfl, hb8⟩
  have hB8 := below_next hB7 hb8 rfl rfl
  have hb78 := below_next hb7 hb8 rfl rfl
  go_wp2_with fail
  refine (to_tables A c rows _ (hr.to_ hB8) hn1 hn2).mono ?_
  rintro e w9 ⟨rfl, ⟨gs9, ho9⟩, hb9⟩
  have hB9 := below_next hB8 hb9 rfl rfl
  have hb79 := below_next hb78 hb9 rfl rfl
  have hb89 := below_next hb8 hb9 rfl rfl
  go_wp2_with fail
  refine (eq_tables _ _ _ _ rows _ (ho6.tab.to_ hb79) ho9.tab hn1 hn2).mono ?_
  rintro e w10 ⟨rfl, hb10⟩
  have hB10 := below_next hB9 hb10 rfl rfl
  have hb810 := below_next hb89 hb10 rfl rfl
  go_wp2_with fail
  refine (to_values A' c' us _ (hr'.to_ hB10) hn4).mono ?_
  rintro e w11 ⟨rfl, hW11, hb11⟩
  have hB11 := below_next hB10 hb11 rfl rfl
  have hb811 := below_next hb810 hb11 rfl rfl
  go_wp2_with fail
  refine (eq_values _ _ _ _ us _ (hW7.to_ hb811) (hW11.row hW11.lt) hn4).mono ?_
  rintro e w12 ⟨rfl, hb12⟩
  have hB12 := below_next hB11 hb12 rfl rfl
  go_wp2_with fail
  go_ret
  exact ⟨rfl, hB12⟩

set_option maxRecDepth 100000 in
theorem lifted (os : Os) (started : os.Started) (H : Type) (enc : TypeId × Value → H) :
    ReturnsInHanded {} Try.checked os 9 .any (Rows.fnExactHasRowSpec.pre6 enc Try.prog Try.f9 Rows.fnExactHasRowRow.domain false) (Rows.fnExactHasRowSpec.post enc Try.prog Try.f9 false true false false) := by
  refine returnsInHanded_of_change (C := Try.checked) own started (by kernel_rfl) Try.func9
    (ChangeSpec.witness6 (enc := enc) (C := Try.checked) false ⟨#[], #[.slice none 0 0, .slice none 0 0], []⟩ 8 (by kernel_rfl) (by kernel_rfl) (by kernel_rfl) (by kernel_rfl)) ?_
  intro W base args ds gs before hval0 hW hcnd _
  have hval : ∀ (j : Nat) t v, Try.f9.params[j]? = some t → args[j]? = some v → Value.okWide Try.prog W .any base t v := hval0
  have hW' := hW
  obtain ⟨p, q, hA0, hV, rfl, hfz, hnd⟩ := hW
  have hA : DataW.TrodAll enc Try.prog W 0 (fun _ => true) true Try.f9.params.toList args.toList ds p := hA0
  rw [Try.params9] at hA hval
  obtain ⟨v0, vs0, d0, ds0, p0, q0, hargs, rfl, rfl, h0, r0⟩ := trodAll_cons hA
  obtain ⟨v1, vs1, d1, ds1, p1, q1, rfl, rfl, rfl, h1, r1⟩ := trodAll_cons r0
  obtain ⟨rfl, rfl, rfl⟩ := trodAll_nil r1
  obtain rfl : args = #[v0, v1] := by cases args; simp_all
  obtain ⟨rfl, rfl⟩ := trodVars_none hV
  have z0 := h0
  have lt0 : ∀ x ∈ p0, x.block < W.heap.size := by obtain ⟨m, hm⟩ := z0; exact DataW.trod_lt m _ _ _ hm
  obtain ⟨a0, l0, c0, xs0, rfl, fit0⟩ := open_tables (hval 0 40 v0 rfl rfl) h0
  have z1 := h1
  have lt1 : ∀ x ∈ p1, x.block < W.heap.size := by obtain ⟨m, hm⟩ := z1; exact DataW.trod_lt m _ _ _ hm
  obtain ⟨a1, l1, c1, xs1, rfl, fit1⟩ := open_values (hval 1 44 v1 rfl rfl) h1
  clear hA0 hval0
  refine (walk a0 l0 c0 xs0 a1 l1 c1 xs1 W fit0 fit1).mono fun e W' ⟨he, bel⟩ => ?_
  subst he
  exact ⟨_, rfl, _, _, _, [], _, [], hW', trodAll_mk1 (shut_bool Try.underlying4 _), (trodAll_cons_mk (Below.trod laidOut (by kernel_rfl) (of_decide_eq_true (by kernel_rfl)) z0 bel lt0) (trodAll_cons_mk (Below.trod laidOut (by kernel_rfl) (of_decide_eq_true (by kernel_rfl)) z1 bel lt1) trodAll_mk0)), rfl, bel.frame _, fun h => by cases h⟩

theorem over : Rows.fnExactHasRowRow.holds Try.pinned (OpenSpec.ofChange Rows.fnExactHasRowSpec) :=
  OpenClaim.holds_of_wide 9 Try.f9 rfl rfl rfl rfl rfl rfl rfl ⟨rfl, rfl, rfl, rfl, rfl⟩ rfl rfl rfl rfl rfl (by kernel_rfl) Try.func9 (by kernel_rfl)
    (of_decide_eq_true (by kernel_rfl)) (by unfold Func.isWrapper; first | (rw [if_pos (by decide +kernel)]; kernel_rfl) | (rw [if_neg (by decide +kernel)]; exact ⟨rfl, rfl⟩))
    (fun os started H enc _ => lifted os started H enc)

theorem proved : Rows.FnExactHasRowSaid := over

end Go.Proofs.Ytakidcehebpmkaa.hasRow
