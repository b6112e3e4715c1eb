/-
  For every slice of slices of values, laws.FnExactTableOk returns true and leaves its argument as it was. No condition.
-/
import Derived.Test.YtakidcehebpmkaaTabOkS
import Derived.Test.YtakidcehebpmkaaTabMake
import Derived.Test.YtakidcehebpmkaaOpenT
import Derived.Test.YtakidcehebpmkaaRows
namespace Go.Proofs.Ytakidcehebpmkaa.tableOk
open Go.ChangeShapes Go.WideShapes Go.ChangeAt Go.RowKit Go.Joins
set_option linter.unusedVariables false

set_option maxHeartbeats 1000000 in
theorem walk (A : Option Addr) (l c : Nat) (rows : List (List GV)) (w : World) (f0 : FitT w A l rows) :
    Calls Try.prog 6 #[.slice A l c] w fun e w' => e = .returned (.bool true) ∧ Below w.heap.size w w' := by
  obtain ⟨rfl, hr, hl, hv⟩ := f0
  go_enter Try.func6, Try.ntmps6
  go_wp2_with fail
  refine (sz_tables A c rows _ _ hr hl (fun r h => ⟨(hv r h).1, fun v h' => ((hv r h).2 v h').2.2⟩) (by omega) (by omega)).mono ?_
  rintro e w1 ⟨rfl, hb1⟩
  go_wp2_with fail
  · go_ret
    exact ⟨rfl, hb1⟩
  have hp1 : 0 ≤ szC (costT rows) 1048576 := by assumption
  obtain ⟨hc1, hc2⟩ := szC_pos hp1
  have hn1 : rows.length ≤ 1048576 := by have := len_le_costT rows; omega
  have hn2 : ∀ r ∈ rows, r.length ≤ 1048576 := fun r h => by have h1 := cost_le_costT rows r h; have h2 := len_cost r; omega
  have hn3 : ∀ r ∈ rows, r.length ≤ 1048576 ∧ ∀ v ∈ r, v.t.size ≤ maxLen := fun r h => ⟨hn2 r h, fun v h' => ((hv r h).2 v h').2.2⟩
  refine (to_tables A c rows _ (hr.to_ hb1) hn1 hn2).mono ?_
  rintro e w2 ⟨rfl, ⟨gs2, ho2⟩, hb2⟩
  have hB2 := below_next hb1 hb2 rfl rfl
  go_wp2_with fail
  refine (spec_tableOk _ _ rows _ ho2.tab hn1 hn3).mono ?_
  rintro e w3 ⟨rfl, hb3⟩
  have hB3 := below_next hB2 hb3 rfl rfl
  go_wp2_with fail
  refine (to_tables A c rows _ (hr.to_ hB3) hn1 hn2).mono ?_
  rintro e w4 ⟨rfl, ⟨gs4, ho4⟩, hb4⟩
  have hB4 := below_next hB3 hb4 rfl rfl
  go_wp2_with fail
  refine (impl_tableOk _ _ rows _ ho4.tab hn1 hn3).mono ?_
  rintro e w5 ⟨rfl, hb5⟩
  have hB5 := below_next hB4 hb5 rfl rfl
  go_wp2_with fail
  refine (to_tables A c rows _ (hr.to_ hB5) hn1 hn2).mono ?_
  rintro e w6 ⟨rfl, ⟨gs6, ho6⟩, hb6⟩
  have hB6 := below_next hB5 hb6 rfl rfl
  have hb56 := below_next hb5 hb6 rfl rfl
  go_wp2_with fail
  refine (eq_tables _ _ _ _ rows _ (ho4.tab.to_ hb56) ho6.tab hn1 hn2).mono ?_
  rintro e w7 ⟨rfl, hb7⟩
  have hB7 := below_next hB6 hb7 rfl rfl
  go_wp2_with fail
  go_ret
  exact ⟨rfl, hB7⟩

set_option maxRecDepth 100000 in
theorem lifted (os : Os) (started : os.Started) (H : Type) (enc : TypeId × Value → H) :
    ReturnsInHanded {} Try.checked os 6 .any (Rows.fnExactTableOkSpec.pre6 enc Try.prog Try.f6 Rows.fnExactTableOkRow.domain false) (Rows.fnExactTableOkSpec.post enc Try.prog Try.f6 false true false false) := by
  refine returnsInHanded_of_change (C := Try.checked) own started (by kernel_rfl) Try.func6
    (ChangeSpec.witness6 (enc := enc) (C := Try.checked) false ⟨#[], #[.slice none 0 0], []⟩ 8 (by kernel_rfl) (by kernel_rfl) (by kernel_rfl) (by kernel_rfl)) ?_
  intro W base args ds gs before hval0 hW hcnd _
  have hval : ∀ (j : Nat) t v, Try.f6.params[j]? = some t → args[j]? = some v → Value.okWide Try.prog W .any base t v := hval0
  have hW' := hW
  obtain ⟨p, q, hA0, hV, rfl, hfz, hnd⟩ := hW
  have hA : DataW.TrodAll enc Try.prog W 0 (fun _ => true) true Try.f6.params.toList args.toList ds p := hA0
  rw [Try.params6] at hA hval
  obtain ⟨v0, vs0, d0, ds0, p0, q0, hargs, rfl, rfl, h0, r0⟩ := trodAll_cons hA
  obtain ⟨rfl, rfl, rfl⟩ := trodAll_nil r0
  obtain rfl : args = #[v0] := by cases args; simp_all
  obtain ⟨rfl, rfl⟩ := trodVars_none hV
  have z0 := h0
  have lt0 : ∀ x ∈ p0, x.block < W.heap.size := by obtain ⟨m, hm⟩ := z0; exact DataW.trod_lt m _ _ _ hm
  obtain ⟨a0, l0, c0, xs0, rfl, fit0⟩ := open_tables (hval 0 40 v0 rfl rfl) h0
  clear hA0 hval0
  refine (walk a0 l0 c0 xs0 W fit0).mono fun e W' ⟨he, bel⟩ => ?_
  subst he
  exact ⟨_, rfl, _, _, _, [], _, [], hW', trodAll_mk1 (shut_bool Try.underlying4 _), (trodAll_cons_mk (Below.trod laidOut (by kernel_rfl) (of_decide_eq_true (by kernel_rfl)) z0 bel lt0) trodAll_mk0), rfl, bel.frame _, fun h => by cases h⟩

theorem over : Rows.fnExactTableOkRow.holds Try.pinned (OpenSpec.ofChange Rows.fnExactTableOkSpec) :=
  OpenClaim.holds_of_wide 6 Try.f6 rfl rfl rfl rfl rfl rfl rfl ⟨rfl, rfl, rfl, rfl, rfl⟩ rfl rfl rfl rfl rfl (by kernel_rfl) Try.func6 (by kernel_rfl)
    (of_decide_eq_true (by kernel_rfl)) (by unfold Func.isWrapper; first | (rw [if_pos (by decide +kernel)]; kernel_rfl) | (rw [if_neg (by decide +kernel)]; exact ⟨rfl, rfl⟩))
    (fun os started H enc _ => lifted os started H enc)

theorem proved : Rows.FnExactTableOkSaid := over

end Go.Proofs.Ytakidcehebpmkaa.tableOk
