/-
  For every slice of slices of values, laws.FnExactMakeTable returns true and leaves its argument as it was. No condition.
-/
import Derived.Test.YteoepnadjkjlmaaHeldM
import Derived.Test.YteoepnadjkjlmaaMade
import Derived.Test.YteoepnadjkjlmaaOpenT
import Derived.Test.YteoepnadjkjlmaaRows
namespace Go.Proofs.Yteoepnadjkjlmaa.makeTable
open Go.ChangeShapes Go.WideShapes Go.ChangeAt Go.RowKit Go.Joins
set_option linter.unusedVariables false

set_option maxRecDepth 100000 in
set_option maxHeartbeats 4000000 in
theorem walk (A : Option Addr) (l c : Nat) (rows : List Row) (w : World) (f0 : FitT w A l rows) :
    Calls Try.prog 3 #[.slice A l c] w fun e w' => e = .returned (.bool true) ∧ Below w.heap.size w w' := by
  obtain ⟨rfl, hr, hl, hv⟩ := f0
  go_enter Try.func3, Try.ntmps3
  go_wp2_with fail
  refine (sz_tables A c rows _ _ hr hl (fun r h => ⟨(hv r h).1, fun v h' => ((hv r h).2 v h').2.2⟩) (by omega) (by omega)).mono ?_
  rintro e w1 ⟨rfl, hb1⟩
  go_wp2_with fail
  · go_ret
    exact ⟨rfl, hb1⟩
  have hp1 : 0 ≤ szC (costT rows) 1048576 := by assumption
  obtain ⟨hc1, hc2⟩ := szC_pos hp1
  have hn1 : rows.length ≤ 1048576 := by have := len_le_costT rows; omega
  have hn2 : ∀ r ∈ rows, r.length ≤ 1048576 := fun r h => by have h1 := cost_le_costT rows r h; have h2 := len_cost r; omega
  have hn3 : ∀ r ∈ rows, r.length ≤ 1048576 ∧ ∀ v ∈ r, v.t.size ≤ maxLen := fun r h => ⟨hn2 r h, fun v h' => ((hv r h).2 v h').2.2⟩
  have HN2 := Lib.hid hn2
  have HN3 := Lib.hid hn3
  have HR := Lib.hid hr
  have hsr : costT rows ≤ 1048576 := by omega
  clear hn2 hn3 hr hv
  refine (to_tables A c rows _ (HR.out.to_ hb1) hn1 HN2.out).mono ?_
  rintro e w2 ⟨rfl, ⟨gs2, ho2⟩, hb2⟩
  have hB2 := below_next hb1 hb2 rfl rfl
  go_wp2_with fail
  refine (spec_make _ _ _ rows _ ho2.tabB (Nat.le_refl _) (by omega) HN3.out).mono ?_
  rintro e w3 ⟨A0, c0, out0, rfl, hT0, hI0, hlo, hb3⟩
  have hB3 := below_next hB2 hb3 rfl rfl
  have HT0 := Lib.hid hT0
  have HI0 := Lib.hid hI0
  clear ho2 hT0 hI0
  go_wp2_with fail
  refine (to_tables A c rows _ (HR.out.to_ hB3) hn1 HN2.out).mono ?_
  rintro e w4 ⟨rfl, ⟨gs4, ho4⟩, hb4⟩
  have hB4 := below_next hB3 hb4 rfl rfl
  have HO4 := Lib.hid ho4
  clear ho4
  go_wp2_with fail
  refine (impl_make _ _ rows _ HO4.out.tab hn1 HN3.out).mono ?_
  rintro e w5 ⟨⟨v5, rfl, hm5⟩, hb5⟩
  have hB5 := below_next hB4 hb5 rfl rfl
  obtain ⟨A5, c5, qs, rfl, hG5, hI5, hnd5, hp5, hA5, hq5, hs5⟩ := made_of hm5
  obtain rfl : out0 = qs.map (·.2) := tab_unique HI0.out hI5
  have hlen : (qs.map (·.2)).length = qs.length := by simp
  have hq2 : ∀ r ∈ qs.map (·.2), r.length ≤ 1048576 := by
    intro r hr
    rcases hI5 with ⟨_, e⟩ | ⟨_, _, hm⟩
    · rw [e] at hr; simp at hr
    · exact HN2.out r ((hm r).1 hr)
  have HQ2 := Lib.hid hq2
  have HG5 := Lib.hid hG5
  have HND5 := Lib.hid hnd5
  have HP5 := Lib.hid hp5
  have HA5 := Lib.hid hA5
  have hb35 := below_next hb4 hb5 rfl rfl
  have E6 := fun W (h1 : TabAt W W.heap.size A5 (qs.map (·.2))) (h2 : TabAt W W.heap.size A0 (qs.map (·.2))) => eq_tables A5 A0 c5 c0 (qs.map (·.2)) W h1 h2 (by rw [hlen]; omega) HQ2.out
  rw [hlen] at E6
  have EQ6 := Lib.hid E6
  clear hm5 hG5 hI5 hnd5 hp5 hA5 hq2 hlen hlo E6
  go_wp2_with fail
  refine (EQ6.out _ HG5.out.tab (HT0.out.to_ hb35)).mono ?_
  rintro e w6 ⟨rfl, hb6⟩
  have hB6 := below_next hB5 hb6 rfl rfl
  go_wp2_with fail
  refine (to_tables A c rows _ (HR.out.to_ hB6) hn1 HN2.out).mono ?_
  rintro e w7 ⟨rfl, ⟨gs7, ho7⟩, hb7⟩
  have hB7 := below_next hB6 hb7 rfl rfl
  have hb57 := below_next hb6 hb7 rfl rfl
  have hb47 := below_next hb5 hb57 rfl rfl
  go_wp2_with fail
  refine (eq_tables _ _ _ _ rows _ (HO4.out.tab.to_ hb47) ho7.tab hn1 HN2.out).mono ?_
  rintro e w8 ⟨rfl, hb8⟩
  have hB8 := below_next hB7 hb8 rfl rfl
  have hb48 := below_next hb47 hb8 rfl rfl
  have hb58 := below_next hb57 hb8 rfl rfl
  have hb38 := below_next hb4 hb48 rfl rfl
  have hgl : gs4.length = rows.length := HO4.out.1.1
  have hzl : (gs4.zip rows).length = rows.length := by simp; omega
  have hz3 : sumP (gs4.zip rows) ≤ 1048576 := by
    have := sumP_rows (gs4.zip rows)
    rw [zip_snd hgl] at this
    omega
  have M8 := mark_table (some ⟨w3.heap.size, 0, none⟩) rows.length 1 (gs4.zip rows) w8 ((own_out HO4.out).below hb48) (by rw [zip_fst hgl]; exact HO4.out.2.2.2.2) (Nat.le_refl _) (by omega) (by rw [hzl]; exact hn1) hz3
  rw [hzl] at M8
  have MK8 := Lib.hid M8
  have HGL := Lib.hid hgl
  have hS4 := Lib.hid (show ∀ x ∈ gs4, w3.heap.size ≤ x ∧ x < w4.heap.size from fun x hx => ⟨(HO4.out.2.2.2.1 x hx).1, by
    obtain ⟨i, hi, rfl⟩ := List.getElem_of_mem hx
    have h2 : i < rows.length := by omega
    exact (HO4.out.1.2 i _ _ (List.getElem?_eq_getElem hi) (List.getElem?_eq_getElem h2)).lt⟩)
  clear M8 hgl hzl ho7
  go_wp2_with fail
  refine MK8.out.mono ?_
  rintro e w9 ⟨rfl, _, hgs9⟩
  rw [zip_fst HGL.out] at hgs9
  have hz30 := hB3.size
  have hz38 := hb38.size
  have hz48 := hb48.size
  have hb89 : Below w3.heap.size w8 w9 := grownS_below hgs9 (fun x hx => (hS4.out x hx).1) hz38
  have hB9 : Below w.heap.size w w9 := hB8.trans (hb89.mono hz30)
  have hT9 := Lib.hid (show TabAt w9 w9.heap.size A0 (qs.map (·.2)) from ((HT0.out.below hb38 (Nat.le_refl _)).below hb89 (Nat.le_refl _)).mono (by have := hb89.size; omega))
  have hT9b := Lib.hid (show TabAt w9 w3.heap.size A0 (qs.map (·.2)) from (HT0.out.below hb38 (Nat.le_refl _)).below hb89 (Nat.le_refl _))
  have hG9 := Lib.hid (tabG_kept (B := w4.heap.size) (HG5.out.below hb58) hgs9 (fun x hx => (hS4.out x hx).2) HA5.out HP5.out)
  have hk0 : ¬ (((1 + 3 * sumP (gs4.zip rows) : Nat) : Int) < 0) := by omega
  have hk1 : decide (((1 + 3 * sumP (gs4.zip rows) : Nat) : Int) < 0) = false := by simpa using hk0
  generalize ((1 + 3 * sumP (gs4.zip rows) : Nat) : Int) = K at *
  clear hgs9
  go_wp2_with fail
  refine (EQ6.out _ hG9.out.tab hT9.out).mono ?_
  rintro e w10 ⟨rfl, hb10⟩
  have hB10 := below_next hB9 hb10 rfl rfl
  have MK10 := Lib.hid (mark_table A5 c5 1 qs w10 (hG9.out.below hb10) HND5.out (Nat.le_refl _) (by omega) (by omega) (by omega))
  go_wp2_with fail
  refine MK10.out.mono ?_
  rintro e w11 ⟨rfl, hG11, hgs11⟩
  have hz910 := hb10.size
  have hz89 := hb89.size
  have hz34 := hb4.size
  have hS5 := Lib.hid (show ∀ x ∈ qs.map (·.1), w4.heap.size ≤ x from fun x hx => by
    rw [List.mem_map] at hx
    obtain ⟨p, hp, rfl⟩ := hx
    exact HP5.out p hp)
  have hb1011 : Below w4.heap.size w10 w11 := grownS_below hgs11 hS5.out (by omega)
  have hB11 : Below w.heap.size w w11 := hB10.trans (hb1011.mono (by omega))
  have hT11 := Lib.hid (show TabAt w11 w3.heap.size A0 (qs.map (·.2)) from (hT9b.out.below hb10 (by omega)).below hb1011 hz34)
  have HG11 := Lib.hid hG11
  have HS := Lib.hid hs5
  have hk2 : 0 ≤ ((1 + 3 * sumP qs : Nat) : Int) := by omega
  have hk3 : ¬ (((1 + 3 * sumP qs : Nat) : Int) < 0) := by omega
  have hk4 : decide (((1 + 3 * sumP qs : Nat) : Int) < 0) = false := by simpa using hk3
  have hz411 : w4.heap.size ≤ w11.heap.size := by have := hb1011.size; omega
  clear hgs11 hG11 hs5
  have HD := Lib.hid (fun W (h : TabG W A5 (markP 1 qs)) => held_table A5 c5 1 qs W h (Nat.le_refl _) (by omega) (by omega) (by have := HS.out; omega))
  generalize hQ : ((1 + 3 * sumP qs : Nat) : Int) = Q at *
  go_wp2_with fail
  refine (HD.out _ HG11.out).mono ?_
  rintro e w12 ⟨rfl, hb12⟩
  have hB12 := below_next hB11 hb12 rfl rfl
  go_wp2_with fail
  refine (to_tables A c rows _ (HR.out.to_ hB12) hn1 HN2.out).mono ?_
  rintro e w13 ⟨rfl, ⟨gs13, ho13⟩, hb13⟩
  have hB13 := below_next hB12 hb13 rfl rfl
  have hb1113 := below_next hb12 hb13 rfl rfl
  go_wp2_with fail
  refine (impl_make _ _ rows _ ho13.tab hn1 HN3.out).mono ?_
  rintro e w14 ⟨⟨v14, rfl, hm14⟩, hb14⟩
  have hB14 := below_next hB13 hb14 rfl rfl
  have hb1114 := below_next hb1113 hb14 rfl rfl
  obtain ⟨A14, c14, rs, rfl, hG14, hI14, _, _, _, _, _⟩ := made_of hm14
  have hrs : rs.map (·.2) = qs.map (·.2) := tab_unique hI14 HI0.out
  have hrl : rs.length = qs.length := by have := congrArg List.length hrs; simpa using this
  have hT14 := hG14.tab
  rw [hrs] at hT14
  have E14 := eq_tables A14 A0 c14 c0 (qs.map (·.2)) w14 hT14 ((hT11.out.below hb1114 (by omega)).mono (by have := hb1114.size; omega)) (by simp; omega) HQ2.out
  rw [List.length_map] at E14
  have EQ14 := Lib.hid E14
  rw [hrl]
  clear hm14 hG14 hI14 hrs hrl hT14 E14 ho13
  go_wp2_with fail
  refine EQ14.out.mono ?_
  rintro e w15 ⟨rfl, hb15⟩
  have hB15 := below_next hB14 hb15 rfl rfl
  have hb1115 := below_next hb1114 hb15 rfl rfl
  go_wp2_with fail
  refine (HD.out _ (HG11.out.below hb1115)).mono ?_
  rintro e w16 ⟨rfl, hb16⟩
  have hB16 := below_next hB15 hb16 rfl rfl
  go_wp2_with fail
  go_ret
  exact ⟨rfl, hB16⟩

set_option maxRecDepth 100000 in
theorem lifted (os : Os) (started : os.Started) (H : Type) (enc : TypeId × Value → H) :
    ReturnsInHanded {} Try.checked os 3 .any (Rows.fnExactMakeTableSpec.pre6 enc Try.prog Try.f3 Rows.fnExactMakeTableRow.domain false) (Rows.fnExactMakeTableSpec.post enc Try.prog Try.f3 false true false false) := by
  refine returnsInHanded_of_change (C := Try.checked) own started (by kernel_rfl) Try.func3
    (ChangeSpec.witness6 (enc := enc) (C := Try.checked) false ⟨#[], #[.slice none 0 0], []⟩ 8 (by kernel_rfl) (by kernel_rfl) (by kernel_rfl) (by kernel_rfl)) ?_
  intro W base args ds gs before hval0 hW hcnd _
  have hval : ∀ (j : Nat) t v, Try.f3.params[j]? = some t → args[j]? = some v → Value.okWide Try.prog W .any base t v := hval0
  have hW' := hW
  obtain ⟨p, q, hA0, hV, rfl, hfz, hnd⟩ := hW
  have hA : DataW.TrodAll enc Try.prog W 0 (fun _ => true) true Try.f3.params.toList args.toList ds p := hA0
  rw [Try.params3] at hA hval
  obtain ⟨v0, vs0, d0, ds0, p0, q0, hargs, rfl, rfl, h0, r0⟩ := trodAll_cons hA
  obtain ⟨rfl, rfl, rfl⟩ := trodAll_nil r0
  obtain rfl : args = #[v0] := by cases args; simp_all
  obtain ⟨rfl, rfl⟩ := trodVars_none hV
  have z0 := h0
  have lt0 : ∀ x ∈ p0, x.block < W.heap.size := by obtain ⟨m, hm⟩ := z0; exact DataW.trod_lt m _ _ _ hm
  obtain ⟨a0, l0, c0, xs0, rfl, fit0⟩ := open_tables (hval 0 22 v0 rfl rfl) h0
  clear hA0 hval0
  refine (walk a0 l0 c0 xs0 W fit0).mono fun e W' ⟨he, bel⟩ => ?_
  subst he
  exact ⟨_, rfl, _, _, _, [], _, [], hW', trodAll_mk1 (shut_bool Try.underlying4 _), (trodAll_cons_mk (Below.trod laidOut (by kernel_rfl) (of_decide_eq_true (by kernel_rfl)) z0 bel lt0) trodAll_mk0), rfl, bel.frame _, fun h => by cases h⟩

theorem over : Rows.fnExactMakeTableRow.holds Try.pinned (OpenSpec.ofChange Rows.fnExactMakeTableSpec) :=
  OpenClaim.holds_of_wide 3 Try.f3 rfl rfl rfl rfl rfl rfl rfl ⟨rfl, rfl, rfl, rfl, rfl⟩ rfl rfl rfl rfl rfl (by kernel_rfl) Try.func3 (by kernel_rfl)
    (of_decide_eq_true (by kernel_rfl)) (by unfold Func.isWrapper; first | (rw [if_pos (by decide +kernel)]; kernel_rfl) | (rw [if_neg (by decide +kernel)]; exact ⟨rfl, rfl⟩))
    (fun os started H enc _ => lifted os started H enc)

theorem proved : Rows.FnExactMakeTableSaid := over

end Go.Proofs.Yteoepnadjkjlmaa.makeTable
