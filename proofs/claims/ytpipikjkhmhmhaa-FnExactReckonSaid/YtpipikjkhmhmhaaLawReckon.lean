/-
  For every list of nodes, names and values, laws.FnExactReckon returns true and leaves its arguments as they were. No condition.
-/
import Derived.Test.YtpipikjkhmhmhaaReckY
import Derived.Test.YtpipikjkhmhmhaaSzNode
import Derived.Test.YtpipikjkhmhmhaaSzStr
import Derived.Test.YtpipikjkhmhmhaaSzVs
import Derived.Test.YtpipikjkhmhmhaaToNode
import Derived.Test.YtpipikjkhmhmhaaToStr
import Derived.Test.YtpipikjkhmhmhaaToVs
import Derived.Test.YtpipikjkhmhmhaaEqNode
import Derived.Test.YtpipikjkhmhmhaaEqStr
import Derived.Test.YtpipikjkhmhmhaaEqVs
import Derived.Test.YtpipikjkhmhmhaaOpenN
import Derived.Test.YtpipikjkhmhmhaaOpenS
import Derived.Test.YtpipikjkhmhmhaaOpenVs
import Derived.Test.YtpipikjkhmhmhaaRows
namespace Go.Proofs.Ytpipikjkhmhmhaa.reckon
open Go.ChangeShapes Go.WideShapes Go.ChangeAt Go.RowKit Go.Joins
set_option linter.unusedVariables false

set_option maxRecDepth 100000 in
set_option maxHeartbeats 4000000 in
theorem walk (A0 : Option Addr) (c0 : Nat) (es : List GNode) (A1 : Option Addr) (c1 : Nat) (names : List ByteArray) (A2 : Option Addr) (c2 : Nat) (vals : List GV) (w : World) (f0 : fitNodes es) (s0 : NodesAt w 0 w.heap.size A0 es) (f1 : fitStrs names) (s1 : StrsAt w 0 w.heap.size A1 names) (f2 : fitValues vals) (s2 : ValuesAt w 0 w.heap.size A2 vals) :
    Calls Try.prog 6 #[.slice A0 es.length c0, .slice A1 names.length c1, .slice A2 vals.length c2] w fun e w' => e = .returned (.bool true) ∧ Below w.heap.size w w' := by
  have S0 := Lib.hid s0
  have S1 := Lib.hid s1
  have S2 := Lib.hid s2
  clear s0 s1 s2
  have hB0 : Below w.heap.size w w := Below.refl _ _
  go_enter Try.func6, Try.ntmps6
  go_wp2_with fail
  refine (sz_Nodes A0 c0 es _ _ f0 (S0.out.to_ hB0) (by omega) (by omega)).mono ?_
  rintro e w1 ⟨rfl, hb1⟩
  have hB1 := below_next hB0 hb1 rfl rfl
  go_wp2_with fail
  · go_ret
    exact ⟨rfl, hB1⟩
  have hp0 : 0 ≤ szC (costNodes es) (1048576 : Int) := by assumption
  obtain ⟨hq0, hr0⟩ := szC_pos hp0
  have hu0 : szC (costNodes es) (1048576 : Int) = (1048576 : Int) - (costNodes es : Int) := by unfold szC at hp0 ⊢; split <;> omega
  generalize szC (costNodes es) (1048576 : Int) = L0 at *
  have HU0 := Lib.hid hu0
  clear hu0
  refine (sz_Strs A1 c1 names _ _ f1 (S1.out.to_ hB1) (by omega) (by omega)).mono ?_
  rintro e w2 ⟨rfl, hb2⟩
  have hB2 := below_next hB1 hb2 rfl rfl
  go_wp2_with fail
  · go_ret
    exact ⟨rfl, hB2⟩
  have hp1 : 0 ≤ szC (costStrs names) L0 := by assumption
  obtain ⟨hq1, hr1⟩ := szC_pos hp1
  have hu1 : szC (costStrs names) L0 = L0 - (costStrs names : Int) := by unfold szC at hp1 ⊢; split <;> omega
  generalize szC (costStrs names) L0 = L1 at *
  have HU1 := Lib.hid hu1
  clear hu1
  refine (sz_Values A2 c2 vals _ _ f2 (S2.out.to_ hB2) (by omega) (by omega)).mono ?_
  rintro e w3 ⟨rfl, hb3⟩
  have hB3 := below_next hB2 hb3 rfl rfl
  go_wp2_with fail
  · go_ret
    exact ⟨rfl, hB3⟩
  have hp2 : 0 ≤ szC (costValues vals) L1 := by assumption
  obtain ⟨hq2, hr2⟩ := szC_pos hp2
  have hu2 : szC (costValues vals) L1 = L1 - (costValues vals : Int) := by unfold szC at hp2 ⊢; split <;> omega
  generalize szC (costValues vals) L1 = L2 at *
  have HU2 := Lib.hid hu2
  clear hu2
  have hk0 : costNodes es ≤ 1048576 := by have := HU0.out; have := HU1.out; have := HU2.out; omega
  have hk1 : costStrs names ≤ 1048576 := by have := HU0.out; have := HU1.out; have := HU2.out; omega
  have hk2 : costValues vals ≤ 1048576 := by have := HU0.out; have := HU1.out; have := HU2.out; omega
  have hnl : names.length ≤ 1048576 := by unfold costStrs at hk1; omega
  clear hp0 hp1 hp2 hq0 hq1 hq2 hr0 hr1 hr2 HU0 HU1 HU2
  refine (to_Nodes A0 c0 es _ hk0 (S0.out.to_ hB3)).mono ?_
  rintro e w4 ⟨p0A, p0c, rfl, ⟨p0q, p0d⟩, _, hb4⟩
  have hB4 := below_next hB3 hb4 rfl rfl
  have p0H := Lib.hid p0d
  clear p0d
  go_wp2_with fail
  refine (to_Strs A1 c1 names _ hk1 (S1.out.to_ hB4)).mono ?_
  rintro e w5 ⟨p1A, p1c, rfl, p1d, _, hb5⟩
  have hB5 := below_next hB4 hb5 rfl rfl
  have p1H := Lib.hid p1d
  clear p1d
  go_wp2_with fail
  refine (to_Values A2 c2 vals _ hk2 (S2.out.to_ hB5)).mono ?_
  rintro e w6 ⟨p2A, p2c, rfl, ⟨p2q, p2d⟩, _, hb6⟩
  have hB6 := below_next hB5 hb6 rfl rfl
  have p2H := Lib.hid p2d
  clear p2d
  go_wp2_with fail
  refine (spec_Reckon p0A p1A p2A p0c p1c p2c es names vals _ hk0 p0q f0 ((p0H.out.to_ hb5).to_ hb6) (p1H.out.to_ hb6) hnl p2H.out f2 hk2).mono ?_
  rintro e w7 ⟨rfl, hb7⟩
  have hB7 := below_next hB6 hb7 rfl rfl
  rw [resV_eq]
  obtain ⟨v, hv⟩ : ∃ v, valO (reckD es names vals) = v := ⟨_, rfl⟩
  obtain ⟨b, hb⟩ : ∃ b, (reckD es names vals).isSome = b := ⟨_, rfl⟩
  have HV := Lib.hid hv
  have HBB := Lib.hid hb
  rw [hv, hb]
  clear hv hb
  have HG := Lib.hid (new_at w7 _ rfl (.int .i64 v.k) (.int .i64 v.n) (.string v.t))
  have hAl : Below w7.heap.size w7 (w7.alloc (.cells #[.int .i64 v.k, .int .i64 v.n, .string v.t] 28)) := (Below.refl _ _).alloc (Nat.le_refl _) _
  go_wp2_with fail
  have hb8 := hAl
  have hB8 := below_next hB7 hAl rfl rfl
  clear hAl
  generalize w7.alloc (.cells #[.int .i64 v.k, .int .i64 v.n, .string v.t] 28) = w8 at *
  refine (to_Nodes A0 c0 es _ hk0 (S0.out.to_ hB8)).mono ?_
  rintro e w9 ⟨x0A, x0c, rfl, ⟨x0q, x0d⟩, _, hb9⟩
  have hB9 := below_next hB8 hb9 rfl rfl
  have x0H := Lib.hid x0d
  clear x0d
  go_wp2_with fail
  refine (to_Strs A1 c1 names _ hk1 (S1.out.to_ hB9)).mono ?_
  rintro e w10 ⟨x1A, x1c, rfl, x1d, _, hb10⟩
  have hB10 := below_next hB9 hb10 rfl rfl
  have x1H := Lib.hid x1d
  clear x1d
  go_wp2_with fail
  refine (to_Values A2 c2 vals _ hk2 (S2.out.to_ hB10)).mono ?_
  rintro e w11 ⟨x2A, x2c, rfl, ⟨x2q, x2d⟩, _, hb11⟩
  have hB11 := below_next hB10 hb11 rfl rfl
  have x2H := Lib.hid x2d
  clear x2d
  go_wp2_with fail
  refine (impl_Reckon x0A x1A x2A x0c x1c x2c es names vals _ hk0 x0q f0 ((x0H.out.to_ hb10).to_ hb11) (x1H.out.to_ hb11) hnl x2H.out f2 hk2).mono ?_
  rintro e w12 ⟨rfl, hb12⟩
  have hB12 := below_next hB11 hb12 rfl rfl
  rw [resV_eq, HV.out, HBB.out]
  have HGn := HG.out
  have HGn := HGn.below hb9 HGn.lt
  have HGn := HGn.below hb10 HGn.lt
  have HGn := HGn.below hb11 HGn.lt
  have HGn := HGn.below hb12 HGn.lt
  obtain ⟨y0, y1, y2⟩ := cells3_ HGn
  have hzG := HGn.lt
  have hbb : (b != b) = false := by simp
  have HR := Lib.hid (new_at w12 _ rfl (.int .i64 v.k) (.int .i64 v.n) (.string v.t))
  have hAl : Below w12.heap.size w12 (w12.alloc (.cells #[.int .i64 v.k, .int .i64 v.n, .string v.t] 28)) := (Below.refl _ _).alloc (Nat.le_refl _) _
  go_wp2_with fail
  have hb13 := hAl
  have hB13 := below_next hB12 hAl rfl rfl
  clear hAl
  generalize w12.alloc (.cells #[.int .i64 v.k, .int .i64 v.n, .string v.t] 28) = w13 at *
  refine (eq_Value v _).mono ?_
  rintro e w14 ⟨rfl, hb14⟩
  have hB14 := below_next hB13 hb14 rfl rfl
  clear y0 y1 y2 hzG
  go_wp2_with fail
  refine (to_Nodes A0 c0 es _ hk0 (S0.out.to_ hB14)).mono ?_
  rintro e w15 ⟨y0A, y0c, rfl, ⟨y0q, y0d⟩, _, hb15⟩
  have hB15 := below_next hB14 hb15 rfl rfl
  have y0H := Lib.hid y0d
  clear y0d
  go_wp2_with fail
  refine (eq_Nodes x0A y0A x0c y0c es _ (by omega) ((((((x0H.out.to_ hb10).to_ hb11).to_ hb12).to_ hb13).to_ hb14).to_ hb15) y0H.out).mono ?_
  rintro e w16 ⟨rfl, hb16⟩
  have hB16 := below_next hB15 hb16 rfl rfl
  go_wp2_with fail
  refine (to_Strs A1 c1 names _ hk1 (S1.out.to_ hB16)).mono ?_
  rintro e w17 ⟨y1A, y1c, rfl, y1d, _, hb17⟩
  have hB17 := below_next hB16 hb17 rfl rfl
  have y1H := Lib.hid y1d
  clear y1d
  go_wp2_with fail
  refine (eq_Strs x1A y1A x1c y1c names _ (by omega) (((((((x1H.out.to_ hb11).to_ hb12).to_ hb13).to_ hb14).to_ hb15).to_ hb16).to_ hb17) y1H.out).mono ?_
  rintro e w18 ⟨rfl, hb18⟩
  have hB18 := below_next hB17 hb18 rfl rfl
  go_wp2_with fail
  refine (to_Values A2 c2 vals _ hk2 (S2.out.to_ hB18)).mono ?_
  rintro e w19 ⟨y2A, y2c, rfl, ⟨y2q, y2d⟩, _, hb19⟩
  have hB19 := below_next hB18 hb19 rfl rfl
  have y2H := Lib.hid y2d
  clear y2d
  go_wp2_with fail
  refine (eq_Values x2A y2A x2c y2c vals _ (by omega) ((((((((x2H.out.to_ hb12).to_ hb13).to_ hb14).to_ hb15).to_ hb16).to_ hb17).to_ hb18).to_ hb19) y2H.out).mono ?_
  rintro e w20 ⟨rfl, hb20⟩
  have hB20 := below_next hB19 hb20 rfl rfl
  go_wp2_with fail
  go_ret
  exact ⟨rfl, hB20⟩

set_option maxRecDepth 100000 in
theorem lifted (os : Os) (started : os.Started) (H : Type) (enc : TypeId × Value → H) :
    ReturnsInHanded {} Try.checked os 6 .any (Rows.fnExactReckonSpec.pre6 enc Try.prog Try.f6 Rows.fnExactReckonRow.domain false) (Rows.fnExactReckonSpec.post enc Try.prog Try.f6 false true false false) := by
  refine returnsInHanded_of_change (C := Try.checked) own started (by kernel_rfl) Try.func6
    (ChangeSpec.witness6 (enc := enc) (C := Try.checked) false ⟨#[], #[.slice none 0 0, .slice none 0 0, .slice none 0 0], []⟩ 8 (by kernel_rfl) (by kernel_rfl) (by kernel_rfl) (by kernel_rfl)) ?_
  intro W base args ds gs before hval0 hW hcnd _
  have hval : ∀ (j : Nat) t v, Try.f6.params[j]? = some t → args[j]? = some v → Value.okWide Try.prog W .any base t v := hval0
  have hW' := hW
  obtain ⟨p, q, hA0, hV, rfl, hfz, hnd⟩ := hW
  have hA : DataW.TrodAll enc Try.prog W 0 (fun _ => true) true Try.f6.params.toList args.toList ds p := hA0
  rw [Try.params6] at hA hval
  obtain ⟨v0, vs0, d0, ds0, p0, q0, hargs, rfl, rfl, h0, r0⟩ := trodAll_cons hA
  obtain ⟨v1, vs1, d1, ds1, p1, q1, rfl, rfl, rfl, h1, r1⟩ := trodAll_cons r0
  obtain ⟨v2, vs2, d2, ds2, p2, q2, rfl, rfl, rfl, h2, r2⟩ := trodAll_cons r1
  obtain ⟨rfl, rfl, rfl⟩ := trodAll_nil r2
  obtain rfl : args = #[v0, v1, v2] := by cases args; simp_all
  obtain ⟨rfl, rfl⟩ := trodVars_none hV
  have z0 := h0
  have lt0 : ∀ x ∈ p0, x.block < W.heap.size := by obtain ⟨m, hm⟩ := z0; exact DataW.trod_lt m _ _ _ hm
  obtain ⟨a0, c0, xs0, rfl, fit0, s0⟩ := open_Nodes_arg (hval 0 52 v0 rfl rfl) h0
  have z1 := h1
  have lt1 : ∀ x ∈ p1, x.block < W.heap.size := by obtain ⟨m, hm⟩ := z1; exact DataW.trod_lt m _ _ _ hm
  obtain ⟨a1, c1, xs1, rfl, fit1, s1⟩ := open_Strs_arg (hval 1 53 v1 rfl rfl) h1
  have z2 := h2
  have lt2 : ∀ x ∈ p2, x.block < W.heap.size := by obtain ⟨m, hm⟩ := z2; exact DataW.trod_lt m _ _ _ hm
  obtain ⟨a2, c2, xs2, rfl, fit2, s2⟩ := open_Values_arg (hval 2 54 v2 rfl rfl) h2
  clear hA0 hval0
  refine (walk a0 c0 xs0 a1 c1 xs1 a2 c2 xs2 W fit0 s0 fit1 s1 fit2 s2).mono fun e W' ⟨he, bel⟩ => ?_
  subst he
  exact ⟨_, rfl, _, _, _, [], _, [], hW', trodAll_mk1 (shut_bool Try.underlying4 _), (trodAll_cons_mk (Below.trod laidOut (by kernel_rfl) (of_decide_eq_true (by kernel_rfl)) z0 bel lt0) (trodAll_cons_mk (Below.trod laidOut (by kernel_rfl) (of_decide_eq_true (by kernel_rfl)) z1 bel lt1) (trodAll_cons_mk (Below.trod laidOut (by kernel_rfl) (of_decide_eq_true (by kernel_rfl)) z2 bel lt2) trodAll_mk0))), rfl, bel.frame _, fun h => by cases h⟩

theorem over : Rows.fnExactReckonRow.holds Try.pinned (OpenSpec.ofChange Rows.fnExactReckonSpec) :=
  OpenClaim.holds_of_wide 6 Try.f6 rfl rfl rfl rfl rfl rfl rfl ⟨rfl, rfl, rfl, rfl, rfl⟩ rfl rfl rfl rfl rfl (by kernel_rfl) Try.func6 (by kernel_rfl)
    (of_decide_eq_true (by kernel_rfl)) (by unfold Func.isWrapper; first | (rw [if_pos (by decide +kernel)]; kernel_rfl) | (rw [if_neg (by decide +kernel)]; exact ⟨rfl, rfl⟩))
    (fun os started H enc _ => lifted os started H enc)

theorem proved : Rows.FnExactReckonSaid := over
end Go.Proofs.Ytpipikjkhmhmhaa.reckon
