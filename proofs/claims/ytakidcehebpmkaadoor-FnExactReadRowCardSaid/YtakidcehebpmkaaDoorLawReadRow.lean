/-
  For every text, laws.FnExactReadRow returns true and leaves nothing of old memory changed, where the library's tables and its two errors of strconv lie as their initialisers lay them (the card ties that). No other condition.
-/
import Derived.Test.YtakidcehebpmkaaDoorRowReadS
import Derived.Test.YtakidcehebpmkaaDoorMark
import Derived.Test.YtakidcehebpmkaaDoorRowEq
import Derived.Test.YtakidcehebpmkaaDoorCards
import Derived.Test.YtakidcehebpmkaaDoorTie
namespace Go.Proofs.YtakidcehebpmkaaDoor.readRow
open Go.ChangeShapes Go.WideShapes Go.ChangeAt Go.RowKit
set_option linter.unusedVariables false

theorem pow_only : (Rows.fnExactReadRowRow.laid.filter fun x => x.1 == "internal/strconv.uint64pow10") = [("internal/strconv.uint64pow10", Lib.tabData .u64 Lib.pow10Tab)] := by kernel_rfl
theorem bad_only : (Rows.fnExactReadRowRow.laid.filter fun x => x.1 == "strconv.ErrSyntax") = [("strconv.ErrSyntax", .iface "*errors.errorString" (.ptr (.agg [.lit (.string badText.data.toList)])))] := by kernel_rfl
theorem far_only : (Rows.fnExactReadRowRow.laid.filter fun x => x.1 == "strconv.ErrRange") = [("strconv.ErrRange", .iface "*errors.errorString" (.ptr (.agg [.lit (.string farText.data.toList)])))] := by kernel_rfl

theorem ans_same {l : List UInt8} {r r' : List GV} {b b' : Bool} (h : RowAns l r b) (h' : RowAns l r' b') : r' = r ∧ b' = b := by
  rcases h with ⟨rfl, h1, h2, h3⟩ | ⟨rfl, rfl, h1⟩
  · rcases h' with ⟨rfl, k1, k2, k3⟩ | ⟨rfl, rfl, k1⟩
    · exact ⟨h3 _ k1 k2, rfl⟩
    · exact absurd h2 (k1 _ h1)
  · rcases h' with ⟨rfl, k1, k2, k3⟩ | ⟨rfl, rfl, k1⟩
    · exact absurd k2 (h1 _ k1)
    · exact ⟨rfl, rfl⟩
theorem ans_len {l : List UInt8} {r : List GV} {b : Bool} (h : RowAns l r b) : r.length ≤ 8 := by
  rcases h with ⟨_, h1, _, _⟩ | ⟨_, rfl, _⟩
  · exact (row_ok h1).2
  · simp

set_option maxHeartbeats 400000 in
theorem mark_nil (k : Nat) (w : World) :
    Calls Tryd.prog 30 #[.slice none 0 0, .int .i64 k] w fun e w' => e = .returned (.int .i64 (k : Int)) ∧ w = w' := by
  go_enter Tryd.func30, Tryd.ntmps30
  go_wp2_with fail
  go_loopw [1, 5] (fun kk i w' => kk = .int .i64 (k : Int) ∧ i = .int .i64 0 ∧ w = w') (fun _ i _ => 0)
  case atStart => exact ⟨rfl, rfl, rfl⟩
  case round =>
    obtain ⟨rfl, rfl, rfl⟩ := hrel
    go_wp2_with fail
    go_ret
    exact ⟨rfl, rfl⟩
theorem mark_own {B : Nat} {v : Value} {r : List GV} {w : World} (h : VRow B w v r) (hB : B ≤ w.heap.size) (hl : r.length ≤ 8) :
    Calls Tryd.prog 30 #[v, .int .i64 ((1 : Nat) : Int)] w fun e w' => e = .returned (.int .i64 ((1 + 3 * r.length : Nat) : Int)) ∧ VRow B w' v (marked 1 r.length) ∧ Below B w w' := by
  rcases h.2 with ⟨rfl, h0⟩ | ⟨g, cap, cur, rfl, hg, hh, hc1, hc2, hc3, hc4⟩
  · refine (mark_nil 1 w).mono ?_
    rintro e w' ⟨rfl, rfl⟩
    rw [h0]
    exact ⟨rfl, vrow_nil _ _, Below.refl _ _⟩
  · have hcl : cur.toList.length = cap * 3 := by rw [Array.length_toList]; exact hc3
    refine (mark_row g cap r.length 1 cur.toList w (by unfold Whole; rw [hh]) (by omega) (by omega) (by omega) (by omega)).mono ?_
    rintro e w' ⟨rfl, hW, hG⟩
    refine ⟨rfl, ⟨by rw [flat_length], .inr ⟨g, cap, _, by rw [marked_len], hg, hW, by rw [marked_len]; exact hc1, hc2, ?_, ?_⟩⟩, (Below.refl _ _).grown hG hB (fun k hk => by injection hk; omega)⟩
    · rw [List.size_toArray, List.length_append, List.length_drop, flat_length, marked_len, hcl]; omega
    · rw [marked_len]
      have : (flat (marked 1 r.length)).length = r.length * 3 := by rw [flat_length, marked_len]
      simp [← this]

set_option maxRecDepth 100000 in
set_option maxHeartbeats 800000 in
theorem walk (s : ByteArray) (w : World) (ft : s.size ≤ maxLen) (hL : laidMetH Tryd.prog Rows.fnExactReadRowRow.laid w) :
    Calls Tryd.prog 7 #[.string s] w fun e w' => e = .returned (.bool true) ∧ Below w.heap.size w w' := by
  have hT := pow_tab pow_only hL
  have hE := errs_of bad_only far_only hL
  unfold maxLen at ft
  clear hL
  by_cases hs : s.size ≤ 1048576
  · go_enter Tryd.func7, Tryd.ntmps7
    go_wp2_with fail
    refine (spec_readRow s _ hs).mono ?_
    rintro e w1 ⟨v0, r, b, rfl, hV0, hA0, hB1⟩
    have h8 := ans_len hA0
    obtain ⟨A0, c0, rfl, hR0⟩ := hV0.row
    have HA0 := Lib.hid hA0
    clear hV0 hA0
    go_wp2_with fail
    refine (impl_readRow s _ hs (hE.below hB1) (hT.below hB1)).mono ?_
    rintro e w2 ⟨v1, r1, b1, rfl, hV1, hA1, hB2⟩
    obtain ⟨rfl, rfl⟩ := ans_same HA0.out hA1
    clear hA1
    obtain ⟨A1, c1, rfl, hR1⟩ := hV1.row
    have hz2 := hB2.size
    have HV1 := Lib.hid hV1
    clear hV1
    have hbb : (b1 != b1) = false := by simp
    go_wp2_with fail
    refine (eq_values A1 A0 c1 c0 r1 _ hR1 (hR0.to_ hB2) (by omega)).mono ?_
    rintro e w3 ⟨rfl, hb3⟩
    have hB3 := below_next hB2 hb3 rfl rfl
    have hV3 := HV1.out.below hb3
    go_wp2_with fail
    refine (mark_own hV3 hB3.size h8).mono ?_
    rintro e w4 ⟨rfl, hV4, hb4⟩
    have hB4 := hB3.trans hb4
    have HV4 := Lib.hid hV4
    obtain ⟨A4, c4, he4, hR4⟩ := hV4.row
    rw [marked_len] at he4
    injection he4 with he5 _ he6
    subst he5 he6
    clear hV3 hV4
    go_wp2_with fail
    refine (held_row A1 c1 r1.length 1 _ hR4 (by omega) (by omega) (by omega)).mono ?_
    rintro e w5 ⟨rfl, hb5⟩
    have hB5 := hB4.trans (hb5.mono hB4.size)
    have hW5 := hB1.trans (hB5.mono hB1.size)
    go_wp2_with fail
    refine (impl_readRow s _ hs (hE.below hW5) (hT.below hW5)).mono ?_
    rintro e w6 ⟨v6, r6, b6, rfl, hV6, hA6, hB6⟩
    obtain ⟨rfl, rfl⟩ := ans_same HA0.out hA6
    clear hA6
    obtain ⟨A6, c6, rfl, hR6⟩ := hV6.row
    have hBA := hB5.trans (hB6.mono hB5.size)
    clear hV6
    go_wp2_with fail
    refine (eq_values A6 A0 c6 c0 r6 _ hR6 ((hR0.below hBA (Nat.le_refl _)).mono hBA.size) (by omega)).mono ?_
    rintro e w7 ⟨rfl, hb7⟩
    have hB47 := (below_next hb5 hB6 rfl rfl)
    have hB48 := below_next hB47 hb7 rfl rfl
    have hW7 := hBA.trans (hb7.mono hBA.size)
    have hW8 := hB1.trans (hW7.mono hB1.size)
    have hR7 := hR4.to_ hB48
    go_wp2_with fail
    refine (held_row A1 c1 r6.length 1 _ hR7 (by omega) (by omega) (by omega)).mono ?_
    rintro e w8 ⟨rfl, hb8⟩
    have hB9 := below_next hW8 hb8 rfl rfl
    go_wp2_with fail
    go_ret
    exact ⟨rfl, hB9⟩
  · go_enter Tryd.func7, Tryd.ntmps7
    go_wp2_with fail
    go_ret
    exact ⟨rfl, Below.refl _ _⟩

set_option maxRecDepth 100000 in
theorem contract (H : Type) (enc : TypeId × Value → H) (W : World) (base : Nat) (args : Array Value) (ds gs : List (DataW H)) (before : List MemPlace)
    (hval : ∀ (j : Nat) t v, Tryd.f7.params[j]? = some t → args[j]? = some v → Value.okWide Tryd.prog W .any base t v)
    (hW : DataW.Whole enc Tryd.prog Tryd.f7.params.toList Rows.fnExactReadRowSpec.vars false W args.toList ds gs before) (hL : laidMetH Tryd.prog Rows.fnExactReadRowRow.laid W) :
    Calls Tryd.prog 7 args W fun e W' => ∃ v, e = .returned v ∧ Rows.fnExactReadRowSpec.post enc Tryd.prog Tryd.f7 false true false false W args v W' := by
  have hW' := hW
  obtain ⟨p, q, hA0, hV, rfl, hfz, hnd⟩ := hW
  have hA : DataW.TrodAll enc Tryd.prog W 0 (fun _ => true) true Tryd.f7.params.toList args.toList ds p := hA0
  rw [Tryd.params7] at hA hval
  obtain ⟨v0, vs0, d0, ds0, p0, q0, hargs, rfl, rfl, h0, r0⟩ := trodAll_cons hA
  obtain ⟨rfl, rfl, rfl⟩ := trodAll_nil r0
  obtain rfl : args = #[v0] := by cases args; simp_all
  obtain ⟨rfl, rfl⟩ := trodVars_none hV
  have z0 := h0
  have lt0 : ∀ x ∈ p0, x.block < W.heap.size := by obtain ⟨m, hm⟩ := z0; exact DataW.trod_lt m _ _ _ hm
  obtain ⟨s0, rfl, fit0⟩ := open_text (hval 0 9 v0 rfl rfl) h0
  clear hA0
  refine (walk s0 W fit0 hL).mono fun e W' ⟨he, bel⟩ => ?_
  subst he
  exact ⟨_, rfl, _, _, _, [], _, [], hW', trodAll_mk1 (shut_bool Tryd.underlying4 _), (trodAll_cons_mk (Below.trod laidOut (by kernel_rfl) (of_decide_eq_true (by kernel_rfl)) z0 bel lt0) trodAll_mk0), rfl, bel.frame _, fun h => by cases h⟩

theorem laid_met (os : Os) : laidMet Tryd.prog Rows.fnExactReadRowRow.laid ((errWorld os).forCall (fun _ _ => 0) ⟨#[], #[.string ByteArray.empty], []⟩).memory :=
  laidMet_of_run' 8 (by kernel_rfl) (by kernel_rfl)
theorem reads (os : Os) {H : Type} (enc : TypeId × Value → H) : ∃ places, DataW.whole enc Tryd.prog ((errWorld os).forCall (fun _ _ => 0) ⟨#[], #[.string ByteArray.empty], []⟩).memory Tryd.f7.params.toList Rows.fnExactReadRowSpec.vars false #[.string ByteArray.empty].toList 8 = some ([.lit (.string [])], [], places) :=
  ⟨[], by kernel_rfl⟩

set_option maxRecDepth 100000 in
theorem lifted (os : Os) (started : os.Started) (H : Type) (enc : TypeId × Value → H) (F : Stop.Interp) :
    ReturnsInHanded {} Tryd.checked os 7 .any ((OpenSpec.ofChange Rows.fnExactReadRowSpec).preRow enc Tryd.prog Tryd.f7 Rows.fnExactReadRowRow.domain false Rows.fnExactReadRowRow.laid) (((OpenSpec.ofChange Rows.fnExactReadRowSpec).at F).post enc Tryd.prog Tryd.f7 false true false false) := by
  obtain ⟨places, hx⟩ := reads os enc
  refine returnsInHanded_of_row (C := Tryd.checked) (s := OpenSpec.ofChange Rows.fnExactReadRowSpec) own started (by kernel_rfl) Tryd.func7
    (witness_row_atRef (enc := enc) (C := Tryd.checked) false (errWorld os) #[.string ByteArray.empty] rfl (by kernel_rfl) (by kernel_rfl) (by kernel_rfl)
      (OpenSpec.preRow_of_cond 8 hx (by kernel_rfl) (fun k hk => by cases hk) (by kernel_rfl) (laid_met os))) ?_
  intro W base args ds gs before hval hW _ _ _ hL _ _
  exact contract H enc W base args ds gs before hval hW hL

theorem said : Rows.FnExactReadRowSaid :=
  OpenClaim.holds_of_cond 7 Tryd.f7 rfl rfl rfl rfl rfl rfl rfl ⟨rfl, rfl, rfl, rfl, rfl⟩ rfl rfl rfl rfl rfl (by kernel_rfl) Tryd.func7 (by kernel_rfl)
    (of_decide_eq_true (by kernel_rfl)) (by unfold Func.isWrapper; first | (rw [if_pos (by decide +kernel)]; kernel_rfl) | (rw [if_neg (by decide +kernel)]; exact ⟨rfl, rfl⟩))
    (fun os started H enc _ F => by rw [OpenClaim.pre_eq_preRow]; exact lifted os started H enc F)

theorem plain (f : FuncId) (fn : Func) (hf : Tryd.pinned.checked.prog.funcNamed "loop.example/g00030/laws.FnExactReadRow" = some f) (hfn : Tryd.pinned.checked.prog.funcs[f]? = some fn) :
    true = Tryd.pinned.checked.prog.looks [] ∧ ∀ (j : Nat) t, fn.params[j]? = some t → Tryd.pinned.checked.prog.wantsStandIn t = false := by
  obtain rfl : f = 7 := Option.some.inj ((show Tryd.prog.funcNamed "loop.example/g00030/laws.FnExactReadRow" = some 7 by kernel_rfl).symm.trans hf) |>.symm
  obtain rfl : fn = Tryd.f7 := (Option.some.inj (Tryd.func7.symm.trans hfn)).symm
  refine ⟨by kernel_rfl, fun j t ht => ?_⟩
  rw [Tryd.params7] at ht
  obtain rfl : t = 9 := by simpa using Array.mem_of_getElem? ht
  exact (show Tryd.prog.wantsStandIn 9 = false by kernel_rfl)

theorem card : Rows.FnExactReadRowCardSaid :=
  Claim7.holds_tied_plain_at .later [] _ _ _ _ said (fun _ h => by cases h) (by kernel_rfl) (fun _ h => by cases h) fnExactReadRow_row_tie rfl ⟨rfl, rfl⟩ (by kernel_rfl) rfl plain (by kernel_rfl)

end Go.Proofs.YtakidcehebpmkaaDoor.readRow
