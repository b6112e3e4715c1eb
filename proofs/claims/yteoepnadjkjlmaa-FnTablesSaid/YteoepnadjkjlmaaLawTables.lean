/-
  For every slice of bytes, laws.FnTables returns true and leaves its argument as it was. No condition.
-/
import Derived.Test.YteoepnadjkjlmaaMade
import Derived.Test.YteoepnadjkjlmaaTabLaw
import Derived.Test.YteoepnadjkjlmaaDrawTab
import Derived.Test.YteoepnadjkjlmaaFind
import Derived.Test.YteoepnadjkjlmaaTabOkS
import Derived.Test.YteoepnadjkjlmaaOpenB
import Derived.Test.YteoepnadjkjlmaaRows
namespace Go.Proofs.Yteoepnadjkjlmaa.tables
open Go.ChangeShapes Go.WideShapes Go.ChangeAt Go.RowKit Go.Joins
set_option linter.unusedVariables false

theorem big_is (A : Option Addr) (n c : Nat) (b : Bool) (w : World) (hb : decide ((1048576 : Int) < (n : Int)) = b) :
    Calls Try.prog 12 #[.slice A n c] w fun e w' => e = .returned (.bool b) ∧ w = w' := by
  have HB := Lib.hid hb
  clear hb
  go_enter Try.func12, Try.ntmps12
  go_wp2
  go_ret
  exact ⟨ret_bool HB.out, rfl⟩
theorem good_len {n : Nat} {r : Row} (h : goodRow n r = true) : r.length = n ∧ rowOkB r = true := by
  unfold goodRow at h
  simp only [Bool.and_eq_true, decide_eq_true_eq] at h
  exact ⟨h.2, h.1⟩
theorem table_ok_of {rows out : List Row} (h1 : rowsOkB rows = true) (h2 : AscP out) (h3 : ∀ r, r ∈ out ↔ r ∈ rows) (h4 : out.length ≤ 3000) : tableOkB out = true := by
  have hg : ∀ r ∈ out, goodRow (wid rows) r = true := by
    intro r hr
    unfold rowsOkB at h1
    simp only [Bool.and_eq_true, List.all_eq_true] at h1
    exact h1.1 r ((h3 r).1 hr)
  have hw : ∀ r ∈ out, goodRow (wid out) r = true := by
    cases out with
    | nil => simp
    | cons x l =>
      have e : wid (x :: l) = wid rows := (good_len (hg x List.mem_cons_self)).1
      rw [e]; exact hg
  unfold tableOkB rowsOkB
  rw [(asc_iff out).2 h2, List.all_eq_true.2 hw, decide_eq_true h4]; rfl
theorem rows_of_table {out : List Row} (h : tableOkB out = true) : rowsOkB out = true := by
  unfold tableOkB at h; simp only [Bool.and_eq_true] at h; exact h.1
theorem has_all {out : List Row} (h : tableOkB out = true) {r : Row} (hr : r ∈ out) : hasRowB out r = true := by
  unfold hasRowB hasB
  rw [h, Bool.true_and, List.any_eq_true]
  exact ⟨r, hr, by simp [cmp_self]⟩
theorem nil_ok : tableOkB [] = true := rfl
theorem empty_bad {rows out : List Row} (h : TabIs rows out) (ho : out.length = 0) (hr : 0 < rows.length) : rowsOkB rows = false := by
  rcases h with ⟨h1, _⟩ | ⟨_, _, h3⟩
  · exact h1
  · have : rows[0] ∈ out := (h3 _).2 (List.getElem_mem hr)
    rw [List.eq_nil_of_length_eq_zero ho] at this
    simp at this
theorem tab_some {rows out : List Row} (h : TabIs rows out) (ho : 0 < out.length) : rowsOkB rows = true ∧ AscP out ∧ ∀ r, r ∈ out ↔ r ∈ rows := by
  rcases h with ⟨_, rfl⟩ | h
  · simp at ho
  · exact h

set_option maxRecDepth 100000 in
set_option maxHeartbeats 4000000 in
theorem main (A : Option Addr) (c : Nat) (xs : List UInt8) (w : World) (hx : BAt w w.heap.size A xs) (h1 : xs.length ≤ 1048576) :
    Calls Try.prog 4 #[.slice A xs.length c] w fun e w' => e = .returned (.bool true) ∧ Below w.heap.size w w' := by
  go_enter Try.func4, Try.ntmps4
  go_wp2_with fail
  refine (big_is A xs.length c false _ (by simp; omega)).mono ?_
  rintro e w0 ⟨rfl, rfl⟩
  go_wp2_with fail
  refine (draw_table A c xs _ hx h1).mono ?_
  rintro e w1 ⟨v1, rows, rfl, ⟨⟨A1, c1, rfl, hT1⟩, hl1, hr1⟩, hb1⟩
  have hlr : ∀ r ∈ rows, r.length ≤ 1048576 ∧ ∀ v ∈ r, v.t.size ≤ maxLen := fun r h => ⟨by have := (hr1 r h).1; omega, fun v hv => by have := (hr1 r h).2 v hv; unfold maxLen; omega⟩
  have HLR := Lib.hid hlr
  have HT1 := Lib.hid hT1
  clear hr1 hlr hT1
  go_wp2_with fail
  refine (impl_make A1 c1 rows _ HT1.out (by omega) HLR.out).mono ?_
  rintro e w2 ⟨⟨v2, rfl, hm2⟩, hb2⟩
  have hB2 := below_next hb1 hb2 rfl rfl
  obtain ⟨A2, c2, qs, rfl, hG2, hI2, _, _, _, hq2, _⟩ := made_of hm2
  have HG2 := Lib.hid hG2.tab
  have HI2 := Lib.hid hI2
  clear hm2 hG2 hI2
  have hB2a := hB2.alloc hB2.size (.cells #[] 35)
  have hb2a : Below w2.heap.size w2 (w2.alloc (.cells #[] 35)) := (Below.refl _ _).alloc (Nat.le_refl _) _
  have C3 := Lib.hid (impl_tableOk (some ⟨w2.heap.size, 0, none⟩) 0 [] (w2.alloc (.cells #[] 35)) (.inl rfl) (by simp) (by simp))
  go_wp2_with fail
  refine C3.out.mono ?_
  rintro e w3 ⟨rfl, hb3⟩
  rw [nil_ok]
  have hb23 := below_next hb2a hb3 rfl rfl
  have hB3 := below_next hB2 hb23 rfl rfl
  have hb13 := below_next hb2 hb23 rfl rfl
  clear C3
  obtain ⟨out, hout⟩ : ∃ out, out = qs.map (·.2) := ⟨_, rfl⟩
  have hol : out.length = qs.length := by rw [hout]; simp
  rw [← hout] at HG2 HI2
  rw [← hol]
  have hq3 : out.length ≤ 3000 := by omega
  clear hout hol hq2
  by_cases h0 : out.length = 0
  · have h0i : ((out.length : Int) == 0) = true := by simp [h0]
    by_cases hr0 : rows.length = 0
    · have hr0i : ((rows.length : Int) == 0) = true := by simp [hr0]
      have H0 := Lib.hid h0
      have HR0 := Lib.hid hr0
      clear h0 hr0
      go_wp2_with fail
      go_ret
      exact ⟨rfl, hB3⟩
    · have hr0i : ((rows.length : Int) == 0) = false := beq_eq_false_iff_ne.2 (by omega)
      by_cases hr3 : (3000 : Int) < (rows.length : Int)
      · have H0 := Lib.hid h0
        clear h0
        go_wp2_with fail
        go_ret
        exact ⟨rfl, hB3⟩
      · have hr3d : decide ((3000 : Int) < (rows.length : Int)) = false := by simpa using hr3
        have hbad := Lib.hid (empty_bad HI2.out h0 (by omega))
        have H0 := Lib.hid h0
        clear h0
        go_wp2_with fail
        refine (mixed_yes A1 c1 rows _ (HT1.out.to_ hb13) (by omega) HLR.out hbad.out).mono ?_
        rintro e w4 ⟨rfl, hb4⟩
        have hB4 := below_next hB3 hb4 rfl rfl
        go_wp2_with fail
        go_ret
        exact ⟨rfl, hB4⟩
  · have h0i : ((out.length : Int) == 0) = false := beq_eq_false_iff_ne.2 (by omega)
    obtain ⟨t1, t2, t3⟩ := tab_some HI2.out (by omega)
    have hok := Lib.hid (table_ok_of t1 t2 t3 hq3)
    have hlo : ∀ r ∈ out, r.length ≤ 1048576 ∧ ∀ v ∈ r, v.t.size ≤ maxLen := fun r hr => HLR.out r ((t3 r).1 hr)
    have HLO := Lib.hid hlo
    have HAB := Lib.hid (show ∀ r ∈ out, r ∈ rows from fun r hr => (t3 r).1 hr)
    have HBA := Lib.hid (show ∀ r ∈ rows, r ∈ out from fun r hr => (t3 r).2 hr)
    have HIO := Lib.hid (show TabIs out out from .inr ⟨rows_of_table hok.out, t2, fun r => Iff.rfl⟩)
    clear t1 t2 t3 hlo
    go_wp2_with fail
    refine (spec_tableOk A2 c2 out _ (HG2.out.to_ hb23) (by omega) HLO.out).mono ?_
    rintro e w4 ⟨rfl, hb4⟩
    rw [hok.out]
    have hB4 := below_next hB3 hb4 rfl rfl
    have hb24 := below_next hb23 hb4 rfl rfl
    have hb14 := below_next hb13 hb4 rfl rfl
    go_wp2_with fail
    refine (within_all A2 A1 c2 c1 out rows _ (HG2.out.to_ hb24) (HT1.out.to_ hb14) (by omega) (by omega) (fun r h => (HLO.out r h).1) (fun r h => (HLR.out r h).1) HAB.out).mono ?_
    rintro e w5 ⟨rfl, hb5⟩
    have hB5 := below_next hB4 hb5 rfl rfl
    have hb25 := below_next hb24 hb5 rfl rfl
    have hb15 := below_next hb14 hb5 rfl rfl
    go_wp2_with fail
    refine (within_all A1 A2 c1 c2 rows out _ (HT1.out.to_ hb15) (HG2.out.to_ hb25) (by omega) (by omega) (fun r h => (HLR.out r h).1) (fun r h => (HLO.out r h).1) HBA.out).mono ?_
    rintro e w6 ⟨rfl, hb6⟩
    have hB6 := below_next hB5 hb6 rfl rfl
    have hb26 := below_next hb25 hb6 rfl rfl
    go_wp2_with fail
    refine (impl_make A2 c2 out _ (HG2.out.to_ hb26) (by omega) HLO.out).mono ?_
    rintro e w7 ⟨⟨v7, rfl, hm7⟩, hb7⟩
    have hB7 := below_next hB6 hb7 rfl rfl
    have hb27 := below_next hb26 hb7 rfl rfl
    obtain ⟨A7, c7, rs, rfl, hG7, hI7, _, _, _, _, _⟩ := made_of hm7
    have hrs : rs.map (·.2) = out := tab_unique hI7 HIO.out
    have hrl : rs.length = out.length := by rw [← hrs]; simp
    have hT7 := hG7.tab
    rw [hrs] at hT7
    have HT7 := Lib.hid hT7
    rw [hrl]
    clear hm7 hG7 hI7 hrs hrl hT7
    go_wp2_with fail
    refine (same_table A7 A2 c7 c2 out _ HT7.out (HG2.out.to_ hb27) (by omega) (fun r h => (HLO.out r h).1)).mono ?_
    rintro e w8 ⟨rfl, hb8⟩
    have hB8 := below_next hB7 hb8 rfl rfl
    have hb28 := below_next hb27 hb8 rfl rfl
    go_wp2_with fail
    go_loopw [5] (fun i w' => ∃ k : Nat, k ≤ out.length ∧ i = .int .i64 k ∧ Below w.heap.size w w' ∧ Below w2.heap.size w2 w') (fun i _ => out.length - (intOf i).toNat)
    case atStart => exact ⟨0, Nat.zero_le _, rfl, hB8, hb28⟩
    case round =>
      obtain ⟨k, hk, rfl, hB, hb⟩ := hrel
      by_cases hlt : k < out.length
      · obtain ⟨g, o, A9, c9, rfl, hg, hcell, hrow⟩ := (HG2.out.to_ hb).at_ hlt
        have hm := HLO.out _ (List.getElem_mem hlt)
        have hki : (k : Int) < (out.length : Int) := by omega
        have hk0 : (0 : Int) ≤ (k : Int) := by omega
        go_wp2_with fail
        refine (impl_hasRow _ A9 c2 c9 out out[k] _ (HG2.out.to_ hb) hrow (by omega) hm.1 HLO.out).mono ?_
        rintro e w9 ⟨rfl, hb9⟩
        rw [has_all hok.out (List.getElem_mem hlt)]
        have hB9 := below_next hB hb9 rfl rfl
        have hb29 := below_next hb hb9 rfl rfl
        clear hcell
        go_wp2_with fail
        go_roundw
        case rel => exact ⟨k + 1, by omega, by go_num, hB9, hb29⟩
        case measure => simp [intOf]; omega
      · have hki : ¬ (k : Int) < (out.length : Int) := by omega
        go_wp2_with fail
        go_ret
        exact ⟨rfl, hB⟩

theorem walk (A : Option Addr) (l c : Nat) (xs : List UInt8) (w : World) (ft : FitB w A l xs) :
    Calls Try.prog 4 #[.slice A l c] w fun e w' => e = .returned (.bool true) ∧ Below w.heap.size w w' := by
  obtain ⟨rfl, hx⟩ := ft
  by_cases h1 : xs.length ≤ 1048576
  · exact main A c xs w hx h1
  · go_enter Try.func4, Try.ntmps4
    go_wp2_with fail
    refine (big_is A xs.length c true _ (by simp; omega)).mono ?_
    rintro e w0 ⟨rfl, rfl⟩
    go_wp2_with fail
    go_ret
    exact ⟨rfl, Below.refl _ _⟩

set_option maxRecDepth 100000 in
theorem lifted (os : Os) (started : os.Started) (H : Type) (enc : TypeId × Value → H) :
    ReturnsInHanded {} Try.checked os 4 .any (Rows.fnTablesSpec.pre6 enc Try.prog Try.f4 Rows.fnTablesRow.domain false) (Rows.fnTablesSpec.post enc Try.prog Try.f4 false true false false) := by
  refine returnsInHanded_of_change (C := Try.checked) own started (by kernel_rfl) Try.func4
    (ChangeSpec.witness6 (enc := enc) (C := Try.checked) false ⟨#[], #[.slice none 0 0], []⟩ 8 (by kernel_rfl) (by kernel_rfl) (by kernel_rfl) (by kernel_rfl)) ?_
  intro W base args ds gs before hval0 hW hcnd _
  have hval : ∀ (j : Nat) t v, Try.f4.params[j]? = some t → args[j]? = some v → Value.okWide Try.prog W .any base t v := hval0
  have hW' := hW
  obtain ⟨p, q, hA0, hV, rfl, hfz, hnd⟩ := hW
  have hA : DataW.TrodAll enc Try.prog W 0 (fun _ => true) true Try.f4.params.toList args.toList ds p := hA0
  rw [Try.params4] at hA hval
  obtain ⟨v0, vs0, d0, ds0, p0, q0, hargs, rfl, rfl, h0, r0⟩ := trodAll_cons hA
  obtain ⟨rfl, rfl, rfl⟩ := trodAll_nil r0
  obtain rfl : args = #[v0] := by cases args; simp_all
  obtain ⟨rfl, rfl⟩ := trodVars_none hV
  have z0 := h0
  have lt0 : ∀ x ∈ p0, x.block < W.heap.size := by obtain ⟨m, hm⟩ := z0; exact DataW.trod_lt m _ _ _ hm
  obtain ⟨a0, l0, c0, xs0, rfl, fit0⟩ := open_bytes (hval 0 30 v0 rfl rfl) h0
  clear hA0 hval0
  refine (walk a0 l0 c0 xs0 W fit0).mono fun e W' ⟨he, bel⟩ => ?_
  subst he
  exact ⟨_, rfl, _, _, _, [], _, [], hW', trodAll_mk1 (shut_bool Try.underlying4 _), (trodAll_cons_mk (Below.trod laidOut (by kernel_rfl) (of_decide_eq_true (by kernel_rfl)) z0 bel lt0) trodAll_mk0), rfl, bel.frame _, fun h => by cases h⟩

theorem over : Rows.fnTablesRow.holds Try.pinned (OpenSpec.ofChange Rows.fnTablesSpec) :=
  OpenClaim.holds_of_wide 4 Try.f4 rfl rfl rfl rfl rfl rfl rfl ⟨rfl, rfl, rfl, rfl, rfl⟩ rfl rfl rfl rfl rfl (by kernel_rfl) Try.func4 (by kernel_rfl)
    (of_decide_eq_true (by kernel_rfl)) (by unfold Func.isWrapper; first | (rw [if_pos (by decide +kernel)]; kernel_rfl) | (rw [if_neg (by decide +kernel)]; exact ⟨rfl, rfl⟩))
    (fun os started H enc _ => lifted os started H enc)

theorem proved : Rows.FnTablesSaid := over

end Go.Proofs.Yteoepnadjkjlmaa.tables
