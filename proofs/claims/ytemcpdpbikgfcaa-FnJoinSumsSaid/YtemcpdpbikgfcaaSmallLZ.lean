/-
  laws.sameRow. laws.sameTable, at equal tables. laws.small, laws.sameDiffs at equal lists, laws.big.
-/
import Derived.Test.YtemcpdpbikgfcaaMakeZ
import Derived.Test.YtemcpdpbikgfcaaMemBZ
import Derived.Deep.QuietTactic
import Derived.BigQuiet
import Derived.Lib.QuietBelow
import Derived.Laws.StructEq
import Derived.Lib.Strings
import Derived.Test.YtemcpdpbikgfcaaTabMZ
import Derived.Test.YtemcpdpbikgfcaaDiffOkSZ
namespace Go.Proofs.Ytemcpdpbikgfcaa
open Go.RowKit Go.Sort
set_option linter.unusedVariables false

theorem heldV : Try.prog.stoodInHeld 52 = false := by kernel_rfl
theorem structV : Try.prog.underlying 52 = some (.struct (Try.prog.fieldsOf 52)) := by kernel_rfl
theorem guardV : Try.prog.eqGuardType Try.prog.depth 52 = false := by kernel_rfl
@[go_sem] theorem eqV (k n k' n' : Int) (t t' : ByteArray) (w : World) : (Op.equalIn 10000 52 (.agg #[.int .i64 k, .int .i64 n, .string t]) (.agg #[.int .i64 k', .int .i64 n', .string t'])).run Try.prog w = .ok (k == k' && n == n' && t.toList == t'.toList) w := by
  have u3 := Try.underlying2
  have a3 := Try.isAgg2
  have z3 := Try.sizeOf2
  have u9 := Try.underlying9
  have a9 := Try.isAgg9
  have z9 := Try.sizeOf9
  rw [show (10000 : Nat) = 9999 + 1 from rfl, run_equalIn_agg w 9999 52 _ _ structV heldV]
  simp only [Program.fieldsOf, Try.underlying52]
  go_simp
  by_cases h1 : k = k' <;> by_cases h2 : n = n' <;> by_cases h3 : t.toList = t'.toList <;> simp [h1, h2, h3]
theorem neqV (k n k' n' : Int) (t t' : ByteArray) (w : World) : (binOp .neq 52 (.agg #[.int .i64 k, .int .i64 n, .string t]) (.agg #[.int .i64 k', .int .i64 n', .string t'])).run Try.prog w = .ok (.bool (!(k == k' && n == n' && t.toList == t'.toList))) w := by
  rw [run_neq_struct, eqV]; rfl
theorem gv_ext {a b : GV} : a = b ↔ a.k = b.k ∧ a.n = b.n ∧ a.t = b.t := by
  cases a; cases b; simp

set_option maxRecDepth 100000 in
set_option maxHeartbeats 600000 in
theorem same_row (A A' : Option Addr) (c c' : Nat) (r r' : List GV) (w : World) (hr : RowAt w w.heap.size A r) (hr' : RowAt w w.heap.size A' r') (hl : r.length ≤ 1048576) (hl' : r'.length ≤ 1048576) :
    Calls Try.prog 73 #[.slice A r.length c, .slice A' r'.length c'] w fun e w' => ∃ b : Bool, e = .returned (.bool b) ∧ (b = true ↔ r = r') ∧ Below w.heap.size w w' := by
  by_cases hlen : r.length = r'.length
  · have hb : ((r.length : Int) != (r'.length : Int)) = false := by simp [hlen]
    go_enter Try.func73, Try.ntmps73
    go_wp2_with fail
    go_loopw [5] (fun i w' => ∃ k : Nat, k ≤ r.length ∧ i = .int .i64 k ∧ Hid (r.take k = r'.take k) ∧ Below w.heap.size w w') (fun i _ => r.length - (intOf i).toNat)
    case atStart => exact ⟨0, Nat.zero_le _, rfl, Lib.hid rfl, Below.refl _ _⟩
    case round =>
      obtain ⟨k, hk, rfl, hT, hB⟩ := hrel
      by_cases hlt : k < r.length
      · have hlt' : k < r'.length := by omega
        obtain ⟨g, o, rfl, hg, c0, c1, c2⟩ := (hr.to_ hB).at_ hlt
        obtain ⟨g', o', rfl, hg', d0, d1, d2⟩ := (hr'.to_ hB).at_ hlt'
        have hi0 : (0 : Int) ≤ (k : Int) := by omega
        have hi1 : (k : Int) < (r.length : Int) := by omega
        have hi2 : (k : Int) < (r'.length : Int) := by omega
        have hgd := guardV
        have q0 := cell_regrown c0
        have q1 := cell_regrown c1
        have q2 := cell_regrown c2
        have q3 := cell_regrown d0
        have q4 := cell_regrown d1
        have q5 := cell_regrown d2
        have hnq := fun W => neqV r[k].k r[k].n r'[k].k r'[k].n r[k].t r'[k].t W
        go_wp2_with fail
        refine wp_region_quiet_below (by kernel_rfl) (by kernel_rfl) ?_
        repeat (go_big_quiet_step (fail))
        refine wpQuiet_nil ?_
        intro _ hw'
        obtain ⟨⟨dq, osq⟩, hw''⟩ := hw'
        subst hw''
        have hB2 := below_next hB (below_regrown wr dq osq) rfl rfl
        generalize grow (redrawn wr dq) osq = wx at *
        clear q0 q1 q2 q3 q4 q5 c0 c1 c2 d0 d1 d2
        by_cases he : r[k] = r'[k]
        · have hbb : (!r[k].k == r'[k].k || !r[k].n == r'[k].n || !r[k].t.toList == r'[k].t.toList) = false := by rw [he]; simp
          have hT2 := Lib.hid (show r.take (k + 1) = r'.take (k + 1) by rw [List.take_succ_eq_append_getElem hlt, List.take_succ_eq_append_getElem hlt', hT.out, he])
          clear he
          generalize (!r[k].k == r'[k].k || !r[k].n == r'[k].n || !r[k].t.toList == r'[k].t.toList) = B at *
          subst hbb
          go_wp2_with fail
          go_roundw
          case rel => exact ⟨k + 1, by omega, by go_num, hT2, hB2⟩
          case measure => simp [intOf]; omega
        · have hbb : (!r[k].k == r'[k].k || !r[k].n == r'[k].n || !r[k].t.toList == r'[k].t.toList) = true := by
            cases hc : (!r[k].k == r'[k].k || !r[k].n == r'[k].n || !r[k].t.toList == r'[k].t.toList) with
            | true => rfl
            | false =>
              simp at hc
              exact absurd (gv_ext.2 ⟨hc.1.1, hc.1.2, ByteArray.ext (Array.toList_inj.1 (by rw [← Lib.toList_data, ← Lib.toList_data, hc.2]))⟩) he
          have hE := Lib.hid (show ¬ r = r' by rintro rfl; exact he rfl)
          clear he
          generalize (!r[k].k == r'[k].k || !r[k].n == r'[k].n || !r[k].t.toList == r'[k].t.toList) = B at *
          subst hbb
          go_wp2_with fail
          go_ret
          exact ⟨false, rfl, by simp [hE.out], hB2⟩
      · have hE := Lib.hid (show r = r' by
          have h := hT.out
          rwa [List.take_of_length_le (by omega), List.take_of_length_le (by omega)] at h)
        go_wp2_with fail
        go_ret
        exact ⟨true, rfl, by simp [hE.out], hB⟩
  · have hb : ((r.length : Int) != (r'.length : Int)) = true := by simp; omega
    have hE := Lib.hid (show ¬ r = r' by rintro rfl; exact hlen rfl)
    go_enter Try.func73, Try.ntmps73
    go_wp2_with fail
    go_ret
    exact ⟨false, rfl, by simp [hE.out], Below.refl _ _⟩
end Go.Proofs.Ytemcpdpbikgfcaa
namespace Go.Proofs.Ytemcpdpbikgfcaa
open Go.RowKit Go.Sort
set_option linter.unusedVariables false

theorem same_is_row (b : Bool) (A A' : Option Addr) (c c' : Nat) (r r' : Row) (w : World) (hb : b = true ↔ r = r') (hr : RowAt w w.heap.size A r) (hr' : RowAt w w.heap.size A' r') (hl : r.length ≤ 1048576) (hl' : r'.length ≤ 1048576) :
    Calls Try.prog 73 #[.slice A r.length c, .slice A' r'.length c'] w fun e w' => e = .returned (.bool b) ∧ Below w.heap.size w w' :=
  (same_row A A' c c' r r' w hr hr' hl hl').mono fun e w' ⟨b', he, hb', hB⟩ => ⟨by
    rw [he]
    have : b' = b := by
      have h := hb'.trans hb.symm
      cases b <;> cases b' <;> simp_all
    rw [this], hB⟩

set_option maxHeartbeats 800000 in
theorem same_table (A A' : Option Addr) (c c' : Nat) (rows : List Row) (w : World) (hr : TabAt w w.heap.size A rows) (hr' : TabAt w w.heap.size A' rows) (hl : rows.length ≤ 1048576) (hlr : ∀ r ∈ rows, r.length ≤ 1048576) :
    Calls Try.prog 37 #[.slice A rows.length c, .slice A' rows.length c'] w fun e w' => e = .returned (.bool true) ∧ Below w.heap.size w w' := by
  go_enter Try.func37, Try.ntmps37
  go_wp2
  go_loopw [5] (fun i w' => ∃ k : Nat, k ≤ rows.length ∧ i = .int .i64 k ∧ Below w.heap.size w w') (fun i _ => rows.length - (intOf i).toNat)
  case atStart => exact ⟨0, Nat.zero_le _, rfl, Below.refl _ _⟩
  case round =>
    obtain ⟨k, hk, rfl, hB⟩ := hrel
    by_cases hlt : k < rows.length
    · obtain ⟨g, o, A1, c1, rfl, hg, hc1, hr1⟩ := (hr.to_ hB).at_ hlt
      obtain ⟨g', o', A2, c2, rfl, hg', hc2, hr2⟩ := (hr'.to_ hB).at_ hlt
      have hi0 : (0 : Int) ≤ (k : Int) := Int.natCast_nonneg _
      have hi1 : (k : Int) < (rows.length : Int) := by omega
      have hm := hlr _ (List.getElem_mem hlt)
      have q0 := cell_regrown hc1
      have q1 := cell_regrown hc2
      clear hc1 hc2
      go_wp2_with fail
      refine wp_region_quiet_below (by kernel_rfl) (by kernel_rfl) ?_
      repeat (go_big_quiet_step (first
        | (go_at_call 73; exact Calls.regrown_of (same_is_row true A1 A2 c1 c2 rows[k] rows[k] _ (by simp) (hr1.to_ (below_regrown wr _ _)) (hr2.to_ (below_regrown wr _ _)) hm hm))))
      refine wpQuiet_nil ?_
      intro _ hw'
      obtain ⟨⟨dq, osq⟩, hw''⟩ := hw'
      subst hw''
      have hB2 := below_next hB (below_regrown wr dq osq) rfl rfl
      generalize grow (redrawn wr dq) osq = wx at *
      clear q0 q1
      go_wp2_with fail
      go_roundw
      case rel => exact ⟨k + 1, by omega, by go_num, hB2⟩
      case measure => simp [intOf]; omega
    · go_wp2_with fail
      go_ret
      exact ⟨rfl, hB⟩

end Go.Proofs.Ytemcpdpbikgfcaa
namespace Go.Proofs.Ytemcpdpbikgfcaa
open Go.RowKit Go.Sort
set_option linter.unusedVariables false

theorem first_at {w : World} {lo B : Nat} {A : Option Addr} {zs : List GDiff} (h : DiffsAt w lo B A zs) (h0 : 0 < zs.length) : ∃ g o A' c', A = some ⟨g, o, none⟩ ∧ w.cell? ⟨g, o, none⟩ = some (.slice A' (wid (rowsD zs)) c') := by
  obtain ⟨g, o, rfl, _, _, ⟨A', c', ⟨hc, _⟩, _⟩, _⟩ := h.at_ h0
  simp only [Nat.zero_mul, Nat.add_zero] at hc
  exact ⟨g, o, A', c', rfl, by rw [widD_eq h0]; exact hc⟩
theorem big_at (A : Option Addr) (n c : Nat) (b : Bool) (w : World) (hb : decide (1048576 < n) = b) :
    Calls Try.prog 33 #[.slice A n c] w fun e w' => e = .returned (.bool b) ∧ w = w' := by
  have hd : decide ((1048576 : Int) < (n : Int)) = b := by rw [← hb]; congr 1; simp; omega
  go_enter Try.func33, Try.ntmps33
  go_wp2_with fail
  go_ret
  exact ⟨ret_bool rfl, rfl⟩
def smallB (zs : List GDiff) : Bool := (zs.all fun z => decide (-1000 ≤ z.count) && decide (z.count ≤ 1000)) && diffOkB zs
theorem small_parts {zs : List GDiff} (h : smallB zs = true) : diffOkB zs = true ∧ ∀ z ∈ zs, -1000 ≤ z.count ∧ z.count ≤ 1000 := by
  unfold smallB at h
  simp only [Bool.and_eq_true, List.all_eq_true, decide_eq_true_eq] at h
  exact ⟨h.2, h.1⟩
theorem small_bad {zs : List GDiff} {k : Nat} (hk : k < zs.length) (h : (decide (-1000 ≤ zs[k].count) && decide (zs[k].count ≤ 1000)) = false) : smallB zs = false := by
  unfold smallB
  have : (zs.all fun z => decide (-1000 ≤ z.count) && decide (z.count ≤ 1000)) = false := by
    rw [List.all_eq_false]
    exact ⟨zs[k], List.getElem_mem hk, by rw [h]; decide⟩
  rw [this]; rfl
set_option maxRecDepth 100000 in
set_option maxHeartbeats 1600000 in
theorem small_is {lo : Nat} (A : Option Addr) (c : Nat) (zs : List GDiff) (w : World) (hr : DiffsAt w lo w.heap.size A zs) (hl : zs.length ≤ 1048576) (hlr : ∀ z ∈ zs, z.row.length ≤ 1048576 ∧ ∀ v ∈ z.row, v.t.size ≤ maxLen) :
    Calls Try.prog 36 #[.slice A zs.length c] w fun e w' => e = .returned (.bool (smallB zs)) ∧ Below w.heap.size w w' := by
  have HR := Lib.hid hr
  have HLR := Lib.hid hlr
  clear hr hlr
  go_enter Try.func36, Try.ntmps36
  go_wp2_with fail
  go_loopw [3] (fun i w' => ∃ k : Nat, k ≤ zs.length ∧ i = .int .i64 k ∧ Hid (∀ z ∈ zs.take k, -1000 ≤ z.count ∧ z.count ≤ 1000) ∧ w = w') (fun i _ => zs.length - (intOf i).toNat)
  case atStart => exact ⟨0, Nat.zero_le _, rfl, Lib.hid (fun z hz => by simp at hz), rfl⟩
  case round =>
    obtain ⟨k, hk, rfl, hG, rfl⟩ := hrel
    by_cases hlt : k < zs.length
    · obtain ⟨g, o, rfl, _, hg, _, hcnt⟩ := HR.out.at_ hlt
      have hi1 : (k : Int) < (zs.length : Int) := by omega
      have hi0 : (0 : Int) ≤ (k : Int) := by omega
      by_cases hx : 1000 < zs[k].count
      · have hx1 : decide ((1000 : Int) < zs[k].count) = true := by simpa using hx
        have H := Lib.hid (small_bad hlt (by rw [show decide (zs[k].count ≤ 1000) = false by simp; omega]; simp))
        go_wp2_with fail
        go_ret
        exact ⟨by rw [H.out]; rfl, Below.refl _ _⟩
      · have hx1 : decide ((1000 : Int) < zs[k].count) = false := by simp; omega
        by_cases hy : zs[k].count < -1000
        · have hy1 : decide (zs[k].count < -1000) = true := by simpa using hy
          have H := Lib.hid (small_bad hlt (by rw [show decide (-1000 ≤ zs[k].count) = false by simp; omega]; simp))
          go_wp2_with fail
          go_ret
          exact ⟨by rw [H.out]; rfl, Below.refl _ _⟩
        · have hy1 : decide (zs[k].count < -1000) = false := by simp; omega
          have H := Lib.hid (show ∀ z ∈ zs.take (k + 1), -1000 ≤ z.count ∧ z.count ≤ 1000 from fun z hz => by
            rw [List.take_succ_eq_append_getElem hlt, List.mem_append, List.mem_singleton] at hz
            rcases hz with hz | rfl
            · exact hG.out z hz
            · omega)
          go_wp2_with fail
          go_roundw
          case rel => first | exact ⟨k + 1, by omega, by go_num, H, rfl⟩ | exact ⟨k + 1, by omega, by go_num, H, trivial⟩
          case measure => simp [intOf]; omega
    · have hi1 : ¬ (k : Int) < (zs.length : Int) := by omega
      have H := Lib.hid (show smallB zs = diffOkB zs by
        have h := hG.out
        rw [List.take_of_length_le (by omega)] at h
        unfold smallB
        have : (zs.all fun z => decide (-1000 ≤ z.count) && decide (z.count ≤ 1000)) = true := by
          simp only [List.all_eq_true, Bool.and_eq_true, decide_eq_true_eq]; exact h
        rw [this, Bool.true_and])
      go_wp2_with fail
      refine (spec_diffOk A c zs _ HR.out (by omega) HLR.out).mono ?_
      rintro e w1 ⟨rfl, hb1⟩
      go_wp2_with fail
      go_ret
      exact ⟨ret_bool (by rw [H.out]), hb1⟩
theorem small_isb {lo : Nat} (b : Bool) (A : Option Addr) (c : Nat) (zs : List GDiff) (w : World) (hb : smallB zs = b) (hr : DiffsAt w lo w.heap.size A zs) (hl : zs.length ≤ 1048576) (hlr : ∀ z ∈ zs, z.row.length ≤ 1048576 ∧ ∀ v ∈ z.row, v.t.size ≤ maxLen) :
    Calls Try.prog 36 #[.slice A zs.length c] w fun e w' => e = .returned (.bool b) ∧ Below w.heap.size w w' := by
  rw [← hb]; exact small_is A c zs w hr hl hlr
set_option maxRecDepth 100000 in
set_option maxHeartbeats 1600000 in
theorem same_diffs {lo lo' : Nat} (A A' : Option Addr) (c c' : Nat) (zs : List GDiff) (w : World) (hr : DiffsAt w lo w.heap.size A zs) (hr' : DiffsAt w lo' w.heap.size A' zs) (hl : zs.length ≤ 1048576) (hlr : ∀ z ∈ zs, z.row.length ≤ 1048576) :
    Calls Try.prog 39 #[.slice A zs.length c, .slice A' zs.length c'] w fun e w' => e = .returned (.bool true) ∧ Below w.heap.size w w' := by
  have HR := Lib.hid hr
  have HR' := Lib.hid hr'
  clear hr hr'
  go_enter Try.func39, Try.ntmps39
  go_wp2_with fail
  go_loopw [5] (fun i w' => ∃ k : Nat, k ≤ zs.length ∧ i = .int .i64 k ∧ Below w.heap.size w w') (fun i _ => zs.length - (intOf i).toNat)
  case atStart => exact ⟨0, Nat.zero_le _, rfl, Below.refl _ _⟩
  case round =>
    obtain ⟨k, hk, rfl, hB⟩ := hrel
    by_cases hlt : k < zs.length
    · obtain ⟨g, o, rfl, _, hg, ⟨A1, c1, ⟨hc1, _⟩, hr1⟩, hn1⟩ := (HR.out.to_ hB).at_ hlt
      obtain ⟨g', o', rfl, _, hg', ⟨A2, c2, ⟨hc2, _⟩, hr2⟩, hn2⟩ := (HR'.out.to_ hB).at_ hlt
      have hi0 : (0 : Int) ≤ (k : Int) := by omega
      have hi1 : (k : Int) < (zs.length : Int) := by omega
      have hm := hlr _ (List.getElem_mem hlt)
      have q0 := cell_regrown hc1
      have q1 := cell_regrown hc2
      have q2 := cell_regrown hn1
      have q3 := cell_regrown hn2
      have hself : (zs[k].count != zs[k].count) = false := by simp
      have HR1 := Lib.hid hr1.row
      have HR2 := Lib.hid hr2.row
      clear hc1 hc2 hn1 hn2 hr1 hr2
      go_wp2_with fail
      refine wp_region_quiet_below (by kernel_rfl) (by kernel_rfl) ?_
      repeat (go_big_quiet_step (first
        | (go_at_call 73; exact Calls.regrown_of (same_is_row true A1 A2 c1 c2 zs[k].row zs[k].row _ (by simp) (HR1.out.to_ (below_regrown wr _ _)) (HR2.out.to_ (below_regrown wr _ _)) hm hm))))
      refine wpQuiet_nil ?_
      intro _ hw'
      obtain ⟨⟨dq, osq⟩, hw''⟩ := hw'
      subst hw''
      have hB2 := below_next hB (below_regrown wr dq osq) rfl rfl
      generalize grow (redrawn wr dq) osq = wx at *
      clear q0 q1 q2 q3
      go_wp2_with fail
      go_roundw
      case rel => exact ⟨k + 1, by omega, by go_num, hB2⟩
      case measure => simp [intOf]; omega
    · have hi1 : ¬ (k : Int) < (zs.length : Int) := by omega
      go_wp2_with fail
      go_ret
      exact ⟨rfl, hB⟩
end Go.Proofs.Ytemcpdpbikgfcaa
