/-
  laws.sameRow.
-/
import Derived.Test.YteoepnadjkjlmaaMemZ
import Derived.Test.YteoepnadjkjlmaaRetZ
import Derived.Deep.QuietTactic
import Derived.BigQuiet
import Derived.Lib.QuietBelow
import Derived.Laws.StructEq
import Derived.Lib.Strings
namespace Go.Proofs.Yteoepnadjkjlmaa
open Go.RowKit Go.Sort
set_option linter.unusedVariables false

theorem heldV : Try.prog.stoodInHeld 54 = false := by kernel_rfl
theorem structV : Try.prog.underlying 54 = some (.struct (Try.prog.fieldsOf 54)) := by kernel_rfl
theorem guardV : Try.prog.eqGuardType Try.prog.depth 54 = false := by kernel_rfl
@[go_sem] theorem eqV (k n k' n' : Int) (t t' : ByteArray) (w : World) : (Op.equalIn 10000 54 (.agg #[.int .i64 k, .int .i64 n, .string t]) (.agg #[.int .i64 k', .int .i64 n', .string t'])).run Try.prog w = .ok (k == k' && n == n' && t.toList == t'.toList) w := by
  have u3 := Try.underlying2
  have a3 := Try.isAgg2
  have z3 := Try.sizeOf2
  have u9 := Try.underlying9
  have a9 := Try.isAgg9
  have z9 := Try.sizeOf9
  rw [show (10000 : Nat) = 9999 + 1 from rfl, run_equalIn_agg w 9999 54 _ _ structV heldV]
  simp only [Program.fieldsOf, Try.underlying54]
  go_simp
  by_cases h1 : k = k' <;> by_cases h2 : n = n' <;> by_cases h3 : t.toList = t'.toList <;> simp [h1, h2, h3]
theorem neqV (k n k' n' : Int) (t t' : ByteArray) (w : World) : (binOp .neq 54 (.agg #[.int .i64 k, .int .i64 n, .string t]) (.agg #[.int .i64 k', .int .i64 n', .string t'])).run Try.prog w = .ok (.bool (!(k == k' && n == n' && t.toList == t'.toList))) w := by
  rw [run_neq_struct, eqV]; rfl
theorem gv_ext {a b : GV} : a = b ↔ a.k = b.k ∧ a.n = b.n ∧ a.t = b.t := by
  cases a; cases b; simp

set_option maxRecDepth 100000 in
set_option maxHeartbeats 600000 in
theorem same_row (A A' : Option Addr) (c c' : Nat) (r r' : List GV) (w : World) (hr : RowAt w w.heap.size A r) (hr' : RowAt w w.heap.size A' r') (hl : r.length ≤ 1048576) (hl' : r'.length ≤ 1048576) :
    Calls Try.prog 36 #[.slice A r.length c, .slice A' r'.length c'] w fun e w' => ∃ b : Bool, e = .returned (.bool b) ∧ (b = true ↔ r = r') ∧ Below w.heap.size w w' := by
  by_cases hlen : r.length = r'.length
  · have hb : ((r.length : Int) != (r'.length : Int)) = false := by simp [hlen]
    go_enter Try.func36, Try.ntmps36
    go_wp2_with fail
    go_loopw [5] (fun i w' => ∃ k : Nat, k ≤ r.length ∧ i = .int .i64 k ∧ Hid (r.take k = r'.take k) ∧ Below w.heap.size w w') (fun i _ => r.length - (intOf i).toNat)
    case atStart => exact ⟨0, Nat.zero_le _, rfl, Lib.hid rfl, Below.refl _ _⟩
    case round =>
      obtain ⟨k, hk, rfl, hT, hB⟩ := hrel
      by_cases hlt : k < r.length
      · have hlt' : k < r'.length := by omega
        obtain ⟨g, o, rfl, hg, c0, c1, c2⟩ := (hr.to_ hB).at_ hlt
        obtain ⟨g', o', rfl, hg', d0, d1, d2⟩ := (hr'.to_ hB).at_ hlt'
        have hi0 : (0 : Int) ≤ (k : Int) := by omega
        have hi1 : (k : Int) < (r.length : Int) := by omega
        have hi2 : (k : Int) < (r'.length : Int) := by omega
        have hgd := guardV
        have q0 := cell_regrown c0
        have q1 := cell_regrown c1
        have q2 := cell_regrown c2
        have q3 := cell_regrown d0
        have q4 := cell_regrown d1
        have q5 := cell_regrown d2
        have hnq := fun W => neqV r[k].k r[k].n r'[k].k r'[k].n r[k].t r'[k].t W
        go_wp2_with fail
        refine wp_region_quiet_below (by kernel_rfl) (by kernel_rfl) ?_
        repeat (go_big_quiet_step (fail))
        refine wpQuiet_nil ?_
        intro _ hw'
        obtain ⟨⟨dq, osq⟩, hw''⟩ := hw'
        subst hw''
        have hB2 := below_next hB (below_regrown wr dq osq) rfl rfl
        generalize grow (redrawn wr dq) osq = wx at *
        clear q0 q1 q2 q3 q4 q5 c0 c1 c2 d0 d1 d2
        by_cases he : r[k] = r'[k]
        · have hbb : (!r[k].k == r'[k].k || !r[k].n == r'[k].n || !r[k].t.toList == r'[k].t.toList) = false := by rw [he]; simp
          have hT2 := Lib.hid (show r.take (k + 1) = r'.take (k + 1) by rw [List.take_succ_eq_append_getElem hlt, List.take_succ_eq_append_getElem hlt', hT.out, he])
          clear he
          generalize (!r[k].k == r'[k].k || !r[k].n == r'[k].n || !r[k].t.toList == r'[k].t.toList) = B at *
          subst hbb
          go_wp2_with fail
          go_roundw
          case rel => exact ⟨k + 1, by omega, by go_num, hT2, hB2⟩
          case measure => simp [intOf]; omega
        · have hbb : (!r[k].k == r'[k].k || !r[k].n == r'[k].n || !r[k].t.toList == r'[k].t.toList) = true := by
            cases hc : (!r[k].k == r'[k].k || !r[k].n == r'[k].n || !r[k].t.toList == r'[k].t.toList) with
            | true => rfl
            | false =>
              simp at hc
              exact absurd (gv_ext.2 ⟨hc.1.1, hc.1.2, ByteArray.ext (Array.toList_inj.1 (by rw [← Lib.toList_data, ← Lib.toList_data, hc.2]))⟩) he
          have hE := Lib.hid (show ¬ r = r' by rintro rfl; exact he rfl)
          clear he
          generalize (!r[k].k == r'[k].k || !r[k].n == r'[k].n || !r[k].t.toList == r'[k].t.toList) = B at *
          subst hbb
          go_wp2_with fail
          go_ret
          exact ⟨false, rfl, by simp [hE.out], hB2⟩
      · have hE := Lib.hid (show r = r' by
          have h := hT.out
          rwa [List.take_of_length_le (by omega), List.take_of_length_le (by omega)] at h)
        go_wp2_with fail
        go_ret
        exact ⟨true, rfl, by simp [hE.out], hB⟩
  · have hb : ((r.length : Int) != (r'.length : Int)) = true := by simp; omega
    have hE := Lib.hid (show ¬ r = r' by rintro rfl; exact hlen rfl)
    go_enter Try.func36, Try.ntmps36
    go_wp2_with fail
    go_ret
    exact ⟨false, rfl, by simp [hE.out], Below.refl _ _⟩
end Go.Proofs.Yteoepnadjkjlmaa
