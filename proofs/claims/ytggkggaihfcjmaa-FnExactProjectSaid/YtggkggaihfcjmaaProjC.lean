/-
  impl.columnsOk.
-/
import Derived.Test.YtggkggaihfcjmaaProjM
namespace Go.Proofs.Ytggkggaihfcjmaa
open Go.RowKit Go.Sort
set_option linter.unusedVariables false

def colsB (zs : List GDiff) (cols : List Int) : Bool := decide (cols.length ≤ 8) && (zs.isEmpty || cols.all (inCol (widD zs)))
theorem projB_cols (zs : List GDiff) (cols : List Int) : projB zs cols = (diffOkB zs && colsB zs cols) := by unfold projB colsB; rw [Bool.and_assoc]
theorem cols_bad {zs : List GDiff} {cols : List Int} {k : Nat} (hz : 0 < zs.length) (hk : k < cols.length) (hc : inCol (widD zs) cols[k] = false) : colsB zs cols = false := by
  unfold colsB
  have h1 : zs.isEmpty = false := by cases zs with | nil => simp at hz | cons _ _ => rfl
  have h2 : cols.all (inCol (widD zs)) = false := by
    rw [List.all_eq_false]
    exact ⟨cols[k], List.getElem_mem hk, by rw [hc]; decide⟩
  rw [h1, h2]; simp
theorem cols_good {zs : List GDiff} {cols : List Int} (h8 : cols.length ≤ 8) (hc : 0 < zs.length → ∀ c ∈ cols, inCol (widD zs) c = true) : colsB zs cols = true := by
  unfold colsB
  by_cases h0 : zs.length = 0
  · obtain rfl := List.eq_nil_of_length_eq_zero h0
    simp [h8]
  · have : cols.all (inCol (widD zs)) = true := List.all_eq_true.2 (hc (by omega))
    rw [this]; simp [h8]
set_option maxRecDepth 100000 in
set_option maxHeartbeats 3200000 in
theorem impl_columns {lo lo' : Nat} (A B : Option Addr) (c d : Nat) (zs : List GDiff) (cols : List Int) (w : World) (hr : DiffsAt w lo w.heap.size A zs) (hc : IntsAt w lo' w.heap.size B cols) (hl : zs.length ≤ 1048576) (hcl : cols.length ≤ 1048576) :
    Calls Try.prog 69 #[.slice A zs.length c, .slice B cols.length d] w fun e w' => e = .returned (.bool (colsB zs cols)) ∧ w = w' := by
  have HR := Lib.hid hr
  have HC := Lib.hid hc
  clear hr hc
  by_cases h8 : 8 < cols.length
  · have hp := Lib.hid (show colsB zs cols = false by unfold colsB; rw [show decide (cols.length ≤ 8) = false by simpa using h8]; simp)
    have h8d : decide ((8 : Int) < (cols.length : Int)) = true := by simp; omega
    go_enter Try.func69, Try.ntmps69
    go_wp2_with fail
    go_ret
    exact ⟨by rw [hp.out]; rfl, rfl⟩
  · have h8d : decide ((8 : Int) < (cols.length : Int)) = false := by simp; omega
    go_enter Try.func69, Try.ntmps69
    go_wp2_with fail
    go_loopw [12] (fun i w' => ∃ k : Nat, k ≤ cols.length ∧ i = .int .i64 k ∧ Hid (0 < zs.length → ∀ c ∈ cols.take k, inCol (widD zs) c = true) ∧ w = w') (fun i _ => cols.length - (intOf i).toNat)
    case atStart => exact ⟨0, Nat.zero_le _, rfl, Lib.hid (fun _ c hc => by simp at hc), rfl⟩
    case round =>
      obtain ⟨k, hk, rfl, hG, rfl⟩ := hrel
      by_cases hlt : k < cols.length
      · have hi1 : (k : Int) < (cols.length : Int) := by omega
        have hi0 : (0 : Int) ≤ (k : Int) := by omega
        obtain ⟨g, o, rfl, _, hg, he⟩ := HC.out.at_ hlt
        have he2 : w.cell? ⟨g, o + k, none⟩ = some (.int .i64 cols[k]) := he
        clear he
        by_cases h0 : zs.length = 0
        · obtain rfl := List.eq_nil_of_length_eq_zero h0
          have hG2 := Lib.hid (show 0 < ([] : List GDiff).length → ∀ c ∈ cols.take (k + 1), inCol (widD []) c = true from fun h => absurd h (by simp))
          clear h0
          generalize cols[k] = y at *
          go_wp2_with fail
          go_roundw
          case rel => first | exact ⟨k + 1, by omega, by go_num, hG2, rfl⟩ | exact ⟨k + 1, by omega, by go_num, hG2, trivial⟩
          case measure => simp [intOf]; omega
        · have hzp : (0 : Int) < (zs.length : Int) := by omega
          have hzn : 0 < zs.length := by omega
          have hz0 : decide ((0 : Int) < (zs.length : Int)) = true := by simpa using hzp
          by_cases hin : inCol (widD zs) cols[k] = true
          · have hG2 := Lib.hid (show 0 < zs.length → ∀ c ∈ cols.take (k + 1), inCol (widD zs) c = true from fun h c hc => by
              rw [List.take_succ_eq_append_getElem hlt, List.mem_append, List.mem_singleton] at hc
              rcases hc with hc | rfl
              · exact hG.out h c hc
              · exact hin)
            have hn0 : decide (cols[k] < 0) = false := by unfold inCol at hin; simp only [Bool.and_eq_true, decide_eq_true_eq] at hin; simp; omega
            have hn1 : decide ((wid (rowsD zs) : Int) ≤ cols[k]) = false := by unfold inCol widD at hin; simp only [Bool.and_eq_true, decide_eq_true_eq] at hin; simp; omega
            have HW := Lib.hid (impl_width A c zs w HR.out (by omega))
            clear h0 hin
            generalize cols[k] = y at *
            go_wp2_with fail
            refine HW.out.mono ?_
            rintro e w1 ⟨rfl, rfl⟩
            go_wp2_with fail
            go_roundw
            case rel => first | exact ⟨k + 1, by omega, by go_num, hG2, rfl⟩ | exact ⟨k + 1, by omega, by go_num, hG2, trivial⟩
            case measure => simp [intOf]; omega
          · rw [Bool.not_eq_true] at hin
            have hp := Lib.hid (cols_bad (by omega) hlt hin)
            have hbd : cols[k] < 0 ∨ (0 ≤ cols[k] ∧ (wid (rowsD zs) : Int) ≤ cols[k]) := by
              unfold inCol widD at hin
              simp only [Bool.and_eq_false_iff, decide_eq_false_iff_not] at hin
              omega
            have HW := Lib.hid (impl_width A c zs w HR.out (by omega))
            clear h0 hin
            generalize cols[k] = y at *
            rcases hbd with hy | ⟨hy, hy2⟩
            · have hn0 : decide (y < 0) = true := by simpa using hy
              go_wp2_with fail
              go_ret
              exact ⟨by rw [hp.out]; rfl, rfl⟩
            · have hn0 : decide (y < 0) = false := by simp; omega
              have hn1 : decide ((wid (rowsD zs) : Int) ≤ y) = true := by simpa using hy2
              go_wp2_with fail
              refine HW.out.mono ?_
              rintro e w1 ⟨rfl, rfl⟩
              go_wp2_with fail
              go_ret
              exact ⟨by rw [hp.out]; rfl, rfl⟩
      · have hi1 : ¬ (k : Int) < (cols.length : Int) := by omega
        have hp := Lib.hid (show colsB zs cols = true from cols_good (by omega) (fun h c hc => by have h3 := hG.out h; rw [List.take_of_length_le (by omega)] at h3; exact h3 c hc))
        go_wp2_with fail
        go_ret
        exact ⟨by rw [hp.out]; rfl, rfl⟩
end Go.Proofs.Ytggkggaihfcjmaa
