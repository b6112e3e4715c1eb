/-
  How the laws measure a value. How the laws measure differences. laws.toValue.
-/
import Derived.Test.YtggkggaihfcjmaaTyDiffZ
namespace Go.Proofs.Ytggkggaihfcjmaa
open Go.RowKit Go.Sort
set_option linter.unusedVariables false

set_option maxHeartbeats 1600000 in
theorem sz_Value (x : GV) (left : Int) (w : World) (hf : fitValue x) (h0 : 0 ≤ left) (h1 : left ≤ 1048576) :
    Calls Try.prog 82 #[.agg #[.int .i64 x.k, .int .i64 x.n, .string x.t], .int .i64 left] w fun e w' => e = .returned (.int .i64 (szC (costValue x) left)) ∧ Below w.heap.size w w' := by
  have F := Lib.hid hf
  clear hf
  have m2 : x.t.size ≤ 9223372036854775807 := by have h := F.out.2.2; unfold maxLen at h; exact h
  have hct := Lib.hid (show costValue x = x.t.size from rfl)
  have hB0 : Below w.heap.size w (w.alloc (.cells #[.int .i64 x.k, .int .i64 x.n, .string x.t] 98)) := (Below.refl _ _).alloc (Nat.le_refl _) _
  have hP := Lib.hid (Whole.new w 98 [.int .i64 x.k, .int .i64 x.n, .string x.t])
  by_cases hn0 : left - (x.t.size : Nat) < 0
  · have H := Lib.hid (show szC (costValue x) left = -1 by rw [hct.out]; unfold szC; rw [if_pos (by omega)])
    go_enter Try.func82, Try.ntmps82
    go_wp2_with fail
    go_ret
    exact ⟨ret_int (by rw [H.out]), hB0⟩
  go_enter Try.func82, Try.ntmps82
  have H := Lib.hid (show szC (costValue x) left = left - (x.t.size : Nat) by rw [hct.out]; unfold szC; rw [if_neg (by omega)] <;> omega)
  go_wp2_with fail
  go_ret
  exact ⟨ret_int (by rw [H.out]), hB0⟩

end Go.Proofs.Ytggkggaihfcjmaa
namespace Go.Proofs.Ytggkggaihfcjmaa
open Go.RowKit Go.Sort
set_option linter.unusedVariables false

set_option maxHeartbeats 1600000 in
theorem sz_Values {lo : Nat} (A : Option Addr) (c : Nat) (xs : List (GV)) (left : Int) (w : World) (hf : fitValues xs) (hr : ValuesAt w lo w.heap.size A xs) (h0 : 0 ≤ left) (h1 : left ≤ 1048576) :
    Calls Try.prog 54 #[.slice A xs.length c, .int .i64 left] w fun e w' => e = .returned (.int .i64 (szC (costValues xs) left)) ∧ Below w.heap.size w w' := by
  have hl : xs.length ≤ 9223372036854775807 := by have h := hf.1; unfold maxLen at h; exact h
  have FX := Lib.hid hf.2
  clear hf
  have hct := Lib.hid (show costValues xs = xs.length + sumC costValue xs from rfl)
  have HR := Lib.hid hr
  clear hr
  by_cases hlen : left - xs.length < 0
  · have H := Lib.hid (show szC (costValues xs) left = -1 by rw [hct.out]; unfold szC; rw [if_pos (by omega)])
    go_enter Try.func54, Try.ntmps54
    go_wp2_with fail
    go_ret
    exact ⟨ret_int (by rw [H.out]), Below.refl _ _⟩
  go_enter Try.func54, Try.ntmps54
  go_wp2_with fail
  go_loopw [1, 5] (fun l i w' => ∃ k : Nat, k ≤ xs.length ∧ i = .int .i64 k ∧ l = .int .i64 (left - xs.length - (sumC costValue (xs.take k) : Nat)) ∧ 0 ≤ left - xs.length - (sumC costValue (xs.take k) : Nat) ∧ Below w.heap.size w w') (fun _ i _ => xs.length - (intOf i).toNat)
  case atStart => exact ⟨0, Nat.zero_le _, rfl, by simp [sumC], by simp [sumC]; omega, Below.refl _ _⟩
  case round =>
    obtain ⟨k, hk, rfl, rfl, hp, hB⟩ := hrel
    by_cases hlt : k < xs.length
    · obtain ⟨g, o, rfl, hg0, hg, he⟩ := (HR.out.to_ hB).at_ hlt
      have hst := Lib.hid (sumC_take costValue xs k hlt)
      have htot := sumC_le costValue xs (k + 1)
      have hm := FX.out _ (List.getElem_mem hlt)
      have hi1 : (k : Int) < (xs.length : Int) := by omega
      have hi0 : (0 : Int) ≤ (k : Int) := by omega
      obtain ⟨h0x, h1x, h2x⟩ := he
      go_wp2_with fail
      refine (sz_Value xs[k] _ _ hm hp (by omega)).mono ?_
      rintro e w2 ⟨rfl, hb2⟩
      have hB2 := below_next hB hb2 rfl rfl
      clear h0x h1x h2x
      by_cases hneg : left - xs.length - (sumC costValue (xs.take k) : Nat) - (costValue xs[k] : Nat) < 0
      · have hs : szC (costValue xs[k]) (left - xs.length - (sumC costValue (xs.take k) : Nat)) = -1 := by unfold szC; rw [if_pos hneg]
        have H := Lib.hid (show szC (costValues xs) left = -1 by have := hst.out; rw [hct.out]; unfold szC; rw [if_pos (by omega)])
        rw [hs]
        clear hs
        go_wp2_with fail
        go_ret
        exact ⟨ret_int (by rw [H.out]), hB2⟩
      · have hs : szC (costValue xs[k]) (left - xs.length - (sumC costValue (xs.take k) : Nat)) = left - xs.length - (sumC costValue (xs.take (k + 1)) : Nat) := by have := hst.out; unfold szC; rw [if_neg hneg]; omega
        have hp2 : 0 ≤ left - xs.length - (sumC costValue (xs.take (k + 1)) : Nat) := by have := hst.out; omega
        rw [hs]
        clear hs
        go_wp2_with fail
        go_roundw
        case rel => exact ⟨k + 1, by omega, by go_num, rfl, hp2, hB2⟩
        case measure => simp [intOf]; omega
    · have H := Lib.hid (show szC (costValues xs) left = left - xs.length - (sumC costValue (xs.take k) : Nat) by
        rw [List.take_of_length_le (by omega)] at hp ⊢
        rw [hct.out]; unfold szC; rw [if_neg (by omega)]; omega)
      have hi1 : ¬ (k : Int) < (xs.length : Int) := by omega
      go_wp2_with fail
      go_ret
      exact ⟨ret_int (by rw [H.out]), hB⟩

set_option maxHeartbeats 1600000 in
theorem sz_Diff {lo : Nat} (x : GDiff) (A0 : Option Addr) (c0 : Nat) (left : Int) (w : World) (hf : fitDiff x) (s0 : ValuesAt w lo w.heap.size A0 x.row) (h0 : 0 ≤ left) (h1 : left ≤ 1048576) :
    Calls Try.prog 44 #[.agg #[.slice A0 x.row.length c0, .int .i64 x.count], .int .i64 left] w fun e w' => e = .returned (.int .i64 (szC (costDiff x) left)) ∧ Below w.heap.size w w' := by
  have F := Lib.hid hf
  clear hf
  have hct := Lib.hid (show costDiff x = costValues x.row from rfl)
  have hB0 : Below w.heap.size w (w.alloc (.cells #[.slice A0 x.row.length c0, .int .i64 x.count] 65)) := (Below.refl _ _).alloc (Nat.le_refl _) _
  have hP := Lib.hid (Whole.new w 65 [.slice A0 x.row.length c0, .int .i64 x.count])
  go_enter Try.func44, Try.ntmps44
  go_wp2_with fail
  refine (sz_Values A0 c0 x.row _ _ F.out.1 (s0.to_ hB0) (by omega) (by omega)).mono ?_
  rintro e w0 ⟨rfl, hb0⟩
  have hB0' := below_next hB0 hb0 rfl rfl
  by_cases hn0 : left - (costValues x.row : Nat) < 0
  · have hs : szC (costValues x.row) (left) = -1 := by unfold szC; rw [if_pos hn0]
    have H := Lib.hid (show szC (costDiff x) left = -1 by rw [hct.out]; unfold szC; rw [if_pos (by omega)])
    rw [hs]
    clear hs
    go_wp2_with fail
    go_ret
    exact ⟨ret_int (by rw [H.out]), hB0'⟩
  have hs0 : szC (costValues x.row) (left) = left - (costValues x.row : Nat) := by unfold szC; rw [if_neg hn0]
  rw [hs0]
  clear hs0
  have H := Lib.hid (show szC (costDiff x) left = left - (costValues x.row : Nat) by rw [hct.out]; unfold szC; rw [if_neg (by omega)] <;> omega)
  go_wp2_with fail
  go_ret
  exact ⟨ret_int (by rw [H.out]), hB0'⟩

set_option maxHeartbeats 1600000 in
theorem sz_Diffs {lo : Nat} (A : Option Addr) (c : Nat) (xs : List (GDiff)) (left : Int) (w : World) (hf : fitDiffs xs) (hr : DiffsAt w lo w.heap.size A xs) (h0 : 0 ≤ left) (h1 : left ≤ 1048576) :
    Calls Try.prog 11 #[.slice A xs.length c, .int .i64 left] w fun e w' => e = .returned (.int .i64 (szC (costDiffs xs) left)) ∧ Below w.heap.size w w' := by
  have hl : xs.length ≤ 9223372036854775807 := by have h := hf.1; unfold maxLen at h; exact h
  have FX := Lib.hid hf.2
  clear hf
  have hct := Lib.hid (show costDiffs xs = xs.length + sumC costDiff xs from rfl)
  have HR := Lib.hid hr
  clear hr
  by_cases hlen : left - xs.length < 0
  · have H := Lib.hid (show szC (costDiffs xs) left = -1 by rw [hct.out]; unfold szC; rw [if_pos (by omega)])
    go_enter Try.func11, Try.ntmps11
    go_wp2_with fail
    go_ret
    exact ⟨ret_int (by rw [H.out]), Below.refl _ _⟩
  go_enter Try.func11, Try.ntmps11
  go_wp2_with fail
  go_loopw [1, 5] (fun l i w' => ∃ k : Nat, k ≤ xs.length ∧ i = .int .i64 k ∧ l = .int .i64 (left - xs.length - (sumC costDiff (xs.take k) : Nat)) ∧ 0 ≤ left - xs.length - (sumC costDiff (xs.take k) : Nat) ∧ Below w.heap.size w w') (fun _ i _ => xs.length - (intOf i).toNat)
  case atStart => exact ⟨0, Nat.zero_le _, rfl, by simp [sumC], by simp [sumC]; omega, Below.refl _ _⟩
  case round =>
    obtain ⟨k, hk, rfl, rfl, hp, hB⟩ := hrel
    by_cases hlt : k < xs.length
    · obtain ⟨g, o, rfl, hg0, hg, he⟩ := (HR.out.to_ hB).at_ hlt
      have hst := Lib.hid (sumC_take costDiff xs k hlt)
      have htot := sumC_le costDiff xs (k + 1)
      have hm := FX.out _ (List.getElem_mem hlt)
      have hi1 : (k : Int) < (xs.length : Int) := by omega
      have hi0 : (0 : Int) ≤ (k : Int) := by omega
      obtain ⟨h0x, h1x⟩ := he
      obtain ⟨A0, c0, ⟨h0y, q0⟩, s0⟩ := h0x
      go_wp2_with fail
      refine (sz_Diff xs[k] A0 c0 _ _ hm s0 hp (by omega)).mono ?_
      rintro e w2 ⟨rfl, hb2⟩
      have hB2 := below_next hB hb2 rfl rfl
      clear h0y h1x
      by_cases hneg : left - xs.length - (sumC costDiff (xs.take k) : Nat) - (costDiff xs[k] : Nat) < 0
      · have hs : szC (costDiff xs[k]) (left - xs.length - (sumC costDiff (xs.take k) : Nat)) = -1 := by unfold szC; rw [if_pos hneg]
        have H := Lib.hid (show szC (costDiffs xs) left = -1 by have := hst.out; rw [hct.out]; unfold szC; rw [if_pos (by omega)])
        rw [hs]
        clear hs
        go_wp2_with fail
        go_ret
        exact ⟨ret_int (by rw [H.out]), hB2⟩
      · have hs : szC (costDiff xs[k]) (left - xs.length - (sumC costDiff (xs.take k) : Nat)) = left - xs.length - (sumC costDiff (xs.take (k + 1)) : Nat) := by have := hst.out; unfold szC; rw [if_neg hneg]; omega
        have hp2 : 0 ≤ left - xs.length - (sumC costDiff (xs.take (k + 1)) : Nat) := by have := hst.out; omega
        rw [hs]
        clear hs
        go_wp2_with fail
        go_roundw
        case rel => exact ⟨k + 1, by omega, by go_num, rfl, hp2, hB2⟩
        case measure => simp [intOf]; omega
    · have H := Lib.hid (show szC (costDiffs xs) left = left - xs.length - (sumC costDiff (xs.take k) : Nat) by
        rw [List.take_of_length_le (by omega)] at hp ⊢
        rw [hct.out]; unfold szC; rw [if_neg (by omega)]; omega)
      have hi1 : ¬ (k : Int) < (xs.length : Int) := by omega
      go_wp2_with fail
      go_ret
      exact ⟨ret_int (by rw [H.out]), hB⟩

end Go.Proofs.Ytggkggaihfcjmaa
namespace Go.Proofs.Ytggkggaihfcjmaa
open Go.RowKit Go.Sort
set_option linter.unusedVariables false

def ToValue (w : World) (x : GV) (e : Ending) (w' : World) : Prop := e = .returned (.agg #[.int .i64 x.k, .int .i64 x.n, .string x.t]) ∧ UF w' w.heap.size w'.heap.size ∧ Below w.heap.size w w'
set_option maxRecDepth 100000 in
set_option maxHeartbeats 3200000 in
theorem to_Value (x : GV) (w : World) :
    Calls Try.prog 83 #[.agg #[.int .i64 x.k, .int .i64 x.n, .string x.t]] w (ToValue w x) := by
  go_enter Try.func83, Try.ntmps83
  go_wp2
  refine bodyPost_ret (v := .agg #[.int .i64 x.k, .int .i64 x.n, .string x.t]) (by simp [results, Try.results83, go_sem]) rfl ⟨rfl, ?_, ?_⟩
  · exact (((UF.start w).alloc _ _).alloc _ _).alloc _ _
  · exact (((Below.refl _ _).alloc (Nat.le_refl _) _).alloc (by simp) _).alloc (by simp; omega) _

end Go.Proofs.Ytggkggaihfcjmaa
