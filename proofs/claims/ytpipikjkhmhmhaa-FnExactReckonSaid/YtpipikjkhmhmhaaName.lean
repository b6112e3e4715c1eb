/-
  Letters, names, words: spec.l2Letter, spec.l2Name, spec.l2Agg, spec.l2Word, spec.l2Op; impl.isNameByte, impl.nameSize, impl.nameOk, impl.variableOk, impl.wordOk, impl.typeOk, impl.aggregateOk, impl.comparisonOk.
-/
import Derived.Test.YtpipikjkhmhmhaaTy
import Derived.Test.YtpipikjkhmhmhaaTextS
namespace Go.Proofs.Ytpipikjkhmhmhaa
open Go.RowKit
set_option linter.unusedVariables false

def letterB (n : Int) : Bool := decide (97 ≤ n ∧ n ≤ 122 ∨ 65 ≤ n ∧ n ≤ 90 ∨ 48 ≤ n ∧ n ≤ 57 ∨ n = 95)
def letU (c : UInt8) : Bool := letterB (c.toNat : Int)
theorem spec_letter (n : Int) (w : World) :
    Calls Try.prog 129 #[.int .u8 n] w fun e w' => e = .returned (.bool (letterB n)) ∧ w = w' := by
  go_enter Try.func129, Try.ntmps129
  go_wp2
  all_goals go_ret
  all_goals refine ⟨ret_bool ?_, rfl⟩
  all_goals (rw [Bool.eq_iff_iff]; simp [letterB]; omega)
theorem impl_letter (n : Int) (w : World) :
    Calls Try.prog 149 #[.int .u8 n] w fun e w' => e = .returned (.bool (letterB n)) ∧ w = w' := by
  go_enter Try.func149, Try.ntmps149
  go_wp2
  all_goals go_ret
  all_goals refine ⟨ret_bool ?_, rfl⟩
  all_goals (rw [Bool.eq_iff_iff]; simp [letterB]; omega)
def isT (s : ByteArray) (l : List UInt8) : Bool := s.toList == l
def aggB (s : ByteArray) : Bool := isT s [109, 105, 110] || isT s [109, 97, 120] || isT s [115, 117, 109] || isT s [99, 111, 117, 110, 116]
def opB (s : ByteArray) : Bool := isT s [61] || isT s [33, 61] || isT s [60] || isT s [60, 61] || isT s [62] || isT s [62, 61]
def typeB (s : ByteArray) : Bool := isT s [105, 110, 116] || isT s [116, 101, 120, 116] || isT s [97, 110, 121]
theorem spec_agg (s : ByteArray) (w : World) :
    Calls Try.prog 103 #[.string s] w fun e w' => e = .returned (.bool (aggB s)) ∧ w = w' := by
  go_enter Try.func103, Try.ntmps103
  go_wp2
  all_goals go_ret
  all_goals refine ⟨ret_bool ?_, rfl⟩
  all_goals simp_all [aggB, isT]
def lets (l : List UInt8) : Bool := l.all letU
def firstB (lo hi : Int) (l : List UInt8) : Bool := match l with | [] => false | c :: _ => decide (lo ≤ (c.toNat : Int) ∧ (c.toNat : Int) ≤ hi)
def nameB (lo hi : Int) (s : ByteArray) : Bool := decide (1 ≤ s.size) && decide (s.size ≤ 20) && firstB lo hi s.data.toList && lets s.data.toList
theorem lets_snoc (l : List UInt8) (c : UInt8) : lets (l ++ [c]) = (lets l && letU c) := by simp [lets]
theorem lets_bad (s : ByteArray) (k : Nat) (h : k < s.size) (hg : letU s[k] = false) : lets s.data.toList = false := by
  unfold lets
  rw [List.all_eq_false]
  exact ⟨s[k], by simp [ByteArray.getElem_eq_getElem_data], by simp [hg]⟩
theorem first_at (lo hi : Int) (s : ByteArray) (h : 0 < s.size) : firstB lo hi s.data.toList = decide (lo ≤ (s[0].toNat : Int) ∧ (s[0].toNat : Int) ≤ hi) := by
  have h1 : 0 < s.data.toList.length := by simpa using h
  have e : s.data.toList = s[0] :: s.data.toList.drop 1 := by
    conv => lhs; rw [← List.drop_zero (l := s.data.toList), List.drop_eq_getElem_cons h1]
    rfl
  rw [e]
  rfl
theorem spec_letter_is (b : Bool) (c : UInt8) (w : World) (h : letU c = b) :
    Calls Try.prog 129 #[.int .u8 (c.toNat : Int)] w fun e w' => e = .returned (.bool b) ∧ w = w' := by subst h; exact spec_letter _ w
theorem impl_letter_is (b : Bool) (c : UInt8) (w : World) (h : letU c = b) :
    Calls Try.prog 149 #[.int .u8 (c.toNat : Int)] w fun e w' => e = .returned (.bool b) ∧ w = w' := by subst h; exact impl_letter _ w

set_option maxHeartbeats 800000 in
theorem spec_name (s : ByteArray) (lo hi : Int) (w : World) (hs : s.size ≤ maxLen) :
    Calls Try.prog 102 #[.string s, .int .u8 lo, .int .u8 hi] w fun e w' => e = .returned (.bool (nameB lo hi s)) ∧ w = w' := by
  unfold maxLen at hs
  by_cases hgood : 0 < s.size ∧ s.size ≤ 20
  · obtain ⟨h1, h20⟩ := hgood
    have hfa := first_at lo hi s h1
    have h1i : ¬ (s.size : Int) < 1 := by omega
    have h20i : ¬ (20 : Int) < (s.size : Int) := by omega
    by_cases hlo : (s[0].toNat : Int) < lo
    · have H := Lib.hid (show nameB lo hi s = false by unfold nameB; rw [hfa]; simp; omega)
      clear hfa
      go_enter Try.func102, Try.ntmps102
      go_wp2_with fail
      go_ret
      exact ⟨ret_bool (by rw [H.out]), rfl⟩
    · by_cases hhi : hi < (s[0].toNat : Int)
      · have H := Lib.hid (show nameB lo hi s = false by unfold nameB; rw [hfa]; simp; omega)
        clear hfa
        go_enter Try.func102, Try.ntmps102
        go_wp2_with fail
        go_ret
        exact ⟨ret_bool (by rw [H.out]), rfl⟩
      · have HN := Lib.hid (show nameB lo hi s = lets s.data.toList by unfold nameB; rw [hfa, decide_eq_true (show 1 ≤ s.size by omega), decide_eq_true h20, decide_eq_true (by omega)]; rfl)
        clear hfa
        go_enter Try.func102, Try.ntmps102
        go_wp2_with fail
        go_loop [7] (fun i => ∃ k : Nat, k ≤ s.size ∧ i = .int .i64 k ∧ Hid (lets (s.data.toList.take k) = true)) (fun i => s.size - (intOf i).toNat)
        case atStart => exact ⟨0, Nat.zero_le _, rfl, Lib.hid rfl⟩
        case round =>
          obtain ⟨k, hk, rfl, hL⟩ := hrel
          by_cases hlt : k < s.size
          · have hts := take_snoc s k hlt
            have hsn := lets_snoc (s.data.toList.take k) s[k]
            rw [← hts] at hsn
            have HS := Lib.hid hsn
            clear hsn hts
            by_cases hc : letU s[k] = true
            · have HX := Lib.hid (show lets (s.data.toList.take (k + 1)) = true by rw [HS.out, hL.out, hc]; rfl)
              go_wp2_with (go_at_call 129; refine (spec_letter_is true _ _ hc).mono ?_; rintro e w' ⟨rfl, rfl⟩)
              go_round
              case rel => exact ⟨k + 1, by omega, by go_num, HX⟩
              case measure => simp [intOf]; omega
            · rw [Bool.not_eq_true] at hc
              have HX := Lib.hid (lets_bad s k hlt hc)
              go_wp2_with (go_at_call 129; refine (spec_letter_is false _ _ hc).mono ?_; rintro e w' ⟨rfl, rfl⟩)
              go_ret
              exact ⟨ret_bool (by rw [HN.out, HX.out]), rfl⟩
          · go_wp2_with fail
            go_ret
            refine ⟨ret_bool ?_, rfl⟩
            have h := hL.out
            rw [List.take_of_length_le (by simp; omega)] at h
            rw [HN.out, h]
  · have H := Lib.hid (show nameB lo hi s = false by unfold nameB; simp; omega)
    by_cases h1 : (s.size : Int) < 1
    · go_enter Try.func102, Try.ntmps102
      go_wp2_with fail
      go_ret
      exact ⟨ret_bool (by rw [H.out]), rfl⟩
    · have h20 : (20 : Int) < (s.size : Int) := by omega
      go_enter Try.func102, Try.ntmps102
      go_wp2_with fail
      go_ret
      exact ⟨ret_bool (by rw [H.out]), rfl⟩
end Go.Proofs.Ytpipikjkhmhmhaa
