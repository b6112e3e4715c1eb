/-
  Contracts of the comparisons: cmp.Compare at int64 and string, cmp.Or at int, spec.l1Sign, spec.CompareValues, impl.CompareValues.
-/
import Derived.Test.YteoepnadjkjlmaaText
import Derived.Test.YteoepnadjkjlmaaCmpM
namespace Go.Proofs.Yteoepnadjkjlmaa
open Go.RowKit
set_option linter.unusedVariables false

theorem nan_int (a : Int) (w : World) :
    Calls Try.prog 85 #[.int .i64 a] w fun e w' => e = .returned (.bool false) ∧ w = w' := by
  go_enter Try.func85, Try.ntmps85
  go_wp2
  go_ret
  exact ⟨ret_bool (by simp), rfl⟩
theorem nan_text (a : ByteArray) (w : World) :
    Calls Try.prog 86 #[.string a] w fun e w' => e = .returned (.bool false) ∧ w = w' := by
  go_enter Try.func86, Try.ntmps86
  go_wp2
  go_ret
  exact ⟨ret_bool (by simp), rfl⟩
theorem compare_int (a b : Int) (w : World) :
    Calls Try.prog 70 #[.int .i64 a, .int .i64 b] w fun e w' => e = .returned (.int .i64 (cmpI a b)) ∧ w = w' := by
  go_enter Try.func70, Try.ntmps70
  go_wp2_with (go_at_call 85; refine (nan_int _ _).mono ?_; rintro e w' ⟨rfl, rfl⟩)
  all_goals go_ret
  all_goals refine ⟨ret_int ?_, rfl⟩
  all_goals unfold cmpI
  · rw [if_pos (by assumption)]
  · rw [if_neg (by omega), if_pos (by omega)]
  · rw [if_neg (by omega), if_neg (by omega)]
theorem compare_text (a b : ByteArray) (w : World) :
    Calls Try.prog 71 #[.string a, .string b] w fun e w' => e = .returned (.int .i64 (cmpT a b)) ∧ w = w' := by
  by_cases he : a = b
  · subst he
    by_cases hl : Op.bytesLess a.toList a.toList = true
    · have H := Lib.hid (show cmpT a a = -1 by simp [cmpT, ltT, hl])
      go_enter Try.func71, Try.ntmps71
      go_wp2_with (go_at_call 86; refine (nan_text _ _).mono ?_; rintro e w' ⟨rfl, rfl⟩)
      go_ret
      exact ⟨ret_int (by rw [H.out]), rfl⟩
    · have H := Lib.hid (show cmpT a a = 0 by simp [cmpT, ltT, hl])
      simp only [Bool.not_eq_true] at hl
      go_enter Try.func71, Try.ntmps71
      go_wp2_with (go_at_call 86; refine (nan_text _ _).mono ?_; rintro e w' ⟨rfl, rfl⟩)
      go_ret
      exact ⟨ret_int (by rw [H.out]), rfl⟩
  · have he2 : (a.toList == b.toList) = false := by
      rw [beq_eq_false_iff_ne]
      intro h
      rw [Lib.toList_data, Lib.toList_data] at h
      exact he (ByteArray.ext (Array.toList_inj.1 h))
    by_cases hl : Op.bytesLess a.toList b.toList = true
    · have H := Lib.hid (show cmpT a b = -1 by simp [cmpT, ltT, hl])
      go_enter Try.func71, Try.ntmps71
      go_wp2_with (go_at_call 86; refine (nan_text _ _).mono ?_; rintro e w' ⟨rfl, rfl⟩)
      go_ret
      exact ⟨ret_int (by rw [H.out]), rfl⟩
    · have H := Lib.hid (show cmpT a b = 1 by simp [cmpT, ltT, hl, he])
      simp only [Bool.not_eq_true] at hl
      go_enter Try.func71, Try.ntmps71
      go_wp2_with (go_at_call 86; refine (nan_text _ _).mono ?_; rintro e w' ⟨rfl, rfl⟩)
      go_ret
      exact ⟨ret_int (by rw [H.out]), rfl⟩

set_option maxHeartbeats 400000 in
theorem or_ints (g c : Nat) (a0 a1 a2 : Int) (w : World) (h0 : w.cell? ⟨g, 0, none⟩ = some (.int .i64 a0)) (h1 : w.cell? ⟨g, 1, none⟩ = some (.int .i64 a1)) (h2 : w.cell? ⟨g, 2, none⟩ = some (.int .i64 a2)) :
    Calls Try.prog 69 #[.slice (some ⟨g, 0, none⟩) 3 c] w fun e w' => e = .returned (.int .i64 (or3 a0 a1 a2)) ∧ w = w' := by
  go_enter Try.func69, Try.ntmps69
  go_wp2
  go_loop [8] (fun i => ∃ k : Nat, k ≤ 3 ∧ i = .int .i64 k ∧ Hid ((0 < k → a0 = 0) ∧ (1 < k → a1 = 0) ∧ (2 < k → a2 = 0))) (fun i => 3 - (intOf i).toNat)
  case atStart => exact ⟨0, Nat.zero_le _, rfl, Lib.hid ⟨by omega, by omega, by omega⟩⟩
  case round =>
    obtain ⟨k, hk, rfl, hz⟩ := hrel
    have hk' : k = 0 ∨ k = 1 ∨ k = 2 ∨ k = 3 := by omega
    rcases hk' with rfl | rfl | rfl | rfl
    · by_cases h : a0 = 0
      · have hb : (a0 != 0) = false := by simp [h]
        have H := Lib.hid h
        clear h
        go_wp2
        go_round
        case rel => exact ⟨1, by omega, by go_num, Lib.hid ⟨fun _ => H.out, by omega, by omega⟩⟩
        case measure => simp [intOf]
      · have hb : (a0 != 0) = true := by simp [h]
        have H := Lib.hid (show or3 a0 a1 a2 = a0 by simp [or3, h])
        clear h
        go_wp2
        go_ret
        exact ⟨ret_int (by rw [H.out]), rfl⟩
    · by_cases h : a1 = 0
      · have hb : (a1 != 0) = false := by simp [h]
        have H := Lib.hid h
        clear h
        go_wp2
        go_round
        case rel => exact ⟨2, by omega, by go_num, Lib.hid ⟨fun _ => hz.out.1 (by omega), fun _ => H.out, by omega⟩⟩
        case measure => simp [intOf]
      · have hb : (a1 != 0) = true := by simp [h]
        have H := Lib.hid (show or3 a0 a1 a2 = a1 by simp [or3, h, hz.out.1 (by omega)])
        clear h
        go_wp2
        go_ret
        exact ⟨ret_int (by rw [H.out]), rfl⟩
    · by_cases h : a2 = 0
      · have hb : (a2 != 0) = false := by simp [h]
        have H := Lib.hid h
        clear h
        go_wp2
        go_round
        case rel => exact ⟨3, by omega, by go_num, Lib.hid ⟨fun _ => hz.out.1 (by omega), fun _ => hz.out.2.1 (by omega), fun _ => H.out⟩⟩
        case measure => simp [intOf]
      · have hb : (a2 != 0) = true := by simp [h]
        have H := Lib.hid (show or3 a0 a1 a2 = a2 by simp [or3, hz.out.1 (by omega), hz.out.2.1 (by omega)])
        clear h
        go_wp2
        go_ret
        exact ⟨ret_int (by rw [H.out]), rfl⟩
    · have H := Lib.hid (show or3 a0 a1 a2 = 0 by simp [or3, hz.out.1 (by omega), hz.out.2.1 (by omega), hz.out.2.2 (by omega)])
      go_wp2
      go_ret
      exact ⟨ret_int (by rw [H.out]), rfl⟩

set_option maxHeartbeats 1000000 in
theorem impl_compare (k n : Int) (t : ByteArray) (k' n' : Int) (t' : ByteArray) (w : World) :
    Calls Try.prog 59 #[.agg #[.int .i64 k, .int .i64 n, .string t], .agg #[.int .i64 k', .int .i64 n', .string t']] w fun e w' => e = .returned (.int .i64 (cmpV k n t k' n' t')) ∧ Below w.heap.size w w' := by
  go_enter Try.func59, Try.ntmps59
  go_wp2_with fail
  go_region_held3 (fun w' => w'.cell? ⟨w.heap.size, 0, none⟩ = some (.int .i64 k) ∧ w'.cell? ⟨w.heap.size, 1, none⟩ = some (.int .i64 n) ∧ w'.cell? ⟨w.heap.size, 2, none⟩ = some (.string t) ∧
      w'.cell? ⟨w.heap.size + 1, 0, none⟩ = some (.int .i64 k') ∧ w'.cell? ⟨w.heap.size + 1, 1, none⟩ = some (.int .i64 n') ∧ w'.cell? ⟨w.heap.size + 1, 2, none⟩ = some (.string t'))
    (first | go_keep)
    (first
      | (go_at_call 70; refine (compare_int _ _ _).mono ?_; rintro e w' ⟨rfl, rfl⟩)
      | (go_at_call 71; refine (compare_text _ _ _).mono ?_; rintro e w' ⟨rfl, rfl⟩)
      | (go_at_call 69; refine (or_ints _ _ (cmpI k k') (cmpI n n') (cmpT t t') _ (by go_simp) (by go_simp) (by go_simp)).mono ?_; rintro e w' ⟨rfl, rfl⟩))
  go_wp2
  go_ret
  exact ⟨rfl, ((((Below.refl _ _).alloc (Nat.le_refl _) _).alloc (by simp) _).alloc (by simp; omega) _).drew⟩
end Go.Proofs.Yteoepnadjkjlmaa
