/-
  Contracts of spec.l1RowOk and impl.rowOk: both answer rowOkB. Contracts of the comparisons: cmp.Compare at int64 and string, cmp.Or at int, spec.l1Sign, spec.CompareValues, impl.CompareValues.
-/
import Derived.Test.YtpipikjkhmhmhaaMemZ
import Derived.Test.YtpipikjkhmhmhaaValueOkZ
import Derived.Test.YtpipikjkhmhmhaaRowOkSZ
import Derived.Test.YtpipikjkhmhmhaaTabOkMZ
namespace Go.Proofs.Ytpipikjkhmhmhaa
open Go.RowKit
set_option linter.unusedVariables false

set_option maxHeartbeats 800000 in
theorem impl_row (A : Option Addr) (c : Nat) (r : List GV) (w : World) (hr : RowAt w w.heap.size A r) (hl : r.length ≤ 1048576) (hv : ∀ v ∈ r, v.t.size ≤ maxLen) :
    Calls Try.prog 131 #[.slice A r.length c] w fun e w' => e = .returned (.bool (rowOkB r)) ∧ Below w.heap.size w w' := by
  by_cases h8 : (8 : Int) < r.length
  · have H := Lib.hid (show rowOkB r = false by unfold rowOkB; simp; omega)
    go_enter Try.func131, Try.ntmps131
    go_wp2
    go_ret
    exact ⟨ret_bool (by rw [H.out]), Below.refl _ _⟩
  go_enter Try.func131, Try.ntmps131
  go_wp2
  go_loopw [10] (fun i w' => ∃ k : Nat, k ≤ r.length ∧ i = .int .i64 k ∧ Hid ((r.take k).all okG = true) ∧ Below w.heap.size w w') (fun i _ => r.length - (intOf i).toNat)
  case atStart => exact ⟨0, Nat.zero_le _, rfl, Lib.hid rfl, Below.refl _ _⟩
  case round =>
    obtain ⟨k, hk, rfl, hal, hB⟩ := hrel
    by_cases hlt : k < r.length
    · obtain ⟨g, o, rfl, hg, c0, c1, c2⟩ := (hr.to_ hB).at_ hlt
      have hm := hv _ (List.getElem_mem hlt)
      have hsn := Lib.hid (all_take_snoc r k hlt)
      go_wp2_with fail
      refine (impl_value _ _ _ _ hm).mono ?_
      rintro e w2 ⟨rfl, hb2⟩
      have hB2 : Below w.heap.size w w2 := (hB.alloc hB.size _).trans (hb2.mono (by have := hB.size; simp; omega))
      clear c0 c1 c2
      by_cases hok : okG r[k] = true
      · have hb : valueOkB r[k].k r[k].n r[k].t = true := hok
        have H := Lib.hid (show (r.take (k + 1)).all okG = true by rw [hsn.out, hal.out, hok]; rfl)
        clear hok
        go_wp2_with fail
        go_roundw
        case rel => exact ⟨k + 1, by omega, by go_num, H, hB2⟩
        case measure => simp [intOf]; omega
      · have hb : valueOkB r[k].k r[k].n r[k].t = false := by rw [Bool.not_eq_true] at hok; exact hok
        have H := Lib.hid (show rowOkB r = false by unfold rowOkB; rw [all_bad r k hlt hb]; rfl)
        clear hok
        go_wp2_with fail
        go_ret
        exact ⟨ret_bool (by rw [H.out]), hB2⟩
    · have H := Lib.hid (show rowOkB r = true by
        have h := hal.out
        rw [List.take_of_length_le (by omega)] at h
        unfold rowOkB; rw [h]; simp; omega)
      go_wp2_with fail
      go_ret
      exact ⟨ret_bool (by rw [H.out]), hB⟩
end Go.Proofs.Ytpipikjkhmhmhaa
namespace Go.Proofs.Ytpipikjkhmhmhaa
open Go.RowKit
set_option linter.unusedVariables false

theorem nan_int (a : Int) (w : World) :
    Calls Try.prog 160 #[.int .i64 a] w fun e w' => e = .returned (.bool false) ∧ w = w' := by
  go_enter Try.func160, Try.ntmps160
  go_wp2
  go_ret
  exact ⟨ret_bool (by simp), rfl⟩
theorem nan_text (a : ByteArray) (w : World) :
    Calls Try.prog 161 #[.string a] w fun e w' => e = .returned (.bool false) ∧ w = w' := by
  go_enter Try.func161, Try.ntmps161
  go_wp2
  go_ret
  exact ⟨ret_bool (by simp), rfl⟩
theorem compare_int (a b : Int) (w : World) :
    Calls Try.prog 156 #[.int .i64 a, .int .i64 b] w fun e w' => e = .returned (.int .i64 (cmpI a b)) ∧ w = w' := by
  go_enter Try.func156, Try.ntmps156
  go_wp2_with (go_at_call 160; refine (nan_int _ _).mono ?_; rintro e w' ⟨rfl, rfl⟩)
  all_goals go_ret
  all_goals refine ⟨ret_int ?_, rfl⟩
  all_goals unfold cmpI
  · rw [if_pos (by assumption)]
  · rw [if_neg (by omega), if_pos (by omega)]
  · rw [if_neg (by omega), if_neg (by omega)]
theorem compare_text (a b : ByteArray) (w : World) :
    Calls Try.prog 157 #[.string a, .string b] w fun e w' => e = .returned (.int .i64 (cmpT a b)) ∧ w = w' := by
  by_cases he : a = b
  · subst he
    by_cases hl : Op.bytesLess a.toList a.toList = true
    · have H := Lib.hid (show cmpT a a = -1 by simp [cmpT, ltT, hl])
      go_enter Try.func157, Try.ntmps157
      go_wp2_with (go_at_call 161; refine (nan_text _ _).mono ?_; rintro e w' ⟨rfl, rfl⟩)
      go_ret
      exact ⟨ret_int (by rw [H.out]), rfl⟩
    · have H := Lib.hid (show cmpT a a = 0 by simp [cmpT, ltT, hl])
      simp only [Bool.not_eq_true] at hl
      go_enter Try.func157, Try.ntmps157
      go_wp2_with (go_at_call 161; refine (nan_text _ _).mono ?_; rintro e w' ⟨rfl, rfl⟩)
      go_ret
      exact ⟨ret_int (by rw [H.out]), rfl⟩
  · have he2 : (a.toList == b.toList) = false := by
      rw [beq_eq_false_iff_ne]
      intro h
      rw [Lib.toList_data, Lib.toList_data] at h
      exact he (ByteArray.ext (Array.toList_inj.1 h))
    by_cases hl : Op.bytesLess a.toList b.toList = true
    · have H := Lib.hid (show cmpT a b = -1 by simp [cmpT, ltT, hl])
      go_enter Try.func157, Try.ntmps157
      go_wp2_with (go_at_call 161; refine (nan_text _ _).mono ?_; rintro e w' ⟨rfl, rfl⟩)
      go_ret
      exact ⟨ret_int (by rw [H.out]), rfl⟩
    · have H := Lib.hid (show cmpT a b = 1 by simp [cmpT, ltT, hl, he])
      simp only [Bool.not_eq_true] at hl
      go_enter Try.func157, Try.ntmps157
      go_wp2_with (go_at_call 161; refine (nan_text _ _).mono ?_; rintro e w' ⟨rfl, rfl⟩)
      go_ret
      exact ⟨ret_int (by rw [H.out]), rfl⟩

set_option maxHeartbeats 400000 in
theorem or_ints (g c : Nat) (a0 a1 a2 : Int) (w : World) (h0 : w.cell? ⟨g, 0, none⟩ = some (.int .i64 a0)) (h1 : w.cell? ⟨g, 1, none⟩ = some (.int .i64 a1)) (h2 : w.cell? ⟨g, 2, none⟩ = some (.int .i64 a2)) :
    Calls Try.prog 155 #[.slice (some ⟨g, 0, none⟩) 3 c] w fun e w' => e = .returned (.int .i64 (or3 a0 a1 a2)) ∧ w = w' := by
  go_enter Try.func155, Try.ntmps155
  go_wp2
  go_loop [8] (fun i => ∃ k : Nat, k ≤ 3 ∧ i = .int .i64 k ∧ Hid ((0 < k → a0 = 0) ∧ (1 < k → a1 = 0) ∧ (2 < k → a2 = 0))) (fun i => 3 - (intOf i).toNat)
  case atStart => exact ⟨0, Nat.zero_le _, rfl, Lib.hid ⟨by omega, by omega, by omega⟩⟩
  case round =>
    obtain ⟨k, hk, rfl, hz⟩ := hrel
    have hk' : k = 0 ∨ k = 1 ∨ k = 2 ∨ k = 3 := by omega
    rcases hk' with rfl | rfl | rfl | rfl
    · by_cases h : a0 = 0
      · have hb : (a0 != 0) = false := by simp [h]
        have H := Lib.hid h
        clear h
        go_wp2
        go_round
        case rel => exact ⟨1, by omega, by go_num, Lib.hid ⟨fun _ => H.out, by omega, by omega⟩⟩
        case measure => simp [intOf]
      · have hb : (a0 != 0) = true := by simp [h]
        have H := Lib.hid (show or3 a0 a1 a2 = a0 by simp [or3, h])
        clear h
        go_wp2
        go_ret
        exact ⟨ret_int (by rw [H.out]), rfl⟩
    · by_cases h : a1 = 0
      · have hb : (a1 != 0) = false := by simp [h]
        have H := Lib.hid h
        clear h
        go_wp2
        go_round
        case rel => exact ⟨2, by omega, by go_num, Lib.hid ⟨fun _ => hz.out.1 (by omega), fun _ => H.out, by omega⟩⟩
        case measure => simp [intOf]
      · have hb : (a1 != 0) = true := by simp [h]
        have H := Lib.hid (show or3 a0 a1 a2 = a1 by simp [or3, h, hz.out.1 (by omega)])
        clear h
        go_wp2
        go_ret
        exact ⟨ret_int (by rw [H.out]), rfl⟩
    · by_cases h : a2 = 0
      · have hb : (a2 != 0) = false := by simp [h]
        have H := Lib.hid h
        clear h
        go_wp2
        go_round
        case rel => exact ⟨3, by omega, by go_num, Lib.hid ⟨fun _ => hz.out.1 (by omega), fun _ => hz.out.2.1 (by omega), fun _ => H.out⟩⟩
        case measure => simp [intOf]
      · have hb : (a2 != 0) = true := by simp [h]
        have H := Lib.hid (show or3 a0 a1 a2 = a2 by simp [or3, hz.out.1 (by omega), hz.out.2.1 (by omega)])
        clear h
        go_wp2
        go_ret
        exact ⟨ret_int (by rw [H.out]), rfl⟩
    · have H := Lib.hid (show or3 a0 a1 a2 = 0 by simp [or3, hz.out.1 (by omega), hz.out.2.1 (by omega), hz.out.2.2 (by omega)])
      go_wp2
      go_ret
      exact ⟨ret_int (by rw [H.out]), rfl⟩

set_option maxHeartbeats 1000000 in
theorem impl_compare (k n : Int) (t : ByteArray) (k' n' : Int) (t' : ByteArray) (w : World) :
    Calls Try.prog 147 #[.agg #[.int .i64 k, .int .i64 n, .string t], .agg #[.int .i64 k', .int .i64 n', .string t']] w fun e w' => e = .returned (.int .i64 (cmpV k n t k' n' t')) ∧ Below w.heap.size w w' := by
  go_enter Try.func147, Try.ntmps147
  go_wp2_with fail
  go_region_held3 (fun w' => w'.cell? ⟨w.heap.size, 0, none⟩ = some (.int .i64 k) ∧ w'.cell? ⟨w.heap.size, 1, none⟩ = some (.int .i64 n) ∧ w'.cell? ⟨w.heap.size, 2, none⟩ = some (.string t) ∧
      w'.cell? ⟨w.heap.size + 1, 0, none⟩ = some (.int .i64 k') ∧ w'.cell? ⟨w.heap.size + 1, 1, none⟩ = some (.int .i64 n') ∧ w'.cell? ⟨w.heap.size + 1, 2, none⟩ = some (.string t'))
    (first | go_keep)
    (first
      | (go_at_call 156; refine (compare_int _ _ _).mono ?_; rintro e w' ⟨rfl, rfl⟩)
      | (go_at_call 157; refine (compare_text _ _ _).mono ?_; rintro e w' ⟨rfl, rfl⟩)
      | (go_at_call 155; refine (or_ints _ _ (cmpI k k') (cmpI n n') (cmpT t t') _ (by go_simp) (by go_simp) (by go_simp)).mono ?_; rintro e w' ⟨rfl, rfl⟩))
  go_wp2
  go_ret
  exact ⟨rfl, ((((Below.refl _ _).alloc (Nat.le_refl _) _).alloc (by simp) _).alloc (by simp; omega) _).drew⟩
end Go.Proofs.Ytpipikjkhmhmhaa
