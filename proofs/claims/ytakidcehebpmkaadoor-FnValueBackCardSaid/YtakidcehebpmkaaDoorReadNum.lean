/-
  spec.l1Number.
-/
import Derived.Test.YtakidcehebpmkaaDoorReadImpl
namespace Go.Proofs.YtakidcehebpmkaaDoor
open Go.RowKit Go.Joins
set_option linter.unusedVariables false

theorem digs_bound : ∀ (l : List UInt8) (acc n : Nat), digs acc l = some n → n < (acc + 1) * 10 ^ l.length
  | [], acc, n, h => by simp [digs] at h; subst h; simp
  | c :: r, acc, n, h => by
    rw [digs] at h
    split at h
    · rename_i hd
      have := digs_bound r _ n h
      unfold isDigit at hd
      simp at hd
      have h2 : (acc * 10 + (c.toNat - 48) + 1) * 10 ^ r.length ≤ ((acc + 1) * 10) * 10 ^ r.length := Nat.mul_le_mul_right _ (by omega)
      rw [List.length_cons, Nat.pow_succ]
      calc n < _ := this
        _ ≤ _ := h2
        _ = _ := by rw [Nat.mul_assoc, Nat.mul_comm 10]
    · cases h
/-- The digits before place k, read. -/
theorem digs_snoc : ∀ (l : List UInt8) (acc : Nat) (c : UInt8), digs acc (l ++ [c]) = (digs acc l).bind fun m => if isDigit c = true then some (m * 10 + (c.toNat - 48)) else none
  | [], acc, c => by simp [digs]
  | d :: r, acc, c => by
    simp only [List.cons_append, digs]
    split
    · exact digs_snoc r _ c
    · rfl
theorem digs_app : ∀ (l r : List UInt8) (acc : Nat), digs acc (l ++ r) = (digs acc l).bind fun m => digs m r
  | [], r, acc => by simp [digs]
  | d :: l, r, acc => by
    simp only [List.cons_append, digs]
    split
    · exact digs_app l r _
    · rfl
theorem drop_cons (s : ByteArray) (k : Nat) (h : k < s.size) : s.data.toList.drop k = s[k] :: s.data.toList.drop (k + 1) := by
  have h1 : k < s.data.toList.length := by rw [Array.length_toList]; exact h
  rw [List.drop_eq_getElem_cons h1]; rfl
theorem digs_step (s : ByteArray) (k acc : Nat) (h : k < s.size) (hd : isDigit s[k] = true) : digs acc (s.data.toList.drop k) = digs (acc * 10 + (s[k].toNat - 48)) (s.data.toList.drop (k + 1)) := by
  rw [drop_cons s k h, digs, if_pos hd]
theorem digs_bad (s : ByteArray) (k acc : Nat) (h : k < s.size) (hd : isDigit s[k] = false) : digs acc (s.data.toList.drop k) = none := by
  rw [drop_cons s k h, digs, if_neg (by rw [hd]; decide)]
theorem digs_end (s : ByteArray) (k acc : Nat) (h : s.size ≤ k) : digs acc (s.data.toList.drop k) = some acc := by
  rw [List.drop_eq_nil_of_le (by rw [Array.length_toList]; exact h), digs]

def numV (l : List UInt8) : Value := .tuple #[.int .i64 ((numL l).getD 0), .bool (numL l).isSome]
theorem numV_none {l : List UInt8} (h : numL l = none) : numV l = .tuple #[.int .i64 0, .bool false] := by unfold numV; rw [h]; rfl
theorem numV_some {l : List UInt8} {n : Int} (h : numL l = some n) : numV l = .tuple #[.int .i64 n, .bool true] := by unfold numV; rw [h]; rfl
theorem neg_head (s : ByteArray) (h : 0 < s.size) : startsNeg s.data.toList = decide (s[0] = 45) := by
  have := drop_cons s 0 h
  rw [List.drop_zero] at this
  rw [this]; rfl
theorem num_neg (s : ByteArray) (h : 0 < s.size) (hd : s[0] = 45) : numL s.data.toList = if s.size = 1 ∨ 11 < s.size then none else (digs 0 (s.data.toList.drop 1)).map negI := by
  have hsl : s.data.toList.length = s.size := by rw [Array.length_toList]; rfl
  unfold numL; rw [neg_head s h, hd, if_pos (by decide), hsl]
theorem num_pos (s : ByteArray) (h : 0 < s.size) (hd : ¬ s[0] = 45) : numL s.data.toList = if s.size = 0 ∨ 10 < s.size then none else (digs 0 (s.data.toList.drop 0)).map posI := by
  have hsl : s.data.toList.length = s.size := by rw [Array.length_toList]; rfl
  unfold numL; rw [neg_head s h, if_neg (by simp [hd]), hsl, List.drop_zero]
theorem num_empty (s : ByteArray) (h : s.size = 0) : numL s.data.toList = none := by
  have hsl : s.data.toList.length = 0 := by rw [Array.length_toList]; exact h
  rw [List.eq_nil_of_length_eq_zero hsl]; rfl

/-- How far the number so far may reach: i digits read. -/
theorem pow_le {i : Nat} (h : i ≤ 10) : 10 ^ i ≤ 10000000000 := by
  calc 10 ^ i ≤ 10 ^ 10 := Nat.pow_le_pow_right (by decide) h
    _ = _ := by decide

set_option maxRecDepth 100000 in
set_option maxHeartbeats 1600000 in
theorem spec_number (s : ByteArray) (w : World) (hs : s.size ≤ 1048576) :
    Calls Tryd.prog 51 #[.string s] w fun e w' => e = .returned (numV s.data.toList) ∧ w = w' := by
  rcases Nat.eq_zero_or_pos s.size with h0 | hpos
  · have H := Lib.hid (numV_none (num_empty s h0))
    have hlt : ¬ (0 : Int) < (s.size : Int) := by omega
    have heq : ((s.size : Int) == 0) = true := by simp [h0]
    go_enter Tryd.func51, Tryd.ntmps51
    go_wp2_with fail
    exact bodyPost_ret (v := .tuple #[.int .i64 0, .bool false]) (by simp [results, Tryd.results51, go_sem]) rfl ⟨by rw [H.out], rfl⟩
  · by_cases hneg : s[0] = 45
    · have hb : ((s[0].toNat : Int) == 45) = true := by rw [is_u8 s[0] 45 45 rfl]; simp [hneg]
      have hlt : (0 : Int) < (s.size : Int) := by omega
      have hnn := Lib.hid (num_neg s hpos hneg)
      clear hneg
      by_cases hbig : s.size = 1 ∨ 11 < s.size
      · have H := Lib.hid (numV_none (show numL s.data.toList = none by rw [hnn.out, if_pos hbig]))
        rcases hbig with hbig | hbig
        · have heq : ((s.size : Int) == 1) = true := by rw [beq_iff_eq]; omega
          go_enter Tryd.func51, Tryd.ntmps51
          go_wp2_with fail
          exact bodyPost_ret (v := .tuple #[.int .i64 0, .bool false]) (by simp [results, Tryd.results51, go_sem]) rfl ⟨by rw [H.out], rfl⟩
        · have heq : ((s.size : Int) == 1) = false := by rw [beq_eq_false_iff_ne]; omega
          go_enter Tryd.func51, Tryd.ntmps51
          go_wp2_with fail
          exact bodyPost_ret (v := .tuple #[.int .i64 0, .bool false]) (by simp [results, Tryd.results51, go_sem]) rfl ⟨by rw [H.out], rfl⟩
      · have hnn2 := Lib.hid (show numL s.data.toList = (digs 0 (s.data.toList.drop 1)).map negI by rw [hnn.out, if_neg hbig])
        have heq : ((s.size : Int) == 1) = false := by rw [beq_eq_false_iff_ne]; omega
        have hle : s.size ≤ 11 := by omega
        go_enter Tryd.func51, Tryd.ntmps51
        go_wp2_with fail
        go_loop [4, 5] (fun i n => ∃ k m : Nat, 1 ≤ k ∧ k ≤ s.size ∧ i = .int .i64 k ∧ n = .int .i64 m ∧ Hid (m < 10 ^ (k - 1)) ∧ Hid (digs m (s.data.toList.drop k) = digs 0 (s.data.toList.drop 1))) (fun i _ => s.size - (intOf i).toNat)
        case atStart => exact ⟨1, 0, Nat.le_refl _, by omega, rfl, rfl, Lib.hid (by decide), Lib.hid rfl⟩
        case round =>
          obtain ⟨k, m, hk1, hk2, rfl, rfl, hm, hdg⟩ := hrel
          have hm2 : m < 10000000000 := Nat.lt_of_lt_of_le hm.out (pow_le (by omega))
          by_cases hk : k < s.size
          · by_cases hd : isDigit s[k] = true
            · have hst := Lib.hid (digs_step s k m hk hd)
              have hd1 : (48 : Int) ≤ (s[k].toNat : Int) := by unfold isDigit at hd; simp at hd; omega
              have hd2 : (s[k].toNat : Int) ≤ 57 := by unfold isDigit at hd; simp at hd; omega
              have hpw := Lib.hid (show m * 10 + (s[k].toNat - 48) < 10 ^ (k + 1 - 1) by
                have h1 : k + 1 - 1 = (k - 1) + 1 := by omega
                have h2 := hm.out
                rw [h1, Nat.pow_succ]
                omega)
              clear hd
              go_wp2_with fail
              go_round
              case rel => exact ⟨k + 1, m * 10 + (s[k].toNat - 48), by omega, by omega, by go_num, by congr 1; omega, hpw, Lib.hid (by rw [← hst.out]; exact hdg.out)⟩
              case measure => simp [intOf]; omega
            · rw [Bool.not_eq_true] at hd
              have H := Lib.hid (numV_none (show numL s.data.toList = none by rw [hnn2.out, ← hdg.out, digs_bad s k m hk hd]; rfl))
              have hd3 : (s[k].toNat : Int) < 48 ∨ (¬ (s[k].toNat : Int) < 48 ∧ 57 < (s[k].toNat : Int)) := by unfold isDigit at hd; simp at hd; omega
              rcases hd3 with hd3 | ⟨hd3, hd4⟩
              · go_wp2_with fail
                exact bodyPost_ret (v := .tuple #[.int .i64 0, .bool false]) (by simp [results, Tryd.results51, go_sem]) rfl ⟨by rw [H.out], rfl⟩
              · go_wp2_with fail
                exact bodyPost_ret (v := .tuple #[.int .i64 0, .bool false]) (by simp [results, Tryd.results51, go_sem]) rfl ⟨by rw [H.out], rfl⟩
          · have H := Lib.hid (numV_some (show numL s.data.toList = some (-(m : Int)) by rw [hnn2.out, ← hdg.out, digs_end s k m (by omega)]; rfl))
            go_wp2_with fail
            exact bodyPost_ret (v := .tuple #[.int .i64 (-(m : Int)), .bool true]) (by simp [results, Tryd.results51, go_sem]) rfl ⟨by rw [H.out], rfl⟩
    · have hb : ((s[0].toNat : Int) == 45) = false := by rw [is_u8 s[0] 45 45 rfl]; simp [hneg]
      have hlt : (0 : Int) < (s.size : Int) := by omega
      have hnn := Lib.hid (num_pos s hpos hneg)
      clear hneg
      by_cases hbig : s.size = 0 ∨ 10 < s.size
      · have H := Lib.hid (numV_none (show numL s.data.toList = none by rw [hnn.out, if_pos hbig]))
        rcases hbig with hbig | hbig
        · have heq : ((s.size : Int) == 0) = true := by rw [beq_iff_eq]; omega
          go_enter Tryd.func51, Tryd.ntmps51
          go_wp2_with fail
          exact bodyPost_ret (v := .tuple #[.int .i64 0, .bool false]) (by simp [results, Tryd.results51, go_sem]) rfl ⟨by rw [H.out], rfl⟩
        · have heq : ((s.size : Int) == 0) = false := by rw [beq_eq_false_iff_ne]; omega
          go_enter Tryd.func51, Tryd.ntmps51
          go_wp2_with fail
          exact bodyPost_ret (v := .tuple #[.int .i64 0, .bool false]) (by simp [results, Tryd.results51, go_sem]) rfl ⟨by rw [H.out], rfl⟩
      · have hnn2 := Lib.hid (show numL s.data.toList = (digs 0 (s.data.toList.drop 0)).map posI by rw [hnn.out, if_neg hbig])
        have heq : ((s.size : Int) == 0) = false := by rw [beq_eq_false_iff_ne]; omega
        have hle : s.size ≤ 10 := by omega
        go_enter Tryd.func51, Tryd.ntmps51
        go_wp2_with fail
        go_loop [4, 5] (fun i n => ∃ k m : Nat, 0 ≤ k ∧ k ≤ s.size ∧ i = .int .i64 k ∧ n = .int .i64 m ∧ Hid (m < 10 ^ (k - 0)) ∧ Hid (digs m (s.data.toList.drop k) = digs 0 (s.data.toList.drop 0))) (fun i _ => s.size - (intOf i).toNat)
        case atStart => exact ⟨0, 0, Nat.le_refl _, by omega, rfl, rfl, Lib.hid (by decide), Lib.hid rfl⟩
        case round =>
          obtain ⟨k, m, hk1, hk2, rfl, rfl, hm, hdg⟩ := hrel
          have hm2 : m < 10000000000 := Nat.lt_of_lt_of_le hm.out (pow_le (by omega))
          by_cases hk : k < s.size
          · by_cases hd : isDigit s[k] = true
            · have hst := Lib.hid (digs_step s k m hk hd)
              have hd1 : (48 : Int) ≤ (s[k].toNat : Int) := by unfold isDigit at hd; simp at hd; omega
              have hd2 : (s[k].toNat : Int) ≤ 57 := by unfold isDigit at hd; simp at hd; omega
              have hpw := Lib.hid (show m * 10 + (s[k].toNat - 48) < 10 ^ (k + 1 - 0) by
                have h1 : k + 1 - 0 = (k - 0) + 1 := by omega
                have h2 := hm.out
                rw [h1, Nat.pow_succ]
                omega)
              clear hd
              go_wp2_with fail
              go_round
              case rel => exact ⟨k + 1, m * 10 + (s[k].toNat - 48), by omega, by omega, by go_num, by congr 1; omega, hpw, Lib.hid (by rw [← hst.out]; exact hdg.out)⟩
              case measure => simp [intOf]; omega
            · rw [Bool.not_eq_true] at hd
              have H := Lib.hid (numV_none (show numL s.data.toList = none by rw [hnn2.out, ← hdg.out, digs_bad s k m hk hd]; rfl))
              have hd3 : (s[k].toNat : Int) < 48 ∨ (¬ (s[k].toNat : Int) < 48 ∧ 57 < (s[k].toNat : Int)) := by unfold isDigit at hd; simp at hd; omega
              rcases hd3 with hd3 | ⟨hd3, hd4⟩
              · go_wp2_with fail
                exact bodyPost_ret (v := .tuple #[.int .i64 0, .bool false]) (by simp [results, Tryd.results51, go_sem]) rfl ⟨by rw [H.out], rfl⟩
              · go_wp2_with fail
                exact bodyPost_ret (v := .tuple #[.int .i64 0, .bool false]) (by simp [results, Tryd.results51, go_sem]) rfl ⟨by rw [H.out], rfl⟩
          · have H := Lib.hid (numV_some (show numL s.data.toList = some ((m : Int)) by rw [hnn2.out, ← hdg.out, digs_end s k m (by omega)]; rfl))
            go_wp2_with fail
            exact bodyPost_ret (v := .tuple #[.int .i64 ((m : Int)), .bool true]) (by simp [results, Tryd.results51, go_sem]) rfl ⟨by rw [H.out], rfl⟩
end Go.Proofs.YtakidcehebpmkaaDoor
