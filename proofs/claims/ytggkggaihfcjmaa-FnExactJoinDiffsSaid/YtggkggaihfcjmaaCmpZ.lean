/-
  Contracts of laws.eqValue and laws.eqValueS at equal values. Contracts of the two functions that look at a text: spec.l1TextOk and impl.textOk both answer textOkB. Contracts of the comparisons: cmp.Compare at int64 and string, cmp.Or at int, spec.l1Sign, spec.CompareValues, impl.CompareValues.
-/
import Derived.Test.YtggkggaihfcjmaaMakeZ
import Derived.Deep.RegionHeld3
import Derived.Test.YtggkggaihfcjmaaValueOkSZ
import Derived.Test.YtggkggaihfcjmaaRowCmpMZ
namespace Go.Proofs.Ytggkggaihfcjmaa
open Go.RowKit
set_option linter.unusedVariables false

set_option maxHeartbeats 400000 in
theorem eq_value (v : GV) (w : World) :
    Calls Try.prog 84 #[.agg #[.int .i64 v.k, .int .i64 v.n, .string v.t], .agg #[.int .i64 v.k, .int .i64 v.n, .string v.t]] w fun e w' => e = .returned (.bool true) ∧ Below w.heap.size w w' := by
  go_enter Try.func84, Try.ntmps84
  go_wp2
  go_ret
  exact ⟨rfl, ((Below.refl _ _).alloc (Nat.le_refl _) _).alloc (by simp) _⟩

set_option maxHeartbeats 800000 in
theorem eq_values (A A' : Option Addr) (c c' : Nat) (vs : List GV) (w : World) (hr : RowAt w w.heap.size A vs) (hr' : RowAt w w.heap.size A' vs) (hl : vs.length ≤ 1048576) :
    Calls Try.prog 59 #[.slice A vs.length c, .slice A' vs.length c'] w fun e w' => e = .returned (.bool true) ∧ Below w.heap.size w w' := by
  go_enter Try.func59, Try.ntmps59
  go_wp2
  go_loopw [5] (fun i w' => ∃ k : Nat, k ≤ vs.length ∧ i = .int .i64 k ∧ Below w.heap.size w w') (fun i _ => vs.length - (intOf i).toNat)
  case atStart => exact ⟨0, Nat.zero_le _, rfl, Below.refl _ _⟩
  case round =>
    obtain ⟨k, hk, rfl, hB⟩ := hrel
    by_cases hlt : k < vs.length
    · obtain ⟨g, o, rfl, hg, c0, c1, c2⟩ := (hr.below hB (Nat.le_refl _)).at_ hlt
      obtain ⟨g', o', rfl, hg', d0, d1, d2⟩ := (hr'.below hB (Nat.le_refl _)).at_ hlt
      have hi0 : (0 : Int) ≤ (k : Int) := Int.natCast_nonneg _
      have hi1 : (k : Int) < (vs.length : Int) := by omega
      go_wp2_with fail
      go_region_held3 (fun w' => w'.cell? ⟨g, o + k * 3, none⟩ = some (.int .i64 vs[k].k) ∧ w'.cell? ⟨g, o + k * 3 + 1, none⟩ = some (.int .i64 vs[k].n) ∧ w'.cell? ⟨g, o + k * 3 + 2, none⟩ = some (.string vs[k].t) ∧
          w'.cell? ⟨g', o' + k * 3, none⟩ = some (.int .i64 vs[k].k) ∧ w'.cell? ⟨g', o' + k * 3 + 1, none⟩ = some (.int .i64 vs[k].n) ∧ w'.cell? ⟨g', o' + k * 3 + 2, none⟩ = some (.string vs[k].t) ∧ w.heap.size ≤ w'.heap.size ∧ Below w.heap.size w w')
        (first | (go_split_ands; exact ⟨by assumption, by assumption, by assumption, by assumption, by assumption, by assumption, hB.size, hB.drew⟩)
               | (go_split_ands; refine ⟨?_, ?_, ?_, ?_, ?_, ?_, ?_, ?_⟩; all_goals first | (have := hbx.size; omega) | (rw [hcx _ _ (by omega)]; assumption) | exact below_next (by assumption) hbx rfl rfl))
        (first
          | (go_at_call 84; refine (eq_value vs[k] _).mono ?_; rintro e wx ⟨rfl, hbx⟩; obtain ⟨hcx, hfx⟩ := bcell hbx))
      have hB2 : Below w.heap.size w wx := by go_split_ands; assumption
      clear hcx hfx hbx c0 c1 c2 d0 d1 d2
      go_wp2_with fail
      go_roundw
      case rel => exact ⟨k + 1, by omega, by go_num, hB2⟩
      case measure => simp [intOf]; omega
    · go_wp2_with fail
      go_ret
      exact ⟨rfl, hB⟩
end Go.Proofs.Ytggkggaihfcjmaa
namespace Go.Proofs.Ytggkggaihfcjmaa
open Go.RowKit
set_option linter.unusedVariables false

set_option maxHeartbeats 400000 in
theorem impl_text (s : ByteArray) (w : World) (hs : s.size ≤ maxLen) :
    Calls Try.prog 134 #[.string s] w fun e w' => e = .returned (.bool (textOkB s)) ∧ w = w' := by
  unfold maxLen at hs
  by_cases h60 : (60 : Int) < s.size
  · have HT := Lib.hid (show textOkB s = false by unfold textOkB; simp; omega)
    go_enter Try.func134, Try.ntmps134
    go_wp2
    go_ret
    exact ⟨ret_bool (by rw [HT.out]), rfl⟩
  go_enter Try.func134, Try.ntmps134
  go_wp2
  go_loop [9] (fun i => ∃ k : Nat, k ≤ s.size ∧ i = .int .i64 k ∧ goodBytes (s.data.toList.take k) = true) (fun i => s.size - (intOf i).toNat)
  case atStart => exact ⟨0, Nat.zero_le _, rfl, rfl⟩
  case round =>
    obtain ⟨k, hk, rfl, hgood⟩ := hrel
    have HG := Lib.hid hgood
    clear hgood
    by_cases hlt : k < s.size
    · have hsn := good_snoc (s.data.toList.take k) s[k]
      have hts := take_snoc s k hlt
      rw [← hts] at hsn
      have HS := Lib.hid hsn
      clear hsn hts
      by_cases h1 : (s[k].toNat : Int) < 32
      · have hb : goodByte s[k] = false := by simp [goodByte]; omega
        have HB := Lib.hid (good_of_take s k hlt hb)
        clear hb
        go_wp2
        go_ret
        exact ⟨ret_bool (by unfold textOkB; rw [HB.out]; rfl), rfl⟩
      · by_cases h2 : (126 : Int) < s[k].toNat
        · have hb : goodByte s[k] = false := by simp [goodByte]; omega
          have HB := Lib.hid (good_of_take s k hlt hb)
          clear hb
          go_wp2
          go_ret
          exact ⟨ret_bool (by unfold textOkB; rw [HB.out]; rfl), rfl⟩
        · have HB := Lib.hid (show goodByte s[k] = true by simp [goodByte]; omega)
          go_wp2
          go_round
          case rel => exact ⟨k + 1, by omega, by go_num, by rw [HS.out, HG.out, HB.out]; rfl⟩
          case measure => simp [intOf]; omega
    · go_wp2
      go_ret
      refine ⟨ret_bool ?_, rfl⟩
      have h := HG.out
      rw [List.take_of_length_le (by simp; omega)] at h
      unfold textOkB
      rw [h]
      simp
      omega
end Go.Proofs.Ytggkggaihfcjmaa
namespace Go.Proofs.Ytggkggaihfcjmaa
open Go.RowKit
set_option linter.unusedVariables false

theorem nan_int (a : Int) (w : World) :
    Calls Try.prog 136 #[.int .i64 a] w fun e w' => e = .returned (.bool false) ∧ w = w' := by
  go_enter Try.func136, Try.ntmps136
  go_wp2
  go_ret
  exact ⟨ret_bool (by simp), rfl⟩
theorem nan_text (a : ByteArray) (w : World) :
    Calls Try.prog 137 #[.string a] w fun e w' => e = .returned (.bool false) ∧ w = w' := by
  go_enter Try.func137, Try.ntmps137
  go_wp2
  go_ret
  exact ⟨ret_bool (by simp), rfl⟩
theorem compare_int (a b : Int) (w : World) :
    Calls Try.prog 131 #[.int .i64 a, .int .i64 b] w fun e w' => e = .returned (.int .i64 (cmpI a b)) ∧ w = w' := by
  go_enter Try.func131, Try.ntmps131
  go_wp2_with (go_at_call 136; refine (nan_int _ _).mono ?_; rintro e w' ⟨rfl, rfl⟩)
  all_goals go_ret
  all_goals refine ⟨ret_int ?_, rfl⟩
  all_goals unfold cmpI
  · rw [if_pos (by assumption)]
  · rw [if_neg (by omega), if_pos (by omega)]
  · rw [if_neg (by omega), if_neg (by omega)]
theorem compare_text (a b : ByteArray) (w : World) :
    Calls Try.prog 132 #[.string a, .string b] w fun e w' => e = .returned (.int .i64 (cmpT a b)) ∧ w = w' := by
  by_cases he : a = b
  · subst he
    by_cases hl : Op.bytesLess a.toList a.toList = true
    · have H := Lib.hid (show cmpT a a = -1 by simp [cmpT, ltT, hl])
      go_enter Try.func132, Try.ntmps132
      go_wp2_with (go_at_call 137; refine (nan_text _ _).mono ?_; rintro e w' ⟨rfl, rfl⟩)
      go_ret
      exact ⟨ret_int (by rw [H.out]), rfl⟩
    · have H := Lib.hid (show cmpT a a = 0 by simp [cmpT, ltT, hl])
      simp only [Bool.not_eq_true] at hl
      go_enter Try.func132, Try.ntmps132
      go_wp2_with (go_at_call 137; refine (nan_text _ _).mono ?_; rintro e w' ⟨rfl, rfl⟩)
      go_ret
      exact ⟨ret_int (by rw [H.out]), rfl⟩
  · have he2 : (a.toList == b.toList) = false := by
      rw [beq_eq_false_iff_ne]
      intro h
      rw [Lib.toList_data, Lib.toList_data] at h
      exact he (ByteArray.ext (Array.toList_inj.1 h))
    by_cases hl : Op.bytesLess a.toList b.toList = true
    · have H := Lib.hid (show cmpT a b = -1 by simp [cmpT, ltT, hl])
      go_enter Try.func132, Try.ntmps132
      go_wp2_with (go_at_call 137; refine (nan_text _ _).mono ?_; rintro e w' ⟨rfl, rfl⟩)
      go_ret
      exact ⟨ret_int (by rw [H.out]), rfl⟩
    · have H := Lib.hid (show cmpT a b = 1 by simp [cmpT, ltT, hl, he])
      simp only [Bool.not_eq_true] at hl
      go_enter Try.func132, Try.ntmps132
      go_wp2_with (go_at_call 137; refine (nan_text _ _).mono ?_; rintro e w' ⟨rfl, rfl⟩)
      go_ret
      exact ⟨ret_int (by rw [H.out]), rfl⟩

set_option maxHeartbeats 400000 in
theorem or_ints (g c : Nat) (a0 a1 a2 : Int) (w : World) (h0 : w.cell? ⟨g, 0, none⟩ = some (.int .i64 a0)) (h1 : w.cell? ⟨g, 1, none⟩ = some (.int .i64 a1)) (h2 : w.cell? ⟨g, 2, none⟩ = some (.int .i64 a2)) :
    Calls Try.prog 130 #[.slice (some ⟨g, 0, none⟩) 3 c] w fun e w' => e = .returned (.int .i64 (or3 a0 a1 a2)) ∧ w = w' := by
  go_enter Try.func130, Try.ntmps130
  go_wp2
  go_loop [8] (fun i => ∃ k : Nat, k ≤ 3 ∧ i = .int .i64 k ∧ Hid ((0 < k → a0 = 0) ∧ (1 < k → a1 = 0) ∧ (2 < k → a2 = 0))) (fun i => 3 - (intOf i).toNat)
  case atStart => exact ⟨0, Nat.zero_le _, rfl, Lib.hid ⟨by omega, by omega, by omega⟩⟩
  case round =>
    obtain ⟨k, hk, rfl, hz⟩ := hrel
    have hk' : k = 0 ∨ k = 1 ∨ k = 2 ∨ k = 3 := by omega
    rcases hk' with rfl | rfl | rfl | rfl
    · by_cases h : a0 = 0
      · have hb : (a0 != 0) = false := by simp [h]
        have H := Lib.hid h
        clear h
        go_wp2
        go_round
        case rel => exact ⟨1, by omega, by go_num, Lib.hid ⟨fun _ => H.out, by omega, by omega⟩⟩
        case measure => simp [intOf]
      · have hb : (a0 != 0) = true := by simp [h]
        have H := Lib.hid (show or3 a0 a1 a2 = a0 by simp [or3, h])
        clear h
        go_wp2
        go_ret
        exact ⟨ret_int (by rw [H.out]), rfl⟩
    · by_cases h : a1 = 0
      · have hb : (a1 != 0) = false := by simp [h]
        have H := Lib.hid h
        clear h
        go_wp2
        go_round
        case rel => exact ⟨2, by omega, by go_num, Lib.hid ⟨fun _ => hz.out.1 (by omega), fun _ => H.out, by omega⟩⟩
        case measure => simp [intOf]
      · have hb : (a1 != 0) = true := by simp [h]
        have H := Lib.hid (show or3 a0 a1 a2 = a1 by simp [or3, h, hz.out.1 (by omega)])
        clear h
        go_wp2
        go_ret
        exact ⟨ret_int (by rw [H.out]), rfl⟩
    · by_cases h : a2 = 0
      · have hb : (a2 != 0) = false := by simp [h]
        have H := Lib.hid h
        clear h
        go_wp2
        go_round
        case rel => exact ⟨3, by omega, by go_num, Lib.hid ⟨fun _ => hz.out.1 (by omega), fun _ => hz.out.2.1 (by omega), fun _ => H.out⟩⟩
        case measure => simp [intOf]
      · have hb : (a2 != 0) = true := by simp [h]
        have H := Lib.hid (show or3 a0 a1 a2 = a2 by simp [or3, hz.out.1 (by omega), hz.out.2.1 (by omega)])
        clear h
        go_wp2
        go_ret
        exact ⟨ret_int (by rw [H.out]), rfl⟩
    · have H := Lib.hid (show or3 a0 a1 a2 = 0 by simp [or3, hz.out.1 (by omega), hz.out.2.1 (by omega), hz.out.2.2 (by omega)])
      go_wp2
      go_ret
      exact ⟨ret_int (by rw [H.out]), rfl⟩

set_option maxHeartbeats 1000000 in
theorem impl_compare (k n : Int) (t : ByteArray) (k' n' : Int) (t' : ByteArray) (w : World) :
    Calls Try.prog 121 #[.agg #[.int .i64 k, .int .i64 n, .string t], .agg #[.int .i64 k', .int .i64 n', .string t']] w fun e w' => e = .returned (.int .i64 (cmpV k n t k' n' t')) ∧ Below w.heap.size w w' := by
  go_enter Try.func121, Try.ntmps121
  go_wp2_with fail
  go_region_held3 (fun w' => w'.cell? ⟨w.heap.size, 0, none⟩ = some (.int .i64 k) ∧ w'.cell? ⟨w.heap.size, 1, none⟩ = some (.int .i64 n) ∧ w'.cell? ⟨w.heap.size, 2, none⟩ = some (.string t) ∧
      w'.cell? ⟨w.heap.size + 1, 0, none⟩ = some (.int .i64 k') ∧ w'.cell? ⟨w.heap.size + 1, 1, none⟩ = some (.int .i64 n') ∧ w'.cell? ⟨w.heap.size + 1, 2, none⟩ = some (.string t'))
    (first | go_keep)
    (first
      | (go_at_call 131; refine (compare_int _ _ _).mono ?_; rintro e w' ⟨rfl, rfl⟩)
      | (go_at_call 132; refine (compare_text _ _ _).mono ?_; rintro e w' ⟨rfl, rfl⟩)
      | (go_at_call 130; refine (or_ints _ _ (cmpI k k') (cmpI n n') (cmpT t t') _ (by go_simp) (by go_simp) (by go_simp)).mono ?_; rintro e w' ⟨rfl, rfl⟩))
  go_wp2
  go_ret
  exact ⟨rfl, ((((Below.refl _ _).alloc (Nat.le_refl _) _).alloc (by simp) _).alloc (by simp; omega) _).drew⟩
end Go.Proofs.Ytggkggaihfcjmaa
