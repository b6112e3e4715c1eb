/-
  spec.l2Word; impl.nameSize, impl.nameOk, impl.variableOk, impl.wordOk, impl.constantOk, impl.operator. Contracts of the two functions that look at a text: spec.l1TextOk and impl.textOk both answer textOkB. Contracts of spec.ValueOk and impl.ValueOk: both answer valueOkB; of laws.szValue and laws.toValue.
-/
import Derived.Test.YteoepnadjkjlmaaGreatNameZ
import Derived.Test.YteoepnadjkjlmaaGreatSzNodesZ
import Derived.Test.YteoepnadjkjlmaaGreatRowOkSZ
import Derived.Test.YteoepnadjkjlmaaGreatMemZ
namespace Go.Proofs.YteoepnadjkjlmaaGreat
open Go.RowKit
set_option linter.unusedVariables false

def wordB (s : ByteArray) : Bool := nameB 97 122 s && !aggB s && !isT s [110, 111, 116] && !isT s [114, 101, 108]
theorem spec_name_is (b : Bool) (s : ByteArray) (lo hi : Int) (w : World) (hs : s.size ≤ maxLen) (h : nameB lo hi s = b) :
    Calls Tryz.prog 64 #[.string s, .int .u8 lo, .int .u8 hi] w fun e w' => e = .returned (.bool b) ∧ w = w' := by subst h; exact spec_name s lo hi w hs
theorem spec_agg_is (b : Bool) (s : ByteArray) (w : World) (h : aggB s = b) :
    Calls Tryz.prog 65 #[.string s] w fun e w' => e = .returned (.bool b) ∧ w = w' := by subst h; exact spec_agg s w
set_option maxHeartbeats 800000 in
theorem spec_word (s : ByteArray) (w : World) (hs : s.size ≤ maxLen) :
    Calls Tryz.prog 42 #[.string s] w fun e w' => e = .returned (.bool (wordB s)) ∧ w = w' := by
  obtain ⟨b1, h1⟩ : ∃ b, nameB 97 122 s = b := ⟨_, rfl⟩
  obtain ⟨b2, h2⟩ : ∃ b, aggB s = b := ⟨_, rfl⟩
  have H1 := Lib.hid h1
  have H2 := Lib.hid h2
  clear h1 h2
  cases b1 <;> cases b2
  all_goals go_enter Tryz.func42, Tryz.ntmps42
  all_goals go_wp2_with (first | (go_at_call 64; refine (spec_name_is _ _ _ _ _ hs H1.out).mono ?_; rintro e w' ⟨rfl, rfl⟩) | (go_at_call 65; refine (spec_agg_is _ _ _ H2.out).mono ?_; rintro e w' ⟨rfl, rfl⟩))
  all_goals go_ret
  all_goals refine ⟨ret_bool ?_, rfl⟩
  all_goals simp_all [wordB, isT, H1.out, H2.out]

theorem lets_take (l : List UInt8) : ∀ k, lets (l.take k) = true → k < l.length → letU (l.getD k 0) = false → lets l = false := by
  intro k h hk hb
  unfold lets
  rw [List.all_eq_false]
  refine ⟨l[k], List.getElem_mem hk, ?_⟩
  simp [List.getD, hk] at hb
  simp [hb]
/-- How many letters a text opens with. -/
def SizeOk (s : ByteArray) (n : Int) : Prop := 0 ≤ n ∧ (n = (s.size : Int) ↔ lets s.data.toList = true)
set_option maxHeartbeats 800000 in
theorem name_size (s : ByteArray) (w : World) (hs : s.size ≤ maxLen) :
    Calls Tryz.prog 86 #[.string s] w fun e w' => ∃ n : Int, e = .returned (.int .i64 n) ∧ SizeOk s n ∧ w = w' := by
  unfold maxLen at hs
  go_enter Tryz.func86, Tryz.ntmps86
  go_wp2_with fail
  go_loop [3] (fun i => ∃ k : Nat, k ≤ s.size ∧ i = .int .i64 k ∧ Hid (lets (s.data.toList.take k) = true)) (fun i => s.size - (intOf i).toNat)
  case atStart => exact ⟨0, Nat.zero_le _, rfl, Lib.hid rfl⟩
  case round =>
    obtain ⟨k, hk, rfl, hL⟩ := hrel
    by_cases hlt : k < s.size
    · have hts := take_snoc s k hlt
      have hsn := lets_snoc (s.data.toList.take k) s[k]
      rw [← hts] at hsn
      have HS := Lib.hid hsn
      have hki : (k : Int) < (s.size : Int) := by omega
      clear hsn hts
      by_cases hc : letU s[k] = true
      · have HX := Lib.hid (show lets (s.data.toList.take (k + 1)) = true by rw [HS.out, hL.out, hc]; rfl)
        go_wp2_with (go_at_call 94; refine (impl_letter_is true _ _ hc).mono ?_; rintro e w' ⟨rfl, rfl⟩)
        go_round
        case rel => exact ⟨k + 1, by omega, by go_num, HX⟩
        case measure => simp [intOf]; omega
      · rw [Bool.not_eq_true] at hc
        have HX := Lib.hid (lets_bad s k hlt hc)
        go_wp2_with (go_at_call 94; refine (impl_letter_is false _ _ hc).mono ?_; rintro e w' ⟨rfl, rfl⟩)
        go_ret
        exact ⟨k, rfl, ⟨by omega, by rw [HX.out]; constructor <;> intro h; omega; cases h⟩, rfl⟩
    · have hki : ¬ (k : Int) < (s.size : Int) := by omega
      have hkd : decide ((k : Int) < (s.size : Int)) = false := by simpa using hki
      have HX := Lib.hid (show lets s.data.toList = true by
        have h := hL.out
        rwa [List.take_of_length_le (by simp; omega)] at h)
      go_wp2_with fail
      go_ret
      exact ⟨k, rfl, ⟨by omega, by rw [HX.out]; constructor <;> intro h; rfl; omega⟩, rfl⟩

set_option maxHeartbeats 1600000 in
theorem impl_name (s : ByteArray) (lo hi : Int) (w : World) (hs : s.size ≤ maxLen) :
    Calls Tryz.prog 72 #[.string s, .int .u8 lo, .int .u8 hi] w fun e w' => e = .returned (.bool (nameB lo hi s)) ∧ w = w' := by
  by_cases hgood : 0 < s.size ∧ s.size ≤ 20
  · obtain ⟨h1, h20⟩ := hgood
    have hfa := first_at lo hi s h1
    have h1i : (1 : Int) ≤ (s.size : Int) := by omega
    have h20i : (s.size : Int) ≤ 20 := by omega
    by_cases hf : lo ≤ (s[0].toNat : Int) ∧ (s[0].toNat : Int) ≤ hi
    · obtain ⟨hlo, hhi⟩ := hf
      have HN := Lib.hid (show nameB lo hi s = lets s.data.toList by unfold nameB; rw [hfa, decide_eq_true (show 1 ≤ s.size by omega), decide_eq_true h20, decide_eq_true ⟨hlo, hhi⟩]; rfl)
      clear hfa
      go_enter Tryz.func72, Tryz.ntmps72
      go_wp2_with (go_at_call 86; refine (name_size s _ hs).mono ?_; rintro e w' ⟨n, rfl, hn, rfl⟩)
      go_ret
      refine ⟨ret_bool ?_, rfl⟩
      rw [HN.out, Bool.eq_iff_iff]
      simpa using hn.2
    · have H := Lib.hid (show nameB lo hi s = false by unfold nameB; rw [hfa]; simp; omega)
      clear hfa
      by_cases hlo : lo ≤ (s[0].toNat : Int)
      · have hhi : ¬ (s[0].toNat : Int) ≤ hi := by omega
        have hhd : decide ((s[0].toNat : Int) ≤ hi) = false := by simpa using hhi
        go_enter Tryz.func72, Tryz.ntmps72
        go_wp2_with fail
        go_ret
        exact ⟨ret_bool (by rw [H.out]), rfl⟩
      · have hld : decide (lo ≤ (s[0].toNat : Int)) = false := by simpa using hlo
        go_enter Tryz.func72, Tryz.ntmps72
        go_wp2_with fail
        go_ret
        exact ⟨ret_bool (by rw [H.out]), rfl⟩
  · have H := Lib.hid (show nameB lo hi s = false by unfold nameB; simp; omega)
    by_cases h1 : (1 : Int) ≤ (s.size : Int)
    · have h20 : ¬ (s.size : Int) ≤ 20 := by omega
      have h20d : decide ((s.size : Int) ≤ 20) = false := by simpa using h20
      go_enter Tryz.func72, Tryz.ntmps72
      go_wp2_with fail
      go_ret
      exact ⟨ret_bool (by rw [H.out]), rfl⟩
    · have h1d : decide ((1 : Int) ≤ (s.size : Int)) = false := by simpa using h1
      go_enter Tryz.func72, Tryz.ntmps72
      go_wp2_with fail
      go_ret
      exact ⟨ret_bool (by rw [H.out]), rfl⟩
def varB (s : ByteArray) : Bool := nameB 65 90 s
theorem impl_var (s : ByteArray) (w : World) (hs : s.size ≤ maxLen) :
    Calls Tryz.prog 98 #[.string s] w fun e w' => e = .returned (.bool (varB s)) ∧ w = w' := by
  go_enter Tryz.func98, Tryz.ntmps98
  go_wp2_with (go_at_call 72; refine (impl_name s _ _ _ hs).mono ?_; rintro e w' ⟨rfl, rfl⟩)
  go_ret
  exact ⟨rfl, rfl⟩
set_option maxHeartbeats 800000 in
theorem impl_word (s : ByteArray) (w : World) (hs : s.size ≤ maxLen) :
    Calls Tryz.prog 50 #[.string s] w fun e w' => e = .returned (.bool (wordB s)) ∧ w = w' := by
  go_enter Tryz.func50, Tryz.ntmps50
  go_wp2_with (go_at_call 72; refine (impl_name s _ _ _ hs).mono ?_; rintro e w' ⟨rfl, rfl⟩)
  all_goals go_ret
  all_goals refine ⟨ret_bool ?_, rfl⟩
  all_goals first | (simp_all [wordB, aggB, isT]; done) | (rw [Bool.eq_iff_iff]; simp_all [wordB, aggB, isT])
end Go.Proofs.YteoepnadjkjlmaaGreat
namespace Go.Proofs.YteoepnadjkjlmaaGreat
open Go.RowKit
set_option linter.unusedVariables false

set_option maxHeartbeats 400000 in
theorem impl_text (s : ByteArray) (w : World) (hs : s.size ≤ maxLen) :
    Calls Tryz.prog 101 #[.string s] w fun e w' => e = .returned (.bool (textOkB s)) ∧ w = w' := by
  unfold maxLen at hs
  by_cases h60 : (60 : Int) < s.size
  · have HT := Lib.hid (show textOkB s = false by unfold textOkB; simp; omega)
    go_enter Tryz.func101, Tryz.ntmps101
    go_wp2
    go_ret
    exact ⟨ret_bool (by rw [HT.out]), rfl⟩
  go_enter Tryz.func101, Tryz.ntmps101
  go_wp2
  go_loop [9] (fun i => ∃ k : Nat, k ≤ s.size ∧ i = .int .i64 k ∧ goodBytes (s.data.toList.take k) = true) (fun i => s.size - (intOf i).toNat)
  case atStart => exact ⟨0, Nat.zero_le _, rfl, rfl⟩
  case round =>
    obtain ⟨k, hk, rfl, hgood⟩ := hrel
    have HG := Lib.hid hgood
    clear hgood
    by_cases hlt : k < s.size
    · have hsn := good_snoc (s.data.toList.take k) s[k]
      have hts := take_snoc s k hlt
      rw [← hts] at hsn
      have HS := Lib.hid hsn
      clear hsn hts
      by_cases h1 : (s[k].toNat : Int) < 32
      · have hb : goodByte s[k] = false := by simp [goodByte]; omega
        have HB := Lib.hid (good_of_take s k hlt hb)
        clear hb
        go_wp2
        go_ret
        exact ⟨ret_bool (by unfold textOkB; rw [HB.out]; rfl), rfl⟩
      · by_cases h2 : (126 : Int) < s[k].toNat
        · have hb : goodByte s[k] = false := by simp [goodByte]; omega
          have HB := Lib.hid (good_of_take s k hlt hb)
          clear hb
          go_wp2
          go_ret
          exact ⟨ret_bool (by unfold textOkB; rw [HB.out]; rfl), rfl⟩
        · have HB := Lib.hid (show goodByte s[k] = true by simp [goodByte]; omega)
          go_wp2
          go_round
          case rel => exact ⟨k + 1, by omega, by go_num, by rw [HS.out, HG.out, HB.out]; rfl⟩
          case measure => simp [intOf]; omega
    · go_wp2
      go_ret
      refine ⟨ret_bool ?_, rfl⟩
      have h := HG.out
      rw [List.take_of_length_le (by simp; omega)] at h
      unfold textOkB
      rw [h]
      simp
      omega
end Go.Proofs.YteoepnadjkjlmaaGreat
namespace Go.Proofs.YteoepnadjkjlmaaGreat
open Go.RowKit
set_option linter.unusedVariables false

set_option maxHeartbeats 400000 in
theorem impl_value (k n : Int) (t : ByteArray) (w : World) (ht : t.size ≤ maxLen) :
    Calls Tryz.prog 95 #[.agg #[.int .i64 k, .int .i64 n, .string t]] w fun e w' => e = .returned (.bool (valueOkB k n t)) ∧ Below w.heap.size w w' := by
  go_enter Tryz.func95, Tryz.ntmps95
  go_wp2_with (go_at_call 101; refine (impl_text _ _ ht).mono ?_; rintro e w' ⟨rfl, rfl⟩)
  all_goals go_ret
  all_goals refine ⟨ret_bool ?_, (Below.refl _ _).alloc (Nat.le_refl _) _⟩
  all_goals simp_all [valueOkB]
  all_goals omega
end Go.Proofs.YteoepnadjkjlmaaGreat
