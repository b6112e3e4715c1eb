/-
  Contracts of the two functions that look at a text: spec.l1TextOk and impl.textOk both answer textOkB.
-/
import Derived.Test.YteoepnadjkjlmaaTextS
namespace Go.Proofs.Yteoepnadjkjlmaa
open Go.RowKit
set_option linter.unusedVariables false

set_option maxHeartbeats 400000 in
theorem impl_text (s : ByteArray) (w : World) (hs : s.size ≤ maxLen) :
    Calls Try.prog 73 #[.string s] w fun e w' => e = .returned (.bool (textOkB s)) ∧ w = w' := by
  unfold maxLen at hs
  by_cases h60 : (60 : Int) < s.size
  · have HT := Lib.hid (show textOkB s = false by unfold textOkB; simp; omega)
    go_enter Try.func73, Try.ntmps73
    go_wp2
    go_ret
    exact ⟨ret_bool (by rw [HT.out]), rfl⟩
  go_enter Try.func73, Try.ntmps73
  go_wp2
  go_loop [9] (fun i => ∃ k : Nat, k ≤ s.size ∧ i = .int .i64 k ∧ goodBytes (s.data.toList.take k) = true) (fun i => s.size - (intOf i).toNat)
  case atStart => exact ⟨0, Nat.zero_le _, rfl, rfl⟩
  case round =>
    obtain ⟨k, hk, rfl, hgood⟩ := hrel
    have HG := Lib.hid hgood
    clear hgood
    by_cases hlt : k < s.size
    · have hsn := good_snoc (s.data.toList.take k) s[k]
      have hts := take_snoc s k hlt
      rw [← hts] at hsn
      have HS := Lib.hid hsn
      clear hsn hts
      by_cases h1 : (s[k].toNat : Int) < 32
      · have hb : goodByte s[k] = false := by simp [goodByte]; omega
        have HB := Lib.hid (good_of_take s k hlt hb)
        clear hb
        go_wp2
        go_ret
        exact ⟨ret_bool (by unfold textOkB; rw [HB.out]; rfl), rfl⟩
      · by_cases h2 : (126 : Int) < s[k].toNat
        · have hb : goodByte s[k] = false := by simp [goodByte]; omega
          have HB := Lib.hid (good_of_take s k hlt hb)
          clear hb
          go_wp2
          go_ret
          exact ⟨ret_bool (by unfold textOkB; rw [HB.out]; rfl), rfl⟩
        · have HB := Lib.hid (show goodByte s[k] = true by simp [goodByte]; omega)
          go_wp2
          go_round
          case rel => exact ⟨k + 1, by omega, by go_num, by rw [HS.out, HG.out, HB.out]; rfl⟩
          case measure => simp [intOf]; omega
    · go_wp2
      go_ret
      refine ⟨ret_bool ?_, rfl⟩
      have h := HG.out
      rw [List.take_of_length_le (by simp; omega)] at h
      unfold textOkB
      rw [h]
      simp
      omega
end Go.Proofs.Yteoepnadjkjlmaa
