/-
  How the laws measure texts.
-/
import Derived.Test.YtpipikjkhmhmhaaTyStr
namespace Go.Proofs.Ytpipikjkhmhmhaa
open Go.RowKit Go.Sort
set_option linter.unusedVariables false

set_option maxHeartbeats 1600000 in
theorem sz_Strs {lo : Nat} (A : Option Addr) (c : Nat) (xs : List (ByteArray)) (left : Int) (w : World) (hf : fitStrs xs) (hr : StrsAt w lo w.heap.size A xs) (h0 : 0 ≤ left) (h1 : left ≤ 1048576) :
    Calls Try.prog 28 #[.slice A xs.length c, .int .i64 left] w fun e w' => e = .returned (.int .i64 (szC (costStrs xs) left)) ∧ Below w.heap.size w w' := by
  have hl : xs.length ≤ 9223372036854775807 := by have h := hf.1; unfold maxLen at h; exact h
  have FX := Lib.hid hf.2
  clear hf
  have hct := Lib.hid (show costStrs xs = xs.length + sumC costStr xs from rfl)
  have HR := Lib.hid hr
  clear hr
  by_cases hlen : left - xs.length < 0
  · have H := Lib.hid (show szC (costStrs xs) left = -1 by rw [hct.out]; unfold szC; rw [if_pos (by omega)])
    go_enter Try.func28, Try.ntmps28
    go_wp2_with fail
    go_ret
    exact ⟨ret_int (by rw [H.out]), Below.refl _ _⟩
  go_enter Try.func28, Try.ntmps28
  go_wp2_with fail
  go_loopw [1, 5] (fun l i w' => ∃ k : Nat, k ≤ xs.length ∧ i = .int .i64 k ∧ l = .int .i64 (left - xs.length - (sumC costStr (xs.take k) : Nat)) ∧ 0 ≤ left - xs.length - (sumC costStr (xs.take k) : Nat) ∧ Below w.heap.size w w') (fun _ i _ => xs.length - (intOf i).toNat)
  case atStart => exact ⟨0, Nat.zero_le _, rfl, by simp [sumC], by simp [sumC]; omega, Below.refl _ _⟩
  case round =>
    obtain ⟨k, hk, rfl, rfl, hp, hB⟩ := hrel
    by_cases hlt : k < xs.length
    · obtain ⟨g, o, rfl, hg0, hg, he⟩ := (HR.out.to_ hB).at_ hlt
      have hst := Lib.hid (sumC_take costStr xs k hlt)
      have htot := sumC_le costStr xs (k + 1)
      have hm := FX.out _ (List.getElem_mem hlt)
      have hi1 : (k : Int) < (xs.length : Int) := by omega
      have hi0 : (0 : Int) ≤ (k : Int) := by omega
      have hm2 : xs[k].size ≤ 9223372036854775807 := by have h : xs[k].size ≤ maxLen := hm; unfold maxLen at h; exact h
      have hce : costStr xs[k] = xs[k].size := rfl
      have hee : wr.cell? ⟨g, o + k, none⟩ = some (.string xs[k]) := he
      clear he
      by_cases hneg : left - xs.length - (sumC costStr (xs.take k) : Nat) - (xs[k].size : Nat) < 0
      · have H := Lib.hid (show szC (costStrs xs) left = -1 by have := hst.out; rw [hct.out]; unfold szC; rw [if_pos (by omega)])
        clear hce
        go_wp2_with fail
        go_ret
        exact ⟨ret_int (by rw [H.out]), hB⟩
      · have hp2 : 0 ≤ left - xs.length - (sumC costStr (xs.take (k + 1)) : Nat) := by have := hst.out; omega
        have he2 := Lib.hid (show left - xs.length - (sumC costStr (xs.take (k + 1)) : Nat) = left - xs.length - (sumC costStr (xs.take k) : Nat) - (xs[k].size : Nat) by have := hst.out; omega)
        clear hce
        go_wp2_with fail
        go_roundw
        case rel => exact ⟨k + 1, by omega, by go_num, by rw [he2.out], hp2, hB⟩
        case measure => simp [intOf]; omega
    · have H := Lib.hid (show szC (costStrs xs) left = left - xs.length - (sumC costStr (xs.take k) : Nat) by
        rw [List.take_of_length_le (by omega)] at hp ⊢
        rw [hct.out]; unfold szC; rw [if_neg (by omega)]; omega)
      have hi1 : ¬ (k : Int) < (xs.length : Int) := by omega
      go_wp2_with fail
      go_ret
      exact ⟨ret_int (by rw [H.out]), hB⟩

end Go.Proofs.Ytpipikjkhmhmhaa
