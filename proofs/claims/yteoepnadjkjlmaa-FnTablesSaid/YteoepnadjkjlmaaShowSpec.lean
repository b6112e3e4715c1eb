/-
  spec.l1Int, spec.l1Show, spec.ShowValue.
-/
import Derived.Test.YteoepnadjkjlmaaMarkAZ
import Derived.Test.YteoepnadjkjlmaaShowMathZ
namespace Go.Proofs.Yteoepnadjkjlmaa
open Go.RowKit
set_option linter.unusedVariables false

set_option maxRecDepth 100000 in
set_option maxHeartbeats 1600000 in
theorem spec_int_pos (n : Nat) (w : World) (h1 : n ≤ 1000000000) :
    Calls Try.prog 68 #[.int .i64 n] w fun e w' => e = .returned (.string ⟨(Lib.decDigits n).toArray⟩) ∧ Below w.heap.size w w' := by
  go_enter Try.func68, Try.ntmps68
  go_wp2_with fail
  go_loopw [3, 4] (fun s u w' => ∃ (m : Nat) (l : List UInt8), m ≤ n ∧ u = .int .u64 m ∧ s = .string ⟨l.toArray⟩ ∧ Hid (Lib.decDigits m ++ l = Lib.decDigits n) ∧ Below w.heap.size w w') (fun _ u _ => (intOf u).toNat)
  case atStart => exact ⟨n, [], Nat.le_refl _, rfl, rfl, Lib.hid (by simp), Below.refl _ _⟩
  case round =>
    obtain ⟨m, l, hm, rfl, rfl, hd, hB⟩ := hrel
    have hl := digits_rest hd.out h1
    by_cases hlt : 9 < m
    · have hst := Lib.hid (digits_step m hlt)
      have hcv := conv_one (48 + m % 10) (by omega) wr
      have ec : ((48 + m % 10 : Nat) : Int) = 48 + (m : Int) % 10 := by omega
      rw [ec] at hcv
      clear ec
      go_wp2_with fail
      go_roundw
      case rel => exact ⟨m / 10, (48 + UInt8.ofNat (m % 10)) :: l, by omega, by go_num, by rw [str_cons], Lib.hid (by rw [← hd.out, hst.out, ofNat_add]; simp), hB.alloc hB.size _⟩
      case measure => simp [intOf]; omega
    · have hst := Lib.hid (digits_small m (by omega))
      have hcv := conv_one (48 + m) (by omega) wr
      have ec : ((48 + m : Nat) : Int) = 48 + (m : Int) := by omega
      rw [ec] at hcv
      clear ec
      go_wp2_with fail
      go_ret
      refine ⟨?_, hB.alloc hB.size _⟩
      rw [← hd.out, hst.out, ofNat_add]
      show Ending.returned (.string (⟨#[48 + UInt8.ofNat m]⟩ ++ ⟨l.toArray⟩)) = _
      rw [str_cons]
      rfl
set_option maxRecDepth 100000 in
set_option maxHeartbeats 1600000 in
theorem spec_int_neg (n : Nat) (w : World) (h0 : 1 ≤ n) (h1 : n ≤ 1000000000) :
    Calls Try.prog 68 #[.int .i64 (-(n : Int))] w fun e w' => e = .returned (.string ⟨(45 :: Lib.decDigits n).toArray⟩) ∧ Below w.heap.size w w' := by
  obtain ⟨U, hU⟩ : ∃ U, IntKind.u64.wrap (-(n : Int)) = U := ⟨_, rfl⟩
  have hV : IntKind.u64.wrap (-U) = (n : Int) := by rw [← hU]; simp only [IntKind.wrap, IntKind.bits, IntKind.signed]; simp; omega
  have hlt0 : -(n : Int) < 0 := by omega
  go_enter Try.func68, Try.ntmps68
  go_wp2_with fail
  go_loopw [3, 4] (fun s u w' => ∃ (m : Nat) (l : List UInt8), m ≤ n ∧ u = .int .u64 m ∧ s = .string ⟨l.toArray⟩ ∧ Hid (Lib.decDigits m ++ l = Lib.decDigits n) ∧ Below w.heap.size w w') (fun _ u _ => (intOf u).toNat)
  case atStart => exact ⟨n, [], Nat.le_refl _, rfl, rfl, Lib.hid (by simp), Below.refl _ _⟩
  case round =>
    obtain ⟨m, l, hm, rfl, rfl, hd, hB⟩ := hrel
    have hl := digits_rest hd.out h1
    by_cases hlt : 9 < m
    · have hst := Lib.hid (digits_step m hlt)
      have hcv := conv_one (48 + m % 10) (by omega) wr
      have ec : ((48 + m % 10 : Nat) : Int) = 48 + (m : Int) % 10 := by omega
      rw [ec] at hcv
      clear ec
      go_wp2_with fail
      go_roundw
      case rel => exact ⟨m / 10, (48 + UInt8.ofNat (m % 10)) :: l, by omega, by go_num, by rw [str_cons], Lib.hid (by rw [← hd.out, hst.out, ofNat_add]; simp), hB.alloc hB.size _⟩
      case measure => simp [intOf]; omega
    · have hst := Lib.hid (digits_small m (by omega))
      have hcv := conv_one (48 + m) (by omega) wr
      have ec : ((48 + m : Nat) : Int) = 48 + (m : Int) := by omega
      rw [ec] at hcv
      clear ec
      go_wp2_with fail
      go_ret
      refine ⟨?_, hB.alloc hB.size _⟩
      rw [← hd.out, hst.out, ofNat_add]
      show Ending.returned (.string (⟨#[45]⟩ ++ (⟨#[48 + UInt8.ofNat m]⟩ ++ ⟨l.toArray⟩))) = _
      rw [str_cons, str_cons]
      rfl
end Go.Proofs.Yteoepnadjkjlmaa
