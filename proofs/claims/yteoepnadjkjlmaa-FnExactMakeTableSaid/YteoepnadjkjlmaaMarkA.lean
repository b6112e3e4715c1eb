/-
  laws.markText.
-/
import Derived.Test.YteoepnadjkjlmaaDigits
import Derived.Test.YteoepnadjkjlmaaVRow
import Derived.Lib.QuietBelow
import Derived.BigQuiet
namespace Go.Proofs.Yteoepnadjkjlmaa
open Go.RowKit Go.Sort
set_option linter.unusedVariables false

/-- The digits of a number, none of naught. -/
def dz (m : Nat) : List UInt8 := if m = 0 then [] else Lib.decDigits m
theorem dz_step (m : Nat) (h : 0 < m) : dz m = dz (m / 10) ++ [UInt8.ofNat (48 + m % 10)] := by
  by_cases h9 : 9 < m
  · unfold dz; rw [if_neg (by omega), if_neg (by omega), digits_step m h9]
  · have e : m / 10 = 0 := by omega
    have e2 : m % 10 = m := by omega
    unfold dz; rw [if_neg (by omega), if_pos e, digits_small m (by omega), e2]; rfl
theorem dz_len (n : Nat) (h : n ≤ 1000000000) : (dz n).length ≤ 21 := by
  unfold dz; split
  · simp
  · exact digits_len n (by omega)
def mT (k : Nat) : ByteArray := ⟨(109 :: dz k).toArray⟩

set_option maxRecDepth 100000 in
set_option maxHeartbeats 800000 in
theorem mark_text (n : Nat) (w : World) (h0 : 1 ≤ n) (h1 : n ≤ 1000000000) :
    Calls Try.prog 49 #[.int .i64 n] w fun e w' => e = .returned (.string (mT n)) ∧ Below w.heap.size w w' := by
  go_enter Try.func49, Try.ntmps49
  go_wp2_with fail
  go_loopw [0, 3] (fun u s w' => ∃ (m : Nat) (l : List UInt8), m ≤ n ∧ u = .int .i64 m ∧ s = .string ⟨l.toArray⟩ ∧ Hid (dz m ++ l = dz n) ∧ Below w.heap.size w w') (fun u _ _ => (intOf u).toNat)
  case atStart => exact ⟨n, [], Nat.le_refl _, rfl, rfl, Lib.hid (by simp), Below.refl _ _⟩
  case round =>
    obtain ⟨m, l, hm, rfl, rfl, hd, hB⟩ := hrel
    have hl : l.length ≤ 21 := by
      have h := dz_len n h1
      rw [← hd.out, List.length_append] at h; omega
    by_cases hlt : 0 < m
    · have hst := Lib.hid (dz_step m hlt)
      have hcv := conv_one (48 + m % 10) (by omega) wr
      have ec : ((48 + m % 10 : Nat) : Int) = 48 + (m : Int) % 10 := by omega
      rw [ec] at hcv
      clear ec
      go_wp2_with fail
      go_roundw
      case rel => exact ⟨m / 10, (48 + UInt8.ofNat (m % 10)) :: l, by omega, by go_num, by rw [str_cons], Lib.hid (by rw [← hd.out, hst.out, ofNat_add]; simp), hB.alloc hB.size _⟩
      case measure => simp [intOf]; omega
    · have hm0 : m = 0 := by omega
      have HL := Lib.hid (show l = dz n by rw [← hd.out, hm0]; rfl)
      clear hm0
      go_wp2_with fail
      go_ret
      refine ⟨?_, hB⟩
      show Ending.returned (.string (⟨#[109]⟩ ++ ⟨l.toArray⟩)) = _
      rw [str_cons, HL.out]; rfl
end Go.Proofs.Yteoepnadjkjlmaa
