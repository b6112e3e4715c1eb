/-
  Decimal digits. laws.markText.
-/
import Derived.Test.YteoepnadjkjlmaaWhole
import Derived.Lib.ItoaLen
import Derived.Test.YteoepnadjkjlmaaVRow
import Derived.Lib.QuietBelow
import Derived.BigQuiet
namespace Go.Proofs.Yteoepnadjkjlmaa
open Go.RowKit
set_option linter.unusedVariables false

theorem digits_step (m : Nat) (h : 9 < m) : Lib.decDigits m = Lib.decDigits (m / 10) ++ [UInt8.ofNat (48 + m % 10)] := by
  rw [Lib.decDigits, dif_neg (by omega)]
theorem digits_small (m : Nat) (h : m ≤ 9) : Lib.decDigits m = [UInt8.ofNat (48 + m)] := by
  rw [Lib.decDigits, dif_pos (by omega)]
theorem digits_pos (m : Nat) : 1 ≤ (Lib.decDigits m).length := by
  by_cases h : 9 < m
  · rw [digits_step m h]; simp
  · rw [digits_small m (by omega)]; simp
theorem digits_len (n : Nat) (h : n ≤ 1000000000) : (Lib.decDigits n).length ≤ 21 := by
  have h := Lib.itoa_length_le (n : Int) (by omega) (by omega)
  unfold Lib.itoa at h
  rw [if_neg (by omega)] at h
  simpa using h
theorem digits_rest {m n : Nat} {l : List UInt8} (h : Lib.decDigits m ++ l = Lib.decDigits n) (hn : n ≤ 1000000000) : l.length ≤ 20 := by
  have h1 := digits_pos m
  have h2 := digits_len n hn
  rw [← h, List.length_append] at h2
  omega
theorem ofNat_add (m : Nat) : UInt8.ofNat (48 + m) = 48 + UInt8.ofNat m := by simp
theorem str_cons (c : UInt8) (l : List UInt8) : (⟨#[c]⟩ ++ ⟨l.toArray⟩ : ByteArray) = ⟨(c :: l).toArray⟩ := by
  apply ByteArray.ext
  simp [ByteArray.data_append]
theorem conv_one (d : Nat) (hd : d < 256) (w : World) :
    (convert 30 9 (.slice (some ⟨w.heap.size, 0, none⟩) 1 1)).run Try.prog (w.alloc (.cells #[.int .u8 (d : Int)] 5)) = .ok (.string ⟨#[UInt8.ofNat d]⟩) (w.alloc (.cells #[.int .u8 (d : Int)] 5)) := by
  have h := run_convert_bytes_back (P := Try.prog) (w.alloc (.cells #[.int .u8 (d : Int)] 5)) 30 9 5 ⟨w.heap.size, 0, none⟩ 1 [UInt8.ofNat d] Try.underlying30 Try.underlying5 Try.underlying9 (fun j hj => by
    obtain rfl : j = 0 := by simpa using hj
    have e : (⟨w.heap.size, 0, none⟩ : Addr).add 0 = ⟨w.heap.size, 0, none⟩ := rfl
    rw [e]
    have hu : (UInt8.ofNat d).toNat = d := by simp; omega
    simp only [List.getElem_cons_zero, hu]
    go_simp)
  exact h
end Go.Proofs.Yteoepnadjkjlmaa
namespace Go.Proofs.Yteoepnadjkjlmaa
open Go.RowKit Go.Sort
set_option linter.unusedVariables false

/-- The digits of a number, none of naught. -/
def dz (m : Nat) : List UInt8 := if m = 0 then [] else Lib.decDigits m
theorem dz_step (m : Nat) (h : 0 < m) : dz m = dz (m / 10) ++ [UInt8.ofNat (48 + m % 10)] := by
  by_cases h9 : 9 < m
  · unfold dz; rw [if_neg (by omega), if_neg (by omega), digits_step m h9]
  · have e : m / 10 = 0 := by omega
    have e2 : m % 10 = m := by omega
    unfold dz; rw [if_neg (by omega), if_pos e, digits_small m (by omega), e2]; rfl
theorem dz_len (n : Nat) (h : n ≤ 1000000000) : (dz n).length ≤ 21 := by
  unfold dz; split
  · simp
  · exact digits_len n (by omega)
def mT (k : Nat) : ByteArray := ⟨(109 :: dz k).toArray⟩

set_option maxRecDepth 100000 in
set_option maxHeartbeats 800000 in
theorem mark_text (n : Nat) (w : World) (h0 : 1 ≤ n) (h1 : n ≤ 1000000000) :
    Calls Try.prog 49 #[.int .i64 n] w fun e w' => e = .returned (.string (mT n)) ∧ Below w.heap.size w w' := by
  go_enter Try.func49, Try.ntmps49
  go_wp2_with fail
  go_loopw [0, 3] (fun u s w' => ∃ (m : Nat) (l : List UInt8), m ≤ n ∧ u = .int .i64 m ∧ s = .string ⟨l.toArray⟩ ∧ Hid (dz m ++ l = dz n) ∧ Below w.heap.size w w') (fun u _ _ => (intOf u).toNat)
  case atStart => exact ⟨n, [], Nat.le_refl _, rfl, rfl, Lib.hid (by simp), Below.refl _ _⟩
  case round =>
    obtain ⟨m, l, hm, rfl, rfl, hd, hB⟩ := hrel
    have hl : l.length ≤ 21 := by
      have h := dz_len n h1
      rw [← hd.out, List.length_append] at h; omega
    by_cases hlt : 0 < m
    · have hst := Lib.hid (dz_step m hlt)
      have hcv := conv_one (48 + m % 10) (by omega) wr
      have ec : ((48 + m % 10 : Nat) : Int) = 48 + (m : Int) % 10 := by omega
      rw [ec] at hcv
      clear ec
      go_wp2_with fail
      go_roundw
      case rel => exact ⟨m / 10, (48 + UInt8.ofNat (m % 10)) :: l, by omega, by go_num, by rw [str_cons], Lib.hid (by rw [← hd.out, hst.out, ofNat_add]; simp), hB.alloc hB.size _⟩
      case measure => simp [intOf]; omega
    · have hm0 : m = 0 := by omega
      have HL := Lib.hid (show l = dz n by rw [← hd.out, hm0]; rfl)
      clear hm0
      go_wp2_with fail
      go_ret
      refine ⟨?_, hB⟩
      show Ending.returned (.string (⟨#[109]⟩ ++ ⟨l.toArray⟩)) = _
      rw [str_cons, HL.out]; rfl
end Go.Proofs.Yteoepnadjkjlmaa
