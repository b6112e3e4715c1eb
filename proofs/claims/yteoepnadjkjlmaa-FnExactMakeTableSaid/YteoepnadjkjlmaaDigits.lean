/-
  Decimal digits.
-/
import Derived.Test.YteoepnadjkjlmaaWhole
import Derived.Lib.ItoaLen
namespace Go.Proofs.Yteoepnadjkjlmaa
open Go.RowKit
set_option linter.unusedVariables false

theorem digits_step (m : Nat) (h : 9 < m) : Lib.decDigits m = Lib.decDigits (m / 10) ++ [UInt8.ofNat (48 + m % 10)] := by
  rw [Lib.decDigits, dif_neg (by omega)]
theorem digits_small (m : Nat) (h : m ≤ 9) : Lib.decDigits m = [UInt8.ofNat (48 + m)] := by
  rw [Lib.decDigits, dif_pos (by omega)]
theorem digits_pos (m : Nat) : 1 ≤ (Lib.decDigits m).length := by
  by_cases h : 9 < m
  · rw [digits_step m h]; simp
  · rw [digits_small m (by omega)]; simp
theorem digits_len (n : Nat) (h : n ≤ 1000000000) : (Lib.decDigits n).length ≤ 21 := by
  have h := Lib.itoa_length_le (n : Int) (by omega) (by omega)
  unfold Lib.itoa at h
  rw [if_neg (by omega)] at h
  simpa using h
theorem digits_rest {m n : Nat} {l : List UInt8} (h : Lib.decDigits m ++ l = Lib.decDigits n) (hn : n ≤ 1000000000) : l.length ≤ 20 := by
  have h1 := digits_pos m
  have h2 := digits_len n hn
  rw [← h, List.length_append] at h2
  omega
theorem ofNat_add (m : Nat) : UInt8.ofNat (48 + m) = 48 + UInt8.ofNat m := by simp
theorem str_cons (c : UInt8) (l : List UInt8) : (⟨#[c]⟩ ++ ⟨l.toArray⟩ : ByteArray) = ⟨(c :: l).toArray⟩ := by
  apply ByteArray.ext
  simp [ByteArray.data_append]
theorem conv_one (d : Nat) (hd : d < 256) (w : World) :
    (convert 30 9 (.slice (some ⟨w.heap.size, 0, none⟩) 1 1)).run Try.prog (w.alloc (.cells #[.int .u8 (d : Int)] 5)) = .ok (.string ⟨#[UInt8.ofNat d]⟩) (w.alloc (.cells #[.int .u8 (d : Int)] 5)) := by
  have h := run_convert_bytes_back (P := Try.prog) (w.alloc (.cells #[.int .u8 (d : Int)] 5)) 30 9 5 ⟨w.heap.size, 0, none⟩ 1 [UInt8.ofNat d] Try.underlying30 Try.underlying5 Try.underlying9 (fun j hj => by
    obtain rfl : j = 0 := by simpa using hj
    have e : (⟨w.heap.size, 0, none⟩ : Addr).add 0 = ⟨w.heap.size, 0, none⟩ := rfl
    rw [e]
    have hu : (UInt8.ofNat d).toNat = d := by simp; omega
    simp only [List.getElem_cons_zero, hu]
    go_simp)
  exact h
end Go.Proofs.Yteoepnadjkjlmaa
