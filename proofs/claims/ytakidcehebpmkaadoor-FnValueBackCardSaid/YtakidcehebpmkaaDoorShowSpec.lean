/-
  spec.l1Int, spec.l1Show, spec.ShowValue.
-/
import Derived.Test.YtakidcehebpmkaaDoorShowVal
namespace Go.Proofs.YtakidcehebpmkaaDoor
open Go.RowKit
set_option linter.unusedVariables false

theorem digits_step (m : Nat) (h : 9 < m) : Lib.decDigits m = Lib.decDigits (m / 10) ++ [UInt8.ofNat (48 + m % 10)] := by
  rw [Lib.decDigits, dif_neg (by omega)]
theorem digits_small (m : Nat) (h : m ≤ 9) : Lib.decDigits m = [UInt8.ofNat (48 + m)] := by
  rw [Lib.decDigits, dif_pos (by omega)]

theorem digits_pos (m : Nat) : 1 ≤ (Lib.decDigits m).length := by
  by_cases h : 9 < m
  · rw [digits_step m h]; simp
  · rw [digits_small m (by omega)]; simp
theorem digits_len (n : Nat) (h : n ≤ 1000000000) : (Lib.decDigits n).length ≤ 21 := by
  have h := Lib.itoa_length_le (n : Int) (by omega) (by omega)
  unfold Lib.itoa at h
  rw [if_neg (by omega)] at h
  simpa using h
theorem digits_rest {m n : Nat} {l : List UInt8} (h : Lib.decDigits m ++ l = Lib.decDigits n) (hn : n ≤ 1000000000) : l.length ≤ 20 := by
  have h1 := digits_pos m
  have h2 := digits_len n hn
  rw [← h, List.length_append] at h2
  omega
theorem ofNat_add (m : Nat) : UInt8.ofNat (48 + m) = 48 + UInt8.ofNat m := by simp
theorem str_cons (c : UInt8) (l : List UInt8) : (⟨#[c]⟩ ++ ⟨l.toArray⟩ : ByteArray) = ⟨(c :: l).toArray⟩ := by
  apply ByteArray.ext
  simp [ByteArray.data_append]

theorem conv_one (d : Nat) (hd : d < 256) (w : World) :
    (convert 22 9 (.slice (some ⟨w.heap.size, 0, none⟩) 1 1)).run Tryd.prog (w.alloc (.cells #[.int .u8 (d : Int)] 5)) = .ok (.string ⟨#[UInt8.ofNat d]⟩) (w.alloc (.cells #[.int .u8 (d : Int)] 5)) := by
  have h := run_convert_bytes_back (P := Tryd.prog) (w.alloc (.cells #[.int .u8 (d : Int)] 5)) 22 9 5 ⟨w.heap.size, 0, none⟩ 1 [UInt8.ofNat d] Tryd.underlying22 Tryd.underlying5 Tryd.underlying9 (fun j hj => by
    obtain rfl : j = 0 := by simpa using hj
    have e : (⟨w.heap.size, 0, none⟩ : Addr).add 0 = ⟨w.heap.size, 0, none⟩ := rfl
    rw [e]
    have hu : (UInt8.ofNat d).toNat = d := by simp; omega
    simp only [List.getElem_cons_zero, hu]
    go_simp)
  exact h

set_option maxRecDepth 100000 in
set_option maxHeartbeats 1600000 in
theorem spec_int_pos (n : Nat) (w : World) (h1 : n ≤ 1000000000) :
    Calls Tryd.prog 65 #[.int .i64 n] w fun e w' => e = .returned (.string ⟨(Lib.decDigits n).toArray⟩) ∧ Below w.heap.size w w' := by
  go_enter Tryd.func65, Tryd.ntmps65
  go_wp2_with fail
  go_loopw [3, 4] (fun s u w' => ∃ (m : Nat) (l : List UInt8), m ≤ n ∧ u = .int .u64 m ∧ s = .string ⟨l.toArray⟩ ∧ Hid (Lib.decDigits m ++ l = Lib.decDigits n) ∧ Below w.heap.size w w') (fun _ u _ => (intOf u).toNat)
  case atStart => exact ⟨n, [], Nat.le_refl _, rfl, rfl, Lib.hid (by simp), Below.refl _ _⟩
  case round =>
    obtain ⟨m, l, hm, rfl, rfl, hd, hB⟩ := hrel
    have hl := digits_rest hd.out h1
    by_cases hlt : 9 < m
    · have hst := Lib.hid (digits_step m hlt)
      have hcv := conv_one (48 + m % 10) (by omega) wr
      have ec : ((48 + m % 10 : Nat) : Int) = 48 + (m : Int) % 10 := by omega
      rw [ec] at hcv
      clear ec
      go_wp2_with fail
      go_roundw
      case rel => exact ⟨m / 10, (48 + UInt8.ofNat (m % 10)) :: l, by omega, by go_num, by rw [str_cons], Lib.hid (by rw [← hd.out, hst.out, ofNat_add]; simp), hB.alloc hB.size _⟩
      case measure => simp [intOf]; omega
    · have hst := Lib.hid (digits_small m (by omega))
      have hcv := conv_one (48 + m) (by omega) wr
      have ec : ((48 + m : Nat) : Int) = 48 + (m : Int) := by omega
      rw [ec] at hcv
      clear ec
      go_wp2_with fail
      go_ret
      refine ⟨?_, hB.alloc hB.size _⟩
      rw [← hd.out, hst.out, ofNat_add]
      show Ending.returned (.string (⟨#[48 + UInt8.ofNat m]⟩ ++ ⟨l.toArray⟩)) = _
      rw [str_cons]
      rfl
set_option maxRecDepth 100000 in
set_option maxHeartbeats 1600000 in
theorem spec_int_neg (n : Nat) (w : World) (h0 : 1 ≤ n) (h1 : n ≤ 1000000000) :
    Calls Tryd.prog 65 #[.int .i64 (-(n : Int))] w fun e w' => e = .returned (.string ⟨(45 :: Lib.decDigits n).toArray⟩) ∧ Below w.heap.size w w' := by
  obtain ⟨U, hU⟩ : ∃ U, IntKind.u64.wrap (-(n : Int)) = U := ⟨_, rfl⟩
  have hV : IntKind.u64.wrap (-U) = (n : Int) := by rw [← hU]; simp only [IntKind.wrap, IntKind.bits, IntKind.signed]; simp; omega
  have hlt0 : -(n : Int) < 0 := by omega
  go_enter Tryd.func65, Tryd.ntmps65
  go_wp2_with fail
  go_loopw [3, 4] (fun s u w' => ∃ (m : Nat) (l : List UInt8), m ≤ n ∧ u = .int .u64 m ∧ s = .string ⟨l.toArray⟩ ∧ Hid (Lib.decDigits m ++ l = Lib.decDigits n) ∧ Below w.heap.size w w') (fun _ u _ => (intOf u).toNat)
  case atStart => exact ⟨n, [], Nat.le_refl _, rfl, rfl, Lib.hid (by simp), Below.refl _ _⟩
  case round =>
    obtain ⟨m, l, hm, rfl, rfl, hd, hB⟩ := hrel
    have hl := digits_rest hd.out h1
    by_cases hlt : 9 < m
    · have hst := Lib.hid (digits_step m hlt)
      have hcv := conv_one (48 + m % 10) (by omega) wr
      have ec : ((48 + m % 10 : Nat) : Int) = 48 + (m : Int) % 10 := by omega
      rw [ec] at hcv
      clear ec
      go_wp2_with fail
      go_roundw
      case rel => exact ⟨m / 10, (48 + UInt8.ofNat (m % 10)) :: l, by omega, by go_num, by rw [str_cons], Lib.hid (by rw [← hd.out, hst.out, ofNat_add]; simp), hB.alloc hB.size _⟩
      case measure => simp [intOf]; omega
    · have hst := Lib.hid (digits_small m (by omega))
      have hcv := conv_one (48 + m) (by omega) wr
      have ec : ((48 + m : Nat) : Int) = 48 + (m : Int) := by omega
      rw [ec] at hcv
      clear ec
      go_wp2_with fail
      go_ret
      refine ⟨?_, hB.alloc hB.size _⟩
      rw [← hd.out, hst.out, ofNat_add]
      show Ending.returned (.string (⟨#[45]⟩ ++ (⟨#[48 + UInt8.ofNat m]⟩ ++ ⟨l.toArray⟩))) = _
      rw [str_cons, str_cons]
      rfl
end Go.Proofs.YtakidcehebpmkaaDoor
