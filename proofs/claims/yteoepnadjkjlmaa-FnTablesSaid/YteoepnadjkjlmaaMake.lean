/-
  laws.toValueS: the slice that it makes.
-/
import Derived.Test.YteoepnadjkjlmaaMemZ
import Derived.Test.YteoepnadjkjlmaaWhole
namespace Go.Proofs.Yteoepnadjkjlmaa
open Go.RowKit
set_option linter.unusedVariables false

set_option maxHeartbeats 800000 in
theorem to_values (A : Option Addr) (c : Nat) (vs : List GV) (w : World) (hr : RowAt w w.heap.size A vs) (hl : vs.length ≤ 1048576) :
    Calls Try.prog 24 #[.slice A vs.length c] w fun e w' => e = .returned (.slice (some ⟨w.heap.size, 0, none⟩) vs.length vs.length) ∧ Whole w' w.heap.size 54 (flat vs) ∧ Below w.heap.size w w' := by
  obtain ⟨i0, hi0, hz0, hz1, hz2⟩ := info_parts infoV
  have hmk := fun W => run_make (P := Try.prog) W 35 54 i0 _ Try.underlying35 hi0 hz0 .i64 .i64 vs.length vs.length (by omega) (by omega) (by rw [hz2]; omega) (by omega)
  go_enter Try.func24, Try.ntmps24
  go_wp2_with fail
  have hW0 : ∃ l : List Value, l.length = (vs.length - 0) * 3 ∧ Whole (w.alloc (.cells (madeCells #[.int .i64 0, .int .i64 0, .string ByteArray.empty] (vs.length * 3)) 54)) w.heap.size 54 (flat (vs.take 0) ++ l) :=
    ⟨(madeCells #[.int .i64 0, .int .i64 0, .string ByteArray.empty] (vs.length * 3)).toList, by simp [size_madeCells], by simpa [flat] using Whole.new w 54 (madeCells #[.int .i64 0, .int .i64 0, .string ByteArray.empty] (vs.length * 3)).toList⟩
  have HW0 := Lib.hid hW0
  clear hW0 hmk
  go_loopw [4] (fun i w' => ∃ k : Nat, k ≤ vs.length ∧ i = .int .i64 k ∧ Hid (∃ l : List Value, l.length = (vs.length - k) * 3 ∧ Whole w' w.heap.size 54 (flat (vs.take k) ++ l)) ∧ Below w.heap.size w w') (fun i _ => vs.length - (intOf i).toNat)
  case atStart => exact ⟨0, Nat.zero_le _, rfl, HW0, (Below.refl _ _).alloc (Nat.le_refl _) _⟩
  case round =>
    obtain ⟨k, hk, rfl, hW, hB⟩ := hrel
    by_cases hlt : k < vs.length
    · obtain ⟨g, o, rfl, hg, c0, c1, c2⟩ := (hr.below hB (Nat.le_refl _)).at_ hlt
      go_wp2_with fail
      refine (to_value _ _ _ _).mono ?_
      rintro e w2 ⟨rfl, hb2⟩
      have hB2 := below_next hB hb2 rfl rfl
      clear c0 c1 c2
      obtain ⟨l, hl3, hW1⟩ := hW.out
      obtain ⟨x, y, z, l, rfl, hl4⟩ := three_of (l := l) (m := vs.length - k - 1) (by omega)
      have hW2 := hW1.below hb2 (by have := hB.size; have := hW1.lt; omega)
      have hfl : (flat (vs.take k)).length = k * 3 := by rw [flat_length, List.length_take]; omega
      have q0 := hW2.cell (k * 3)
      have q1 := hW2.cell (k * 3 + 1)
      have q2 := hW2.cell (k * 3 + 2)
      rw [List.getElem?_append_right (by omega), hfl] at q0 q1 q2
      simp at q0 q1 q2
      have r0 := hW2.frozen (k * 3)
      have r1 := hW2.frozen (k * 3 + 1)
      have r2 := hW2.frozen (k * 3 + 2)
      have hW3 := ((hW2.set_ (k * 3) (.int .i64 vs[k].k)).set_ (k * 3 + 1) (.int .i64 vs[k].n)).set_ (k * 3 + 2) (.string vs[k].t)
      have hs3 := set3 (flat (vs.take k)) l x y z (.int .i64 vs[k].k) (.int .i64 vs[k].n) (.string vs[k].t)
      rw [hfl] at hs3
      rw [hs3] at hW3
      have htk : flat (vs.take (k + 1)) ++ l = flat (vs.take k) ++ .int .i64 vs[k].k :: .int .i64 vs[k].n :: .string vs[k].t :: l := by
        rw [List.take_succ_eq_append_getElem hlt, flat_append]; simp [flat]
      rw [← htk] at hW3
      have HW3 := Lib.hid hW3
      have hB3 := ((hB2.setCell (p := ⟨w.heap.size, k * 3, none⟩) (Nat.le_refl _) (.int .i64 vs[k].k)).setCell (p := ⟨w.heap.size, k * 3 + 1, none⟩) (Nat.le_refl _) (.int .i64 vs[k].n)).setCell (p := ⟨w.heap.size, k * 3 + 2, none⟩) (Nat.le_refl _) (.string vs[k].t)
      clear hW hs3 htk hW3 hfl hl3 hW1 hW2
      have hl5 := Lib.hid hl4
      clear hl4
      go_wp2_with fail
      go_roundw
      case rel => exact ⟨k + 1, by omega, by go_num, Lib.hid ⟨l, by have := hl5.out; omega, HW3.out⟩, hB3⟩
      case measure => simp [intOf]; omega
    · go_wp2_with fail
      go_ret
      refine ⟨rfl, ?_, hB⟩
      obtain ⟨l, hl3, hW1⟩ := hW.out
      obtain rfl : l = [] := List.eq_nil_of_length_eq_zero (by rw [hl3]; omega)
      rw [List.take_of_length_le (by omega), List.append_nil] at hW1
      exact hW1
end Go.Proofs.Yteoepnadjkjlmaa
