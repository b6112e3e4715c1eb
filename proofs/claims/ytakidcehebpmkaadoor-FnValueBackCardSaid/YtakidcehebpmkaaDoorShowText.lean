/-
  impl.shownText: text, addQuoted.
-/
import Derived.Test.YtakidcehebpmkaaDoorShowAdd
import Derived.Laws.IdiomStrings
import Derived.Laws.Strings2
import Derived.Deep.QuietTactic
import Derived.BigQuiet
namespace Go.Proofs.YtakidcehebpmkaaDoor
open Go.RowKit
set_option linter.unusedVariables false

set_option maxHeartbeats 800000 in
theorem text_of (b : Nat) (l : List UInt8) (w : World) (hb : Shown w b l) :
    Calls Tryd.prog 34 #[.pointer (some ⟨b, 0, none⟩)] w fun e w' => e = .returned (.string ⟨l.toArray⟩) ∧ Below w.heap.size w w' := by
  obtain ⟨rest, hlen, hw⟩ := hb
  have hbl : (Lib.byteCells l).length = l.length := Lib.byteCells_length l
  have hsize : w.cell? ⟨b, 992, none⟩ = some (.int .i64 l.length) := by
    rw [hw.cell, List.getElem?_append_right (by simp [hbl]; omega)]
    simp [hbl, hlen]
  have hrun : ∀ n, (convert 22 9 (.slice (some ⟨b, 0, none⟩) l.length 992)).run Tryd.prog (w.drewN n) = .ok (.string ⟨l.toArray⟩) (w.drewN n) := fun n => by
    refine run_convert_bytes_back (P := Tryd.prog) (w.drewN n) 22 9 5 ⟨b, 0, none⟩ 992 l Tryd.underlying22 Tryd.underlying5 Tryd.underlying9 (fun j hj => ?_)
    have e : (⟨b, 0, none⟩ : Addr).add j = ⟨b, j, none⟩ := by unfold Addr.add; split <;> simp_all
    rw [e]
    show w.cell? ⟨b, j, none⟩ = _
    rw [hw.cell, List.append_assoc, List.getElem?_append_left (by rw [hbl]; exact hj)]
    simp [Lib.byteCells, hj]
  have hi0 : (0 : Int) ≤ (l.length : Int) := by omega
  have hi1 : (l.length : Int) ≤ 992 := by omega
  have HLN := Lib.hid hlen
  have HW := Lib.hid hw
  clear hlen hbl hw
  go_enter Tryd.func34, Tryd.ntmps34
  go_wp2_with fail
  go_quiet (fail)
  go_wp2_with fail
  go_ret
  exact ⟨rfl, ⟨rfl, rfl, rfl, Nat.le_refl _, fun _ _ => rfl⟩⟩

theorem is_u8 (c d : UInt8) (n : Int) (hn : (d.toNat : Int) = n) : ((c.toNat : Int) == n) = decide (c = d) := by
  subst hn
  by_cases h : c = d
  · subst h; simp
  · rw [decide_eq_false h, beq_eq_false_iff_ne]
    intro e
    exact h (UInt8.toNat_inj.1 (by omega))
theorem extract_one (s : ByteArray) (k : Nat) (h : k < s.size) : s.extract k (k + 1) = ⟨#[s[k]]⟩ := by
  apply ByteArray.ext
  rw [ByteArray.data_extract]
  apply Array.toList_inj.1
  rw [Array.toList_extract, List.extract_eq_take_drop]
  have hk : k < s.data.toList.length := by simpa using h
  rw [List.drop_eq_getElem_cons hk]
  simp
  rfl
theorem slice_one (s : ByteArray) (k : Nat) (h : k < s.size) (W : World) :
    (Instr.slice 9 (.string s) (some (.int .i64 (k : Int))) (some (.int .i64 ((k : Int) + 1))) none).run Tryd.prog W = .ok (.string ⟨#[s[k]]⟩) W := by
  rw [run_slice_string W 9 s .i64 .i64 (k : Int) ((k : Int) + 1) Tryd.underlying9 (by omega) (by omega) (by omega)]
  have e1 : (k : Int).toNat = k := by omega
  have e2 : ((k : Int) + 1).toNat = k + 1 := by omega
  rw [e1, e2, extract_one s k h]
def escB (c : UInt8) : List UInt8 := if c = 34 ∨ c = 92 then [92, c] else [c]
def escL (l : List UInt8) : List UInt8 := l.flatMap escB
def quoteL (l : List UInt8) : List UInt8 := 34 :: (escL l ++ [34])
theorem escL_snoc (s : ByteArray) (k : Nat) (h : k < s.size) : escL (s.data.toList.take (k + 1)) = escL (s.data.toList.take k) ++ escB s[k] := by
  rw [take_snoc s k h]; simp [escL]
theorem escB_len (c : UInt8) : (escB c).length ≤ 2 := by unfold escB; split <;> simp
theorem escL_len (l : List UInt8) : (escL l).length ≤ 2 * l.length := by
  induction l with
  | nil => simp [escL]
  | cons c l ih => have := escB_len c; simp only [escL, List.flatMap_cons, List.length_append, List.length_cons] at *; omega

theorem grown_next {w w1 w2 : World} {b : Nat} (h : w.grownBy w1 (some b)) (k : w1.grownBy w2 (some b)) : w.grownBy w2 (some b) :=
  ⟨k.os.trans h.os, k.tape.trans h.tape, k.output.trans h.output, Nat.le_trans h.size k.size, fun i hi hne => (k.block i (Nat.lt_of_lt_of_le hi h.size) hne).trans (h.block i hi hne)⟩

set_option maxRecDepth 100000 in
set_option maxHeartbeats 1600000 in
theorem add_quoted (b : Nat) (l : List UInt8) (s : ByteArray) (w : World) (hb : Shown w b l) (hs : s.size ≤ 60) (hl : l.length + 2 * s.size + 2 ≤ 992) :
    Calls Tryd.prog 55 #[.pointer (some ⟨b, 0, none⟩), .string s] w (AddPost w b (l ++ quoteL s.data.toList)) := by
  go_enter Tryd.func55, Tryd.ntmps55
  go_wp2_with fail
  refine (add_text b l _ _ hb (by simp [ByteArray.size]; omega) (by omega)).mono ?_
  rintro e w1 ⟨rfl, hb1, hg1⟩
  go_wp2_with fail
  go_loopw [9] (fun i w' => ∃ k : Nat, k ≤ s.size ∧ i = .int .i64 k ∧ Hid (Shown w' b (l ++ [34] ++ escL (s.data.toList.take k)) ∧ w.grownBy w' (some b))) (fun i _ => s.size - (intOf i).toNat)
  case atStart => exact ⟨0, Nat.zero_le _, rfl, Lib.hid ⟨by simpa [escL] using hb1, hg1⟩⟩
  case round =>
    obtain ⟨k, hk, rfl, hst⟩ := hrel
    have hel := escL_len (s.data.toList.take k)
    have htl : (s.data.toList.take k).length = k := by rw [List.length_take, Array.length_toList]; show min k s.size = k; omega
    by_cases hlt : k < s.size
    · have hes := Lib.hid (escL_snoc s k hlt)
      have hc1 := Lib.hid (is_u8 s[k] 34 34 rfl)
      have hc2 := Lib.hid (is_u8 s[k] 92 92 rfl)
      have hsl := slice_one s k hlt
      by_cases h34 : s[k] = 34 ∨ s[k] = 92
      · have hee := Lib.hid (show escB s[k] = [92, s[k]] by unfold escB; rw [if_pos h34])
        by_cases h3 : s[k] = 34
        all_goals
          have hb1 : ((s[k].toNat : Int) == 34) = decide (s[k] = 34) := hc1.out
          have hb2 : ((s[k].toNat : Int) == 92) = decide (s[k] = 92) := hc2.out
        · have hb3 : ((s[k].toNat : Int) == 34) = true := by rw [hb1]; simp [h3]
          clear hb1 hb2 hc1 hc2 h34 h3
          go_wp2_with fail
          refine (add_text b _ ⟨#[92]⟩ _ hst.out.1 (by simp only [List.length_append, List.length_cons, List.length_nil]; show _ + 1 ≤ 992; omega) (by simp only [List.length_append, List.length_cons, List.length_nil]; omega)).mono ?_
          rintro e w2 ⟨rfl, hb2, hg2⟩
          have hsl2 := hsl w2
          go_wp2_with fail
          refine (add_text b _ ⟨#[s[k]]⟩ _ hb2 (by simp only [List.length_append, List.length_cons, List.length_nil]; show _ + 1 ≤ 992; omega) (by simp only [List.length_append, List.length_cons, List.length_nil]; omega)).mono ?_
          rintro e w3 ⟨rfl, hb3, hg3⟩
          go_wp2_with fail
          go_roundw
          case rel => exact ⟨k + 1, by omega, by go_num, Lib.hid ⟨by rw [hes.out, hee.out]; simpa using hb3, grown_next hst.out.2 (grown_next hg2 hg3)⟩⟩
          case measure => simp [intOf]; omega
        · have h9 : s[k] = 92 := by rcases h34 with h | h; exact absurd h h3; exact h
          have hb3 : ((s[k].toNat : Int) == 34) = false := by rw [hb1]; simp [h3]
          have hb4 : ((s[k].toNat : Int) == 92) = true := by rw [hb2]; simp [h9]
          clear hb1 hb2 hc1 hc2 h34 h3 h9
          go_wp2_with fail
          refine (add_text b _ ⟨#[92]⟩ _ hst.out.1 (by simp only [List.length_append, List.length_cons, List.length_nil]; show _ + 1 ≤ 992; omega) (by simp only [List.length_append, List.length_cons, List.length_nil]; omega)).mono ?_
          rintro e w2 ⟨rfl, hb2, hg2⟩
          have hsl2 := hsl w2
          go_wp2_with fail
          refine (add_text b _ ⟨#[s[k]]⟩ _ hb2 (by simp only [List.length_append, List.length_cons, List.length_nil]; show _ + 1 ≤ 992; omega) (by simp only [List.length_append, List.length_cons, List.length_nil]; omega)).mono ?_
          rintro e w3 ⟨rfl, hb3, hg3⟩
          go_wp2_with fail
          go_roundw
          case rel => exact ⟨k + 1, by omega, by go_num, Lib.hid ⟨by rw [hes.out, hee.out]; simpa using hb3, grown_next hst.out.2 (grown_next hg2 hg3)⟩⟩
          case measure => simp [intOf]; omega
      · have hee := Lib.hid (show escB s[k] = [s[k]] by unfold escB; rw [if_neg h34])
        have hb1 : ((s[k].toNat : Int) == 34) = false := by rw [hc1.out]; simp; exact fun h => h34 (.inl h)
        have hb2 : ((s[k].toNat : Int) == 92) = false := by rw [hc2.out]; simp; exact fun h => h34 (.inr h)
        clear hc1 hc2
        go_wp2_with fail
        refine (add_text b _ ⟨#[s[k]]⟩ _ hst.out.1 (by simp only [List.length_append, List.length_cons, List.length_nil]; show _ + 1 ≤ 992; omega) (by simp only [List.length_append, List.length_cons, List.length_nil]; omega)).mono ?_
        rintro e w3 ⟨rfl, hb3, hg3⟩
        go_wp2_with fail
        go_roundw
        case rel => exact ⟨k + 1, by omega, by go_num, Lib.hid ⟨by rw [hes.out, hee.out]; simpa using hb3, grown_next hst.out.2 hg3⟩⟩
        case measure => simp [intOf]; omega
    · go_wp2_with fail
      refine (add_text b _ _ _ hst.out.1 (by simp only [List.length_append, List.length_cons, List.length_nil]; show _ + 1 ≤ 992; omega) (by simp only [List.length_append, List.length_cons, List.length_nil]; omega)).mono ?_
      rintro e w3 ⟨rfl, hb3, hg3⟩
      go_wp2_with fail
      go_end0
      refine ⟨rfl, ?_, grown_next hst.out.2 hg3⟩
      rw [List.take_of_length_le (by rw [Array.length_toList]; show s.size ≤ k; omega)] at hb3
      simpa [quoteL] using hb3
end Go.Proofs.YtakidcehebpmkaaDoor
