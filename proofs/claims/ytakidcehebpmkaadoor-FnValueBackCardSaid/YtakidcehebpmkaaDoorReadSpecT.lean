/-
  spec.ReadValue at a quoted text.
-/
import Derived.Test.YtakidcehebpmkaaDoorReadSpec
namespace Go.Proofs.YtakidcehebpmkaaDoor
open Go.RowKit Go.Joins
set_option linter.unusedVariables false

theorem bytes_text0 {B : Nat} {w : World} {v : Value} {l : List UInt8} (h : Bytes B w v l) (hz : l = [] → ∃ a c, v = .slice (some ⟨a, 0, none⟩) 0 c) :
    ∃ g cap, v = .slice (some ⟨g, 0, none⟩) l.length cap ∧ (convert 22 9 (.slice (some ⟨g, 0, none⟩) l.length cap)).run Tryd.prog w = .ok (.string ⟨l.toArray⟩) w := by
  rcases Nat.eq_zero_or_pos l.length with h0 | hpos
  · have e := List.eq_nil_of_length_eq_zero h0
    obtain ⟨a, c, rfl⟩ := hz e
    subst e
    exact ⟨a, c, rfl, run_convert_bytes_back (P := Tryd.prog) w 22 9 5 ⟨a, 0, none⟩ c [] Tryd.underlying22 Tryd.underlying5 Tryd.underlying9 (fun j hj => by simp at hj)⟩
  · exact bytes_text h hpos

set_option maxRecDepth 100000 in
set_option maxHeartbeats 1600000 in
theorem spec_read_text (s : ByteArray) (w : World) (hs : s.size ≤ 1048576) (hp : 0 < s.size) (h34 : Lib.hasPrefix s.data.toList [34] = true) :
    Calls Tryd.prog 25 #[.string s] w fun e w' => e = .returned (.tuple #[VV (readV s.data.toList), .bool (readB s.data.toList)]) ∧ Below w.heap.size w w' := by
  obtain ⟨i0, hi, hz0, hz1, hz2⟩ := info_parts infoU8
  have h34' : decide ((34 : UInt8) = s[0]) = true := by rw [← head_pre s hp]; exact h34
  have h63 : Lib.hasPrefix s.data.toList [63] = false := by
    rw [head_pre s hp]
    have e : (34 : UInt8) = s[0] := by simpa using h34'
    rw [← e]; decide
  have e63 : ((s[0].toNat : Int) == 63) = false := is_not _ 63 63 rfl (by rw [← head_pre s hp]; exact h63)
  have e34 : ((s[0].toNat : Int) == 34) = true := is_yes _ 34 34 rfl h34'
  have HG := Lib.hid (show guessS s.data.toList = some ⟨2, 0, mkText (uq (s.data.toList.drop 1))⟩ by unfold guessS; rw [h63, if_neg (by decide), if_pos h34])
  clear h34 h34' h63
  have hlt : (0 : Int) < (s.size : Int) := by omega
  have hO0 := Lib.hid (show Bytes (w.heap.size + 1 + 1) ((two 2 w).alloc (.cells #[] 5)) (.slice (some ⟨w.heap.size + 1 + 1, 0, none⟩) 0 0) [] from
    ⟨rfl, .inr ⟨w.heap.size + 1 + 1, 0, #[], rfl, Nat.le_refl _, by simpa [two] using heap_alloc_new (two 2 w) (.cells #[] 5), Nat.le_refl _, by unfold maxLen; omega, rfl, rfl⟩⟩)
  have hB0 := Lib.hid (show Below (w.heap.size + 1 + 1) (two 2 w) ((two 2 w).alloc (.cells #[] 5)) from (Below.refl _ _).alloc (by simp [two]) _)
  go_enter Tryd.func25, Tryd.ntmps25
  go_wp2_with fail
  go_loopw [6, 7] (fun o i w' => ∃ (k : Nat) (m : List UInt8), 1 ≤ k ∧ k ≤ s.size + 1 ∧ m.length < k ∧ i = .int .i64 k ∧ Hid (Bytes (w.heap.size + 1 + 1) w' o m) ∧ Hid (Below (w.heap.size + 1 + 1) (two 2 w) w') ∧ Hid (m ++ uq (s.data.toList.drop k) = uq (s.data.toList.drop 1)) ∧ Hid (m = [] → ∃ a c, o = .slice (some ⟨a, 0, none⟩) 0 c)) (fun _ i _ => s.size + 2 - (intOf i).toNat)
  case atStart => exact ⟨1, [], Nat.le_refl _, by omega, by simp, rfl, hO0, hB0, Lib.hid rfl, Lib.hid fun _ => ⟨_, _, rfl⟩⟩
  case round =>
    obtain ⟨k, m, hk1, hk2, hm, rfl, hO, hB, hQ, hZ⟩ := hrel
    have hwz : w.heap.size + 1 + 1 ≤ wr.heap.size := by have := hB.out.size; simpa [two] using this
    by_cases hlt2 : k + 1 < s.size
    · have hc := Lib.hid (is_u8 s[k] 92 92 rfl)
      by_cases h92 : s[k] = 92
      · have hb : ((s[k].toNat : Int) == 92) = true := by rw [hc.out]; simp [h92]
        have hu := Lib.hid (uq_two s k hlt2 h92)
        clear hc h92
        go_wp2_with (at_builtin; refine wpList_append_own _ rfl (.tmp 56) (.tmp 60) _ rfl (w.heap.size + 1 + 1) 5 i0 (.int .u8 0) 1 1 Tryd.underlying22 hi hz0 hz1 hz2 rfl (by decide) _ _ _ rfl ((show wr.ownsRow (w.heap.size + 1 + 1) 5 1 u6 _ _ from hO.out).alloc _) ⟨wr.heap.size, 0, none⟩ 1 1 [.int .u8 (s[k + 1].toNat : Int)] rfl rfl (news_one _ _ _) (one_u8 _) (by unfold maxLen; omega) (by omega) (by simp; omega) ?_; intro v2 w2 ho2 hg2 _)
        have hO2 : Bytes (w.heap.size + 1 + 1) w2 v2 (m ++ [s[k + 1]]) := bytes_app ho2
        have hB2 := (hB.out.alloc hwz _).grown hg2 (by simp; omega) (own_ge hO.out)
        go_roundw
        case rel => exact ⟨k + 2, m ++ [s[k + 1]], by omega, by omega, by simp only [List.length_append, List.length_cons, List.length_nil]; omega, by go_num, Lib.hid hO2, Lib.hid hB2, Lib.hid (by rw [← hQ.out, hu.out]; simp), Lib.hid (fun h => by simp at h)⟩
        case measure => simp [intOf]; omega
      · have hb : ((s[k].toNat : Int) == 92) = false := by rw [hc.out]; simp [h92]
        have hu := Lib.hid (uq_one s k hlt2 h92)
        clear hc h92
        go_wp2_with (at_builtin; refine wpList_append_own _ rfl (.tmp 56) (.tmp 60) _ rfl (w.heap.size + 1 + 1) 5 i0 (.int .u8 0) 1 1 Tryd.underlying22 hi hz0 hz1 hz2 rfl (by decide) _ _ _ rfl ((show wr.ownsRow (w.heap.size + 1 + 1) 5 1 u6 _ _ from hO.out).alloc _) ⟨wr.heap.size, 0, none⟩ 1 1 [.int .u8 (s[k].toNat : Int)] rfl rfl (news_one _ _ _) (one_u8 _) (by unfold maxLen; omega) (by omega) (by simp; omega) ?_; intro v2 w2 ho2 hg2 _)
        have hO2 : Bytes (w.heap.size + 1 + 1) w2 v2 (m ++ [s[k]]) := bytes_app ho2
        have hB2 := (hB.out.alloc hwz _).grown hg2 (by simp; omega) (own_ge hO.out)
        go_roundw
        case rel => exact ⟨k + 1, m ++ [s[k]], by omega, by omega, by simp only [List.length_append, List.length_cons, List.length_nil]; omega, by go_num, Lib.hid hO2, Lib.hid hB2, Lib.hid (by rw [← hQ.out, hu.out]; simp), Lib.hid (fun h => by simp at h)⟩
        case measure => simp [intOf]; omega
    · have hu := Lib.hid (uq_end s k hlt2)
      have HQ := Lib.hid (show m = uq (s.data.toList.drop 1) by rw [← hQ.out, hu.out, List.append_nil])
      have HG2 := Lib.hid (show guessS s.data.toList = some ⟨2, 0, ⟨m.toArray⟩⟩ by rw [HG.out, ← HQ.out]; rfl)
      obtain ⟨g, cap, rfl, hcv⟩ := bytes_text0 hO.out hZ.out
      have hG1 : Whole wr w.heap.size 26 zeroV := (two_g 2 w).below hB.out (by omega)
      have hH1 : Whole wr (w.heap.size + 1) 26 [.int .i64 2, .int .i64 0, .string ⟨#[]⟩] := (two_h 2 w).below hB.out (by omega)
      have hB1 : Below w.heap.size w wr := (two_b 2 w).trans (hB.out.mono (by omega))
      obtain ⟨a0, a1, a2⟩ := cells3_ hG1
      obtain ⟨b0, b1, b2⟩ := cells3_ hH1
      obtain ⟨f0, f1, f2⟩ := frozen3 hG1
      obtain ⟨f3, f4, f5⟩ := frozen3 hH1
      have HG1 := Lib.hid hG1
      have HH1 := Lib.hid hH1
      have HB1 := Lib.hid hB1
      have hms : (⟨m.toArray⟩ : ByteArray).size ≤ maxLen := by show m.toArray.size ≤ _; rw [List.size_toArray]; unfold maxLen; omega
      clear hG1 hH1 hB1 hZ hQ HQ hu HG hO
      generalize (⟨m.toArray⟩ : ByteArray) = T at hcv HG2 hms
      go_wp2_with fail
      refine (spec_show ⟨2, 0, T⟩ _ hms).mono ?_
      rintro e w3 ⟨rfl, hb3⟩
      have hB2 : Below w.heap.size w (wr.setCell ⟨w.heap.size + 1, 2, none⟩ (.string T)) := HB1.out.setCell (p := ⟨w.heap.size + 1, 2, none⟩) (by show w.heap.size ≤ w.heap.size + 1; omega) _
      have hG2 := HG1.out.far (g' := w.heap.size + 1) (i := 2) (u := .string T) (by omega)
      have hH2 := HH1.out.set_ 2 (.string T)
      have hG3 := hG2.below hb3 hG2.lt
      have hH3 := hH2.below hb3 hH2.lt
      have hB3 := below_next hB2 hb3 rfl rfl
      clear hb3 hB2 hG2 hH2 a0 a1 a2 b0 b1 b2 f0 f1 f2 f3 f4 f5
      obtain ⟨a0, a1, a2⟩ := cells3_ hG3
      obtain ⟨b0, b1, b2⟩ := cells3_ hH3
      obtain ⟨f0, f1, f2⟩ := frozen3 hG3
      have HG3 := Lib.hid hG3
      have HB3 := Lib.hid hB3
      clear hG3 hH3 hB3
      by_cases he : showV ⟨2, 0, T⟩ = s
      · have HR := Lib.hid (sr_true HG2.out he hp)
        have hb := beq_text he
        generalize showV ⟨2, 0, T⟩ = T9 at *
        go_wp2_with fail
        obtain ⟨c0, c1, c2⟩ := cells3_ (put3 (.int .i64 2) (.int .i64 0) (.string T) HG3.out)
        have hY := below3 (.int .i64 2) (.int .i64 0) (.string T) HB3.out (Nat.le_refl _)
        generalize (((w3.setCell _ _).setCell _ _).setCell _ _) = w4 at c0 c1 c2 hY ⊢
        exact bodyPost_ret (v := .tuple #[VV ⟨2, 0, T⟩, .bool true]) (by simp [VV, results, Tryd.results25, go_sem, c0, c1, c2]) rfl ⟨(ret_yes HR.out).symm, hY⟩
      · have HR := Lib.hid (sr_false HG2.out he)
        have hb := beq_texts he
        generalize showV ⟨2, 0, T⟩ = T9 at *
        go_wp2_with fail
        obtain ⟨c0, c1, c2⟩ := cells3_ (put3 (.int .i64 0) (.int .i64 0) (.string ⟨#[]⟩) HG3.out)
        have hY := below3 (.int .i64 0) (.int .i64 0) (.string ⟨#[]⟩) HB3.out (Nat.le_refl _)
        generalize (((w3.setCell _ _).setCell _ _).setCell _ _) = w4 at c0 c1 c2 hY ⊢
        exact bodyPost_ret (v := noV) (by simp [noV, VV, results, Tryd.results25, go_sem, c0, c1, c2]) rfl ⟨(ret_no HR.out).symm, hY⟩
end Go.Proofs.YtakidcehebpmkaaDoor
