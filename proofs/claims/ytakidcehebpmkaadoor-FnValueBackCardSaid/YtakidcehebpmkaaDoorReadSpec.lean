/-
  spec.ReadValue.
-/
import Derived.Test.YtakidcehebpmkaaDoorReadNum
namespace Go.Proofs.YtakidcehebpmkaaDoor
open Go.RowKit Go.Joins
set_option linter.unusedVariables false

theorem sr_none {l : List UInt8} (h : guessS l = none) : readB l = false := by rw [readB_spec, h]
theorem sr_false {s : ByteArray} {v : GV} (h : guessS s.data.toList = some v) (he : showV v ≠ s) : readB s.data.toList = false := by
  rw [readB_spec, h]
  cases ho : okG v with
  | false => simp [ho]
  | true => simpa [ho] using fun e => he ((show_eq ho s).2 e)
theorem sr_true {s : ByteArray} {v : GV} (h : guessS s.data.toList = some v) (he : showV v = s) (hp : 0 < s.size) : readB s.data.toList = true ∧ readV s.data.toList = v := by
  have ho : okG v = true := by
    cases ho : okG v with
    | true => rfl
    | false =>
      unfold showV at he
      rw [ho, if_neg (by decide)] at he
      rw [← he] at hp
      exact absurd hp (by decide)
  have hb : readB s.data.toList = true := by
    rw [readB_spec, h]; simpa [ho] using (show_eq ho s).1 he
  refine ⟨hb, ?_⟩
  have := read_same hb
  rw [h] at this
  unfold readV
  rw [if_pos hb]
  exact (Option.some.inj this).symm
def noV : Value := .tuple #[VV ⟨0, 0, ⟨#[]⟩⟩, .bool false]
theorem ret_no {l : List UInt8} (h : readB l = false) : Ending.returned (.tuple #[VV (readV l), .bool (readB l)]) = .returned noV := by
  unfold readV noV; rw [h]; rfl
theorem ret_yes {l : List UInt8} {v : GV} (h : readB l = true ∧ readV l = v) : Ending.returned (.tuple #[VV (readV l), .bool (readB l)]) = .returned (.tuple #[VV v, .bool true]) := by
  rw [h.1, h.2]
theorem head_pre (s : ByteArray) (h : 0 < s.size) (d : UInt8) : Lib.hasPrefix s.data.toList [d] = decide (d = s[0]) := by
  have e := drop_cons s 0 h
  rw [List.drop_zero] at e
  rw [e, pre_one]
theorem beq_texts {a b : ByteArray} (h : a ≠ b) : (a.toList == b.toList) = false := by
  rw [beq_eq_false_iff_ne]
  intro e
  exact h (ByteArray.ext (Array.toList_inj.1 (by rw [← Lib.toList_data, ← Lib.toList_data, e])))
theorem beq_text {a b : ByteArray} (h : a = b) : (a.toList == b.toList) = true := by simp [h]
def oneV : List Value := [.int .i64 1, .int .i64 0, .string ⟨#[]⟩]

theorem is_not (c d : UInt8) (n : Int) (hn : (d.toNat : Int) = n) (h : decide (d = c) = false) : ((c.toNat : Int) == n) = false := by
  rw [is_u8 c d n hn]
  have h2 : ¬ d = c := by simpa using h
  exact decide_eq_false (fun e => h2 e.symm)
theorem is_yes (c d : UInt8) (n : Int) (hn : (d.toNat : Int) = n) (h : decide (d = c) = true) : ((c.toNat : Int) == n) = true := by
  rw [is_u8 c d n hn]
  have h2 : d = c := by simpa using h
  exact decide_eq_true h2.symm
theorem Whole.far {w : World} {g g' i : Nat} {t : TypeId} {l : List Value} {u : Value} (h : Whole w g t l) (hne : g ≠ g') : Whole (w.setCell ⟨g', i, none⟩ u) g t l := by
  unfold Whole at h ⊢; rw [Below.heap_setCell _ _ _ _ hne]; exact h
theorem frozen3 {w : World} {g : Nat} {t : TypeId} {x y z : Value} (h : Whole w g t [x, y, z]) : w.frozen? ⟨g, 0, none⟩ = false ∧ w.frozen? ⟨g, 1, none⟩ = false ∧ w.frozen? ⟨g, 2, none⟩ = false :=
  ⟨h.frozen 0, h.frozen 1, h.frozen 2⟩
/-- The world with the answer's box and the value's box. -/
def two (k : Int) (w : World) : World := (w.alloc (.cells #[.int .i64 0, .int .i64 0, .string ⟨#[]⟩] 26)).alloc (.cells #[.int .i64 k, .int .i64 0, .string ⟨#[]⟩] 26)
theorem two_g (k : Int) (w : World) : Whole (two k w) w.heap.size 26 zeroV := (new3 w).below (w' := two k w) (B := w.heap.size + 1) ((Below.refl _ _).alloc (by simp) _) (by omega)
theorem two_h (k : Int) (w : World) : Whole (two k w) (w.heap.size + 1) 26 [.int .i64 k, .int .i64 0, .string ⟨#[]⟩] := by
  have := Whole.new (w.alloc (.cells #[.int .i64 0, .int .i64 0, .string ⟨#[]⟩] 26)) 26 [.int .i64 k, .int .i64 0, .string ⟨#[]⟩]
  rw [show (w.alloc (.cells #[.int .i64 0, .int .i64 0, .string ⟨#[]⟩] 26)).heap.size = w.heap.size + 1 by simp] at this
  exact this
theorem two_b (k : Int) (w : World) : Below w.heap.size w (two k w) := ((Below.refl _ _).alloc (Nat.le_refl _) _).alloc (by simp) _

set_option maxRecDepth 100000 in
set_option maxHeartbeats 1600000 in
theorem spec_read_num (s : ByteArray) (w : World) (hs : s.size ≤ 1048576) (h34 : Lib.hasPrefix s.data.toList [34] = false) (h63 : Lib.hasPrefix s.data.toList [63] = false) :
    Calls Tryd.prog 25 #[.string s] w fun e w' => e = .returned (.tuple #[VV (readV s.data.toList), .bool (readB s.data.toList)]) ∧ Below w.heap.size w w' := by
  have hG : guessS s.data.toList = (numL s.data.toList).map fun n => ⟨1, n, mkText []⟩ := by unfold guessS; rw [h34, h63]; rfl
  have HG := Lib.hid hG
  have hor : s.size = 0 ∨ (0 < s.size ∧ ∃ h : 0 < s.size, ((s[0].toNat : Int) == 63) = false ∧ ((s[0].toNat : Int) == 34) = false) := by
    rcases Nat.eq_zero_or_pos s.size with h | h
    · exact .inl h
    · exact .inr ⟨h, h, is_not _ 63 63 rfl (by rw [← head_pre s h]; exact h63), is_not _ 34 34 rfl (by rw [← head_pre s h]; exact h34)⟩
  clear hG h34 h63
  rcases hor with h0 | ⟨hp, hp2, e63, e34⟩
  · have hlt : ¬ (0 : Int) < (s.size : Int) := by omega
    have HR := Lib.hid (sr_none (show guessS s.data.toList = none by rw [HG.out, num_empty s h0]; rfl))
    have HV := Lib.hid (numV_none (num_empty s h0))
    go_enter Tryd.func25, Tryd.ntmps25
    go_wp2_with fail
    refine (spec_number s _ hs).mono ?_
    rintro e w1 ⟨rfl, hw1⟩
    rw [HV.out]
    have hG1 : Whole w1 w.heap.size 26 zeroV := by rw [← hw1]; exact two_g 1 w
    have hH1 : Whole w1 (w.heap.size + 1) 26 oneV := by rw [← hw1]; exact two_h 1 w
    have hB1 : Below w.heap.size w w1 := by rw [← hw1]; exact two_b 1 w
    clear hw1
    obtain ⟨a0, a1, a2⟩ := cells3_ hG1
    obtain ⟨b0, b1, b2⟩ := cells3_ hH1
    obtain ⟨f0, f1, f2⟩ := frozen3 hG1
    obtain ⟨f3, f4, f5⟩ := frozen3 hH1
    have HG1 := Lib.hid hG1
    have HH1 := Lib.hid hH1
    have HB1 := Lib.hid hB1
    clear hG1 hH1 hB1
    go_wp2_with fail
    obtain ⟨c0, c1, c2⟩ := cells3_ (put3 (.int .i64 0) (.int .i64 0) (.string ⟨#[]⟩) (HG1.out.far (g' := w.heap.size + 1) (i := 1) (u := .int .i64 0) (by omega)))
    have hY := below3 (.int .i64 0) (.int .i64 0) (.string ⟨#[]⟩) (HB1.out.setCell (p := ⟨w.heap.size + 1, 1, none⟩) (by show w.heap.size ≤ w.heap.size + 1; omega) (.int .i64 0)) (Nat.le_refl _)
    generalize ((((w1.setCell _ _).setCell _ _).setCell _ _).setCell _ _) = w3 at c0 c1 c2 hY ⊢
    exact bodyPost_ret (v := noV) (by simp [noV, VV, results, Tryd.results25, go_sem, c0, c1, c2]) rfl ⟨(ret_no HR.out).symm, hY⟩
  · have hlt : (0 : Int) < (s.size : Int) := by omega
    rcases hn : numL s.data.toList with _ | n
    · have HR := Lib.hid (sr_none (show guessS s.data.toList = none by rw [HG.out, hn]; rfl))
      have HV := Lib.hid (numV_none hn)
      clear hn
      go_enter Tryd.func25, Tryd.ntmps25
      go_wp2_with fail
      refine (spec_number s _ hs).mono ?_
      rintro e w1 ⟨rfl, hw1⟩
      rw [HV.out]
      have hG1 : Whole w1 w.heap.size 26 zeroV := by rw [← hw1]; exact two_g 1 w
      have hH1 : Whole w1 (w.heap.size + 1) 26 oneV := by rw [← hw1]; exact two_h 1 w
      have hB1 : Below w.heap.size w w1 := by rw [← hw1]; exact two_b 1 w
      clear hw1
      obtain ⟨a0, a1, a2⟩ := cells3_ hG1
      obtain ⟨b0, b1, b2⟩ := cells3_ hH1
      obtain ⟨f0, f1, f2⟩ := frozen3 hG1
      obtain ⟨f3, f4, f5⟩ := frozen3 hH1
      have HG1 := Lib.hid hG1
      have HH1 := Lib.hid hH1
      have HB1 := Lib.hid hB1
      clear hG1 hH1 hB1
      go_wp2_with fail
      obtain ⟨c0, c1, c2⟩ := cells3_ (put3 (.int .i64 0) (.int .i64 0) (.string ⟨#[]⟩) (HG1.out.far (g' := w.heap.size + 1) (i := 1) (u := .int .i64 0) (by omega)))
      have hY := below3 (.int .i64 0) (.int .i64 0) (.string ⟨#[]⟩) (HB1.out.setCell (p := ⟨w.heap.size + 1, 1, none⟩) (by show w.heap.size ≤ w.heap.size + 1; omega) (.int .i64 0)) (Nat.le_refl _)
      generalize ((((w1.setCell _ _).setCell _ _).setCell _ _).setCell _ _) = w3 at c0 c1 c2 hY ⊢
      exact bodyPost_ret (v := noV) (by simp [noV, VV, results, Tryd.results25, go_sem, c0, c1, c2]) rfl ⟨(ret_no HR.out).symm, hY⟩
    · have HV := Lib.hid (numV_some hn)
      have HG2 := Lib.hid (show guessS s.data.toList = some ⟨1, n, ⟨#[]⟩⟩ by rw [HG.out, hn]; rfl)
      clear hn HG
      go_enter Tryd.func25, Tryd.ntmps25
      go_wp2_with fail
      refine (spec_number s _ hs).mono ?_
      rintro e w1 ⟨rfl, hw1⟩
      rw [HV.out]
      have hG1 : Whole w1 w.heap.size 26 zeroV := by rw [← hw1]; exact two_g 1 w
      have hH1 : Whole w1 (w.heap.size + 1) 26 oneV := by rw [← hw1]; exact two_h 1 w
      have hB1 : Below w.heap.size w w1 := by rw [← hw1]; exact two_b 1 w
      clear hw1
      obtain ⟨a0, a1, a2⟩ := cells3_ hG1
      obtain ⟨b0, b1, b2⟩ := cells3_ hH1
      obtain ⟨f0, f1, f2⟩ := frozen3 hG1
      obtain ⟨f3, f4, f5⟩ := frozen3 hH1
      have HG1 := Lib.hid hG1
      have HH1 := Lib.hid hH1
      have HB1 := Lib.hid hB1
      clear hG1 hH1 hB1
      go_wp2_with fail
      refine (spec_show ⟨1, n, ⟨#[]⟩⟩ _ (by simp [maxLen, ByteArray.size])).mono ?_
      rintro e w3 ⟨rfl, hb3⟩
      have hB2 : Below w.heap.size w (w1.setCell ⟨w.heap.size + 1, 1, none⟩ (.int .i64 n)) := HB1.out.setCell (p := ⟨w.heap.size + 1, 1, none⟩) (by show w.heap.size ≤ w.heap.size + 1; omega) _
      have hG2 := HG1.out.far (g' := w.heap.size + 1) (i := 1) (u := .int .i64 n) (by omega)
      have hH2 := HH1.out.set_ 1 (.int .i64 n)
      have hG3 := hG2.below hb3 hG2.lt
      have hH3 := hH2.below hb3 hH2.lt
      have hB3 := below_next hB2 hb3 rfl rfl
      clear hb3 hB2 hG2 hH2 a0 a1 a2 b0 b1 b2 f0 f1 f2 f3 f4 f5
      obtain ⟨a0, a1, a2⟩ := cells3_ hG3
      obtain ⟨b0, b1, b2⟩ := cells3_ hH3
      obtain ⟨f0, f1, f2⟩ := frozen3 hG3
      have HG3 := Lib.hid hG3
      have HB3 := Lib.hid hB3
      clear hG3 hH3 hB3
      by_cases he : showV ⟨1, n, ⟨#[]⟩⟩ = s
      · have HR := Lib.hid (sr_true HG2.out he hp)
        have hb := beq_text he
        generalize showV ⟨1, n, ⟨#[]⟩⟩ = T at *
        go_wp2_with fail
        obtain ⟨c0, c1, c2⟩ := cells3_ (put3 (.int .i64 1) (.int .i64 n) (.string ⟨#[]⟩) HG3.out)
        have hY := below3 (.int .i64 1) (.int .i64 n) (.string ⟨#[]⟩) HB3.out (Nat.le_refl _)
        generalize (((w3.setCell _ _).setCell _ _).setCell _ _) = w4 at c0 c1 c2 hY ⊢
        exact bodyPost_ret (v := .tuple #[VV ⟨1, n, ⟨#[]⟩⟩, .bool true]) (by simp [VV, results, Tryd.results25, go_sem, c0, c1, c2]) rfl ⟨(ret_yes HR.out).symm, hY⟩
      · have HR := Lib.hid (sr_false HG2.out he)
        have hb := beq_texts he
        generalize showV ⟨1, n, ⟨#[]⟩⟩ = T at *
        go_wp2_with fail
        obtain ⟨c0, c1, c2⟩ := cells3_ (put3 (.int .i64 0) (.int .i64 0) (.string ⟨#[]⟩) HG3.out)
        have hY := below3 (.int .i64 0) (.int .i64 0) (.string ⟨#[]⟩) HB3.out (Nat.le_refl _)
        generalize (((w3.setCell _ _).setCell _ _).setCell _ _) = w4 at c0 c1 c2 hY ⊢
        exact bodyPost_ret (v := noV) (by simp [noV, VV, results, Tryd.results25, go_sem, c0, c1, c2]) rfl ⟨(ret_no HR.out).symm, hY⟩

theorem tail_text (s : ByteArray) : (s.extract 1 s.size).data.toList = s.data.toList.drop 1 := by
  rw [ByteArray.data_extract, Array.toList_extract, List.extract_eq_take_drop]
  apply List.take_of_length_le
  rw [List.length_drop, Array.length_toList]
  exact Nat.le_refl _
set_option maxRecDepth 100000 in
set_option maxHeartbeats 800000 in
theorem spec_read_null (s : ByteArray) (w : World) (hs : s.size ≤ 1048576) (hp : 0 < s.size) (h63 : Lib.hasPrefix s.data.toList [63] = true) :
    Calls Tryd.prog 25 #[.string s] w fun e w' => e = .returned (.tuple #[VV (readV s.data.toList), .bool (readB s.data.toList)]) ∧ Below w.heap.size w w' := by
  have hG : guessS s.data.toList = (numL (s.data.toList.drop 1)).map fun n => ⟨3, n, mkText []⟩ := by unfold guessS; rw [h63]; rfl
  have HG := Lib.hid hG
  have e63 : ((s[0].toNat : Int) == 63) = true := is_yes _ 63 63 rfl (by rw [← head_pre s hp]; exact h63)
  have hsz : (s.extract 1 s.size).size ≤ 1048576 := by
    have hsl : s.data.toList.length = s.size := by rw [Array.length_toList]; rfl
    have h2 : (s.extract 1 s.size).data.toList.length = (s.extract 1 s.size).size := by rw [Array.length_toList]; rfl
    rw [tail_text, List.length_drop] at h2; omega
  clear hG h63
  · have hlt : (0 : Int) < (s.size : Int) := by omega
    rcases hn : numL (s.data.toList.drop 1) with _ | n
    · have HR := Lib.hid (sr_none (show guessS s.data.toList = none by rw [HG.out, hn]; rfl))
      have HV := Lib.hid (numV_none hn)
      clear hn
      go_enter Tryd.func25, Tryd.ntmps25
      go_wp2_with fail
      refine (spec_number (s.extract 1 s.size) _ hsz).mono ?_
      rintro e w1 ⟨rfl, hw1⟩
      rw [tail_text, HV.out]
      have hG1 : Whole w1 w.heap.size 26 zeroV := by rw [← hw1]; exact two_g 3 w
      have hH1 : Whole w1 (w.heap.size + 1) 26 [.int .i64 3, .int .i64 0, .string ⟨#[]⟩] := by rw [← hw1]; exact two_h 3 w
      have hB1 : Below w.heap.size w w1 := by rw [← hw1]; exact two_b 3 w
      clear hw1
      obtain ⟨a0, a1, a2⟩ := cells3_ hG1
      obtain ⟨b0, b1, b2⟩ := cells3_ hH1
      obtain ⟨f0, f1, f2⟩ := frozen3 hG1
      obtain ⟨f3, f4, f5⟩ := frozen3 hH1
      have HG1 := Lib.hid hG1
      have HH1 := Lib.hid hH1
      have HB1 := Lib.hid hB1
      clear hG1 hH1 hB1
      go_wp2_with fail
      obtain ⟨c0, c1, c2⟩ := cells3_ (put3 (.int .i64 0) (.int .i64 0) (.string ⟨#[]⟩) (HG1.out.far (g' := w.heap.size + 1) (i := 1) (u := .int .i64 0) (by omega)))
      have hY := below3 (.int .i64 0) (.int .i64 0) (.string ⟨#[]⟩) (HB1.out.setCell (p := ⟨w.heap.size + 1, 1, none⟩) (by show w.heap.size ≤ w.heap.size + 1; omega) (.int .i64 0)) (Nat.le_refl _)
      generalize ((((w1.setCell _ _).setCell _ _).setCell _ _).setCell _ _) = w3 at c0 c1 c2 hY ⊢
      exact bodyPost_ret (v := noV) (by simp [noV, VV, results, Tryd.results25, go_sem, c0, c1, c2]) rfl ⟨(ret_no HR.out).symm, hY⟩
    · have HV := Lib.hid (numV_some hn)
      have HG2 := Lib.hid (show guessS s.data.toList = some ⟨3, n, ⟨#[]⟩⟩ by rw [HG.out, hn]; rfl)
      clear hn HG
      go_enter Tryd.func25, Tryd.ntmps25
      go_wp2_with fail
      refine (spec_number (s.extract 1 s.size) _ hsz).mono ?_
      rintro e w1 ⟨rfl, hw1⟩
      rw [tail_text, HV.out]
      have hG1 : Whole w1 w.heap.size 26 zeroV := by rw [← hw1]; exact two_g 3 w
      have hH1 : Whole w1 (w.heap.size + 1) 26 [.int .i64 3, .int .i64 0, .string ⟨#[]⟩] := by rw [← hw1]; exact two_h 3 w
      have hB1 : Below w.heap.size w w1 := by rw [← hw1]; exact two_b 3 w
      clear hw1
      obtain ⟨a0, a1, a2⟩ := cells3_ hG1
      obtain ⟨b0, b1, b2⟩ := cells3_ hH1
      obtain ⟨f0, f1, f2⟩ := frozen3 hG1
      obtain ⟨f3, f4, f5⟩ := frozen3 hH1
      have HG1 := Lib.hid hG1
      have HH1 := Lib.hid hH1
      have HB1 := Lib.hid hB1
      clear hG1 hH1 hB1
      go_wp2_with fail
      refine (spec_show ⟨3, n, ⟨#[]⟩⟩ _ (by simp [maxLen, ByteArray.size])).mono ?_
      rintro e w3 ⟨rfl, hb3⟩
      have hB2 : Below w.heap.size w (w1.setCell ⟨w.heap.size + 1, 1, none⟩ (.int .i64 n)) := HB1.out.setCell (p := ⟨w.heap.size + 1, 1, none⟩) (by show w.heap.size ≤ w.heap.size + 1; omega) _
      have hG2 := HG1.out.far (g' := w.heap.size + 1) (i := 1) (u := .int .i64 n) (by omega)
      have hH2 := HH1.out.set_ 1 (.int .i64 n)
      have hG3 := hG2.below hb3 hG2.lt
      have hH3 := hH2.below hb3 hH2.lt
      have hB3 := below_next hB2 hb3 rfl rfl
      clear hb3 hB2 hG2 hH2 a0 a1 a2 b0 b1 b2 f0 f1 f2 f3 f4 f5
      obtain ⟨a0, a1, a2⟩ := cells3_ hG3
      obtain ⟨b0, b1, b2⟩ := cells3_ hH3
      obtain ⟨f0, f1, f2⟩ := frozen3 hG3
      have HG3 := Lib.hid hG3
      have HB3 := Lib.hid hB3
      clear hG3 hH3 hB3
      by_cases he : showV ⟨3, n, ⟨#[]⟩⟩ = s
      · have HR := Lib.hid (sr_true HG2.out he hp)
        have hb := beq_text he
        generalize showV ⟨3, n, ⟨#[]⟩⟩ = T at *
        go_wp2_with fail
        obtain ⟨c0, c1, c2⟩ := cells3_ (put3 (.int .i64 3) (.int .i64 n) (.string ⟨#[]⟩) HG3.out)
        have hY := below3 (.int .i64 3) (.int .i64 n) (.string ⟨#[]⟩) HB3.out (Nat.le_refl _)
        generalize (((w3.setCell _ _).setCell _ _).setCell _ _) = w4 at c0 c1 c2 hY ⊢
        exact bodyPost_ret (v := .tuple #[VV ⟨3, n, ⟨#[]⟩⟩, .bool true]) (by simp [VV, results, Tryd.results25, go_sem, c0, c1, c2]) rfl ⟨(ret_yes HR.out).symm, hY⟩
      · have HR := Lib.hid (sr_false HG2.out he)
        have hb := beq_texts he
        generalize showV ⟨3, n, ⟨#[]⟩⟩ = T at *
        go_wp2_with fail
        obtain ⟨c0, c1, c2⟩ := cells3_ (put3 (.int .i64 0) (.int .i64 0) (.string ⟨#[]⟩) HG3.out)
        have hY := below3 (.int .i64 0) (.int .i64 0) (.string ⟨#[]⟩) HB3.out (Nat.le_refl _)
        generalize (((w3.setCell _ _).setCell _ _).setCell _ _) = w4 at c0 c1 c2 hY ⊢
        exact bodyPost_ret (v := noV) (by simp [noV, VV, results, Tryd.results25, go_sem, c0, c1, c2]) rfl ⟨(ret_no HR.out).symm, hY⟩
end Go.Proofs.YtakidcehebpmkaaDoor
