/-
  impl.unquoted, strconv.ParseInt, impl.guessValue, impl.ReadValue.
-/
import Derived.Test.YtakidcehebpmkaaDoorReadMath

namespace Go.Proofs.YtakidcehebpmkaaDoor
open Go.RowKit Go.Joins
set_option linter.unusedVariables false

/-- strconv's two errors lie in their variables. -/
def Errs (w : World) : Prop := ∃ tp p tq q, w.var? Tryd.prog "strconv.ErrSyntax" = some #[.iface tp p] ∧ w.var? Tryd.prog "strconv.ErrRange" = some #[.iface tq q]
theorem errNamed : Tryd.prog.globalNamed "strconv.ErrSyntax" = some 1 := by kernel_rfl
theorem errNamed2 : Tryd.prog.globalNamed "strconv.ErrRange" = some 2 := by kernel_rfl
theorem Errs.below {w w' : World} (h : Errs w) (hb : Below w.heap.size w w') : Errs w' := by
  obtain ⟨tp, p, tq, q, h1, h2⟩ := h
  exact ⟨tp, p, tq, q, var_stays errNamed h1 hb (Nat.le_refl _), var_stays errNamed2 h2 hb (Nat.le_refl _)⟩

theorem parse_at (s : ByteArray) (w : World) (hs : s.size ≤ 1048576) (hE : Errs w) :
    Calls Tryd.prog 60 #[.string s, .int .i64 10, .int .i64 64] w fun e w' => ∃ x, e = .returned (.tuple #[.int .i64 (parseN s.data.toList), x]) ∧ Below w.heap.size w w' := by
  obtain ⟨tp, p, tq, q, h1, h2⟩ := hE
  rcases h : Lib.parseIntB 64 s.data.toList with v | _ | _
  · have e : parseN s.data.toList = v := by unfold parseN; rw [h]
    refine (Tryd.strconv_ParseInt_10_at64_ok s (by omega) v h w).mono ?_
    rintro e w' ⟨rfl, hw⟩
    refine ⟨.nilIface, by rw [‹parseN _ = v›], ?_⟩
    rcases hw with rfl | ⟨t, rfl⟩
    · exact Below.refl _ _
    · exact Lib.bytesWorld_below _ _ _
  · have e : parseN s.data.toList = 0 := by unfold parseN; rw [h]
    refine (Any.strconv_ParseInt_10_at64_syntax_var Tryd.laysC174 s (by omega) h tp p w h1).mono ?_
    rintro e w' ⟨N, rfl, _, _, hb⟩
    exact ⟨_, by rw [‹parseN _ = 0›], hb⟩
  · have e : parseN s.data.toList = Lib.intSat 64 s.data.toList := by unfold parseN; rw [h]
    refine (Tryd.strconv_ParseInt_10_at64_range_var s (by omega) h tq q w h2).mono ?_
    rintro e w' ⟨N, rfl, _, _, hb⟩
    exact ⟨_, by rw [‹parseN _ = Lib.intSat _ _›], hb⟩

theorem uq_one (s : ByteArray) (k : Nat) (h : k + 1 < s.size) (hc : ¬ s[k] = 92) : uq (s.data.toList.drop k) = s[k] :: uq (s.data.toList.drop (k + 1)) := by
  have h1 : k < s.data.toList.length := by rw [Array.length_toList]; show k < s.size; omega
  have h2 : k + 1 < s.data.toList.length := by rw [Array.length_toList]; show k + 1 < s.size; omega
  rw [List.drop_eq_getElem_cons h1, List.drop_eq_getElem_cons h2]
  have e : s.data.toList[k] = s[k] := rfl
  rw [e, uq, if_neg hc]
theorem uq_two (s : ByteArray) (k : Nat) (h : k + 1 < s.size) (hc : s[k] = 92) : uq (s.data.toList.drop k) = s[k + 1] :: uq (s.data.toList.drop (k + 2)) := by
  have h1 : k < s.data.toList.length := by rw [Array.length_toList]; show k < s.size; omega
  have h2 : k + 1 < s.data.toList.length := by rw [Array.length_toList]; show k + 1 < s.size; omega
  rw [List.drop_eq_getElem_cons h1, List.drop_eq_getElem_cons h2]
  have e : s.data.toList[k] = s[k] := rfl
  have e2 : s.data.toList[k + 1] = s[k + 1] := rfl
  rw [e, e2, uq, if_pos hc]
theorem uq_end (s : ByteArray) (k : Nat) (h : ¬ k + 1 < s.size) : uq (s.data.toList.drop k) = [] := by
  have hl : (s.data.toList.drop k).length ≤ 1 := by rw [List.length_drop, Array.length_toList]; show s.size - k ≤ 1; omega
  match hd : s.data.toList.drop k, hl with
  | [], _ => rfl
  | [_], _ => rfl

/-- What unquoted answers. -/
def unqT (s : ByteArray) : ByteArray := mkText (if 122 < s.data.toList.length then [] else uq (s.data.toList.drop 1))
theorem unqT_is (s : ByteArray) : unqT s = mkText (if 122 < s.size then [] else uq (s.data.toList.drop 1)) := by
  unfold unqT
  have hsl : s.data.toList.length = s.size := by rw [Array.length_toList]; rfl
  rw [hsl]
set_option maxRecDepth 100000 in
set_option maxHeartbeats 1600000 in
theorem unquoted_at (s : ByteArray) (w : World) (hs : s.size ≤ 1048576) :
    Calls Tryd.prog 58 #[.string s] w fun e w' => e = .returned (.string (unqT s)) ∧ Below w.heap.size w w' := by
  by_cases hbig : 122 < s.size
  · have H := Lib.hid (show unqT s = ⟨#[]⟩ by rw [unqT_is, if_pos hbig]; rfl)
    go_enter Tryd.func58, Tryd.ntmps58
    go_wp2_with fail
    go_ret
    exact ⟨by rw [H.out]; rfl, (Below.refl _ _).alloc (Nat.le_refl _) _⟩
  · have H := Lib.hid (show unqT s = mkText (uq (s.data.toList.drop 1)) by rw [unqT_is, if_neg hbig])
    have hsh := shown_new w
    have hg0 : w.grownBy (w.alloc (.cells Tryd.zeroCells55 55)) (some w.heap.size) := World.grownBy_alloc w _ _
    go_enter Tryd.func58, Tryd.ntmps58
    go_wp2_with fail
    go_loopw [4] (fun i w' => ∃ (k : Nat) (m : List UInt8), 1 ≤ k ∧ k ≤ 124 ∧ i = .int .i64 k ∧ m.length < k ∧ Hid (Shown w' w.heap.size m ∧ w.grownBy w' (some w.heap.size) ∧ m ++ uq (s.data.toList.drop k) = uq (s.data.toList.drop 1))) (fun i _ => s.size + 2 - (intOf i).toNat)
    case atStart => exact ⟨1, [], Nat.le_refl _, by omega, rfl, by simp, Lib.hid ⟨hsh, hg0, rfl⟩⟩
    case round =>
      obtain ⟨k, m, hk1, hk2, rfl, hm, hst⟩ := hrel
      by_cases hlt : k + 1 < s.size
      · have hc := Lib.hid (is_u8 s[k] 92 92 rfl)
        by_cases h92 : s[k] = 92
        · have hb : ((s[k].toNat : Int) == 92) = true := by rw [hc.out]; simp [h92]
          have hu := Lib.hid (uq_two s k hlt h92)
          have hcv := slice_one s (k + 1) hlt
          have ec : (((k + 1 : Nat) : Int)) = (k : Int) + 1 := by omega
          rw [ec] at hcv
          clear hc h92 ec
          go_wp2_with fail
          refine (add_text w.heap.size _ ⟨#[s[k + 1]]⟩ _ hst.out.1 (by show _ + 1 ≤ 992; omega) (by omega)).mono ?_
          rintro e w3 ⟨rfl, hb3, hg3⟩
          go_wp2_with fail
          go_roundw
          case rel => exact ⟨k + 2, m ++ [s[k + 1]], by omega, by omega, by go_num, by simp only [List.length_append, List.length_cons, List.length_nil]; omega, Lib.hid ⟨hb3, grown_next hst.out.2.1 hg3, by rw [← hst.out.2.2, hu.out]; simp⟩⟩
          case measure => simp [intOf]; omega
        · have hb : ((s[k].toNat : Int) == 92) = false := by rw [hc.out]; simp [h92]
          have hu := Lib.hid (uq_one s k hlt h92)
          have hcv := slice_one s k (by omega)
          clear hc h92
          go_wp2_with fail
          refine (add_text w.heap.size _ ⟨#[s[k]]⟩ _ hst.out.1 (by show _ + 1 ≤ 992; omega) (by omega)).mono ?_
          rintro e w3 ⟨rfl, hb3, hg3⟩
          go_wp2_with fail
          go_roundw
          case rel => exact ⟨k + 1, m ++ [s[k]], by omega, by omega, by go_num, by simp only [List.length_append, List.length_cons, List.length_nil]; omega, Lib.hid ⟨hb3, grown_next hst.out.2.1 hg3, by rw [← hst.out.2.2, hu.out]; simp⟩⟩
          case measure => simp [intOf]; omega
      · have hu := Lib.hid (uq_end s k hlt)
        go_wp2_with fail
        refine (text_of w.heap.size _ _ hst.out.1).mono ?_
        rintro e w3 ⟨rfl, hb3⟩
        go_wp2_with fail
        go_ret
        refine ⟨?_, ?_⟩
        · rw [H.out, ← hst.out.2.2, hu.out, List.append_nil]; rfl
        · have hB : Below w.heap.size w wr := (Below.refl _ _).grown hst.out.2.1 (Nat.le_refl _) (fun k hk => by injection hk; omega)
          exact hB.trans (hb3.mono hB.size)

def VV (v : GV) : Value := .agg #[.int .i64 v.k, .int .i64 v.n, .string v.t]
theorem put3 {w : World} {g : Nat} {t : TypeId} {a b c : Value} (x y z : Value) (h : Whole w g t [a, b, c]) :
    Whole (((w.setCell ⟨g, 0, none⟩ x).setCell ⟨g, 1, none⟩ y).setCell ⟨g, 2, none⟩ z) g t [x, y, z] := ((h.set_ 0 x).set_ 1 y).set_ 2 z
theorem below3 {B g : Nat} {a w : World} (x y z : Value) (h : Below B a w) (hg : B ≤ g) : Below B a (((w.setCell ⟨g, 0, none⟩ x).setCell ⟨g, 1, none⟩ y).setCell ⟨g, 2, none⟩ z) :=
  ((h.setCell hg x).setCell hg y).setCell hg z
theorem cells3_ {w : World} {g : Nat} {t : TypeId} {x y z : Value} (h : Whole w g t [x, y, z]) : w.cell? ⟨g, 0, none⟩ = some x ∧ w.cell? ⟨g, 1, none⟩ = some y ∧ w.cell? ⟨g, 2, none⟩ = some z :=
  ⟨h.cell 0, h.cell 1, h.cell 2⟩
def zeroV : List Value := [.int .i64 0, .int .i64 0, .string ByteArray.empty]
theorem new3 (w : World) : Whole (w.alloc (.cells #[.int .i64 0, .int .i64 0, .string ⟨#[]⟩] 26)) w.heap.size 26 zeroV := Whole.new w _ _

set_option maxHeartbeats 1600000 in
theorem guess_at (s : ByteArray) (w : World) (hs : s.size ≤ 1048576) (hE : Errs w) :
    Calls Tryd.prog 37 #[.string s] w fun e w' => e = .returned (VV (guessI s.data.toList)) ∧ Below w.heap.size w w' := by
  have hB0 : Below w.heap.size w (w.alloc (.cells #[.int .i64 0, .int .i64 0, .string ⟨#[]⟩] 26)) := (Below.refl _ _).alloc (Nat.le_refl _) _
  have hE0 := hE.below hB0
  have hN := Lib.hid (new3 w)
  by_cases h34 : Lib.hasPrefix s.data.toList [34] = true
  · have H := Lib.hid (show guessI s.data.toList = ⟨2, 0, unqT s⟩ by unfold guessI unqT; rw [if_pos h34])
    go_enter Tryd.func37, Tryd.ntmps37
    go_wp2_with fail
    refine (Tryd.strings_HasPrefix s ⟨#[34]⟩ _).mono ?_
    rintro e w1 ⟨rfl, rfl⟩
    rw [show (⟨#[34]⟩ : ByteArray).data.toList = [34] from rfl, h34]
    go_wp2_with fail
    refine (unquoted_at s _ hs).mono ?_
    rintro e w2 ⟨rfl, hb2⟩
    obtain ⟨hc2, hf2⟩ := bcell hb2
    have hB2 := Lib.hid (below_next hB0 hb2 rfl rfl)
    have hW2 := Lib.hid (hN.out.below hb2 (by simp))
    go_wp2_with fail
    obtain ⟨c0, c1, c2⟩ := cells3_ (put3 (.int .i64 2) (.int .i64 0) (.string (unqT s)) hW2.out)
    have hB3 := below3 (.int .i64 2) (.int .i64 0) (.string (unqT s)) hB2.out (Nat.le_refl _)
    generalize (((w2.setCell _ _).setCell _ _).setCell _ _) = w3 at c0 c1 c2 hB3 ⊢
    exact bodyPost_ret (v := VV ⟨2, 0, unqT s⟩) (by simp [VV, results, Tryd.results37, go_sem, c0, c1, c2]) rfl ⟨by rw [H.out], hB3⟩
  · rw [Bool.not_eq_true] at h34
    by_cases h63 : Lib.hasPrefix s.data.toList [63] = true
    · have H := Lib.hid (show guessI s.data.toList = ⟨3, parseN (Lib.trimPrefix s.data.toList [63]), ⟨#[]⟩⟩ by unfold guessI; rw [h34, if_neg (by decide), if_pos h63]; rfl)
      have hsz : (⟨(Lib.trimPrefix s.data.toList [63]).toArray⟩ : ByteArray).size ≤ 1048576 := by
        have hsl : s.data.toList.length = s.size := by rw [Array.length_toList]; rfl
        show (Lib.trimPrefix s.data.toList [63]).toArray.size ≤ _
        rw [List.size_toArray]; unfold Lib.trimPrefix; split
        all_goals first | omega | (rw [List.length_drop]; omega)
      go_enter Tryd.func37, Tryd.ntmps37
      go_wp2_with fail
      refine (Tryd.strings_HasPrefix s ⟨#[34]⟩ _).mono ?_
      rintro e w1 ⟨rfl, rfl⟩
      rw [show (⟨#[34]⟩ : ByteArray).data.toList = [34] from rfl, h34]
      go_wp2_with fail
      refine (Tryd.strings_CutPrefix s ⟨#[63]⟩ _).mono ?_
      rintro e w1 ⟨rfl, rfl⟩
      rw [show (⟨#[63]⟩ : ByteArray).data.toList = [63] from rfl, h63]
      go_wp2_with fail
      refine (parse_at ⟨(Lib.trimPrefix s.data.toList [63]).toArray⟩ _ hsz hE0).mono ?_
      rintro e w2 ⟨x, rfl, hb2⟩
      rw [list_text]
      obtain ⟨hc2, hf2⟩ := bcell hb2
      have hB2 := Lib.hid (below_next hB0 hb2 rfl rfl)
      have hW2 := Lib.hid (hN.out.below hb2 (by simp))
      generalize parseN (Lib.trimPrefix s.data.toList [63]) = z at *
      go_wp2_with fail
      obtain ⟨c0, c1, c2⟩ := cells3_ (put3 (.int .i64 3) (.int .i64 z) (.string ⟨#[]⟩) hW2.out)
      have hB3 := below3 (.int .i64 3) (.int .i64 z) (.string ⟨#[]⟩) hB2.out (Nat.le_refl _)
      generalize (((w2.setCell _ _).setCell _ _).setCell _ _) = w3 at c0 c1 c2 hB3 ⊢
      exact bodyPost_ret (v := VV ⟨3, z, ⟨#[]⟩⟩) (by simp [VV, results, Tryd.results37, go_sem, c0, c1, c2]) rfl ⟨by rw [H.out], hB3⟩
    · rw [Bool.not_eq_true] at h63
      have H := Lib.hid (show guessI s.data.toList = ⟨1, parseN s.data.toList, ⟨#[]⟩⟩ by unfold guessI; rw [h34, if_neg (by decide), h63, if_neg (by decide)]; rfl)
      go_enter Tryd.func37, Tryd.ntmps37
      go_wp2_with fail
      refine (Tryd.strings_HasPrefix s ⟨#[34]⟩ _).mono ?_
      rintro e w1 ⟨rfl, rfl⟩
      rw [show (⟨#[34]⟩ : ByteArray).data.toList = [34] from rfl, h34]
      go_wp2_with fail
      refine (Tryd.strings_CutPrefix s ⟨#[63]⟩ _).mono ?_
      rintro e w1 ⟨rfl, rfl⟩
      rw [show (⟨#[63]⟩ : ByteArray).data.toList = [63] from rfl, h63]
      go_wp2_with fail
      refine (parse_at s _ hs hE0).mono ?_
      rintro e w2 ⟨x, rfl, hb2⟩
      obtain ⟨hc2, hf2⟩ := bcell hb2
      have hB2 := Lib.hid (below_next hB0 hb2 rfl rfl)
      have hW2 := Lib.hid (hN.out.below hb2 (by simp))
      generalize parseN s.data.toList = z at *
      go_wp2_with fail
      obtain ⟨c0, c1, c2⟩ := cells3_ (put3 (.int .i64 1) (.int .i64 z) (.string ⟨#[]⟩) hW2.out)
      have hB3 := below3 (.int .i64 1) (.int .i64 z) (.string ⟨#[]⟩) hB2.out (Nat.le_refl _)
      generalize (((w2.setCell _ _).setCell _ _).setCell _ _) = w3 at c0 c1 c2 hB3 ⊢
      exact bodyPost_ret (v := VV ⟨1, z, ⟨#[]⟩⟩) (by simp [VV, results, Tryd.results37, go_sem, c0, c1, c2]) rfl ⟨by rw [H.out], hB3⟩

/-- What ReadValue answers. -/
def readV (l : List UInt8) : GV := if readB l = true then guessI l else ⟨0, 0, ⟨#[]⟩⟩
theorem uq_len : ∀ l : List UInt8, (uq l).length ≤ l.length
  | [] => by simp [uq]
  | [_] => by simp [uq]
  | c :: d :: r => by
    rw [uq]
    split
    · have := uq_len r; simp only [List.length_cons]; omega
    · have := uq_len (d :: r); simp only [List.length_cons] at *; omega
theorem guess_size (s : ByteArray) (hs : s.size ≤ 1048576) : (guessI s.data.toList).t.size ≤ maxLen := by
  have hm : ∀ l : List UInt8, (mkText l).size = l.length := fun l => by show l.toArray.size = _; simp
  have hsl : s.data.toList.length = s.size := by rw [Array.length_toList]; rfl
  have hu := uq_len (s.data.toList.drop 1)
  rw [List.length_drop] at hu
  unfold guessI maxLen
  split
  · rw [hm]
    split
    · exact Nat.zero_le _
    · omega
  · split
    · rw [hm]; simp
    · rw [hm]; simp
theorem show_eq {v : GV} (h : okG v = true) (s : ByteArray) : showV v = s ↔ showL v = s.data.toList := by
  unfold showV
  rw [if_pos h]
  constructor
  · rintro rfl; simp
  · intro e; rw [e]
theorem read_true {s : ByteArray} {v : GV} (hv : v = guessI s.data.toList) (h : okG v = true) (he : showV v = s) : readB s.data.toList = true := by
  unfold readB; rw [← hv, h]; simpa using (show_eq h s).1 he
theorem read_false {s : ByteArray} {v : GV} (hv : v = guessI s.data.toList) (h : okG v = false ∨ showV v ≠ s) : readB s.data.toList = false := by
  unfold readB; rw [← hv]
  cases ho : okG v with
  | false => rfl
  | true =>
    rcases h with h | h
    · rw [ho] at h; cases h
    · simpa using fun e => h ((show_eq ho s).2 e)
set_option maxHeartbeats 1600000 in
theorem impl_read (s : ByteArray) (w : World) (hs : s.size ≤ 1048576) (hE : Errs w) (hT : PowTab w) :
    Calls Tryd.prog 11 #[.string s] w fun e w' => e = .returned (.tuple #[VV (readV s.data.toList), .bool (readB s.data.toList)]) ∧ Below w.heap.size w w' := by
  have hB0 : Below w.heap.size w (w.alloc (.cells #[.int .i64 0, .int .i64 0, .string ⟨#[]⟩] 26)) := (Below.refl _ _).alloc (Nat.le_refl _) _
  have hE0 := hE.below hB0
  have hN := Lib.hid (new3 w)
  have hgs := guess_size s hs
  go_enter Tryd.func11, Tryd.ntmps11
  go_wp2_with fail
  refine (guess_at s _ hs hE0).mono ?_
  rintro e w1 ⟨rfl, hb1⟩
  obtain ⟨hc1, hf1⟩ := bcell hb1
  have hB1 := Lib.hid (below_next hB0 hb1 rfl rfl)
  have hW1 := Lib.hid (hN.out.below hb1 (by simp))
  have hT1 := hT.below hB1.out
  obtain ⟨v, hv⟩ : ∃ v, v = guessI s.data.toList := ⟨_, rfl⟩
  have HV := Lib.hid hv
  rw [← hv]
  rw [← hv] at hgs
  clear hv hT hE hE0
  unfold VV
  go_wp2_with fail
  refine (impl_value v.k v.n v.t _ hgs).mono ?_
  rintro e w2 ⟨rfl, hb2⟩
  have hB2 := Lib.hid (show Below w.heap.size w w2 from (hB1.out.alloc hB1.out.size _).trans (hb2.mono (by have := hB1.out.size; simp; omega)))
  have hz1 : w.heap.size < w1.heap.size := hW1.out.lt
  have hz2 : w1.heap.size < w2.heap.size := by have := hb2.size; simp at this; omega
  obtain ⟨hc2, hf2⟩ := bcell hb2
  have hW2 := Lib.hid (hW1.out.below (((Below.refl _ _).alloc (Nat.le_refl _) _).trans (hb2.mono (by simp)) : Below w1.heap.size w1 w2) hz1)
  have hT2 := hT1.below (((Below.refl _ _).alloc (Nat.le_refl _) _).trans (hb2.mono (by simp)) : Below w1.heap.size w1 w2)
  cases hok : okG v with
  | false =>
    have hk : valueOkB v.k v.n v.t = false := hok
    have HR := Lib.hid (read_false HV.out (.inl hok))
    rw [hk]
    clear hk hok
    go_wp2_with fail
    obtain ⟨c0, c1, c2⟩ := cells3_ (put3 (.int .i64 0) (.int .i64 0) (.string ⟨#[]⟩) hW2.out)
    have hB3 := below3 (.int .i64 0) (.int .i64 0) (.string ⟨#[]⟩) hB2.out (Nat.le_refl _)
    generalize (((w2.setCell _ _).setCell _ _).setCell _ _) = w3 at c0 c1 c2 hB3 ⊢
    exact bodyPost_ret (v := .tuple #[VV ⟨0, 0, ⟨#[]⟩⟩, .bool false]) (by simp [VV, results, Tryd.results11, go_sem, c0, c1, c2]) rfl ⟨by unfold readV; rw [HR.out]; rfl, hB3⟩
  | true =>
    have hk : valueOkB v.k v.n v.t = true := hok
    rw [hk]
    clear hk
    go_wp2_with fail
    refine (impl_show v _ hgs hT2).mono ?_
    rintro e w3 ⟨rfl, hb3⟩
    obtain ⟨hc3, hf3⟩ := bcell hb3
    have hB3 := Lib.hid (below_next hB2.out hb3 rfl rfl)
    have hW3 := Lib.hid (hW2.out.below hb3 (by omega))
    obtain ⟨d0, d1, d2⟩ := cells3_ hW3.out
    have g0 := hW3.out.frozen 0
    have g1 := hW3.out.frozen 1
    have g2 := hW3.out.frozen 2
    have hz3 : w.heap.size < w2.heap.size := by omega
    by_cases he : showV v = s
    · have HR := Lib.hid (read_true HV.out hok he)
      have hb : ((showV v).toList == s.toList) = true := by simp [he]
      go_wp2_with fail
      obtain ⟨c0, c1, c2⟩ := cells3_ (put3 (.int .i64 v.k) (.int .i64 v.n) (.string v.t) hW3.out)
      have hB4 := below3 (.int .i64 v.k) (.int .i64 v.n) (.string v.t) hB3.out (Nat.le_refl _)
      generalize (((w3.setCell _ _).setCell _ _).setCell _ _) = w4 at c0 c1 c2 hB4 ⊢
      exact bodyPost_ret (v := .tuple #[VV v, .bool true]) (by simp [VV, results, Tryd.results11, go_sem, c0, c1, c2]) rfl ⟨by unfold readV; rw [HR.out, ← HV.out]; rfl, hB4⟩
    · have HR := Lib.hid (read_false HV.out (.inr he))
      have hb : ((showV v).toList == s.toList) = false := by
        rw [beq_eq_false_iff_ne]
        intro e
        exact he (ByteArray.ext (Array.toList_inj.1 (by rw [← Lib.toList_data, ← Lib.toList_data, e])))
      go_wp2_with fail
      obtain ⟨c0, c1, c2⟩ := cells3_ (put3 (.int .i64 0) (.int .i64 0) (.string ⟨#[]⟩) hW3.out)
      have hB4 := below3 (.int .i64 0) (.int .i64 0) (.string ⟨#[]⟩) hB3.out (Nat.le_refl _)
      generalize (((w3.setCell _ _).setCell _ _).setCell _ _) = w4 at c0 c1 c2 hB4 ⊢
      exact bodyPost_ret (v := .tuple #[VV ⟨0, 0, ⟨#[]⟩⟩, .bool false]) (by simp [VV, results, Tryd.results11, go_sem, c0, c1, c2]) rfl ⟨by unfold readV; rw [HR.out]; rfl, hB4⟩
end Go.Proofs.YtakidcehebpmkaaDoor
