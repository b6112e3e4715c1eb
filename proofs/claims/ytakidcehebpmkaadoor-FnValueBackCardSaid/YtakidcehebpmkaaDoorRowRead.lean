/-
  Rows read back: what is of no program, and impl.ReadRow.
-/
import Derived.Test.YtakidcehebpmkaaDoorEnd
import Derived.Test.YtakidcehebpmkaaDoorDoorErr
namespace Go.Proofs.YtakidcehebpmkaaDoor
open Go.RowKit Go.Joins
set_option linter.unusedVariables false

theorem show_ne {v : GV} (h : okG v = true) : showL v ≠ [] := by
  rcases show_form h with ⟨t, e⟩ | ⟨c, r, e, _⟩
  · rw [e]; simp [quoteL]
  · rw [e]; simp
theorem read_show {v : GV} (h : okG v = true) : readB (showL v) = true ∧ readV (showL v) = v := by
  have h1 : readB (showL v) = true := by unfold readB; rw [guessI_show h, h]; simp
  refine ⟨h1, ?_⟩
  unfold readV; rw [if_pos h1, guessI_show h]
theorem read_ok {l : List UInt8} (h : readB l = true) : okG (readV l) = true := by
  unfold readV; rw [if_pos h]
  unfold readB at h; simp at h; exact h.1
def NoRow (l : List UInt8) : Prop := ∀ vs, rowOkB vs = true → showRowL vs ≠ l
def Only (l : List UInt8) (r : List GV) : Prop := ∀ vs, rowOkB vs = true → showRowL vs = l → vs = r
/-- So far the values of row are read; rest is left. -/
def Rel (l : List UInt8) (row : List GV) (rest : List UInt8) : Prop := ∀ vs, rowOkB vs = true → showRowL vs = l → ∃ k, k ≤ vs.length ∧ row = vs.take k ∧ rest = joinL (vs.drop k)
theorem trim_pre (c : UInt8) (l : List UInt8) : Lib.trimPrefix (c :: l) [c] = l := by
  unfold Lib.trimPrefix; rw [pre_one]; simp
theorem trim_suf (c : UInt8) (l : List UInt8) : Lib.trimSuffix (l ++ [c]) [c] = l := by
  unfold Lib.trimSuffix Lib.hasSuffix
  rw [if_pos (by simp)]
  simp
theorem rel_start (l : List UInt8) : Rel l [] (Lib.trimSuffix (Lib.trimPrefix l [40]) [41]) := by
  rintro vs _ rfl
  refine ⟨0, Nat.zero_le _, rfl, ?_⟩
  unfold showRowL
  rw [trim_pre, trim_suf]; rfl
theorem all_of {vs : List GV} (h : rowOkB vs = true) {k : Nat} {v : GV} {r : List GV} (hd : vs.drop k = v :: r) : okG v = true ∧ k < vs.length ∧ vs.take (k + 1) = vs.take k ++ [v] ∧ vs.drop (k + 1) = r := by
  have hk : k < vs.length := by
    rcases Nat.lt_or_ge k vs.length with h' | h'
    · exact h'
    · rw [List.drop_eq_nil_of_le h'] at hd; cases hd
  have h2 := hd
  rw [List.drop_eq_getElem_cons hk] at h2
  injection h2 with h3 h4
  refine ⟨?_, hk, ?_, h4⟩
  · rw [← h3]; exact (row_ok h).1 _ (List.getElem_mem hk)
  · rw [List.take_succ_eq_append_getElem hk, h3]
theorem join_cons (v : GV) (r : List GV) : ∃ tail, joinL (v :: r) = showL v ++ tail ∧ ((r = [] ∧ tail = []) ∨ (r ≠ [] ∧ tail = 44 :: 32 :: joinL r)) := by
  refine ⟨r.flatMap fun u => 44 :: 32 :: showL u, rfl, ?_⟩
  cases r with
  | nil => exact .inl ⟨rfl, rfl⟩
  | cons u r => exact .inr ⟨by simp, by simp [joinL]⟩
theorem rel_one {l rest : List UInt8} {row : List GV} {e : Nat} (h : Rel l row rest) (he : EndI rest e) (hne : rest ≠ []) (vs : List GV) (hok : rowOkB vs = true) (hs : showRowL vs = l) :
    ∃ k v, k + 1 ≤ vs.length ∧ okG v = true ∧ rest.take e = showL v ∧ row ++ [v] = vs.take (k + 1) ∧ Lib.trimPrefix (rest.drop e) [44, 32] = joinL (vs.drop (k + 1)) := by
  obtain ⟨k, hk, h1, h2⟩ := h vs hok hs
  rcases hd : vs.drop k with _ | ⟨v, r⟩
  · rw [hd] at h2; exact absurd h2 hne
  · obtain ⟨a1, a2, a3, a4⟩ := all_of hok hd
    obtain ⟨tail, j1, j2⟩ := join_cons v r
    rw [hd, j1] at h2
    have e1 : e = (showL v).length := he v tail a1 h2 (by
      rcases j2 with ⟨_, rfl⟩ | ⟨_, rfl⟩
      · exact .inl rfl
      · exact .inr ⟨_, rfl⟩)
    refine ⟨k, v, a2, a1, by rw [h2, e1, List.take_left], by rw [a3, h1], ?_⟩
    rw [a4, h2, e1, List.drop_left]
    rcases j2 with ⟨rfl, rfl⟩ | ⟨_, rfl⟩
    · simp [Lib.trimPrefix, Lib.hasPrefix, joinL]
    · simp [Lib.trimPrefix, Lib.hasPrefix, List.isPrefixOf]
theorem rel_bad {l rest : List UInt8} {row : List GV} {e : Nat} (h : Rel l row rest) (he : EndI rest e) (hne : rest ≠ []) (hb : readB (rest.take e) = false) : NoRow l := by
  intro vs hok hs
  obtain ⟨k, v, _, h1, h2, _, _⟩ := rel_one h he hne vs hok hs
  rw [h2, (read_show h1).1] at hb
  cases hb
theorem rel_next {l rest : List UInt8} {row : List GV} {e : Nat} (h : Rel l row rest) (he : EndI rest e) (hne : rest ≠ []) : Rel l (row ++ [readV (rest.take e)]) (Lib.trimPrefix (rest.drop e) [44, 32]) := by
  intro vs hok hs
  obtain ⟨k, v, h0, h1, h2, h3, h4⟩ := rel_one h he hne vs hok hs
  exact ⟨k + 1, h0, by rw [h2, (read_show h1).2, h3], h4⟩
theorem rel_end {l rest : List UInt8} {row : List GV} (h : Rel l row rest) (hz : rest = [] ∨ 8 ≤ row.length) : Only l row := by
  intro vs hok hs
  obtain ⟨k, hk, h1, h2⟩ := h vs hok hs
  rcases hz with hz | hz
  · rcases hd : vs.drop k with _ | ⟨v, r⟩
    · have : vs.length ≤ k := by have := congrArg List.length hd; simp at this; omega
      rw [h1, List.take_of_length_le this]
    · obtain ⟨a1, _, _, _⟩ := all_of hok hd
      obtain ⟨tail, j1, _⟩ := join_cons v r
      rw [hd, j1, hz] at h2
      have := show_ne a1
      simp at h2
      exact absurd h2.1 this
  · have := (row_ok hok).2
    rw [h1, List.length_take] at hz
    rw [h1, List.take_of_length_le (by omega)]
theorem row_of {row : List GV} (h : ∀ v ∈ row, okG v = true) (h8 : row.length ≤ 8) : rowOkB row = true := by
  unfold rowOkB; simp; exact ⟨h, h8⟩
theorem show_row_eq {row : List GV} (h : rowOkB row = true) (s : ByteArray) : showR row = s ↔ showRowL row = s.data.toList := by
  unfold showR
  rw [if_pos h]
  constructor
  · rintro rfl; simp
  · intro e; rw [e]

/-- A slice of values of the call's own, from block B on, that holds r. -/
def VRow (B : Nat) (w : World) (v : Value) (r : List GV) : Prop := w.ownsRow B 26 3 v r.length (flat r)
theorem VRow.row {B : Nat} {w : World} {v : Value} {r : List GV} (h : VRow B w v r) : ∃ A c, v = .slice A r.length c ∧ RowAt w w.heap.size A r := by
  rcases h.2 with ⟨rfl, h0⟩ | ⟨g, cap, cur, rfl, hg, hh, hc1, hc2, hc3, hc4⟩
  · exact ⟨none, 0, by rw [h0], .inl (List.eq_nil_of_length_eq_zero h0)⟩
  · refine ⟨_, cap, rfl, .inr ⟨g, 0, rfl, ?_, fun i v hv => ?_⟩⟩
    · rcases Nat.lt_or_ge g w.heap.size with h' | h'
      · exact h'
      · rw [Array.getElem?_eq_none h'] at hh; cases hh
    · obtain ⟨f0, f1, f2⟩ := flat_at r i v hv
      have hi : i < r.length := (List.getElem?_eq_some_iff.1 hv).1
      have key : ∀ j, j < r.length * 3 → w.cell? ⟨g, j, none⟩ = (flat r)[j]? := fun j hj => by
        have h1 : w.cell? ⟨g, j, none⟩ = cur.toList[j]? := by simp [World.cell?, hh]
        rw [h1, ← hc4, List.getElem?_take_of_lt hj]
      rw [Nat.zero_add]
      exact ⟨(key _ (by omega)).trans f0, (key _ (by omega)).trans f1, (key _ (by omega)).trans f2⟩
theorem VRow.below {B : Nat} {w w' : World} {v : Value} {r : List GV} (h : VRow B w v r) (hb : Below w.heap.size w w') : VRow B w' v r := by
  refine ⟨h.1, ?_⟩
  rcases h.2 with h' | ⟨g, cap, cur, e, hg, hh, hr⟩
  · exact .inl h'
  · refine .inr ⟨g, cap, cur, e, hg, ?_, hr⟩
    have : g < w.heap.size := by
      rcases Nat.lt_or_ge g w.heap.size with h' | h'
      · exact h'
      · rw [Array.getElem?_eq_none h'] at hh; cases hh
    rw [hb.block g this]; exact hh
theorem VRow.mono {B B' : Nat} {w : World} {v : Value} {r : List GV} (h : VRow B w v r) (hB : B' ≤ B) : VRow B' w v r := by
  refine ⟨h.1, ?_⟩
  rcases h.2 with h' | ⟨g, cap, cur, e, hg, hr⟩
  · exact .inl h'
  · exact .inr ⟨g, cap, cur, e, by omega, hr⟩
theorem vrow_app {B : Nat} {w2 : World} {v2 : Value} {r : List GV} {v : GV} (h : w2.ownsRow B 26 3 v2 (r.length + 1) (flat r ++ [.int .i64 v.k, .int .i64 v.n, .string v.t])) : VRow B w2 v2 (r ++ [v]) := by
  unfold VRow
  rw [flat_append, List.length_append]
  exact h
theorem news_three (w : World) (a b c : Value) (t : TypeId) : ∀ j u, [a, b, c][j]? = some u → (w.alloc (.cells #[a, b, c] t)).cell? ((⟨w.heap.size, 0, none⟩ : Addr).add j) = some u := by
  intro j u hj
  match j, hj with
  | 0, hj => simp at hj; subst hj; simp [Addr.add]
  | 1, hj => simp at hj; subst hj; simp [Addr.add]
  | 2, hj => simp at hj; subst hj; simp [Addr.add]
theorem one_three (k n : Int) (t : ByteArray) : ∀ u ∈ [Value.int .i64 k, .int .i64 n, .string t], u.oneCell' = true := by
  intro u hu; simp at hu; rcases hu with rfl | rfl | rfl <;> rfl
/-- What ReadRow answers. -/
def RowAns (l : List UInt8) (r : List GV) (b : Bool) : Prop := (b = true ∧ rowOkB r = true ∧ showRowL r = l ∧ Only l r) ∨ (b = false ∧ r = [] ∧ NoRow l)
def RowPost (w : World) (l : List UInt8) (e : Ending) (w' : World) : Prop := ∃ v r b, e = .returned (.tuple #[v, .bool b]) ∧ VRow w.heap.size w' v r ∧ RowAns l r b ∧ Below w.heap.size w w'
theorem vrow_nil (B : Nat) (w : World) : VRow B w (.slice none 0 0) [] := ⟨rfl, .inl ⟨rfl, rfl⟩⟩
theorem vrow_new (w : World) : VRow w.heap.size (w.alloc (.cells #[] 26)) (.slice (some ⟨w.heap.size, 0, none⟩) 0 0) [] :=
  ⟨rfl, .inr ⟨w.heap.size, 0, #[], rfl, Nat.le_refl _, heap_alloc_new w _, Nat.le_refl _, by unfold maxLen; omega, rfl, rfl⟩⟩
theorem ok_size {v : GV} (h : okG v = true) : v.t.size ≤ maxLen := by
  rcases ok_kind h with ⟨_, _, _, e⟩ | ⟨_, _, ht⟩ | ⟨_, _, _, e⟩
  · rw [e]; exact Nat.zero_le _
  · have := text_size ht; unfold maxLen; omega
  · rw [e]; exact Nat.zero_le _
theorem text_nil {T : ByteArray} (h : T ≠ ⟨#[]⟩) : T.data.toList ≠ [] := by
  intro e; exact h (ByteArray.ext (Array.toList_inj.1 (by rw [e])))
theorem pos_of {T : ByteArray} (h : T ≠ ⟨#[]⟩) : 0 < T.size := by
  rcases Nat.eq_zero_or_pos T.size with h0 | h0
  · exact absurd (List.eq_nil_of_length_eq_zero ((len_text T).trans h0)) (text_nil h)
  · exact h0
theorem ext_to (T : ByteArray) (k : Nat) : (T.extract 0 k).data.toList = T.data.toList.take k := by rw [Lib.extract_data]; simp
theorem ext_from (T : ByteArray) (k : Nat) : (T.extract k T.size).data.toList = T.data.toList.drop k := by
  rw [Lib.extract_data, List.take_of_length_le (by rw [List.length_drop, len_text]; exact Nat.le_refl _)]
theorem size_le {T : ByteArray} {l : List UInt8} (h : T.data.toList = l) : T.size = l.length := by rw [← h, len_text]

set_option maxRecDepth 100000 in
set_option maxHeartbeats 1600000 in
theorem impl_readRow (s : ByteArray) (w : World) (hs : s.size ≤ 1048576) (hE : Errs w) (hT : PowTab w) :
    Calls Tryd.prog 14 #[.string s] w (RowPost w s.data.toList) := by
  obtain ⟨i0, hi, hz0, hz1, hz2⟩ := info_parts infoV
  have hR0 := Lib.hid (rel_start s.data.toList)
  have hV0 := Lib.hid (vrow_new w)
  have hB0 : Below w.heap.size w (w.alloc (.cells #[] 26)) := (Below.refl _ _).alloc (Nat.le_refl _) _
  have hl1 := Lib.trimPrefix_le s.data.toList [40]
  have hl2 := Lib.trimSuffix_le (Lib.trimPrefix s.data.toList [40]) [41]
  rw [len_text] at hl1
  have hsz1 : (⟨(Lib.trimPrefix s.data.toList [40]).toArray⟩ : ByteArray).size ≤ 9223372036854775807 := by rw [size_le (list_text _)]; omega
  have hsz2 := Lib.hid (show (⟨(Lib.trimSuffix (Lib.trimPrefix s.data.toList [40]) [41]).toArray⟩ : ByteArray).size ≤ 1048576 by rw [size_le (list_text _)]; omega)
  clear hl1 hl2
  go_enter Tryd.func14, Tryd.ntmps14
  go_wp2_with fail
  refine (Tryd.strings_TrimPrefix s ⟨#[40]⟩ _).mono ?_
  rintro e w1 ⟨rfl, rfl⟩
  go_wp2_with fail
  refine (Tryd.strings_TrimSuffix ⟨(Lib.trimPrefix s.data.toList [40]).toArray⟩ ⟨#[41]⟩ _ hsz1).mono ?_
  rintro e w1 ⟨rfl, rfl⟩
  rw [list_text, show (⟨#[41]⟩ : ByteArray).data.toList = [41] from rfl]
  go_wp2_with fail
  go_loopw [4, 5] (fun o t w' => ∃ (row : List GV) (T : ByteArray), t = .string T ∧ T.size ≤ 1048576 ∧ row.length ≤ 8 ∧ Hid (∀ v ∈ row, okG v = true) ∧ Hid (Rel s.data.toList row T.data.toList) ∧ Hid (VRow w.heap.size w' o row) ∧ Below w.heap.size w w') (fun o _ _ => 8 - (match o with | .slice _ n _ => n | _ => 0))
  case atStart => exact ⟨[], _, rfl, hsz2.out, by simp, Lib.hid (by simp), Lib.hid (by rw [list_text]; exact hR0.out), hV0, hB0⟩
  case round =>
    obtain ⟨row, T, rfl, hTs, h8, hok, hR, hV, hB⟩ := hrel
    obtain ⟨A, c, rfl, hrow⟩ := hV.out.row
    have hwz := hB.size
    by_cases hne : T = ⟨#[]⟩
    · have hb1 : T.toList = [] := by rw [Lib.toList_data, hne]
      have hb : T.toList.isEmpty = true := by rw [hb1]; rfl
      have HO := Lib.hid (rel_end hR.out (.inl (by rw [hne])))
      clear hne
      go_wp2_with fail
      refine (impl_showRow A c row _ hrow (by omega) (fun v hv => ok_size (hok.out v hv)) (hT.below hB)).mono ?_
      rintro e w3 ⟨rfl, hb3⟩
      have hB3 := Lib.hid (below_next hB hb3 rfl rfl)
      have hV3 := Lib.hid (hV.out.below hb3)
      have hro := row_of hok.out h8
      by_cases heq : showR row = s
      · have hbq := beq_text heq
        have HA := Lib.hid (show RowAns s.data.toList row true from .inl ⟨rfl, hro, (show_row_eq hro s).1 heq, HO.out⟩)
        clear heq
        go_wp2_with fail
        exact bodyPost_ret (v := .tuple #[.slice A row.length c, .bool true]) (by simp [results, Tryd.results14, go_sem]) rfl ⟨_, row, true, rfl, hV3.out, HA.out, hB3.out⟩
      · have hbq := beq_texts heq
        have HA := Lib.hid (show RowAns s.data.toList [] false from .inr ⟨rfl, rfl, fun vs h1 h2 => heq (by have := HO.out vs h1 h2; subst this; exact (show_row_eq hro s).2 h2)⟩)
        clear heq
        go_wp2_with fail
        exact bodyPost_ret (v := .tuple #[.slice none 0 0, .bool false]) (by simp [results, Tryd.results14, go_sem]) rfl ⟨_, [], false, rfl, vrow_nil _ _, HA.out, hB3.out⟩
    · have hb1 : ¬ T.toList = [] := by rw [Lib.toList_data]; exact text_nil hne
      have hb : T.toList.isEmpty = false := by rw [List.isEmpty_eq_false_iff]; exact hb1
      by_cases hfull : 8 ≤ row.length
      · have HO := Lib.hid (rel_end hR.out (.inr hfull))
        have hfi : ¬ (row.length : Int) < 8 := by omega
        clear hne
        go_wp2_with fail
        refine (impl_showRow A c row _ hrow (by omega) (fun v hv => ok_size (hok.out v hv)) (hT.below hB)).mono ?_
        rintro e w3 ⟨rfl, hb3⟩
        have hB3 := Lib.hid (below_next hB hb3 rfl rfl)
        have hV3 := Lib.hid (hV.out.below hb3)
        have hro := row_of hok.out h8
        by_cases heq : showR row = s
        · have hbq := beq_text heq
          have HA := Lib.hid (show RowAns s.data.toList row true from .inl ⟨rfl, hro, (show_row_eq hro s).1 heq, HO.out⟩)
          clear heq
          go_wp2_with fail
          exact bodyPost_ret (v := .tuple #[.slice A row.length c, .bool true]) (by simp [results, Tryd.results14, go_sem]) rfl ⟨_, row, true, rfl, hV3.out, HA.out, hB3.out⟩
        · have hbq := beq_texts heq
          have HA := Lib.hid (show RowAns s.data.toList [] false from .inr ⟨rfl, rfl, fun vs h1 h2 => heq (by have := HO.out vs h1 h2; subst this; exact (show_row_eq hro s).2 h2)⟩)
          clear heq
          go_wp2_with fail
          exact bodyPost_ret (v := .tuple #[.slice none 0 0, .bool false]) (by simp [results, Tryd.results14, go_sem]) rfl ⟨_, [], false, rfl, vrow_nil _ _, HA.out, hB3.out⟩
      · have hpos := pos_of hne
        have hfi : (row.length : Int) < 8 := by omega
        have hnn := Lib.hid (text_nil hne)
        clear hne
        go_wp2_with fail
        refine (impl_end T _ hTs hpos).mono ?_
        rintro e w2 ⟨k, rfl, hk, hEnd, rfl⟩
        have HEnd := Lib.hid hEnd
        clear hEnd
        have hex := ext_to T k
        have hexs : (T.extract 0 k).size ≤ 1048576 := by rw [size_le hex, List.length_take, len_text]; omega
        have HEX := Lib.hid hex
        clear hex
        go_wp2_with fail
        refine (impl_read (T.extract 0 k) _ hexs (hE.below hB) (hT.below hB)).mono ?_
        rintro e w3 ⟨rfl, hb3⟩
        rw [HEX.out]
        have hB3 := below_next hB hb3 rfl rfl
        have hV3 := Lib.hid (hV.out.below hb3)
        have hRo := Lib.hid (fun h => read_ok (l := T.data.toList.take k) h)
        have hbad := Lib.hid (fun h => rel_bad hR.out HEnd.out hnn.out h)
        have hnext := Lib.hid (rel_next hR.out HEnd.out hnn.out)
        generalize readV (T.data.toList.take k) = x at *
        generalize readB (T.data.toList.take k) = b at *
        cases b with
        | false =>
          have HA := Lib.hid (show RowAns s.data.toList [] false from .inr ⟨rfl, rfl, hbad.out rfl⟩)
          unfold VV
          go_wp2_with fail
          exact bodyPost_ret (v := .tuple #[.slice none 0 0, .bool false]) (by simp [results, Tryd.results14, go_sem]) rfl ⟨_, [], false, rfl, vrow_nil _ _, HA.out, hB3.alloc hB3.size _⟩
        | true =>
          have hxo := hRo.out rfl
          have hw3 := hB3.size
          unfold VV
          go_wp2_with (first | (at_builtin; refine wpList_append_own _ rfl (.tmp 31) (.tmp 33) _ rfl w.heap.size 26 i0 _ 3 32 Tryd.underlying31 hi hz0 hz1 hz2 rfl (by decide) _ _ _ rfl (((show w3.ownsRow w.heap.size 26 3 (.slice A row.length c) _ _ from hV3.out).alloc _).alloc _) ⟨w3.heap.size + 1, 0, none⟩ 1 1 [.int .i64 x.k, .int .i64 x.n, .string x.t] rfl rfl (by have := news_three (w3.alloc (.cells #[.int .i64 x.k, .int .i64 x.n, .string x.t] 26)) (.int .i64 x.k) (.int .i64 x.n) (.string x.t) 26; simpa using this) (one_three _ _ _) (by unfold maxLen; omega) (by omega) (by simp; omega) ?_; intro v2 w4 ho2 hg2 _; refine Hid.out ?_))
          refine Lib.hid ?_
          have hV4 : VRow w.heap.size w4 v2 (row ++ [x]) := vrow_app ho2
          have hB4 := Lib.hid (((hB3.alloc hw3 _).alloc (by simp; omega) _).grown hg2 (by simp; omega) (own_ge hV3.out))
          obtain ⟨A2, c2, rfl, _⟩ := hV4.row
          have HV4 := Lib.hid hV4
          clear ho2 hg2 hV4
          have hex2 := ext_from T k
          have HEX2 := Lib.hid hex2
          have hl3 := Lib.hid (show (⟨(Lib.trimPrefix (T.data.toList.drop k) [44, 32]).toArray⟩ : ByteArray).size ≤ 1048576 by
            have := Lib.trimPrefix_le (T.data.toList.drop k) [44, 32]
            rw [List.length_drop, len_text] at this
            rw [size_le (list_text _)]; omega)
          clear hex2
          go_wp2_with fail
          refine (Tryd.strings_TrimPrefix (T.extract k T.size) ⟨#[44, 32]⟩ _).mono ?_
          rintro e w5 ⟨rfl, rfl⟩
          rw [HEX2.out, show (⟨#[44, 32]⟩ : ByteArray).data.toList = [44, 32] from rfl]
          go_wp2_with fail
          go_roundw
          case rel => exact ⟨row ++ [x], _, rfl, hl3.out, by simp; omega, Lib.hid (fun v hv => by rcases List.mem_append.1 hv with h | h; exact hok.out v h; simp at h; rw [h]; exact hxo), Lib.hid (by rw [list_text]; exact hnext.out), Lib.hid (by simpa using HV4.out), hB4.out⟩
          case measure => simp; omega
end Go.Proofs.YtakidcehebpmkaaDoor
