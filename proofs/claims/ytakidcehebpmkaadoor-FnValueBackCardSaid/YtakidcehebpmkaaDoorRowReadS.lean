/-
  spec.ReadRow.
-/
import Derived.Test.YtakidcehebpmkaaDoorRowRead
namespace Go.Proofs.YtakidcehebpmkaaDoor
open Go.RowKit Go.Joins
set_option linter.unusedVariables false

def RelS (l : List UInt8) (row : List GV) (i : Nat) : Prop := ∀ vs, rowOkB vs = true → showRowL vs = l → ∃ k, k ≤ vs.length ∧ row = vs.take k ∧ ((k < vs.length ∧ l.drop i = joinL (vs.drop k) ++ [41]) ∨ (k = vs.length ∧ l.length ≤ i + 1))
theorem relS_start (l : List UInt8) : RelS l [] 1 := by
  rintro vs _ rfl
  refine ⟨0, Nat.zero_le _, rfl, ?_⟩
  cases vs with
  | nil => exact .inr ⟨rfl, by simp [showRowL, joinL]⟩
  | cons v r => exact .inl ⟨by simp, by simp [showRowL]⟩
theorem relS_one {l : List UInt8} {row : List GV} {i e : Nat} (h : RelS l row i) (hi : i + 1 < l.length) (hie : i ≤ e) (he : EndS (l.drop i) (e - i)) (vs : List GV) (hok : rowOkB vs = true) (hs : showRowL vs = l) :
    ∃ k v, k + 1 ≤ vs.length ∧ okG v = true ∧ (l.drop i).take (e - i) = showL v ∧ row ++ [v] = vs.take (k + 1) ∧ ((k + 1 < vs.length ∧ l.drop (e + 2) = joinL (vs.drop (k + 1)) ++ [41]) ∨ (k + 1 = vs.length ∧ l.length ≤ e + 2 + 1)) := by
  obtain ⟨k, hk, h1, h2⟩ := h vs hok hs
  rcases h2 with ⟨hlt, h2⟩ | ⟨_, h2⟩
  · rcases hd : vs.drop k with _ | ⟨v, r⟩
    · have := congrArg List.length hd; simp at this; omega
    · obtain ⟨a1, a2, a3, a4⟩ := all_of hok hd
      obtain ⟨tail, j1, j2⟩ := join_cons v r
      rw [hd, j1, List.append_assoc] at h2
      have e1 : e - i = (showL v).length := he v (tail ++ [41]) a1 h2 (by
        rcases j2 with ⟨_, rfl⟩ | ⟨_, rfl⟩
        · exact ⟨[], .inr rfl⟩
        · exact ⟨32 :: (joinL r ++ [41]), .inl (by simp)⟩)
      refine ⟨k, v, a2, a1, by rw [h2, e1, List.take_left], by rw [a3, h1], ?_⟩
      have hl : (l.drop i).length = (showL v ++ (tail ++ [41])).length := by rw [h2]
      rw [List.length_drop, List.length_append, List.length_append] at hl
      simp only [List.length_cons, List.length_nil] at hl
      rcases j2 with ⟨hr, rfl⟩ | ⟨hr, rfl⟩
      · right
        have : (vs.drop (k + 1)).length = 0 := by rw [a4, hr]; rfl
        rw [List.length_drop] at this
        simp only [List.length_nil] at hl
        omega
      · left
        have : 0 < (vs.drop (k + 1)).length := by rw [a4]; exact List.length_pos_iff.2 hr
        rw [List.length_drop] at this
        refine ⟨by omega, ?_⟩
        have e2 : l.drop (e + 2) = (l.drop i).drop ((showL v).length + 2) := by rw [List.drop_drop]; congr 1; omega
        rw [e2, h2, ← List.drop_drop, List.drop_left, a4]; rfl
  · omega
theorem relS_bad {l : List UInt8} {row : List GV} {i e : Nat} (h : RelS l row i) (hi : i + 1 < l.length) (hie : i ≤ e) (he : EndS (l.drop i) (e - i)) (hb : readB ((l.drop i).take (e - i)) = false) : NoRow l := by
  intro vs hok hs
  obtain ⟨k, v, _, h1, h2, _, _⟩ := relS_one h hi hie he vs hok hs
  rw [h2, (read_show h1).1] at hb
  cases hb
theorem relS_next {l : List UInt8} {row : List GV} {i e : Nat} (h : RelS l row i) (hi : i + 1 < l.length) (hie : i ≤ e) (he : EndS (l.drop i) (e - i)) : RelS l (row ++ [readV ((l.drop i).take (e - i))]) (e + 2) := by
  intro vs hok hs
  obtain ⟨k, v, h0, h1, h2, h3, h4⟩ := relS_one h hi hie he vs hok hs
  exact ⟨k + 1, h0, by rw [h2, (read_show h1).2, h3], h4⟩
theorem relS_end {l : List UInt8} {row : List GV} {i : Nat} (h : RelS l row i) (hz : l.length ≤ i + 1 ∨ 8 < row.length) : Only l row := by
  intro vs hok hs
  obtain ⟨k, hk, h1, h2⟩ := h vs hok hs
  have h8 := (row_ok hok).2
  rcases h2 with ⟨hlt, h2⟩ | ⟨h2, _⟩
  · rcases hz with hz | hz
    · rcases hd : vs.drop k with _ | ⟨v, r⟩
      · have := congrArg List.length hd; simp at this; omega
      · obtain ⟨a1, _, _, _⟩ := all_of hok hd
        obtain ⟨tail, j1, _⟩ := join_cons v r
        have hl : (l.drop i).length = (joinL (vs.drop k) ++ [41]).length := by rw [h2]
        rw [hd, j1, List.length_drop, List.length_append, List.length_append] at hl
        have := List.length_pos_iff.2 (show_ne a1)
        simp only [List.length_cons, List.length_nil] at hl
        omega
    · rw [h1, List.length_take] at hz; omega
  · rw [h1, List.take_of_length_le (by omega)]
theorem ansS_yes {s : ByteArray} {row : List GV} (h : Only s.data.toList row) (he : showR row = s) (hs : 2 ≤ s.size) : RowAns s.data.toList row true := by
  have hro : rowOkB row = true := by
    cases ho : rowOkB row with
    | true => rfl
    | false =>
      unfold showR at he
      rw [ho, if_neg (by decide)] at he
      rw [← he] at hs
      exact absurd hs (by decide)
  exact .inl ⟨rfl, hro, (show_row_eq hro s).1 he, h⟩
theorem ansS_no {s : ByteArray} {row : List GV} (h : Only s.data.toList row) (he : ¬ showR row = s) : RowAns s.data.toList [] false :=
  .inr ⟨rfl, rfl, fun vs h1 h2 => he (by have e := h vs h1 h2; subst e; exact (show_row_eq h1 s).2 h2)⟩
theorem showRow_facts {vs : List GV} (h : rowOkB vs = true) {s : ByteArray} (hs : showRowL vs = s.data.toList) : 2 ≤ s.size ∧ s.size ≤ 2000 ∧ ∃ h : 0 < s.size, s[0] = 40 := by
  have hl := len_text s
  obtain ⟨h1, h2⟩ := row_ok h
  have h3 : (joinL vs).length ≤ 990 := by
    rcases Nat.eq_zero_or_pos vs.length with h0 | h0
    · rw [List.eq_nil_of_length_eq_zero h0]; simp [joinL]
    · have := join_len vs h1 h0; omega
  rw [← hs] at hl
  simp only [showRowL, List.length_cons, List.length_append, List.length_nil] at hl
  have hp : 0 < s.size := by omega
  refine ⟨by omega, by omega, hp, ?_⟩
  exact (drop_get hp (show _ = 40 :: (joinL vs ++ [41]) by rw [List.drop_zero, ← hs]; rfl)).1

set_option maxRecDepth 100000 in
set_option maxHeartbeats 1600000 in
theorem spec_readRow (s : ByteArray) (w : World) (hs : s.size ≤ 1048576) :
    Calls Tryd.prog 19 #[.string s] w (RowPost w s.data.toList) := by
  obtain ⟨i0, hi, hz0, hz1, hz2⟩ := info_parts infoV
  have hV0 := Lib.hid (vrow_new w)
  have hB0 : Below w.heap.size w (w.alloc (.cells #[] 26)) := (Below.refl _ _).alloc (Nat.le_refl _) _
  by_cases hlt : 2 ≤ s.size
  · have hp : 0 < s.size := by omega
    have hli : ¬ (s.size : Int) < 2 := by omega
    by_cases h40 : s[0] = 40
    · have hb : ((s[0].toNat : Int) == 40) = true := by rw [is_u8 s[0] 40 40 rfl]; simp [h40]
      have hbn : ((s[0].toNat : Int) != 40) = false := by rw [bne, hb]; rfl
      have hbq : (s[0].toNat : Int) = 40 := by simpa using hb
      clear h40
      by_cases hbig : s.size ≤ 2000
      · have hbi : ¬ (2000 : Int) < (s.size : Int) := by omega
        go_enter Tryd.func19, Tryd.ntmps19
        go_wp2_with fail
        go_loopw [4, 5] (fun o t w' => ∃ (row : List GV) (k : Nat), t = .int .i64 k ∧ 1 ≤ k ∧ k ≤ s.size + 2 ∧ row.length ≤ 9 ∧ Hid (∀ v ∈ row, okG v = true) ∧ Hid (RelS s.data.toList row k) ∧ Hid (VRow w.heap.size w' o row) ∧ Below w.heap.size w w') (fun o _ _ => 9 - (match o with | .slice _ n _ => n | _ => 0))
        case atStart => exact ⟨[], 1, rfl, by omega, by omega, by simp, Lib.hid (by simp), Lib.hid (relS_start _), hV0, hB0⟩
        case round =>
          obtain ⟨row, k, rfl, hk1, hk2, h9, hok, hR, hV, hB⟩ := hrel
          obtain ⟨A, c, rfl, hrow⟩ := hV.out.row
          have hwz := hB.size
          by_cases hin : k + 1 < s.size
          · have hini : (k : Int) < (s.size : Int) - 1 := by omega
            by_cases hfull : row.length ≤ 8
            · have hfi : (row.length : Int) ≤ 8 := by omega
              have hRi := Lib.hid (show k + 1 < s.data.toList.length by rw [len_text]; exact hin)
              go_wp2_with fail
              refine (spec_end s k _ hs (by omega)).mono ?_
              rintro e w2 ⟨m, rfl, hm1, hm2, hEnd, rfl⟩
              have HEnd := Lib.hid hEnd
              clear hEnd
              have hex := Lib.extract_data s k m
              have hexs : (s.extract k m).size ≤ 1048576 := by rw [size_le hex, List.length_take, List.length_drop, len_text]; omega
              have HEX := Lib.hid hex
              clear hex
              go_wp2_with fail
              refine (spec_read (s.extract k m) _ hexs).mono ?_
              rintro e w3 ⟨rfl, hb3⟩
              rw [HEX.out]
              have hB3 := below_next hB hb3 rfl rfl
              have hV3 := Lib.hid (hV.out.below hb3)
              have hRo := Lib.hid (fun h => read_ok (l := (s.data.toList.drop k).take (m - k)) h)
              have hbad := Lib.hid (fun h => relS_bad hR.out hRi.out hm1 HEnd.out h)
              have hnext := Lib.hid (relS_next hR.out hRi.out hm1 HEnd.out)
              generalize readV ((s.data.toList.drop k).take (m - k)) = x at *
              generalize readB ((s.data.toList.drop k).take (m - k)) = b at *
              cases b with
              | false =>
                have HA := Lib.hid (show RowAns s.data.toList [] false from .inr ⟨rfl, rfl, hbad.out rfl⟩)
                have hB4 := hB3.alloc hB3.size (.cells #[.int .i64 x.k, .int .i64 x.n, .string x.t] 26)
                unfold VV
                go_wp2_with fail
                have hnew := vrow_new (w3.alloc (.cells #[.int .i64 x.k, .int .i64 x.n, .string x.t] 26))
                have hB5 := hB4.alloc hB4.size (.cells #[] 26)
                have hnew2 := hnew.mono hB4.size
                rw [show (w3.alloc (.cells #[.int .i64 x.k, .int .i64 x.n, .string x.t] 26)).heap.size = w3.heap.size + 1 by simp] at hnew2
                exact bodyPost_ret (v := .tuple #[.slice (some ⟨w3.heap.size + 1, 0, none⟩) 0 0, .bool false]) (by simp [results, Tryd.results19, go_sem]) rfl ⟨_, [], false, rfl, hnew2, HA.out, hB5⟩
              | true =>
                have hxo := hRo.out rfl
                have hw3 := hB3.size
                unfold VV
                go_wp2_with (first | (at_builtin; refine wpList_append_own _ rfl (.tmp 48) (.tmp 50) _ rfl w.heap.size 26 i0 _ 3 32 Tryd.underlying31 hi hz0 hz1 hz2 rfl (by decide) _ _ _ rfl (((show w3.ownsRow w.heap.size 26 3 (.slice A row.length c) _ _ from hV3.out).alloc _).alloc _) ⟨w3.heap.size + 1, 0, none⟩ 1 1 [.int .i64 x.k, .int .i64 x.n, .string x.t] rfl rfl (by have := news_three (w3.alloc (.cells #[.int .i64 x.k, .int .i64 x.n, .string x.t] 26)) (.int .i64 x.k) (.int .i64 x.n) (.string x.t) 26; simpa using this) (one_three _ _ _) (by unfold maxLen; omega) (by omega) (by simp; omega) ?_; intro v2 w4 ho2 hg2 _; refine Hid.out ?_))
                refine Lib.hid ?_
                have hV4 : VRow w.heap.size w4 v2 (row ++ [x]) := vrow_app ho2
                have hB4 := Lib.hid (((hB3.alloc hw3 _).alloc (by simp; omega) _).grown hg2 (by simp; omega) (own_ge hV3.out))
                obtain ⟨A2, c2, rfl, _⟩ := hV4.row
                have HV4 := Lib.hid hV4
                clear ho2 hg2 hV4
                go_wp2_with fail
                go_roundw
                case rel => exact ⟨row ++ [x], m + 2, by go_num, by omega, by omega, by simp; omega, Lib.hid (fun v hv => by rcases List.mem_append.1 hv with h | h; exact hok.out v h; simp at h; rw [h]; exact hxo), hnext, Lib.hid (by simpa using HV4.out), hB4.out⟩
                case measure => simp; omega
            · have hfi : ¬ (row.length : Int) ≤ 8 := by omega
              have HO := Lib.hid (relS_end hR.out (.inr (by omega)))
              go_wp2_with fail
              refine (spec_showRow A c row _ hrow (by omega) (fun v hv => ok_size (hok.out v hv))).mono ?_
              rintro e w3 ⟨rfl, hb3⟩
              have hB3 := below_next hB hb3 rfl rfl
              have hV3 := Lib.hid (hV.out.below hb3)
              by_cases heq : showR row = s
              · have hbq := beq_text heq
                have HA := Lib.hid (show RowAns s.data.toList row true from ansS_yes HO.out heq hlt)
                clear heq
                go_wp2_with fail
                exact bodyPost_ret (v := .tuple #[.slice A row.length c, .bool true]) (by simp [results, Tryd.results19, go_sem]) rfl ⟨_, row, true, rfl, hV3.out, HA.out, hB3⟩
              · have hbq := beq_texts heq
                have HA := Lib.hid (show RowAns s.data.toList [] false from ansS_no HO.out heq)
                clear heq
                go_wp2_with fail
                exact bodyPost_ret (v := .tuple #[.slice (some ⟨w3.heap.size, 0, none⟩) 0 0, .bool false]) (by simp [results, Tryd.results19, go_sem]) rfl ⟨_, [], false, rfl, (vrow_new w3).mono hB3.size, HA.out, hB3.alloc hB3.size _⟩
          · have hini : ¬ (k : Int) < (s.size : Int) - 1 := by omega
            have HO := Lib.hid (relS_end hR.out (.inl (by rw [len_text]; omega)))
            go_wp2_with fail
            refine (spec_showRow A c row _ hrow (by omega) (fun v hv => ok_size (hok.out v hv))).mono ?_
            rintro e w3 ⟨rfl, hb3⟩
            have hB3 := below_next hB hb3 rfl rfl
            have hV3 := Lib.hid (hV.out.below hb3)
            by_cases heq : showR row = s
            · have hbq := beq_text heq
              have HA := Lib.hid (show RowAns s.data.toList row true from ansS_yes HO.out heq hlt)
              clear heq
              go_wp2_with fail
              exact bodyPost_ret (v := .tuple #[.slice A row.length c, .bool true]) (by simp [results, Tryd.results19, go_sem]) rfl ⟨_, row, true, rfl, hV3.out, HA.out, hB3⟩
            · have hbq := beq_texts heq
              have HA := Lib.hid (show RowAns s.data.toList [] false from ansS_no HO.out heq)
              clear heq
              go_wp2_with fail
              exact bodyPost_ret (v := .tuple #[.slice (some ⟨w3.heap.size, 0, none⟩) 0 0, .bool false]) (by simp [results, Tryd.results19, go_sem]) rfl ⟨_, [], false, rfl, (vrow_new w3).mono hB3.size, HA.out, hB3.alloc hB3.size _⟩
      · have hbi : (2000 : Int) < (s.size : Int) := by omega
        have HA := Lib.hid (show RowAns s.data.toList [] false from .inr ⟨rfl, rfl, fun vs h1 h2 => by have := (showRow_facts h1 h2).2.1; omega⟩)
        go_enter Tryd.func19, Tryd.ntmps19
        go_wp2_with fail
        exact bodyPost_ret (v := .tuple #[.slice (some ⟨w.heap.size, 0, none⟩) 0 0, .bool false]) (by simp [results, Tryd.results19, go_sem]) rfl ⟨_, [], false, rfl, hV0.out, HA.out, hB0⟩
    · have hb : ((s[0].toNat : Int) == 40) = false := by rw [is_u8 s[0] 40 40 rfl]; simp [h40]
      have hbn : ((s[0].toNat : Int) != 40) = true := by rw [bne, hb]; rfl
      have hbq : ¬ (s[0].toNat : Int) = 40 := by simpa using hb
      have HA := Lib.hid (show RowAns s.data.toList [] false from .inr ⟨rfl, rfl, fun vs h1 h2 => h40 (showRow_facts h1 h2).2.2.2⟩)
      clear h40
      go_enter Tryd.func19, Tryd.ntmps19
      go_wp2_with fail
      exact bodyPost_ret (v := .tuple #[.slice (some ⟨w.heap.size, 0, none⟩) 0 0, .bool false]) (by simp [results, Tryd.results19, go_sem]) rfl ⟨_, [], false, rfl, hV0.out, HA.out, hB0⟩
  · have hli : (s.size : Int) < 2 := by omega
    have HA := Lib.hid (show RowAns s.data.toList [] false from .inr ⟨rfl, rfl, fun vs h1 h2 => hlt (showRow_facts h1 h2).1⟩)
    go_enter Tryd.func19, Tryd.ntmps19
    go_wp2_with fail
    exact bodyPost_ret (v := .tuple #[.slice (some ⟨w.heap.size, 0, none⟩) 0 0, .bool false]) (by simp [results, Tryd.results19, go_sem]) rfl ⟨_, [], false, rfl, hV0.out, HA.out, hB0⟩
end Go.Proofs.YtakidcehebpmkaaDoor
