/-
  Where a value's text form ends: impl.valueEnd, spec.l1End.
-/
import Derived.Test.YtakidcehebpmkaaDoorReadSpecT
import Derived.Test.YtakidcehebpmkaaDoorShowRow
namespace Go.Proofs.YtakidcehebpmkaaDoor
open Go.RowKit Go.Joins
set_option linter.unusedVariables false

theorem len_text (s : ByteArray) : s.data.toList.length = s.size := by rw [Array.length_toList]; rfl
/-- The scan of a quoted text that begins at place p stands at place i. -/
def Scan (s : ByteArray) (p i : Nat) : Prop := ∀ t tail : List UInt8, s.data.toList.drop p = quoteL t ++ tail →
  ∃ j, j ≤ t.length ∧ s.data.toList.drop i = escL (t.drop j) ++ 34 :: tail ∧ i + (escL (t.drop j)).length + 1 = p + (quoteL t).length
def ScanEnd (s : ByteArray) (p e : Nat) : Prop := ∀ t tail : List UInt8, s.data.toList.drop p = quoteL t ++ tail → e = p + (quoteL t).length
theorem scan_start (s : ByteArray) (p : Nat) : Scan s p (p + 1) := by
  intro t tail h
  refine ⟨0, Nat.zero_le _, ?_, ?_⟩
  · rw [← List.drop_drop, h]; simp [quoteL]
  · simp [quoteL]; omega
theorem drop_get {s : ByteArray} {i : Nat} (h : i < s.size) {c : UInt8} {r : List UInt8} (e : s.data.toList.drop i = c :: r) : s[i] = c ∧ s.data.toList.drop (i + 1) = r := by
  rw [drop_cons s i h] at e
  injection e with e1 e2
  exact ⟨e1, e2⟩
theorem scan_esc {s : ByteArray} {p i : Nat} (h : i < s.size) (hc : s[i] = 92) (hS : Scan s p i) : Scan s p (i + 2) := by
  intro t tail ht
  obtain ⟨j, hj, h1, h2⟩ := hS t tail ht
  rcases hd : t.drop j with _ | ⟨u, r⟩
  · rw [hd] at h1
    have := (drop_get h (show _ = 34 :: tail by simpa [escL] using h1)).1
    rw [hc] at this; simp at this
  · have hjl : j < t.length := by
      rcases Nat.lt_or_ge j t.length with h' | h'
      · exact h'
      · rw [List.drop_eq_nil_of_le h'] at hd; cases hd
    have hr : t.drop (j + 1) = r := by rw [← List.drop_drop, hd]; rfl
    rw [hd, esc_cons] at h1 h2
    by_cases hu : u = 34 ∨ u = 92
    · have e : escB u = [92, u] := by unfold escB; rw [if_pos hu]
      rw [e] at h1 h2
      refine ⟨j + 1, hjl, ?_, ?_⟩
      · rw [hr]
        have h3 := (drop_get h (show _ = 92 :: (u :: (escL r ++ 34 :: tail)) by simpa using h1)).2
        rw [show i + 2 = (i + 1) + 1 by omega, ← List.drop_drop, h3]; rfl
      · rw [hr]; simp only [List.length_append, List.length_cons, List.length_nil] at h2; omega
    · have e : escB u = [u] := by unfold escB; rw [if_neg hu]
      rw [e] at h1
      have := (drop_get h (show _ = u :: (escL r ++ 34 :: tail) by simpa using h1)).1
      exact absurd (.inr (this.symm.trans hc)) hu
theorem scan_go {s : ByteArray} {p i : Nat} (h : i < s.size) (hc : ¬ s[i] = 92) (hc2 : ¬ s[i] = 34) (hS : Scan s p i) : Scan s p (i + 1) := by
  intro t tail ht
  obtain ⟨j, hj, h1, h2⟩ := hS t tail ht
  rcases hd : t.drop j with _ | ⟨u, r⟩
  · rw [hd] at h1
    exact absurd (drop_get h (show _ = 34 :: tail by simpa [escL] using h1)).1 hc2
  · have hjl : j < t.length := by
      rcases Nat.lt_or_ge j t.length with h' | h'
      · exact h'
      · rw [List.drop_eq_nil_of_le h'] at hd; cases hd
    have hr : t.drop (j + 1) = r := by rw [← List.drop_drop, hd]; rfl
    rw [hd, esc_cons] at h1 h2
    by_cases hu : u = 34 ∨ u = 92
    · have e : escB u = [92, u] := by unfold escB; rw [if_pos hu]
      rw [e] at h1
      exact absurd (drop_get h (show _ = 92 :: (u :: (escL r ++ 34 :: tail)) by simpa using h1)).1 hc
    · have e : escB u = [u] := by unfold escB; rw [if_neg hu]
      rw [e] at h1 h2
      refine ⟨j + 1, hjl, ?_, ?_⟩
      · rw [hr]; exact (drop_get h (show _ = u :: (escL r ++ 34 :: tail) by simpa using h1)).2
      · rw [hr]; simp only [List.length_append, List.length_cons, List.length_nil] at h2; omega
theorem scan_end {s : ByteArray} {p i : Nat} (h : i < s.size) (hc : s[i] = 34) (hS : Scan s p i) : ScanEnd s p (i + 1) := by
  intro t tail ht
  obtain ⟨j, hj, h1, h2⟩ := hS t tail ht
  rcases hd : t.drop j with _ | ⟨u, r⟩
  · rw [hd] at h2; simpa [escL] using h2
  · rw [hd, esc_cons] at h1
    by_cases hu : u = 34 ∨ u = 92
    · have e : escB u = [92, u] := by unfold escB; rw [if_pos hu]
      rw [e] at h1
      have := (drop_get h (show _ = 92 :: (u :: (escL r ++ 34 :: tail)) by simpa using h1)).1
      rw [hc] at this; simp at this
    · have e : escB u = [u] := by unfold escB; rw [if_neg hu]
      rw [e] at h1
      have := (drop_get h (show _ = u :: (escL r ++ 34 :: tail) by simpa using h1)).1
      exact absurd (.inl (this.symm.trans hc)) hu
theorem scan_out {s : ByteArray} {p i e : Nat} (h : s.size ≤ i) (hS : Scan s p i) : ScanEnd s p e := by
  intro t tail ht
  obtain ⟨j, hj, h1, h2⟩ := hS t tail ht
  rw [List.drop_eq_nil_of_le (by rw [len_text]; exact h)] at h1
  simp at h1

theorem dec_all (m : Nat) : ∀ c ∈ Lib.decDigits m, isDigit c = true := by
  induction m using Nat.strongRecOn with
  | ind m ih =>
    intro c hc
    by_cases h : 9 < m
    · rw [digits_step m h, List.mem_append] at hc
      rcases hc with hc | hc
      · exact ih (m / 10) (by omega) c hc
      · simp only [List.mem_singleton] at hc
        rw [hc]; exact (digit_is (m % 10) (by omega)).1
    · rw [digits_small m (by omega)] at hc
      simp only [List.mem_singleton] at hc
      rw [hc]; exact (digit_is m (by omega)).1
theorem itoa_all (n : Int) : ∀ c ∈ Lib.itoa n, c = 45 ∨ isDigit c = true := by
  intro c hc
  rcases Int.lt_or_le n 0 with hn | hn
  · obtain ⟨m, rfl⟩ : ∃ m : Nat, n = -(m : Int) := ⟨n.natAbs, by omega⟩
    rw [itoa_neg m (by omega)] at hc
    rcases List.mem_cons.1 hc with h | h
    · exact .inl h
    · exact .inr (dec_all m c h)
  · obtain ⟨m, rfl⟩ := Int.eq_ofNat_of_zero_le hn
    rw [itoa_pos m] at hc
    exact .inr (dec_all m c hc)
def plainB (c : UInt8) : Prop := c ≠ 34 ∧ c ≠ 41 ∧ c ≠ 44
theorem plain_of {c : UInt8} (h : c = 45 ∨ isDigit c = true) : plainB c := by
  rcases h with rfl | h
  · exact ⟨by decide, by decide, by decide⟩
  · exact ⟨digit_ne h 34 (.inl (by decide)), digit_ne h 41 (.inl (by decide)), digit_ne h 44 (.inl (by decide))⟩
/-- A value's text form: quoted, or without quotation marks, commas and brackets. -/
theorem show_form {v : GV} (h : okG v = true) : (∃ t, showL v = quoteL t) ∨ (∃ c r, showL v = c :: r ∧ ∀ d ∈ c :: r, plainB d) := by
  rcases ok_kind h with ⟨hk, h0, h1, ht⟩ | ⟨hk, hn, ht⟩ | ⟨hk, h0, h1, ht⟩
  · right
    obtain ⟨c, r, e, _⟩ := itoa_head v.n
    exact ⟨c, r, by rw [show_int hk, e], fun d hd => plain_of (itoa_all v.n d (by rw [e]; exact hd))⟩
  · exact .inl ⟨_, show_text hk⟩
  · right
    refine ⟨63, Lib.itoa v.n, show_null hk, fun d hd => ?_⟩
    rcases List.mem_cons.1 hd with rfl | hd
    · exact ⟨by decide, by decide, by decide⟩
    · exact plain_of (itoa_all v.n d hd)
theorem ix_none : ∀ l : List UInt8, (∀ c ∈ l, plainB c) → Lib.indexByte l 44 = -1
  | [], _ => rfl
  | c :: r, h => by
    rw [Lib.indexByte, if_neg (by simpa using (h c (by simp)).2.2), ix_none r (fun d hd => h d (by simp [hd]))]; rfl
theorem ix_some (tail : List UInt8) : ∀ l : List UInt8, (∀ c ∈ l, plainB c) → Lib.indexByte (l ++ 44 :: tail) 44 = l.length
  | [], _ => by simp [Lib.indexByte]
  | c :: r, h => by
    rw [List.cons_append, Lib.indexByte, if_neg (by simpa using (h c (by simp)).2.2), ix_some tail r (fun d hd => h d (by simp [hd]))]
    rw [if_neg (by simp)]; simp
theorem ix_lt (l : List UInt8) (c : UInt8) : Lib.indexByte l c < l.length := by
  induction l with
  | nil => simp [Lib.indexByte]
  | cons b l ih =>
    unfold Lib.indexByte
    simp only [List.length_cons]
    split
    · omega
    · split <;> omega

/-- Place e is the end of the value that the text begins with. -/
def EndI (l : List UInt8) (e : Nat) : Prop := ∀ v tail, okG v = true → l = showL v ++ tail → (tail = [] ∨ ∃ r, tail = 44 :: r) → e = (showL v).length
def EndS (l : List UInt8) (e : Nat) : Prop := ∀ v tail, okG v = true → l = showL v ++ tail → (∃ r, tail = 44 :: r ∨ tail = 41 :: r) → e = (showL v).length
theorem endI_plain {s : ByteArray} (h : 0 < s.size) (hc : ¬ s[0] = 34) {e : Nat} (he : (e : Int) = Lib.indexByte s.data.toList 44 ∨ (Lib.indexByte s.data.toList 44 = -1 ∧ e = s.size)) : EndI s.data.toList e := by
  intro v tail hok hl ht
  have h0 := drop_cons s 0 h
  rw [List.drop_zero] at h0
  rcases show_form hok with ⟨t, hq⟩ | ⟨c, r, hcr, hp⟩
  · rw [hq, h0] at hl
    simp only [quoteL, List.cons_append] at hl
    injection hl with h1 _
    exact absurd h1 hc
  · rw [hcr] at hl ⊢
    rcases ht with rfl | ⟨r2, rfl⟩
    · rw [List.append_nil] at hl
      rw [hl, ix_none _ hp] at he
      have := len_text s
      rw [hl] at this
      omega
    · rw [hl, ix_some _ _ hp] at he
      omega
theorem endI_quote {s : ByteArray} (h : 0 < s.size) (hc : s[0] = 34) {e : Nat} (he : ScanEnd s 0 e) : EndI s.data.toList e := by
  intro v tail hok hl ht
  have h0 := drop_cons s 0 h
  rw [List.drop_zero] at h0
  rcases show_form hok with ⟨t, hq⟩ | ⟨c, r, hcr, hp⟩
  · rw [hq] at hl ⊢
    have := he t tail (by rw [List.drop_zero]; exact hl)
    omega
  · rw [hcr, h0] at hl
    simp only [List.cons_append] at hl
    injection hl with h1 _
    exact absurd (h1.symm.trans hc) (hp c (by simp)).1

set_option maxRecDepth 100000 in
set_option maxHeartbeats 800000 in
theorem impl_end (s : ByteArray) (w : World) (hs : s.size ≤ 1048576) (hp : 0 < s.size) :
    Calls Tryd.prog 44 #[.string s] w fun e w' => ∃ k : Nat, e = .returned (.int .i64 k) ∧ k ≤ s.size ∧ EndI s.data.toList k ∧ w' = w := by
  by_cases h34 : s[0] = 34
  · have hb : ((s[0].toNat : Int) == 34) = true := by rw [is_u8 s[0] 34 34 rfl]; simp [h34]
    have H := Lib.hid h34
    clear h34
    go_enter Tryd.func44, Tryd.ntmps44
    go_wp2_with fail
    go_loop [4] (fun i => ∃ k : Nat, 1 ≤ k ∧ k ≤ s.size + 1 ∧ i = .int .i64 k ∧ Hid (Scan s 0 k)) (fun i => s.size + 2 - (intOf i).toNat)
    case atStart => exact ⟨1, Nat.le_refl _, by omega, rfl, Lib.hid (scan_start s 0)⟩
    case round =>
      obtain ⟨k, hk1, hk2, rfl, hS⟩ := hrel
      by_cases hlt : k < s.size
      · by_cases h92 : s[k] = 92
        · have hb1 : ((s[k].toNat : Int) == 92) = true := by rw [is_u8 s[k] 92 92 rfl]; simp [h92]
          have hn := Lib.hid (scan_esc hlt h92 hS.out)
          clear h92
          go_wp2_with fail
          go_round
          case rel => exact ⟨k + 2, by omega, by omega, by go_num, hn⟩
          case measure => simp [intOf]; omega
        · have hb1 : ((s[k].toNat : Int) == 92) = false := by rw [is_u8 s[k] 92 92 rfl]; simp [h92]
          by_cases h3 : s[k] = 34
          · have hb2 : ((s[k].toNat : Int) == 34) = true := by rw [is_u8 s[k] 34 34 rfl]; simp [h3]
            have hn := Lib.hid (endI_quote hp H.out (scan_end hlt h3 hS.out))
            clear h92 h3
            go_wp2_with fail
            go_ret
            exact ⟨k + 1, by simp, by omega, hn.out, rfl⟩
          · have hb2 : ((s[k].toNat : Int) == 34) = false := by rw [is_u8 s[k] 34 34 rfl]; simp [h3]
            have hn := Lib.hid (scan_go hlt h92 h3 hS.out)
            clear h92 h3
            go_wp2_with fail
            go_round
            case rel => exact ⟨k + 1, by omega, by omega, by go_num, hn⟩
            case measure => simp [intOf]; omega
      · have hn := Lib.hid (endI_quote hp H.out (scan_out (e := s.size) (by omega) hS.out))
        go_wp2_with fail
        go_ret
        exact ⟨s.size, by simp, Nat.le_refl _, hn.out, rfl⟩
  · have hb : ((s[0].toNat : Int) == 34) = false := by rw [is_u8 s[0] 34 34 rfl]; simp [h34]
    have H := Lib.hid (fun e he => endI_plain hp h34 (e := e) he)
    clear h34
    have hge := Lib.indexByte_ge s.data.toList 44
    have hlt := ix_lt s.data.toList 44
    rw [len_text] at hlt
    go_enter Tryd.func44, Tryd.ntmps44
    go_wp2_with fail
    refine (Tryd.strings_IndexByte s 44 _).mono ?_
    rintro e w1 ⟨rfl, rfl⟩
    rw [show (44 : Int).toNat.toUInt8 = 44 from rfl]
    generalize hx : Lib.indexByte s.data.toList 44 = x at *
    have HX := Lib.hid hx
    clear hx
    by_cases h0 : 0 ≤ x
    · go_wp2_with fail
      go_ret
      exact ⟨x.toNat, by simp; omega, by omega, H.out _ (.inl (by omega)), rfl⟩
    · go_wp2_with fail
      go_ret
      exact ⟨s.size, by simp, Nat.le_refl _, H.out _ (.inr ⟨by omega, rfl⟩), rfl⟩

/-- The walk over a value without a quotation mark stands at place i. -/
def Plain (s : ByteArray) (p i : Nat) : Prop := ∀ v tail, okG v = true → s.data.toList.drop p = showL v ++ tail → (∃ r, tail = 44 :: r ∨ tail = 41 :: r) → i ≤ p + (showL v).length
theorem drop_in {s : ByteArray} {p i : Nat} {a b : List UInt8} (hp : p ≤ i) (h : i < s.size) (e : s.data.toList.drop p = a ++ b) (hi : i < p + a.length) : s[i] ∈ a := by
  have h1 : s.data.toList.drop i = (a ++ b).drop (i - p) := by rw [← e, List.drop_drop]; congr 1; omega
  rw [drop_cons s i h, List.drop_append_of_le_length (by omega)] at h1
  have h2 : i - p < a.length := by omega
  rw [List.drop_eq_getElem_cons h2, List.cons_append] at h1
  injection h1 with h1 _
  rw [h1]; exact List.getElem_mem h2
theorem drop_at {s : ByteArray} {p i : Nat} {a b : List UInt8} {c : UInt8} (h : i < s.size) (e : s.data.toList.drop p = a ++ c :: b) (hi : i = p + a.length) : s[i] = c := by
  have h1 : s.data.toList.drop i = (a ++ c :: b).drop a.length := by rw [← e, List.drop_drop]; congr 1
  rw [drop_cons s i h, List.drop_left] at h1
  injection h1
theorem not_quote {s : ByteArray} {p : Nat} (h : p < s.size) (hc : ¬ s[p] = 34) {v : GV} {tail : List UInt8} (hok : okG v = true) (e : s.data.toList.drop p = showL v ++ tail) : ∀ d ∈ showL v, plainB d := by
  rcases show_form hok with ⟨t, hq⟩ | ⟨c, r, hcr, hp⟩
  · rw [hq, drop_cons s p h] at e
    simp only [quoteL, List.cons_append] at e
    injection e with h1 _
    exact absurd h1 hc
  · rw [hcr]; exact hp
theorem plain_go {s : ByteArray} {p i : Nat} (hpi : p ≤ i) (h : i < s.size) (h44 : ¬ s[i] = 44) (h41 : ¬ s[i] = 41) (hP : Plain s p i) : Plain s p (i + 1) := by
  intro v tail hok he ht
  have h1 := hP v tail hok he ht
  rcases Nat.lt_or_ge i (p + (showL v).length) with h2 | h2
  · omega
  · obtain ⟨r, rfl | rfl⟩ := ht
    · exact absurd (drop_at h he (by omega)) h44
    · exact absurd (drop_at h he (by omega)) h41
theorem plain_end {s : ByteArray} {p i : Nat} (hp : p < s.size) (hc : ¬ s[p] = 34) (hpi : p ≤ i) (hP : Plain s p i) (hz : s.size ≤ i ∨ ∃ h : i < s.size, s[i] = 44 ∨ s[i] = 41) : EndS (s.data.toList.drop p) (i - p) := by
  intro v tail hok he ht
  have h1 := hP v tail hok he ht
  rcases Nat.lt_or_ge i (p + (showL v).length) with h2 | h2
  · exfalso
    have hl : (s.data.toList.drop p).length = (showL v ++ tail).length := by rw [he]
    rw [List.length_drop, len_text, List.length_append] at hl
    rcases hz with hz | ⟨hi, hz⟩
    · omega
    · have := not_quote hp hc hok he _ (drop_in hpi hi he h2)
      rcases hz with hz | hz
      · exact this.2.2 hz
      · exact this.2.1 hz
  · omega
theorem endS_quote {s : ByteArray} {p : Nat} (h : p < s.size) (hc : s[p] = 34) {e : Nat} (he : ScanEnd s p e) : EndS (s.data.toList.drop p) (e - p) := by
  intro v tail hok hl ht
  rcases show_form hok with ⟨t, hq⟩ | ⟨c, r, hcr, hp⟩
  · rw [hq] at hl ⊢
    have := he t tail hl
    omega
  · rw [hcr, drop_cons s p h] at hl
    simp only [List.cons_append] at hl
    injection hl with h1 _
    exact absurd (h1.symm.trans hc) (hp c (by simp)).1

set_option maxRecDepth 100000 in
set_option maxHeartbeats 800000 in
theorem spec_end (s : ByteArray) (p : Nat) (w : World) (hs : s.size ≤ 1048576) (hp : p < s.size) :
    Calls Tryd.prog 49 #[.string s, .int .i64 p] w fun e w' => ∃ k : Nat, e = .returned (.int .i64 k) ∧ p ≤ k ∧ k ≤ s.size ∧ EndS (s.data.toList.drop p) (k - p) ∧ w = w' := by
  by_cases h34 : s[p] = 34
  · have hb : ((s[p].toNat : Int) == 34) = true := by rw [is_u8 s[p] 34 34 rfl]; simp [h34]
    have H := Lib.hid h34
    clear h34
    go_enter Tryd.func49, Tryd.ntmps49
    go_wp2_with fail
    go_loop [5] (fun i => ∃ k : Nat, p + 1 ≤ k ∧ k ≤ s.size + 1 ∧ i = .int .i64 k ∧ Hid (Scan s p k)) (fun i => s.size + 2 - (intOf i).toNat)
    case atStart => exact ⟨p + 1, Nat.le_refl _, by omega, by go_num, Lib.hid (scan_start s p)⟩
    case round =>
      obtain ⟨k, hk1, hk2, rfl, hS⟩ := hrel
      by_cases hlt : k < s.size
      · by_cases h92 : s[k] = 92
        · have hb1 : ((s[k].toNat : Int) == 92) = true := by rw [is_u8 s[k] 92 92 rfl]; simp [h92]
          have hn := Lib.hid (scan_esc hlt h92 hS.out)
          clear h92
          go_wp2_with fail
          go_round
          case rel => exact ⟨k + 2, by omega, by omega, by go_num, hn⟩
          case measure => simp [intOf]; omega
        · have hb1 : ((s[k].toNat : Int) == 92) = false := by rw [is_u8 s[k] 92 92 rfl]; simp [h92]
          by_cases h3 : s[k] = 34
          · have hb2 : ((s[k].toNat : Int) == 34) = true := by rw [is_u8 s[k] 34 34 rfl]; simp [h3]
            have hn := Lib.hid (endS_quote hp H.out (scan_end hlt h3 hS.out))
            clear h92 h3
            go_wp2_with fail
            go_ret
            exact ⟨k + 1, by simp, by omega, by omega, hn.out, rfl⟩
          · have hb2 : ((s[k].toNat : Int) == 34) = false := by rw [is_u8 s[k] 34 34 rfl]; simp [h3]
            have hn := Lib.hid (scan_go hlt h92 h3 hS.out)
            clear h92 h3
            go_wp2_with fail
            go_round
            case rel => exact ⟨k + 1, by omega, by omega, by go_num, hn⟩
            case measure => simp [intOf]; omega
      · have hn := Lib.hid (endS_quote hp H.out (scan_out (e := s.size) (by omega) hS.out))
        go_wp2_with fail
        go_ret
        exact ⟨s.size, by simp, by omega, Nat.le_refl _, hn.out, rfl⟩
  · have hb : ((s[p].toNat : Int) == 34) = false := by rw [is_u8 s[p] 34 34 rfl]; simp [h34]
    have H := Lib.hid (fun i a b c => plain_end hp h34 (i := i) a b c)
    clear h34
    go_enter Tryd.func49, Tryd.ntmps49
    go_wp2_with fail
    go_loop [1] (fun i => ∃ k : Nat, p ≤ k ∧ k ≤ s.size ∧ i = .int .i64 k ∧ Hid (Plain s p k)) (fun i => s.size + 2 - (intOf i).toNat)
    case atStart => exact ⟨p, Nat.le_refl _, by omega, rfl, Lib.hid (fun v tail _ _ _ => by omega)⟩
    case round =>
      obtain ⟨k, hk1, hk2, rfl, hS⟩ := hrel
      by_cases hlt : k < s.size
      · by_cases h44 : s[k] = 44
        · have hb1 : ((s[k].toNat : Int) == 44) = true := by rw [is_u8 s[k] 44 44 rfl]; simp [h44]
          have hb1q : (s[k].toNat : Int) = 44 := by simpa using hb1
          have hb1n : ((s[k].toNat : Int) != 44) = false := by rw [bne, hb1]; rfl
          have hn := Lib.hid (H.out k hk1 hS.out (.inr ⟨hlt, .inl h44⟩))
          clear h44
          go_wp2_with fail
          go_ret
          exact ⟨k, by simp, hk1, hk2, hn.out, rfl⟩
        · have hb1 : ((s[k].toNat : Int) == 44) = false := by rw [is_u8 s[k] 44 44 rfl]; simp [h44]
          have hb1q : ¬ (s[k].toNat : Int) = 44 := by simpa using hb1
          have hb1n : ((s[k].toNat : Int) != 44) = true := by rw [bne, hb1]; rfl
          by_cases h41 : s[k] = 41
          · have hb2 : ((s[k].toNat : Int) == 41) = true := by rw [is_u8 s[k] 41 41 rfl]; simp [h41]
            have hb2q : (s[k].toNat : Int) = 41 := by simpa using hb2
            have hb2n : ((s[k].toNat : Int) != 41) = false := by rw [bne, hb2]; rfl
            have hn := Lib.hid (H.out k hk1 hS.out (.inr ⟨hlt, .inr h41⟩))
            clear h44 h41
            go_wp2_with fail
            go_ret
            exact ⟨k, by simp, hk1, hk2, hn.out, rfl⟩
          · have hb2 : ((s[k].toNat : Int) == 41) = false := by rw [is_u8 s[k] 41 41 rfl]; simp [h41]
            have hb2q : ¬ (s[k].toNat : Int) = 41 := by simpa using hb2
            have hb2n : ((s[k].toNat : Int) != 41) = true := by rw [bne, hb2]; rfl
            have hn := Lib.hid (plain_go hk1 hlt h44 h41 hS.out)
            clear h44 h41
            go_wp2_with fail
            go_round
            case rel => exact ⟨k + 1, by omega, by omega, by go_num, hn⟩
            case measure => simp [intOf]; omega
      · have hn := Lib.hid (H.out k hk1 hS.out (.inl (by omega)))
        go_wp2_with fail
        go_ret
        exact ⟨k, by simp, hk1, hk2, hn.out, rfl⟩
end Go.Proofs.YtakidcehebpmkaaDoor
