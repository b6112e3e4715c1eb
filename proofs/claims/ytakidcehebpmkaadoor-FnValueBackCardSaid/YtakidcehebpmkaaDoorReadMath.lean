/-
  Reading the text form of a value back: what is of no program.
-/
import Derived.Test.YtakidcehebpmkaaDoorShowSpec2
import Derived.Lib.ParseIntB
namespace Go.Proofs.YtakidcehebpmkaaDoor
set_option linter.unusedVariables false

def isDigit (c : UInt8) : Bool := decide (48 ≤ c.toNat) && decide (c.toNat ≤ 57)
/-- The digits' number, from what came before on. -/
def digs (acc : Nat) : List UInt8 → Option Nat
  | [] => some acc
  | c :: r => if isDigit c = true then digs (acc * 10 + (c.toNat - 48)) r else none
def startsNeg : List UInt8 → Bool
  | c :: _ => decide (c = 45)
  | [] => false
def negI (n : Nat) : Int := -(n : Int)
def posI (n : Nat) : Int := (n : Int)
def numL (l : List UInt8) : Option Int :=
  if startsNeg l = true then
    (if l.length = 1 ∨ 11 < l.length then none else (digs 0 (l.drop 1)).map negI)
  else (if l.length = 0 ∨ 10 < l.length then none else (digs 0 l).map posI)

theorem digit_of (d : Nat) (h : d ≤ 9) : (48 + UInt8.ofNat d).toNat = 48 + d := by
  rw [← ofNat_add]; simp; omega
theorem digit_is (d : Nat) (h : d ≤ 9) : isDigit (UInt8.ofNat (48 + d)) = true ∧ (UInt8.ofNat (48 + d)).toNat = 48 + d := by
  rw [ofNat_add]
  have := digit_of d h
  exact ⟨by unfold isDigit; rw [this]; simp; omega, this⟩
theorem digs_dec (m : Nat) : ∀ r, digs 0 (Lib.decDigits m ++ r) = digs m r := by
  induction m using Nat.strongRecOn with
  | ind m ih =>
    intro r
    by_cases h : 9 < m
    · rw [digits_step m h, List.append_assoc, ih (m / 10) (by omega)]
      obtain ⟨h1, h2⟩ := digit_is (m % 10) (by omega)
      rw [List.singleton_append, digs, if_pos h1, h2]
      congr 1; omega
    · rw [digits_small m (by omega)]
      obtain ⟨h1, h2⟩ := digit_is m (by omega)
      rw [List.singleton_append, digs, if_pos h1, h2]
      congr 1; omega
theorem dec_len : ∀ (k m : Nat), m < 10 ^ (k + 1) → (Lib.decDigits m).length ≤ k + 1
  | 0, m, h => by rw [digits_small m (by omega)]; simp
  | k + 1, m, h => by
    by_cases h9 : 9 < m
    · rw [digits_step m h9, List.length_append]
      have h10 : m / 10 < 10 ^ (k + 1) := by
        rw [Nat.pow_succ] at h
        omega
      have := dec_len k (m / 10) h10
      simp only [List.length_cons, List.length_nil]
      omega
    · rw [digits_small m (by omega)]; simp
theorem dec_head (m : Nat) : ∃ c r, Lib.decDigits m = c :: r ∧ isDigit c = true := by
  induction m using Nat.strongRecOn with
  | ind m ih =>
    by_cases h : 9 < m
    · obtain ⟨c, r, h1, h2⟩ := ih (m / 10) (by omega)
      exact ⟨c, r ++ [UInt8.ofNat (48 + m % 10)], by rw [digits_step m h, h1]; rfl, h2⟩
    · exact ⟨_, [], digits_small m (by omega), (digit_is m (by omega)).1⟩
theorem digit_ne {c : UInt8} (h : isDigit c = true) (d : UInt8) (hd : d.toNat < 48 ∨ 57 < d.toNat) : c ≠ d := by
  rintro rfl
  unfold isDigit at h; simp at h; omega

theorem num_itoa (n : Int) (h0 : -1000000000 ≤ n) (h1 : n ≤ 1000000000) : numL (Lib.itoa n) = some n := by
  rcases Int.lt_or_le n 0 with hn | hn
  · obtain ⟨m, rfl⟩ : ∃ m : Nat, n = -(m : Int) := ⟨n.natAbs, by omega⟩
    rw [itoa_neg m (by omega)]
    have hl := dec_len 9 m (by omega)
    have hp := digits_pos m
    unfold numL
    rw [if_pos (by simp [startsNeg]), if_neg (by simp only [List.length_cons]; omega)]
    have := digs_dec m []
    rw [List.append_nil] at this
    simp only [List.drop_succ_cons, List.drop_zero, this, digs]
    rfl
  · obtain ⟨m, rfl⟩ := Int.eq_ofNat_of_zero_le hn
    rw [itoa_pos m]
    have hl := dec_len 9 m (by omega)
    have hp := digits_pos m
    obtain ⟨c, r, hd, hc⟩ := dec_head m
    unfold numL
    rw [if_neg (by rw [hd]; simp [startsNeg]; exact digit_ne hc 45 (.inl (by decide))), if_neg (by omega)]
    have := digs_dec m []
    rw [List.append_nil] at this
    simp only [this, digs]
    rfl

/-- What strconv.ParseInt hands back beside its error. -/
def parseN (l : List UInt8) : Int := match Lib.parseIntB 64 l with
  | .ok v => v
  | .range => Lib.intSat 64 l
  | _ => 0
theorem uintM_dec (m : Nat) (hm : m ≤ 1000000000) : ∀ r, Lib.parseUintM (2 ^ 64 - 1) 0 (Lib.decDigits m ++ r) = Lib.parseUintM (2 ^ 64 - 1) m r := by
  induction m using Nat.strongRecOn with
  | ind m ih =>
    intro r
    by_cases h : 9 < m
    · rw [digits_step m h, List.append_assoc, ih (m / 10) (by omega) (by omega)]
      obtain ⟨h1, h2⟩ := digit_is (m % 10) (by omega)
      rw [List.singleton_append, Lib.parseUintM, if_pos (by rw [h2]; omega), if_neg (by omega), if_neg (by rw [h2]; omega), h2]
      congr 1; omega
    · rw [digits_small m (by omega)]
      obtain ⟨h1, h2⟩ := digit_is m (by omega)
      rw [List.singleton_append, Lib.parseUintM, if_pos (by rw [h2]; omega), if_neg (by omega), if_neg (by rw [h2]; omega), h2]
      congr 1; omega
theorem uintB_dec (m : Nat) (hm : m ≤ 1000000000) : Lib.parseUintB 64 (Lib.decDigits m) = .ok m := by
  unfold Lib.parseUintB
  obtain ⟨c, r, hd, hc⟩ := dec_head m
  rw [if_neg (by rw [hd]; simp)]
  have := uintM_dec m hm []
  rw [List.append_nil] at this
  rw [this, Lib.parseUintM]
theorem parse_itoa (n : Int) (h0 : -1000000000 ≤ n) (h1 : n ≤ 1000000000) : parseN (Lib.itoa n) = n := by
  have h : Lib.parseIntB 64 (Lib.itoa n) = .ok n := by
    rcases Int.lt_or_le n 0 with hn | hn
    · obtain ⟨m, rfl⟩ : ∃ m : Nat, n = -(m : Int) := ⟨n.natAbs, by omega⟩
      rw [itoa_neg m (by omega)]
      have e : (45 : UInt8).toNat = 45 := rfl
      simp only [Lib.parseIntB, e, or_true, if_true, uintB_dec m (by omega)]
      simp
      omega
    · obtain ⟨m, rfl⟩ := Int.eq_ofNat_of_zero_le hn
      rw [itoa_pos m]
      obtain ⟨c, r, hd, hc⟩ := dec_head m
      have hu := uintB_dec m (by omega)
      rw [hd] at hu ⊢
      have hcd : 48 ≤ c.toNat ∧ c.toNat ≤ 57 := by unfold isDigit at hc; simp at hc; exact hc
      simp only [Lib.parseIntB]
      rw [if_neg (by omega), hu]
      simp only
      rw [if_neg (by omega), if_neg (by omega), if_neg (by omega)]
  unfold parseN
  rw [h]

/-- The bytes between the quotation marks, without the backslashes. -/
def uq : List UInt8 → List UInt8
  | c :: d :: r => if c = 92 then d :: uq r else c :: uq (d :: r)
  | _ => []
theorem esc_cons (c : UInt8) (t : List UInt8) : escL (c :: t) = escB c ++ escL t := by simp [escL]
theorem uq_esc : ∀ t : List UInt8, uq (escL t ++ [34]) = t
  | [] => by simp [escL, uq]
  | c :: t => by
    have ih := uq_esc t
    rw [esc_cons]
    by_cases h : c = 34 ∨ c = 92
    · have e : escB c = [92, c] := by unfold escB; rw [if_pos h]
      rw [e]
      simp only [List.cons_append, List.nil_append, uq, if_true]
      rw [ih]
    · have e : escB c = [c] := by unfold escB; rw [if_neg h]
      have h92 : ¬ c = 92 := fun e => h (.inr e)
      rw [e]
      simp only [List.cons_append, List.nil_append]
      generalize hx : escL t ++ [34] = x at *
      cases x with
      | nil => simp at hx
      | cons d r => rw [uq, if_neg h92, ih]

def mkText (l : List UInt8) : ByteArray := ⟨l.toArray⟩
/-- The value that impl.guessValue tries. -/
def guessI (l : List UInt8) : GV :=
  if Lib.hasPrefix l [34] = true then ⟨2, 0, mkText (if 122 < l.length then [] else uq (l.drop 1))⟩
  else if Lib.hasPrefix l [63] = true then ⟨3, parseN (Lib.trimPrefix l [63]), mkText []⟩
  else ⟨1, parseN l, mkText []⟩
/-- The value that spec.ReadValue tries, if any. -/
def guessS (l : List UInt8) : Option GV :=
  if Lib.hasPrefix l [63] = true then (numL (l.drop 1)).map fun n => ⟨3, n, mkText []⟩
  else if Lib.hasPrefix l [34] = true then some ⟨2, 0, mkText (uq (l.drop 1))⟩
  else (numL l).map fun n => ⟨1, n, mkText []⟩

theorem pre_one (c d : UInt8) (r : List UInt8) : Lib.hasPrefix (c :: r) [d] = decide (d = c) := by
  by_cases h : d = c <;> simp [Lib.hasPrefix, List.isPrefixOf, h]
theorem itoa_head (n : Int) : ∃ c r, Lib.itoa n = c :: r ∧ (c = 45 ∨ isDigit c = true) := by
  rcases Int.lt_or_le n 0 with hn | hn
  · obtain ⟨m, rfl⟩ : ∃ m : Nat, n = -(m : Int) := ⟨n.natAbs, by omega⟩
    exact ⟨45, _, itoa_neg m (by omega), .inl rfl⟩
  · obtain ⟨m, rfl⟩ := Int.eq_ofNat_of_zero_le hn
    obtain ⟨c, r, h1, h2⟩ := dec_head m
    exact ⟨c, r, by rw [itoa_pos m, h1], .inr h2⟩
theorem itoa_pre (n : Int) (d : UInt8) (hd : d = 34 ∨ d = 63) : Lib.hasPrefix (Lib.itoa n) [d] = false := by
  obtain ⟨c, r, h1, h2⟩ := itoa_head n
  rw [h1, pre_one]
  simp only [decide_eq_false_iff_not]
  rintro rfl
  rcases h2 with h | h
  · rcases hd with rfl | rfl <;> simp at h
  · rcases hd with rfl | rfl <;> simp [isDigit] at h
theorem gv_eq {v : GV} {k n : Int} {t : ByteArray} (hk : v.k = k) (hn : v.n = n) (ht : v.t = t) : (⟨k, n, t⟩ : GV) = v := by
  cases v; simp at hk hn ht; subst hk hn ht; rfl
theorem empty_text : mkText [] = ByteArray.empty := rfl
theorem show_int {v : GV} (h : v.k = 1) : showL v = Lib.itoa v.n := by unfold showL; rw [if_pos h]
theorem show_text {v : GV} (h : v.k = 2) : showL v = quoteL v.t.data.toList := by unfold showL; rw [if_neg (by omega), if_neg (by omega)]
theorem show_null {v : GV} (h : v.k = 3) : showL v = 63 :: Lib.itoa v.n := by unfold showL; rw [if_neg (by omega), if_pos h]
theorem uq_quote (l : List UInt8) : uq ((quoteL l).drop 1) = l := by
  simp only [quoteL, List.drop_succ_cons, List.drop_zero]; exact uq_esc _
theorem quote_pre (l : List UInt8) (d : UInt8) : Lib.hasPrefix (quoteL l) [d] = decide (d = 34) := by unfold quoteL; exact pre_one 34 d _
theorem guessI_show {v : GV} (h : okG v = true) : guessI (showL v) = v := by
  have hl := showL_len h
  rcases ok_kind h with ⟨hk, h0, h1, ht⟩ | ⟨hk, hn, ht⟩ | ⟨hk, h0, h1, ht⟩
  · rw [show_int hk]
    unfold guessI
    rw [itoa_pre _ 34 (.inl rfl), itoa_pre _ 63 (.inr rfl), parse_itoa v.n h0 h1]
    exact gv_eq hk rfl ht
  · rw [show_text hk] at hl ⊢
    unfold guessI
    rw [quote_pre, if_pos (by decide), if_neg (by omega), uq_quote]
    exact gv_eq hk hn (by unfold mkText; simp)
  · rw [show_null hk]
    have e1 : Lib.hasPrefix (63 :: Lib.itoa v.n) [34] = false := by rw [pre_one]; decide
    have e2 : Lib.hasPrefix (63 :: Lib.itoa v.n) [63] = true := by rw [pre_one]; decide
    have e3 : Lib.trimPrefix (63 :: Lib.itoa v.n) [63] = Lib.itoa v.n := by unfold Lib.trimPrefix; rw [e2]; rfl
    unfold guessI
    rw [e1, e2, e3, parse_itoa v.n (by omega) h1]
    exact gv_eq hk rfl ht
theorem guessS_show {v : GV} (h : okG v = true) : guessS (showL v) = some v := by
  rcases ok_kind h with ⟨hk, h0, h1, ht⟩ | ⟨hk, hn, ht⟩ | ⟨hk, h0, h1, ht⟩
  · rw [show_int hk]
    unfold guessS
    rw [itoa_pre _ 34 (.inl rfl), itoa_pre _ 63 (.inr rfl), num_itoa v.n h0 h1]
    exact congrArg some (gv_eq hk rfl ht)
  · rw [show_text hk]
    unfold guessS
    rw [quote_pre, quote_pre, if_neg (by decide), if_pos (by decide), uq_quote]
    exact congrArg some (gv_eq hk hn (by unfold mkText; simp))
  · rw [show_null hk]
    have e2 : Lib.hasPrefix (63 :: Lib.itoa v.n) [63] = true := by rw [pre_one]; decide
    unfold guessS
    rw [e2, if_pos rfl, List.drop_succ_cons, List.drop_zero, num_itoa v.n (by omega) h1]
    exact congrArg some (gv_eq hk rfl ht)

/-- What ReadValue answers. -/
def readB (l : List UInt8) : Bool := okG (guessI l) && decide (showL (guessI l) = l)
theorem readB_spec (l : List UInt8) : readB l = match guessS l with
    | some v => okG v && decide (showL v = l)
    | none => false := by
  unfold readB
  cases hg : guessS l with
  | none =>
    simp only
    by_cases h : okG (guessI l) = true ∧ showL (guessI l) = l
    · have := guessS_show h.1
      rw [h.2, hg] at this
      cases this
    · rw [Bool.and_eq_false_iff]
      by_cases h1 : okG (guessI l) = true
      · right; exact decide_eq_false (fun h2 => h ⟨h1, h2⟩)
      · left; simpa using h1
  | some v =>
    simp only
    by_cases h : okG v = true ∧ showL v = l
    · have e := guessI_show h.1
      rw [h.2] at e
      rw [e]
    · have h' : ¬ (okG (guessI l) = true ∧ showL (guessI l) = l) := by
        intro hh
        have := guessS_show hh.1
        rw [hh.2, hg] at this
        injection this with this
        exact h ⟨by rw [this]; exact hh.1, by rw [this]; exact hh.2⟩
      have e1 : (okG (guessI l) && decide (showL (guessI l) = l)) = false := by
        rw [Bool.and_eq_false_iff]
        by_cases h1 : okG (guessI l) = true
        · right; exact decide_eq_false (fun h2 => h' ⟨h1, h2⟩)
        · left; simpa using h1
      have e2 : (okG v && decide (showL v = l)) = false := by
        rw [Bool.and_eq_false_iff]
        by_cases h1 : okG v = true
        · right; exact decide_eq_false (fun h2 => h ⟨h1, h2⟩)
        · left; simpa using h1
      rw [e1, e2]
theorem read_same {l : List UInt8} (h : readB l = true) : guessS l = some (guessI l) := by
  unfold readB at h
  simp at h
  have := guessS_show h.1
  rwa [h.2] at this
end Go.Proofs.YtakidcehebpmkaaDoor
