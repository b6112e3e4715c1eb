/-
  The comparison of rows is a total order. Ascending rows: where a row stands, and whether it is there.
-/
import Derived.Test.YteoepnadjkjlmaaGreatTabOkMZ
namespace Go.Proofs.YteoepnadjkjlmaaGreat
set_option linter.unusedVariables false

/-- A comparison that is a total order. -/
structure Good {α : Type} (c : α → α → Int) : Prop where
  eq : ∀ a b, c a b = 0 ↔ a = b
  anti : ∀ a b, c b a = - c a b
  trans : ∀ a b d, c a b < 0 → c b d < 0 → c a d < 0

theorem good_int : Good cmpI := by
  refine ⟨fun a b => ?_, fun a b => ?_, fun a b d h1 h2 => ?_⟩
  · unfold cmpI
    by_cases h1 : a < b
    · rw [if_pos h1]; omega
    · rw [if_neg h1]
      by_cases h2 : b < a
      · rw [if_pos h2]; omega
      · rw [if_neg h2]; omega
  · unfold cmpI
    by_cases h1 : a < b
    · rw [if_neg (by omega), if_pos h1, if_pos h1]; omega
    · by_cases h2 : b < a
      · rw [if_pos h2, if_neg h1, if_pos h2]
      · rw [if_neg h2, if_neg h1, if_neg h1, if_neg h2]; omega
  · unfold cmpI at *
    by_cases h3 : a < b
    · by_cases h4 : b < d
      · rw [if_pos (by omega)]; omega
      · rw [if_neg h4] at h2; split at h2 <;> omega
    · rw [if_neg h3] at h1; split at h1 <;> omega

theorem good_map {α β : Type} {c : β → β → Int} (h : Good c) (f : α → β) (hf : ∀ a b, f a = f b → a = b) : Good (fun a b => c (f a) (f b)) :=
  ⟨fun a b => ⟨fun he => hf a b ((h.eq _ _).1 he), fun he => by subst he; exact (h.eq _ _).2 rfl⟩, fun a b => h.anti _ _, fun a b d => h.trans _ _ _⟩

/-- First by c, then by e. -/
def lex2 {α β : Type} (c : α → α → Int) (e : β → β → Int) (x y : α × β) : Int := if c x.1 y.1 = 0 then e x.2 y.2 else c x.1 y.1
theorem good_lex2 {α β : Type} {c : α → α → Int} {e : β → β → Int} (hc : Good c) (he : Good e) : Good (lex2 c e) := by
  refine ⟨fun a b => ?_, fun a b => ?_, fun a b d h1 h2 => ?_⟩
  · unfold lex2
    by_cases h : c a.1 b.1 = 0
    · rw [if_pos h, he.eq]
      exact ⟨fun h' => Prod.ext ((hc.eq _ _).1 h) h', fun h' => by rw [h']⟩
    · rw [if_neg h]
      exact ⟨fun h' => absurd h' h, fun h' => by subst h'; exact absurd ((hc.eq _ _).2 rfl) h⟩
  · unfold lex2
    have h1 := hc.anti a.1 b.1
    by_cases h : c a.1 b.1 = 0
    · rw [if_pos h, if_pos (by omega)]; exact he.anti _ _
    · rw [if_neg h, if_neg (by omega)]; exact h1
  · unfold lex2 at *
    by_cases hab : c a.1 b.1 = 0
    · rw [if_pos hab] at h1
      have e1 := (hc.eq _ _).1 hab
      by_cases hbd : c b.1 d.1 = 0
      · rw [if_pos hbd] at h2
        rw [if_pos (by rw [e1]; exact hbd)]
        exact he.trans _ _ _ h1 h2
      · rw [if_neg hbd] at h2
        rw [e1, if_neg hbd]; exact h2
    · rw [if_neg hab] at h1
      by_cases hbd : c b.1 d.1 = 0
      · have e2 := (hc.eq _ _).1 hbd
        rw [← e2, if_neg hab]; exact h1
      · rw [if_neg hbd] at h2
        have h3 := hc.trans _ _ _ h1 h2
        rw [if_neg (by omega)]; exact h3

/-- Lists, element by element; a proper beginning is less. -/
def lexL {α : Type} (c : α → α → Int) : List α → List α → Int
  | [], [] => 0
  | [], _ :: _ => -1
  | _ :: _, [] => 1
  | a :: x, b :: y => if c a b = 0 then lexL c x y else c a b
theorem good_lexL {α : Type} {c : α → α → Int} (hc : Good c) : Good (lexL c) := by
  refine ⟨fun a => ?_, fun a => ?_, fun a => ?_⟩
  · induction a with
    | nil => intro b; cases b <;> simp [lexL]
    | cons x a ih =>
      intro b
      cases b with
      | nil => simp [lexL]
      | cons y b =>
        unfold lexL
        by_cases h : c x y = 0
        · rw [if_pos h, ih]
          have := (hc.eq _ _).1 h
          subst this
          simp
        · rw [if_neg h]
          exact ⟨fun h' => absurd h' h, fun h' => by cases h'; exact absurd ((hc.eq _ _).2 rfl) h⟩
  · induction a with
    | nil => intro b; cases b <;> simp [lexL]
    | cons x a ih =>
      intro b
      cases b with
      | nil => simp [lexL]
      | cons y b =>
        unfold lexL
        have h1 := hc.anti x y
        by_cases h : c x y = 0
        · rw [if_pos h, if_pos (by omega)]; exact ih b
        · rw [if_neg h, if_neg (by omega)]; exact h1
  · induction a with
    | nil =>
      intro b d h1 h2
      cases b with
      | nil => simp [lexL] at h1
      | cons y b =>
        cases d with
        | nil => simp [lexL] at h2
        | cons z d => simp [lexL]
    | cons x a ih =>
      intro b d h1 h2
      cases b with
      | nil => simp [lexL] at h1
      | cons y b =>
        cases d with
        | nil => simp [lexL] at h2
        | cons z d =>
          unfold lexL at h1 h2 ⊢
          by_cases hab : c x y = 0
          · rw [if_pos hab] at h1
            have e1 := (hc.eq _ _).1 hab
            by_cases hbd : c y z = 0
            · rw [if_pos hbd] at h2
              rw [if_pos (by rw [e1]; exact hbd)]
              exact ih _ _ h1 h2
            · rw [if_neg hbd] at h2
              rw [e1, if_neg hbd]; exact h2
          · rw [if_neg hab] at h1
            by_cases hbd : c y z = 0
            · have e2 := (hc.eq _ _).1 hbd
              rw [← e2, if_neg hab]; exact h1
            · rw [if_neg hbd] at h2
              have h3 := hc.trans _ _ _ h1 h2
              rw [if_neg (by omega)]; exact h3

def cmpU (a b : UInt8) : Int := cmpI a.toNat b.toNat
theorem good_u8 : Good cmpU := good_map good_int (fun a : UInt8 => (a.toNat : Int)) (fun a b h => UInt8.toNat_inj.1 (by omega))
theorem less_lex : ∀ x y : List UInt8, Op.bytesLess x y = decide (lexL cmpU x y < 0)
  | [], [] => by simp [Op.bytesLess, lexL]
  | [], _ :: _ => by simp [Op.bytesLess, lexL]
  | _ :: _, [] => by simp [Op.bytesLess, lexL]
  | a :: x, b :: y => by
    unfold lexL Op.bytesLess
    rw [less_lex x y]
    unfold cmpU cmpI
    by_cases h1 : a < b
    · have h1' : a.toNat < b.toNat := UInt8.lt_iff_toNat_lt.1 h1
      rw [if_pos (show (a.toNat : Int) < b.toNat by omega)]
      simp [h1]
    · have h1' : ¬ a.toNat < b.toNat := fun h => h1 (UInt8.lt_iff_toNat_lt.2 h)
      rw [if_neg (show ¬ (a.toNat : Int) < b.toNat by omega)]
      by_cases h2 : a = b
      · subst h2
        simp [h1]
      · have h2' : a.toNat ≠ b.toNat := fun h => h2 (UInt8.toNat_inj.1 h)
        rw [if_pos (show (b.toNat : Int) < a.toNat by omega)]
        simp [h1, h2]
theorem cmpT_eq (a b : ByteArray) : cmpT a b = if lexL cmpU a.data.toList b.data.toList < 0 then -1 else if a = b then 0 else 1 := by
  unfold cmpT ltT
  rw [less_lex, Lib.toList_data, Lib.toList_data]
  simp
theorem data_inj {a b : ByteArray} (h : a.data.toList = b.data.toList) : a = b := ByteArray.ext (Array.toList_inj.1 h)
theorem good_text : Good cmpT := by
  have hg := good_lexL good_u8
  refine ⟨fun a b => ?_, fun a b => ?_, fun a b d h1 h2 => ?_⟩
  · rw [cmpT_eq]
    by_cases h : lexL cmpU a.data.toList b.data.toList < 0
    · rw [if_pos h]
      exact ⟨fun h' => by omega, fun h' => by subst h'; have := (hg.eq a.data.toList a.data.toList).2 rfl; omega⟩
    · rw [if_neg h]
      by_cases he : a = b
      · simp [he]
      · simp [he]
  · rw [cmpT_eq, cmpT_eq]
    have h1 := hg.anti a.data.toList b.data.toList
    by_cases he : a = b
    · subst he
      have := (hg.eq a.data.toList a.data.toList).2 rfl
      rw [if_neg (by omega)]; simp
    · have h0 : lexL cmpU a.data.toList b.data.toList ≠ 0 := fun h => he (data_inj ((hg.eq _ _).1 h))
      by_cases h : lexL cmpU a.data.toList b.data.toList < 0
      · rw [if_pos h, if_neg (by omega), if_neg (fun h => he h.symm)]; omega
      · rw [if_neg h, if_pos (by omega), if_neg he]
  · rw [cmpT_eq] at *
    by_cases h3 : lexL cmpU a.data.toList b.data.toList < 0
    · by_cases h4 : lexL cmpU b.data.toList d.data.toList < 0
      · rw [if_pos (hg.trans _ _ _ h3 h4)]; omega
      · rw [if_neg h4] at h2; split at h2 <;> omega
    · rw [if_neg h3] at h1; split at h1 <;> omega

theorem cmpG_lex (a b : GV) : cmpG a b = lex2 cmpI (lex2 cmpI cmpT) (a.k, a.n, a.t) (b.k, b.n, b.t) := by
  unfold cmpG cmpV or3 lex2
  by_cases h : cmpI a.k b.k = 0
  · by_cases h2 : cmpI a.n b.n = 0 <;> simp [h, h2]
  · simp [h]
theorem good_cmpG : Good cmpG := by
  have h := good_map (good_lex2 good_int (good_lex2 good_int good_text)) (fun v : GV => (v.k, v.n, v.t)) (fun a b h => by
    cases a; cases b; simp at h; obtain ⟨rfl, rfl, rfl⟩ := h; rfl)
  have e : cmpG = fun a b => lex2 cmpI (lex2 cmpI cmpT) (a.k, a.n, a.t) (b.k, b.n, b.t) := by
    funext a b; exact cmpG_lex a b
  rw [e]; exact h
theorem cmpR_lex : ∀ a b : List GV, cmpR a b = lexL cmpG a b
  | [], [] => rfl
  | [], _ :: _ => rfl
  | _ :: _, [] => rfl
  | a :: x, b :: y => by unfold cmpR lexL; rw [cmpR_lex x y]
theorem good_cmpR : Good cmpR := by
  have e : cmpR = lexL cmpG := by funext a b; exact cmpR_lex a b
  rw [e]; exact good_lexL good_cmpG
end Go.Proofs.YteoepnadjkjlmaaGreat
namespace Go.Proofs.YteoepnadjkjlmaaGreat
open Go.RowKit
set_option linter.unusedVariables false

/-- Is the row in the list? -/
def hasB (rows : List (List GV)) (r : List GV) : Bool := rows.any fun x => decide (cmpR x r = 0)

theorem asc_tail {a : List GV} {rows : List (List GV)} (h : ascB (a :: rows) = true) : ascB rows = true := by
  cases rows with
  | nil => rfl
  | cons b rows => simp [ascB] at h; exact h.2
theorem asc_head : ∀ (rows : List (List GV)) (a : List GV), ascB (a :: rows) = true → ∀ x ∈ rows, cmpR a x < 0
  | [], a, h, x, hx => by simp at hx
  | b :: rows, a, h, x, hx => by
    have hab : cmpR a b < 0 := by simp [ascB] at h; exact h.1
    rcases List.mem_cons.1 hx with rfl | hx
    · exact hab
    · exact good_cmpR.trans _ _ _ hab (asc_head rows b (asc_tail h) x hx)
theorem asc_lt : ∀ (rows : List (List GV)), ascB rows = true → ∀ (i j : Nat) (hi : i < j) (hj : j < rows.length), cmpR rows[i] rows[j] < 0
  | [], _, i, j, hi, hj => by simp at hj
  | a :: rows, h, 0, j + 1, hi, hj => by
    simp only [List.getElem_cons_zero, List.getElem_cons_succ]
    exact asc_head rows a h _ (List.getElem_mem _)
  | a :: rows, h, i + 1, j + 1, hi, hj => by
    simp only [List.getElem_cons_succ]
    exact asc_lt rows (asc_tail h) i j (by omega) (by simpa using hj)

/-- What a search has found out: all before lo are less than r, none from hi on is. -/
def Bounds (rows : List (List GV)) (r : List GV) (lo hi : Nat) : Prop :=
  (∀ (i : Nat) (h : i < rows.length), i < lo → cmpR rows[i] r < 0) ∧ (∀ (i : Nat) (h : i < rows.length), hi ≤ i → ¬ cmpR rows[i] r < 0)
theorem bounds_start (rows : List (List GV)) (r : List GV) : Bounds rows r 0 rows.length := ⟨fun i h h' => by omega, fun i h h' => by omega⟩
theorem bounds_up {rows : List (List GV)} {r : List GV} {lo hi m : Nat} (ha : ascB rows = true) (h : Bounds rows r lo hi) (hm : m < rows.length) (hc : cmpR rows[m] r < 0) : Bounds rows r (m + 1) hi := by
  refine ⟨fun i hi' hlt => ?_, h.2⟩
  rcases Nat.lt_or_ge i m with h1 | h1
  · exact good_cmpR.trans _ _ _ (asc_lt rows ha i m h1 hm) hc
  · obtain rfl : i = m := by omega
    exact hc
theorem bounds_down {rows : List (List GV)} {r : List GV} {lo hi m : Nat} (ha : ascB rows = true) (h : Bounds rows r lo hi) (hm : m < rows.length) (hc : ¬ cmpR rows[m] r < 0) : Bounds rows r lo m := by
  refine ⟨h.1, fun i hi' hle hlt => ?_⟩
  rcases Nat.lt_or_ge m i with h1 | h1
  · exact hc (good_cmpR.trans _ _ _ (asc_lt rows ha m i h1 hi') hlt)
  · obtain rfl : i = m := by omega
    exact hc hlt
theorem has_in {rows : List (List GV)} {r : List GV} {lo : Nat} (ha : ascB rows = true) (h : Bounds rows r lo lo) (hm : lo < rows.length) : hasB rows r = decide (cmpR rows[lo] r = 0) := by
  unfold hasB
  by_cases hc : cmpR rows[lo] r = 0
  · rw [decide_eq_true hc, List.any_eq_true]
    exact ⟨rows[lo], List.getElem_mem hm, by simpa using hc⟩
  · rw [decide_eq_false hc, List.any_eq_false]
    intro x hx
    obtain ⟨i, hi, rfl⟩ := List.getElem_of_mem hx
    simp only [decide_eq_true_eq]
    intro h0
    rcases Nat.lt_trichotomy i lo with h1 | h1 | h1
    · have := h.1 i hi h1; omega
    · subst h1; exact hc h0
    · have h2 := asc_lt rows ha lo i h1 hi
      have h3 := (good_cmpR.eq _ _).1 h0
      rw [h3] at h2
      exact h.2 lo hm (Nat.le_refl _) h2
theorem has_out {rows : List (List GV)} {r : List GV} {lo : Nat} (h : Bounds rows r lo lo) (hm : rows.length ≤ lo) : hasB rows r = false := by
  unfold hasB
  rw [List.any_eq_false]
  intro x hx
  obtain ⟨i, hi, rfl⟩ := List.getElem_of_mem hx
  have := h.1 i hi (by omega)
  simp only [decide_eq_true_eq]
  omega

/-- What spec.l1Place leaves, where only its second result matters. -/
def hasRowB (rows : List (List GV)) (r : List GV) : Bool := tableOkB rows && hasB rows r
theorem asc_of_ok {rows : List (List GV)} (h : tableOkB rows = true) : ascB rows = true := by unfold tableOkB at h; simp at h; exact h.2
def PlacePost (w : World) (b : Bool) (e : Ending) (w' : World) : Prop := (∃ n : Int, e = .returned (.tuple #[.int .i64 n, .bool b])) ∧ Below w.heap.size w w'
end Go.Proofs.YteoepnadjkjlmaaGreat
