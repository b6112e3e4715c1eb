/-
  Ascending rows: where a row stands, and whether it is there.
-/
import Derived.Test.YteoepnadjkjlmaaTabOkM
import Derived.Test.YteoepnadjkjlmaaOrder
namespace Go.Proofs.Yteoepnadjkjlmaa
open Go.RowKit
set_option linter.unusedVariables false

/-- Is the row in the list? -/
def hasB (rows : List (List GV)) (r : List GV) : Bool := rows.any fun x => decide (cmpR x r = 0)

theorem asc_tail {a : List GV} {rows : List (List GV)} (h : ascB (a :: rows) = true) : ascB rows = true := by
  cases rows with
  | nil => rfl
  | cons b rows => simp [ascB] at h; exact h.2
theorem asc_head : ∀ (rows : List (List GV)) (a : List GV), ascB (a :: rows) = true → ∀ x ∈ rows, cmpR a x < 0
  | [], a, h, x, hx => by simp at hx
  | b :: rows, a, h, x, hx => by
    have hab : cmpR a b < 0 := by simp [ascB] at h; exact h.1
    rcases List.mem_cons.1 hx with rfl | hx
    · exact hab
    · exact good_cmpR.trans _ _ _ hab (asc_head rows b (asc_tail h) x hx)
theorem asc_lt : ∀ (rows : List (List GV)), ascB rows = true → ∀ (i j : Nat) (hi : i < j) (hj : j < rows.length), cmpR rows[i] rows[j] < 0
  | [], _, i, j, hi, hj => by simp at hj
  | a :: rows, h, 0, j + 1, hi, hj => by
    simp only [List.getElem_cons_zero, List.getElem_cons_succ]
    exact asc_head rows a h _ (List.getElem_mem _)
  | a :: rows, h, i + 1, j + 1, hi, hj => by
    simp only [List.getElem_cons_succ]
    exact asc_lt rows (asc_tail h) i j (by omega) (by simpa using hj)

/-- What a search has found out: all before lo are less than r, none from hi on is. -/
def Bounds (rows : List (List GV)) (r : List GV) (lo hi : Nat) : Prop :=
  (∀ (i : Nat) (h : i < rows.length), i < lo → cmpR rows[i] r < 0) ∧ (∀ (i : Nat) (h : i < rows.length), hi ≤ i → ¬ cmpR rows[i] r < 0)
theorem bounds_start (rows : List (List GV)) (r : List GV) : Bounds rows r 0 rows.length := ⟨fun i h h' => by omega, fun i h h' => by omega⟩
theorem bounds_up {rows : List (List GV)} {r : List GV} {lo hi m : Nat} (ha : ascB rows = true) (h : Bounds rows r lo hi) (hm : m < rows.length) (hc : cmpR rows[m] r < 0) : Bounds rows r (m + 1) hi := by
  refine ⟨fun i hi' hlt => ?_, h.2⟩
  rcases Nat.lt_or_ge i m with h1 | h1
  · exact good_cmpR.trans _ _ _ (asc_lt rows ha i m h1 hm) hc
  · obtain rfl : i = m := by omega
    exact hc
theorem bounds_down {rows : List (List GV)} {r : List GV} {lo hi m : Nat} (ha : ascB rows = true) (h : Bounds rows r lo hi) (hm : m < rows.length) (hc : ¬ cmpR rows[m] r < 0) : Bounds rows r lo m := by
  refine ⟨h.1, fun i hi' hle hlt => ?_⟩
  rcases Nat.lt_or_ge m i with h1 | h1
  · exact hc (good_cmpR.trans _ _ _ (asc_lt rows ha m i h1 hi') hlt)
  · obtain rfl : i = m := by omega
    exact hc hlt
theorem has_in {rows : List (List GV)} {r : List GV} {lo : Nat} (ha : ascB rows = true) (h : Bounds rows r lo lo) (hm : lo < rows.length) : hasB rows r = decide (cmpR rows[lo] r = 0) := by
  unfold hasB
  by_cases hc : cmpR rows[lo] r = 0
  · rw [decide_eq_true hc, List.any_eq_true]
    exact ⟨rows[lo], List.getElem_mem hm, by simpa using hc⟩
  · rw [decide_eq_false hc, List.any_eq_false]
    intro x hx
    obtain ⟨i, hi, rfl⟩ := List.getElem_of_mem hx
    simp only [decide_eq_true_eq]
    intro h0
    rcases Nat.lt_trichotomy i lo with h1 | h1 | h1
    · have := h.1 i hi h1; omega
    · subst h1; exact hc h0
    · have h2 := asc_lt rows ha lo i h1 hi
      have h3 := (good_cmpR.eq _ _).1 h0
      rw [h3] at h2
      exact h.2 lo hm (Nat.le_refl _) h2
theorem has_out {rows : List (List GV)} {r : List GV} {lo : Nat} (h : Bounds rows r lo lo) (hm : rows.length ≤ lo) : hasB rows r = false := by
  unfold hasB
  rw [List.any_eq_false]
  intro x hx
  obtain ⟨i, hi, rfl⟩ := List.getElem_of_mem hx
  have := h.1 i hi (by omega)
  simp only [decide_eq_true_eq]
  omega

/-- What spec.l1Place leaves, where only its second result matters. -/
def hasRowB (rows : List (List GV)) (r : List GV) : Bool := tableOkB rows && hasB rows r
theorem asc_of_ok {rows : List (List GV)} (h : tableOkB rows = true) : ascB rows = true := by unfold tableOkB at h; simp at h; exact h.2
def PlacePost (w : World) (b : Bool) (e : Ending) (w' : World) : Prop := (∃ n : Int, e = .returned (.tuple #[.int .i64 n, .bool b])) ∧ Below w.heap.size w w'
end Go.Proofs.Yteoepnadjkjlmaa
