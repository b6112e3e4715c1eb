/-
  What a table must be: mathematics.
-/
import Derived.Test.YteoepnadjkjlmaaRowOkS
import Derived.Test.YteoepnadjkjlmaaRowCmpM
namespace Go.Proofs.Yteoepnadjkjlmaa
open Go.RowKit
set_option linter.unusedVariables false

def wid : List (List GV) → Nat
  | [] => 0
  | r :: _ => r.length
def goodRow (n : Nat) (r : List GV) : Bool := rowOkB r && decide (r.length = n)
def rowsOkB (rows : List (List GV)) : Bool := rows.all (goodRow (wid rows)) && decide (rows.length ≤ 3000)
def ascB : List (List GV) → Bool
  | a :: b :: rows => decide (cmpR a b < 0) && ascB (b :: rows)
  | _ => true
def tableOkB (rows : List (List GV)) : Bool := rowsOkB rows && ascB rows

theorem wid_eq {rows : List (List GV)} (h : 0 < rows.length) : wid rows = rows[0].length := by
  cases rows with
  | nil => simp at h
  | cons r rows => rfl
theorem allr_snoc (n : Nat) (r : List (List GV)) (k : Nat) (h : k < r.length) : (r.take (k + 1)).all (goodRow n) = ((r.take k).all (goodRow n) && goodRow n r[k]) := by
  rw [List.take_succ_eq_append_getElem h, List.all_append]; simp only [List.all_cons, List.all_nil, Bool.and_true]
theorem allr_bad (n : Nat) (r : List (List GV)) (k : Nat) (h : k < r.length) (hb : goodRow n r[k] = false) : r.all (goodRow n) = false := by
  rw [List.all_eq_false]; exact ⟨r[k], List.getElem_mem h, by simp [hb]⟩
theorem asc_snoc : ∀ (rows : List (List GV)) (k : Nat) (h : k + 1 < rows.length), ascB (rows.take (k + 2)) = (ascB (rows.take (k + 1)) && decide (cmpR rows[k] rows[k + 1] < 0))
  | a :: b :: rows, 0, h => by simp [ascB]
  | a :: b :: rows, k + 1, h => by
    have := asc_snoc (b :: rows) k (by simpa using h)
    simp only [List.take_succ_cons, ascB] at this ⊢
    rw [this, Bool.and_assoc]
    rfl
  | [a], k, h => by simp at h
  | [], k, h => by simp at h
theorem asc_bad : ∀ (rows : List (List GV)) (k : Nat) (h : k + 1 < rows.length), ¬ cmpR rows[k] rows[k + 1] < 0 → ascB rows = false
  | a :: b :: rows, 0, h, hb => by simp [ascB]; intro h; simp at hb; omega
  | a :: b :: rows, k + 1, h, hb => by
    have := asc_bad (b :: rows) k (by simpa using h) (by simpa using hb)
    simp only [ascB, this, Bool.and_false]
  | [a], k, h, hb => by simp at h
  | [], k, h, hb => by simp at h
theorem asc_one (rows : List (List GV)) : ascB (rows.take 1) = true := by
  cases rows <;> simp [ascB]
theorem table_bad {rows : List (List GV)} (h : rows.all (goodRow (wid rows)) = false) : tableOkB rows = false := by
  unfold tableOkB rowsOkB; rw [h]; rfl
theorem table_asc {rows : List (List GV)} (h : ascB rows = false) : tableOkB rows = false := by
  unfold tableOkB; rw [h]; simp
end Go.Proofs.Yteoepnadjkjlmaa
