/-
  The order of values: mathematics. The order of rows: mathematics. What a table must be: mathematics.
-/
import Derived.Test.YteoepnadjkjlmaaGreatRowOkSZ
import Derived.Laws.Cover1
import Derived.Deep.RegionHeld3
import Derived.Sort.Walk0
namespace Go.Proofs.YteoepnadjkjlmaaGreat
open Go.RowKit
set_option linter.unusedVariables false

def cmpI (a b : Int) : Int := if a < b then -1 else if b < a then 1 else 0

def ltT (a b : ByteArray) : Bool := Op.bytesLess a.toList b.toList
def cmpT (a b : ByteArray) : Int := if ltT a b = true then -1 else if a = b then 0 else 1
def or3 (a b c : Int) : Int := if a ≠ 0 then a else if b ≠ 0 then b else c
def cmpV (k n : Int) (t : ByteArray) (k' n' : Int) (t' : ByteArray) : Int := or3 (cmpI k k') (cmpI n n') (cmpT t t')
def signB (b : Bool) : Int := if b = true then -1 else 1
theorem cmpI_self (a : Int) : cmpI a a = 0 := by unfold cmpI; rw [if_neg (by omega), if_neg (by omega)]
theorem cmpI_ne {a b : Int} (h : a ≠ b) : cmpI a b = signB (decide (a < b)) := by
  unfold cmpI signB
  by_cases hl : a < b
  · simp [hl]
  · rw [if_neg hl, if_pos (by omega)]; simp [hl]
theorem signB_ne0 (b : Bool) : signB b ≠ 0 := by cases b <;> simp [signB]
theorem ltT_irrefl (a : ByteArray) : ltT a a = false := by
  unfold ltT; rw [bytesLess_eq]; simp
theorem cmpT_self (a : ByteArray) : cmpT a a = 0 := by
  unfold cmpT; rw [ltT_irrefl]; simp
theorem cmpT_ne {a b : ByteArray} (h : a ≠ b) : cmpT a b = signB (Op.bytesLess a.toList b.toList) := by
  unfold cmpT ltT signB; rw [if_neg h]
theorem cmpV_self (k n : Int) (t : ByteArray) : cmpV k n t k n t = 0 := by simp [cmpV, or3, cmpI_self, cmpT_self]
theorem cmpV_t (k n : Int) (t t' : ByteArray) (h : t ≠ t') : cmpV k n t k n t' = signB (Op.bytesLess t.toList t'.toList) := by simp [cmpV, or3, cmpI_self, cmpT_ne h]
theorem cmpV_n (k n n' : Int) (t t' : ByteArray) (h : n ≠ n') : cmpV k n t k n' t' = signB (decide (n < n')) := by
  unfold cmpV or3; rw [cmpI_self, cmpI_ne h]; simp [signB_ne0]
theorem cmpV_k (k n k' n' : Int) (t t' : ByteArray) (h : k ≠ k') : cmpV k n t k' n' t' = signB (decide (k < k')) := by
  unfold cmpV or3; rw [cmpI_ne h]; simp [signB_ne0]
end Go.Proofs.YteoepnadjkjlmaaGreat
namespace Go.Proofs.YteoepnadjkjlmaaGreat
open Go.RowKit
set_option linter.unusedVariables false

def cmpG (a b : GV) : Int := cmpV a.k a.n a.t b.k b.n b.t
def cmpR : List GV → List GV → Int
  | [], [] => 0
  | [], _ :: _ => -1
  | _ :: _, [] => 1
  | a :: x, b :: y => if cmpG a b = 0 then cmpR x y else cmpG a b
theorem cmpR_step {x y : List GV} {k : Nat} (h : k < x.length) (h' : k < y.length) :
    cmpR (x.drop k) (y.drop k) = if cmpG x[k] y[k] = 0 then cmpR (x.drop (k + 1)) (y.drop (k + 1)) else cmpG x[k] y[k] := by
  rw [List.drop_eq_getElem_cons h, List.drop_eq_getElem_cons h']
  rfl
theorem cmpR_nil {x y : List GV} (h : x = [] ∨ y = []) : cmpR x y = cmpI x.length y.length := by
  rcases h with rfl | rfl
  · cases y with
    | nil => simp [cmpR, cmpI]
    | cons b y => simp only [cmpR, cmpI, List.length_nil, List.length_cons]; rw [if_pos (by omega)]
  · cases x with
    | nil => simp [cmpR, cmpI]
    | cons b y => simp only [cmpR, cmpI, List.length_nil, List.length_cons]; rw [if_neg (by omega), if_pos (by omega)]
theorem cmpR_end {x y : List GV} {k : Nat} (h : k ≤ x.length) (h' : k ≤ y.length) (hk : k = x.length ∨ k = y.length) : cmpR (x.drop k) (y.drop k) = cmpI x.length y.length := by
  rw [cmpR_nil (by rcases hk with rfl | rfl; exact .inl (by simp); exact .inr (by simp))]
  simp only [List.length_drop, cmpI]
  by_cases h1 : (x.length : Int) < y.length
  · rw [if_pos (by omega), if_pos h1]
  · rw [if_neg (by omega), if_neg h1]
    by_cases h2 : (y.length : Int) < x.length
    · rw [if_pos (by omega), if_pos h2]
    · rw [if_neg (by omega), if_neg h2]
end Go.Proofs.YteoepnadjkjlmaaGreat
namespace Go.Proofs.YteoepnadjkjlmaaGreat
open Go.RowKit
set_option linter.unusedVariables false

def wid : List (List GV) → Nat
  | [] => 0
  | r :: _ => r.length
def goodRow (n : Nat) (r : List GV) : Bool := rowOkB r && decide (r.length = n)
def rowsOkB (rows : List (List GV)) : Bool := rows.all (goodRow (wid rows)) && decide (rows.length ≤ 3000)
def ascB : List (List GV) → Bool
  | a :: b :: rows => decide (cmpR a b < 0) && ascB (b :: rows)
  | _ => true
def tableOkB (rows : List (List GV)) : Bool := rowsOkB rows && ascB rows

theorem wid_eq {rows : List (List GV)} (h : 0 < rows.length) : wid rows = rows[0].length := by
  cases rows with
  | nil => simp at h
  | cons r rows => rfl
theorem allr_snoc (n : Nat) (r : List (List GV)) (k : Nat) (h : k < r.length) : (r.take (k + 1)).all (goodRow n) = ((r.take k).all (goodRow n) && goodRow n r[k]) := by
  rw [List.take_succ_eq_append_getElem h, List.all_append]; simp only [List.all_cons, List.all_nil, Bool.and_true]
theorem allr_bad (n : Nat) (r : List (List GV)) (k : Nat) (h : k < r.length) (hb : goodRow n r[k] = false) : r.all (goodRow n) = false := by
  rw [List.all_eq_false]; exact ⟨r[k], List.getElem_mem h, by simp [hb]⟩
theorem asc_snoc : ∀ (rows : List (List GV)) (k : Nat) (h : k + 1 < rows.length), ascB (rows.take (k + 2)) = (ascB (rows.take (k + 1)) && decide (cmpR rows[k] rows[k + 1] < 0))
  | a :: b :: rows, 0, h => by simp [ascB]
  | a :: b :: rows, k + 1, h => by
    have := asc_snoc (b :: rows) k (by simpa using h)
    simp only [List.take_succ_cons, ascB] at this ⊢
    rw [this, Bool.and_assoc]
    rfl
  | [a], k, h => by simp at h
  | [], k, h => by simp at h
theorem asc_bad : ∀ (rows : List (List GV)) (k : Nat) (h : k + 1 < rows.length), ¬ cmpR rows[k] rows[k + 1] < 0 → ascB rows = false
  | a :: b :: rows, 0, h, hb => by simp [ascB]; intro h; simp at hb; omega
  | a :: b :: rows, k + 1, h, hb => by
    have := asc_bad (b :: rows) k (by simpa using h) (by simpa using hb)
    simp only [ascB, this, Bool.and_false]
  | [a], k, h, hb => by simp at h
  | [], k, h, hb => by simp at h
theorem asc_one (rows : List (List GV)) : ascB (rows.take 1) = true := by
  cases rows <;> simp [ascB]
theorem table_bad {rows : List (List GV)} (h : rows.all (goodRow (wid rows)) = false) : tableOkB rows = false := by
  unfold tableOkB rowsOkB; rw [h]; rfl
theorem table_asc {rows : List (List GV)} (h : ascB rows = false) : tableOkB rows = false := by
  unfold tableOkB; rw [h]; simp
end Go.Proofs.YteoepnadjkjlmaaGreat
