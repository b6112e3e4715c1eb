/-
  The order of values: mathematics. The order of rows: mathematics.
-/
import Derived.Test.YteoepnadjkjlmaaValueOkSZ
import Derived.Test.YteoepnadjkjlmaaRetZ
import Derived.Laws.Cover1
import Derived.Deep.RegionHeld3
import Derived.Sort.Walk0
import Derived.Test.YteoepnadjkjlmaaMemB
namespace Go.Proofs.Yteoepnadjkjlmaa
open Go.RowKit
set_option linter.unusedVariables false

def cmpI (a b : Int) : Int := if a < b then -1 else if b < a then 1 else 0

def ltT (a b : ByteArray) : Bool := Op.bytesLess a.toList b.toList
def cmpT (a b : ByteArray) : Int := if ltT a b = true then -1 else if a = b then 0 else 1
def or3 (a b c : Int) : Int := if a ≠ 0 then a else if b ≠ 0 then b else c
def cmpV (k n : Int) (t : ByteArray) (k' n' : Int) (t' : ByteArray) : Int := or3 (cmpI k k') (cmpI n n') (cmpT t t')
def signB (b : Bool) : Int := if b = true then -1 else 1
theorem cmpI_self (a : Int) : cmpI a a = 0 := by unfold cmpI; rw [if_neg (by omega), if_neg (by omega)]
theorem cmpI_ne {a b : Int} (h : a ≠ b) : cmpI a b = signB (decide (a < b)) := by
  unfold cmpI signB
  by_cases hl : a < b
  · simp [hl]
  · rw [if_neg hl, if_pos (by omega)]; simp [hl]
theorem signB_ne0 (b : Bool) : signB b ≠ 0 := by cases b <;> simp [signB]
theorem ltT_irrefl (a : ByteArray) : ltT a a = false := by
  unfold ltT; rw [bytesLess_eq]; simp
theorem cmpT_self (a : ByteArray) : cmpT a a = 0 := by
  unfold cmpT; rw [ltT_irrefl]; simp
theorem cmpT_ne {a b : ByteArray} (h : a ≠ b) : cmpT a b = signB (Op.bytesLess a.toList b.toList) := by
  unfold cmpT ltT signB; rw [if_neg h]
theorem cmpV_self (k n : Int) (t : ByteArray) : cmpV k n t k n t = 0 := by simp [cmpV, or3, cmpI_self, cmpT_self]
theorem cmpV_t (k n : Int) (t t' : ByteArray) (h : t ≠ t') : cmpV k n t k n t' = signB (Op.bytesLess t.toList t'.toList) := by simp [cmpV, or3, cmpI_self, cmpT_ne h]
theorem cmpV_n (k n n' : Int) (t t' : ByteArray) (h : n ≠ n') : cmpV k n t k n' t' = signB (decide (n < n')) := by
  unfold cmpV or3; rw [cmpI_self, cmpI_ne h]; simp [signB_ne0]
theorem cmpV_k (k n k' n' : Int) (t t' : ByteArray) (h : k ≠ k') : cmpV k n t k' n' t' = signB (decide (k < k')) := by
  unfold cmpV or3; rw [cmpI_ne h]; simp [signB_ne0]
end Go.Proofs.Yteoepnadjkjlmaa
namespace Go.Proofs.Yteoepnadjkjlmaa
open Go.RowKit
set_option linter.unusedVariables false

def cmpG (a b : GV) : Int := cmpV a.k a.n a.t b.k b.n b.t
def cmpR : List GV → List GV → Int
  | [], [] => 0
  | [], _ :: _ => -1
  | _ :: _, [] => 1
  | a :: x, b :: y => if cmpG a b = 0 then cmpR x y else cmpG a b
theorem cmpR_step {x y : List GV} {k : Nat} (h : k < x.length) (h' : k < y.length) :
    cmpR (x.drop k) (y.drop k) = if cmpG x[k] y[k] = 0 then cmpR (x.drop (k + 1)) (y.drop (k + 1)) else cmpG x[k] y[k] := by
  rw [List.drop_eq_getElem_cons h, List.drop_eq_getElem_cons h']
  rfl
theorem cmpR_nil {x y : List GV} (h : x = [] ∨ y = []) : cmpR x y = cmpI x.length y.length := by
  rcases h with rfl | rfl
  · cases y with
    | nil => simp [cmpR, cmpI]
    | cons b y => simp only [cmpR, cmpI, List.length_nil, List.length_cons]; rw [if_pos (by omega)]
  · cases x with
    | nil => simp [cmpR, cmpI]
    | cons b y => simp only [cmpR, cmpI, List.length_nil, List.length_cons]; rw [if_neg (by omega), if_pos (by omega)]
theorem cmpR_end {x y : List GV} {k : Nat} (h : k ≤ x.length) (h' : k ≤ y.length) (hk : k = x.length ∨ k = y.length) : cmpR (x.drop k) (y.drop k) = cmpI x.length y.length := by
  rw [cmpR_nil (by rcases hk with rfl | rfl; exact .inl (by simp); exact .inr (by simp))]
  simp only [List.length_drop, cmpI]
  by_cases h1 : (x.length : Int) < y.length
  · rw [if_pos (by omega), if_pos h1]
  · rw [if_neg (by omega), if_neg h1]
    by_cases h2 : (y.length : Int) < x.length
    · rw [if_pos (by omega), if_pos h2]
    · rw [if_neg (by omega), if_neg h2]
end Go.Proofs.Yteoepnadjkjlmaa
