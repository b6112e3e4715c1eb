/-
  The order of values: mathematics.
-/
import Derived.Test.YteoepnadjkjlmaaTextS
import Derived.Test.YteoepnadjkjlmaaFrame
import Derived.Laws.Cover1
import Derived.Deep.RegionHeld3
import Derived.Sort.Walk0
namespace Go.Proofs.Yteoepnadjkjlmaa
open Go.RowKit
set_option linter.unusedVariables false

def cmpI (a b : Int) : Int := if a < b then -1 else if b < a then 1 else 0

def ltT (a b : ByteArray) : Bool := Op.bytesLess a.toList b.toList
def cmpT (a b : ByteArray) : Int := if ltT a b = true then -1 else if a = b then 0 else 1
def or3 (a b c : Int) : Int := if a ≠ 0 then a else if b ≠ 0 then b else c
def cmpV (k n : Int) (t : ByteArray) (k' n' : Int) (t' : ByteArray) : Int := or3 (cmpI k k') (cmpI n n') (cmpT t t')
def signB (b : Bool) : Int := if b = true then -1 else 1
theorem cmpI_self (a : Int) : cmpI a a = 0 := by unfold cmpI; rw [if_neg (by omega), if_neg (by omega)]
theorem cmpI_ne {a b : Int} (h : a ≠ b) : cmpI a b = signB (decide (a < b)) := by
  unfold cmpI signB
  by_cases hl : a < b
  · simp [hl]
  · rw [if_neg hl, if_pos (by omega)]; simp [hl]
theorem signB_ne0 (b : Bool) : signB b ≠ 0 := by cases b <;> simp [signB]
theorem ltT_irrefl (a : ByteArray) : ltT a a = false := by
  unfold ltT; rw [bytesLess_eq]; simp
theorem cmpT_self (a : ByteArray) : cmpT a a = 0 := by
  unfold cmpT; rw [ltT_irrefl]; simp
theorem cmpT_ne {a b : ByteArray} (h : a ≠ b) : cmpT a b = signB (Op.bytesLess a.toList b.toList) := by
  unfold cmpT ltT signB; rw [if_neg h]
theorem cmpV_self (k n : Int) (t : ByteArray) : cmpV k n t k n t = 0 := by simp [cmpV, or3, cmpI_self, cmpT_self]
theorem cmpV_t (k n : Int) (t t' : ByteArray) (h : t ≠ t') : cmpV k n t k n t' = signB (Op.bytesLess t.toList t'.toList) := by simp [cmpV, or3, cmpI_self, cmpT_ne h]
theorem cmpV_n (k n n' : Int) (t t' : ByteArray) (h : n ≠ n') : cmpV k n t k n' t' = signB (decide (n < n')) := by
  unfold cmpV or3; rw [cmpI_self, cmpI_ne h]; simp [signB_ne0]
theorem cmpV_k (k n k' n' : Int) (t t' : ByteArray) (h : k ≠ k') : cmpV k n t k' n' t' = signB (decide (k < k')) := by
  unfold cmpV or3; rw [cmpI_ne h]; simp [signB_ne0]
end Go.Proofs.Yteoepnadjkjlmaa
