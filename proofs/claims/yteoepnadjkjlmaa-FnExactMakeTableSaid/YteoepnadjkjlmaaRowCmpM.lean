/-
  The order of rows: mathematics.
-/
import Derived.Test.YteoepnadjkjlmaaMemB
import Derived.Test.YteoepnadjkjlmaaCmpM
namespace Go.Proofs.Yteoepnadjkjlmaa
open Go.RowKit
set_option linter.unusedVariables false

def cmpG (a b : GV) : Int := cmpV a.k a.n a.t b.k b.n b.t
def cmpR : List GV → List GV → Int
  | [], [] => 0
  | [], _ :: _ => -1
  | _ :: _, [] => 1
  | a :: x, b :: y => if cmpG a b = 0 then cmpR x y else cmpG a b
theorem cmpR_step {x y : List GV} {k : Nat} (h : k < x.length) (h' : k < y.length) :
    cmpR (x.drop k) (y.drop k) = if cmpG x[k] y[k] = 0 then cmpR (x.drop (k + 1)) (y.drop (k + 1)) else cmpG x[k] y[k] := by
  rw [List.drop_eq_getElem_cons h, List.drop_eq_getElem_cons h']
  rfl
theorem cmpR_nil {x y : List GV} (h : x = [] ∨ y = []) : cmpR x y = cmpI x.length y.length := by
  rcases h with rfl | rfl
  · cases y with
    | nil => simp [cmpR, cmpI]
    | cons b y => simp only [cmpR, cmpI, List.length_nil, List.length_cons]; rw [if_pos (by omega)]
  · cases x with
    | nil => simp [cmpR, cmpI]
    | cons b y => simp only [cmpR, cmpI, List.length_nil, List.length_cons]; rw [if_neg (by omega), if_pos (by omega)]
theorem cmpR_end {x y : List GV} {k : Nat} (h : k ≤ x.length) (h' : k ≤ y.length) (hk : k = x.length ∨ k = y.length) : cmpR (x.drop k) (y.drop k) = cmpI x.length y.length := by
  rw [cmpR_nil (by rcases hk with rfl | rfl; exact .inl (by simp); exact .inr (by simp))]
  simp only [List.length_drop, cmpI]
  by_cases h1 : (x.length : Int) < y.length
  · rw [if_pos (by omega), if_pos h1]
  · rw [if_neg (by omega), if_neg h1]
    by_cases h2 : (y.length : Int) < x.length
    · rw [if_pos (by omega), if_pos h2]
    · rw [if_neg (by omega), if_neg h2]
end Go.Proofs.Yteoepnadjkjlmaa
