/-
  What an expression is worth: mathematics.
-/
import Derived.Test.YtpipikjkhmhmhaaOkMath
import Derived.Test.YtpipikjkhmhmhaaTyStr
namespace Go.Proofs.Ytpipikjkhmhmhaa
open Go.RowKit Go.Sort
set_option linter.unusedVariables false

/-- The place of a name: of equal ones the first; the length if there is none. -/
def idxN (names : List ByteArray) (s : ByteArray) : Nat := names.findIdx (fun n => n.toList == s.toList)
theorem idx_at (names : List ByteArray) (s : ByteArray) (k : Nat) (h : k < names.length) (hk : k ≤ idxN names s) (hb : (names[k].toList == s.toList) = true) : idxN names s = k := by
  unfold idxN at hk ⊢
  rcases Nat.lt_or_ge k (names.findIdx (fun n => n.toList == s.toList)) with h' | h'
  · have := List.not_of_lt_findIdx h'
    simp only [hb] at this
    cases this
  · omega
theorem idx_next (names : List ByteArray) (s : ByteArray) (k : Nat) (h : k < names.length) (hk : k ≤ idxN names s) (hb : (names[k].toList == s.toList) = false) : k + 1 ≤ idxN names s := by
  rcases Nat.lt_or_ge k (idxN names s) with h' | h'
  · exact h'
  · have e : idxN names s = k := by omega
    have h2 : names.findIdx (fun n => n.toList == s.toList) < names.length := by unfold idxN at e; omega
    have := List.findIdx_getElem (w := h2)
    unfold idxN at e
    simp only [e] at this
    rw [hb] at this
    cases this
theorem idx_le (names : List ByteArray) (s : ByteArray) : idxN names s ≤ names.length := List.findIdx_le_length
theorem idx_hit (names : List ByteArray) (s : ByteArray) (h : idxN names s < names.length) : (names[idxN names s].toList == s.toList) = true := by
  unfold idxN at h ⊢
  exact List.findIdx_getElem (w := h)
def calcN (k a b : Int) : Int := if k = 3 then a + b else if k = 4 then a - b else a * b
def calcV (k : Int) (a b : GV) : Option GV := if a.k = 1 ∧ b.k = 1 ∧ -1000000000 ≤ calcN k a.n b.n ∧ calcN k a.n b.n ≤ 1000000000 then some ⟨1, calcN k a.n b.n, ByteArray.empty⟩ else none
def evalT (names : List ByteArray) (vals : List GV) : Tr → Option GV
  | .var s => vals[idxN names s]?
  | .con v => some v
  | .any => none
  | .op k l r => match evalT names vals l, evalT names vals r with
    | some a, some b => calcV k a b
    | _, _ => none
/-- Integers within the limit. -/
def GoodV (v : GV) : Prop := v.k = 1 → -1000000000 ≤ v.n ∧ v.n ≤ 1000000000
theorem good_ok {v : GV} (h : valueOkB v.k v.n v.t = true) : GoodV v := by
  intro hk
  unfold valueOkB at h
  rw [hk] at h
  simp at h
  omega
theorem good_con {v : GV} (h : conB v = true) : GoodV v := by
  unfold conB at h
  rw [Bool.and_eq_true] at h
  exact good_ok h.1
theorem eval_good (names : List ByteArray) (vals : List GV) (hv : ∀ v ∈ vals, GoodV v) : ∀ (t : Tr), Wf t → ∀ v, evalT names vals t = some v → GoodV v
  | .var s, _, v, h => hv v (List.mem_of_getElem? h)
  | .con c, hw, v, h => by simp only [evalT, Option.some.injEq] at h; subst h; exact good_con hw
  | .any, _, v, h => by simp [evalT] at h
  | .op k l r, hw, v, h => by
    simp only [evalT] at h
    split at h
    · unfold calcV at h
      split at h
      · rename_i hc
        cases h
        intro _
        exact hc.2.2
      · cases h
    · cases h
def resV : Option GV → Value
  | some v => .tuple #[.agg #[.int .i64 v.k, .int .i64 v.n, .string v.t], .bool true]
  | none => .tuple #[.agg #[.int .i64 0, .int .i64 0, .string ⟨#[]⟩], .bool false]
/-- The value of an answer, zero if there is none. -/
def valO : Option GV → GV
  | some v => v
  | none => ⟨0, 0, ⟨#[]⟩⟩
theorem resV_eq (o : Option GV) : resV o = .tuple #[.agg #[.int .i64 (valO o).k, .int .i64 (valO o).n, .string (valO o).t], .bool o.isSome] := by cases o <;> rfl
theorem calc_wide {k : Int} {a b : GV} (ha : GoodV a) (hb : GoodV b) (ka : a.k = 1) (kb : b.k = 1) : -9000000000000000000 ≤ calcN k a.n b.n ∧ calcN k a.n b.n ≤ 9000000000000000000 := by
  have h1 := ha ka
  have h2 := hb kb
  unfold calcN
  split
  · omega
  · split
    · omega
    · have hm : a.n.natAbs * b.n.natAbs ≤ 1000000000 * 1000000000 := Nat.mul_le_mul (by omega) (by omega)
      have h3 : (a.n * b.n).natAbs = a.n.natAbs * b.n.natAbs := Int.natAbs_mul _ _
      omega
theorem eval_op (names : List ByteArray) (vals : List GV) (k : Int) (l r : Tr) (hk : (valO (evalT names vals l)).k = 1) (hk2 : (valO (evalT names vals r)).k = 1) : evalT names vals (.op k l r) = calcV k (valO (evalT names vals l)) (valO (evalT names vals r)) := by
  simp only [evalT]
  cases h1 : evalT names vals l with
  | none => rw [h1] at hk; simp [valO] at hk
  | some a =>
    cases h2 : evalT names vals r with
    | none => rw [h2] at hk2; simp [valO] at hk2
    | some b => rfl
theorem eval_op_l (names : List ByteArray) (vals : List GV) (k : Int) (l r : Tr) (hk : (valO (evalT names vals l)).k ≠ 1) : evalT names vals (.op k l r) = none := by
  simp only [evalT]
  cases h1 : evalT names vals l with
  | none => rfl
  | some a =>
    cases h2 : evalT names vals r with
    | none => rfl
    | some b =>
      rw [h1] at hk
      simp only [valO] at hk
      show calcV k a b = none
      unfold calcV
      rw [if_neg (fun h => hk h.1)]
theorem eval_op_r (names : List ByteArray) (vals : List GV) (k : Int) (l r : Tr) (hk : (valO (evalT names vals r)).k ≠ 1) : evalT names vals (.op k l r) = none := by
  simp only [evalT]
  cases h1 : evalT names vals l with
  | none => rfl
  | some a =>
    cases h2 : evalT names vals r with
    | none => rfl
    | some b =>
      rw [h2] at hk
      simp only [valO] at hk
      show calcV k a b = none
      unfold calcV
      rw [if_neg (fun h => hk h.2.1)]
end Go.Proofs.Ytpipikjkhmhmhaa
