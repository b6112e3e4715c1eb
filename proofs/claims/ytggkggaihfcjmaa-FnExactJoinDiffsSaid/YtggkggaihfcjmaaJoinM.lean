/-
  The join of two lists of differences: mathematics.
-/
import Derived.Test.YtggkggaihfcjmaaSumD
namespace Go.Proofs.Ytggkggaihfcjmaa
set_option linter.unusedVariables false

def pairD (n : Nat) (x y : GDiff) : List GDiff := if cmpR (x.row.take n) (y.row.take n) = 0 then [⟨x.row ++ y.row.drop n, x.count * y.count⟩] else []
def rowJ (n : Nat) (x : GDiff) (b : List GDiff) : List GDiff := b.flatMap (pairD n x)
def pairsD (n : Nat) (a b : List GDiff) : List GDiff := a.flatMap fun x => rowJ n x b
def widD (a : List GDiff) : Nat := wid (rowsD a)
/-- What the join asks of its arguments. -/
def joinB (a b : List GDiff) (on : Int) : Bool := diffOkB a && diffOkB b && decide (0 ≤ on) && !a.isEmpty && !b.isEmpty && decide (on ≤ widD a) && decide (on ≤ widD b) && decide ((widD a : Int) + widD b - on ≤ 8)
def joinD (a b : List GDiff) (on : Int) : List GDiff := if joinB a b on = true ∧ (pairsD on.toNat a b).length ≤ 3000 then orD (sumD (pairsD on.toNat a b)) else []
theorem rowJ_snoc (n : Nat) (x : GDiff) (b : List GDiff) (k : Nat) (h : k < b.length) : rowJ n x (b.take (k + 1)) = rowJ n x (b.take k) ++ pairD n x b[k] := by
  unfold rowJ; rw [List.take_succ_eq_append_getElem h, List.flatMap_append]; simp
theorem pairsD_snoc (n : Nat) (a b : List GDiff) (k : Nat) (h : k < a.length) : pairsD n (a.take (k + 1)) b = pairsD n (a.take k) b ++ rowJ n a[k] b := by
  unfold pairsD; rw [List.take_succ_eq_append_getElem h, List.flatMap_append]; simp
theorem pairsD_take (n : Nat) (a b : List GDiff) (k : Nat) : (pairsD n (a.take k) b).length ≤ (pairsD n a b).length := by
  conv => rhs; rw [← List.take_append_drop k a]
  unfold pairsD
  rw [List.flatMap_append, List.length_append]; omega
theorem rowJ_length (n : Nat) (x : GDiff) (b : List GDiff) : (rowJ n x b).length ≤ b.length := by
  unfold rowJ
  induction b with
  | nil => simp
  | cons y b ih =>
    rw [List.flatMap_cons, List.length_append, List.length_cons]
    have : (pairD n x y).length ≤ 1 := by unfold pairD; split <;> simp
    omega
theorem rowJ_take (n : Nat) (x : GDiff) (b : List GDiff) (k : Nat) : (rowJ n x (b.take k)).length ≤ b.length := by
  have := rowJ_length n x (b.take k)
  rw [List.length_take] at this
  omega
/-- Rows and counts of the pairs. -/
theorem pairsD_mem {n : Nat} {a b : List GDiff} {z : GDiff} (h : z ∈ pairsD n a b) : ∃ x ∈ a, ∃ y ∈ b, z = ⟨x.row ++ y.row.drop n, x.count * y.count⟩ := by
  unfold pairsD rowJ at h
  rw [List.mem_flatMap] at h
  obtain ⟨x, hx, h⟩ := h
  rw [List.mem_flatMap] at h
  obtain ⟨y, hy, h⟩ := h
  unfold pairD at h
  split at h
  · simp at h; exact ⟨x, hx, y, hy, h⟩
  · simp at h
theorem empty_size {t : ByteArray} (h : t.toList.isEmpty = true) : t.size ≤ 60 := by
  rw [Lib.toList_data, List.isEmpty_iff] at h
  have : t.data.toList.length = 0 := by rw [h]; rfl
  have e : t.size = t.data.toList.length := by simp
  omega
theorem okG_size {v : GV} (h : okG v = true) : v.t.size ≤ 60 := by
  unfold okG valueOkB at h
  split at h
  · simp only [Bool.and_eq_true] at h; exact empty_size h.2
  · split at h
    · simp only [Bool.and_eq_true] at h
      have := h.2
      unfold textOkB at this
      simp only [Bool.and_eq_true, decide_eq_true_eq] at this
      exact this.2
    · split at h
      · simp only [Bool.and_eq_true] at h; exact empty_size h.2
      · cases h
theorem diffOk_all {zs : List GDiff} (h : diffOkB zs = true) : zs.length ≤ 3000 ∧ ∀ z ∈ zs, z.row.length = widD zs ∧ z.row.length ≤ 8 ∧ (∀ v ∈ z.row, v.t.size ≤ 60) ∧ -1000000 ≤ z.count ∧ z.count ≤ 1000000 := by
  unfold diffOkB at h
  simp only [Bool.and_eq_true, decide_eq_true_eq] at h
  refine ⟨h.1.1, fun z hz => ?_⟩
  have h2 := (List.all_eq_true.1 h.1.2) z hz
  unfold goodD goodRow cntB at h2
  simp only [Bool.and_eq_true, decide_eq_true_eq] at h2
  have h3 := h2.1.1
  unfold rowOkB at h3
  simp only [Bool.and_eq_true, decide_eq_true_eq] at h3
  refine ⟨h2.1.2, h3.2, fun v hv => ?_, h2.2.1.2, h2.2.2⟩
  exact okG_size ((List.all_eq_true.1 h3.1) v hv)
end Go.Proofs.Ytggkggaihfcjmaa
