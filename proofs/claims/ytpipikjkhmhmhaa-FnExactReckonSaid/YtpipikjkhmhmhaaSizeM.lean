/-
  The size of a valid value's text.
-/
import Derived.Test.YtpipikjkhmhmhaaRowOkS
import Derived.Lib.Strings
namespace Go.Proofs.Ytpipikjkhmhmhaa
open Go.RowKit
set_option linter.unusedVariables false

theorem empty_size {t : ByteArray} (h : t.toList.isEmpty = true) : t.size ≤ 60 := by
  rw [Lib.toList_data, List.isEmpty_iff] at h
  have : t.data.toList.length = 0 := by rw [h]; rfl
  have e : t.size = t.data.toList.length := by simp
  omega
theorem okG_size {v : GV} (h : okG v = true) : v.t.size ≤ 60 := by
  unfold okG valueOkB at h
  split at h
  · simp only [Bool.and_eq_true] at h; exact empty_size h.2
  · split at h
    · simp only [Bool.and_eq_true] at h
      have := h.2
      unfold textOkB at this
      simp only [Bool.and_eq_true, decide_eq_true_eq] at this
      exact this.2
    · split at h
      · simp only [Bool.and_eq_true] at h; exact empty_size h.2
      · cases h
end Go.Proofs.Ytpipikjkhmhmhaa
