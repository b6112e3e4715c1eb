/-
  What the laws' measure says of a list of differences.
-/
import Derived.Test.YtkkgiojgejfhlaaTyDiff
namespace Go.Proofs.Ytkkgiojgejfhlaa
open Go.RowKit
set_option linter.unusedVariables false

theorem diffs_small {zs : List GDiff} (h : costDiffs zs ≤ 1048576) : ∀ z ∈ zs, z.row.length ≤ 1048576 ∧ ∀ v ∈ z.row, v.t.size ≤ maxLen := by
  intro z hz
  have h1 : costValues z.row ≤ sumC costDiff zs := sumC_mem costDiff zs z hz
  have h2 : costValues z.row ≤ 1048576 := by unfold costDiffs at h; omega
  refine ⟨by unfold costValues at h2; omega, fun v hv => ?_⟩
  have h3 : v.t.size ≤ sumC costValue z.row := sumC_mem costValue z.row v hv
  unfold costValues at h2
  unfold maxLen
  omega
theorem diffs_texts {zs : List GDiff} (h : costDiffs zs ≤ 1048576) : ∀ z ∈ zs, ∀ v ∈ z.row, v.t.size ≤ 1048576 := by
  intro z hz v hv
  have h1 : costValues z.row ≤ sumC costDiff zs := sumC_mem costDiff zs z hz
  have h2 : costValues z.row ≤ 1048576 := by unfold costDiffs at h; omega
  have h3 : v.t.size ≤ sumC costValue z.row := sumC_mem costValue z.row v hv
  unfold costValues at h2
  omega
end Go.Proofs.Ytkkgiojgejfhlaa
