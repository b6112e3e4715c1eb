/-
  Small words for how arguments read.
-/
import Derived.Test.YteoepnadjkjlmaaMemB
import Derived.OpenShut
import Derived.Lib.SmallJoins
import Derived.ChangeOld
namespace Go.Proofs.Yteoepnadjkjlmaa
open Go.ChangeShapes Go.WideShapes Go.ChangeAt Go.RowKit Go.Joins Go.Deep
set_option linter.unusedVariables false

theorem own : ownKnob Try.prog.godebug = none := by kernel_rfl
theorem laidOut : laidOutB Try.prog = true := by kernel_rfl
instance : Inhabited GV := ⟨⟨0, 0, ByteArray.empty⟩⟩
theorem cell_add {w : World} {a : Addr} {n : Nat} {v : Value} (hn : 0 < n) : w.cell? (a.add n) = some v → w.cell? ⟨a.block, a.off + n, none⟩ = some v := by
  intro h
  simpa [Addr.add, Nat.pos_iff_ne_zero.1 hn] using h
theorem cell_add0 {w : World} {a : Addr} {n : Nat} {v : Value} (h : w.cell? (a.add n) = some v) : w.cell? ⟨a.block, a.off + n, none⟩ = some v := by
  rcases Nat.eq_zero_or_pos n with rfl | hn
  · have hs := World.cell?_spot h
    obtain ⟨bk, off, sp⟩ := a
    simp [Addr.add] at h hs
    subst hs
    simpa using h
  · exact cell_add hn h
end Go.Proofs.Yteoepnadjkjlmaa
