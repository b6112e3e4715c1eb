/-
  What the laws over strconv's tables share: the table out of a row's list, and a world for the witness.
-/
import Derived.Test.YtakidcehebpmkaaDoorShowVal
import Derived.Test.YtakidcehebpmkaaDoorOpen
import Derived.WalkKit
import Derived.ProofKit
import Derived.OpenShut
import Derived.Deep.DeepHandedRow
import Derived.Lib.LaidTab
import Derived.LaidSub
import Derived.Test.YtakidcehebpmkaaDoorRows
namespace Go.Proofs.YtakidcehebpmkaaDoor
open Go.ChangeShapes Go.WideShapes Go.ChangeAt Go.RowKit
set_option linter.unusedVariables false

theorem powType : (Tryd.prog.globals[0]?).map (·.type) = some 116 := by kernel_rfl
theorem cellsPow : Tryd.prog.cellsOf 116 = 20 := by kernel_rfl
theorem cellsU64 : Tryd.prog.cellsOf 96 = 1 := by kernel_rfl
theorem pow_tab {W : World} {laid : List (String × DataW Unit)} (ho : (laid.filter fun x => x.1 == "internal/strconv.uint64pow10") = [("internal/strconv.uint64pow10", Lib.tabData .u64 Lib.pow10Tab)])
    (h : laidMetH Tryd.prog laid W) : PowTab W := by
  have h1 := h.filter fun x => x.1 == "internal/strconv.uint64pow10"
  rw [ho] at h1
  exact Lib.tabIs_of_head (rest := []) powNamed powType Tryd.underlying116 Tryd.underlying96 cellsU64 cellsPow h1

/-- The numbers of math/bits' two tables. -/
def tab32 : List Int := [0, 1, 28, 2, 29, 14, 24, 3, 30, 22, 20, 15, 25, 17, 4, 8, 31, 27, 13, 23, 21, 19, 16, 7, 26, 12, 18, 6, 11, 5, 10, 9]
def tab64 : List Int := [0, 1, 56, 2, 57, 49, 28, 3, 61, 58, 42, 50, 38, 29, 17, 4, 62, 47, 59, 36, 45, 43, 51, 22, 53, 39, 33, 30, 24, 18, 12, 5, 63, 55, 48, 27, 60, 41, 37, 16, 46, 35, 44, 21, 52, 32, 23, 11, 54, 26, 40, 15, 34, 20, 31, 10, 25, 14, 19, 9, 13, 8, 7, 6]
/-- One block's cells laid anew. -/
def layCells (h : Array Obj) (g : Nat) (cs : Array Value) : Array Obj := h.modify g fun
  | .cells _ t frozen => .cells cs t frozen
  | o => o
/-- A world for the witness: the settled one, the three tables as their initialisers lay them. -/
noncomputable def laidWorld (os : Os) : World :=
  { World.holding Tryd.prog os ⟨#[], #[], []⟩ with heap := layCells (layCells (layCells (World.holding Tryd.prog os ⟨#[], #[], []⟩).heap 0 (Lib.pow10Tab.map fun z => Value.int .u64 z).toArray)
      4 (tab32.map fun z => Value.int .u8 z).toArray) 5 (tab64.map fun z => Value.int .u8 z).toArray }

end Go.Proofs.YtakidcehebpmkaaDoor
