/-
  How the arguments of the laws read: a value of the struct Value, opened to its three fields.
-/
import Derived.Test.YtakidcehebpmkaaFrame
import Derived.OpenShut
import Derived.Lib.SmallJoins
import Derived.ChangeOld
namespace Go.Proofs.Ytakidcehebpmkaa
open Go.ChangeShapes Go.WideShapes Go.ChangeAt Go.RowKit Go.Joins
set_option linter.unusedVariables false

theorem own : ownKnob Try.prog.godebug = none := by kernel_rfl
theorem laidOut : laidOutB Try.prog = true := by kernel_rfl
theorem cellsV : Try.prog.cellsOf 32 = 3 := by kernel_rfl

/-- The fields of a value as the reading gives them. -/
def FitV (k n : Int) (t : ByteArray) : Prop := (Lit.int .i64 k).wf = true ∧ (Lit.int .i64 n).wf = true ∧ t.size ≤ maxLen

set_option maxRecDepth 100000 in
theorem open_value {H : Type} {enc : TypeId × Value → H} {W : World} {base b : Nat} {spare : Nat → Bool} {held : Bool} {v : Value} {d : DataW H} {p : List MemPlace}
    (hv : Value.okWide Try.prog W .any base 32 v) (h : DataW.Trod enc Try.prog W b spare held 32 v d p) :
    ∃ (k n : Int) (t : ByteArray), v = .agg #[.int .i64 k, .int .i64 n, .string t] ∧ FitV k n t := by
  obtain ⟨c0, c1, c2, y0, y1, y2, m, rfl, hd, hp, hy0, hy1, hy2⟩ := open_agg3 Try.underlying32 (by kernel_rfl) cellsV hv h
  obtain ⟨k, e0, _, wk⟩ := DataW.trod_int Try.underlying2 hy0
  obtain ⟨n, e1, _, wn⟩ := DataW.trod_int Try.underlying2 hy1
  obtain ⟨t, e2, _, wt⟩ := DataW.trod_string Try.underlying9 hy2
  simp at e0 e1 e2
  subst e0 e1 e2
  exact ⟨k, n, t, rfl, wk, wn, wt⟩
end Go.Proofs.Ytakidcehebpmkaa
