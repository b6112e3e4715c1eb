/-
  What the laws over strconv.ParseInt share: the two errors out of a row's list, a world for the witness, a text read; spec.ReadValue.
-/
import Derived.Test.YtakidcehebpmkaaDoorReadSpecT
import Derived.Test.YtakidcehebpmkaaDoorDoor
import Derived.Stop.LaidErr
import Derived.Deep.DeepWitnessRowRef
import Derived.ChangeMaps5
import Derived.MakeChecks
namespace Go.Proofs.YtakidcehebpmkaaDoor
open Go.ChangeShapes Go.WideShapes Go.ChangeAt Go.RowKit
set_option linter.unusedVariables false

theorem hasPre_pos {s : ByteArray} {d : UInt8} (h : Lib.hasPrefix s.data.toList [d] = true) : 0 < s.size := by
  rcases Nat.eq_zero_or_pos s.size with h0 | h0
  · have hsl : s.data.toList.length = 0 := by rw [Array.length_toList]; exact h0
    rw [List.eq_nil_of_length_eq_zero hsl] at h
    simp [Lib.hasPrefix, List.isPrefixOf] at h
  · exact h0
theorem spec_read (s : ByteArray) (w : World) (hs : s.size ≤ 1048576) :
    Calls Tryd.prog 25 #[.string s] w fun e w' => e = .returned (.tuple #[VV (readV s.data.toList), .bool (readB s.data.toList)]) ∧ Below w.heap.size w w' := by
  cases h63 : Lib.hasPrefix s.data.toList [63] with
  | true => exact spec_read_null s w hs (hasPre_pos h63) h63
  | false =>
    cases h34 : Lib.hasPrefix s.data.toList [34] with
    | true => exact spec_read_text s w hs (hasPre_pos h34) h34
    | false => exact spec_read_num s w hs h34 h63

theorem errType : (Tryd.prog.globals[1]?).map (·.type) = some 86 := by kernel_rfl
theorem errType2 : (Tryd.prog.globals[2]?).map (·.type) = some 86 := by kernel_rfl
theorem cellsErr : Tryd.prog.cellsOf 128 = 1 := by kernel_rfl
theorem cellsStr : Tryd.prog.cellsOf 9 = 1 := by kernel_rfl
theorem star : "*" ++ "errors.errorString" = "*errors.errorString" := by decide
theorem errRow (u : TypeId) (h : Tryd.prog.typeName? 3 u = some "*errors.errorString") : u = 126 :=
  typeName_ptr_named (nm := "errors.errorString") (by rw [star]; kernel_rfl) (by kernel_rfl) (by decide) u (by rw [star]; exact h)
theorem errs_of {W : World} {laid : List (String × DataW Unit)} {t1 t2 : List UInt8}
    (h1 : (laid.filter fun x => x.1 == "strconv.ErrSyntax") = [("strconv.ErrSyntax", .iface "*errors.errorString" (.ptr (.agg [.lit (.string t1)])))])
    (h2 : (laid.filter fun x => x.1 == "strconv.ErrRange") = [("strconv.ErrRange", .iface "*errors.errorString" (.ptr (.agg [.lit (.string t2)])))])
    (h : laidMetH Tryd.prog laid W) : Errs W := by
  have k1 := h.filter fun x => x.1 == "strconv.ErrSyntax"
  have k2 := h.filter fun x => x.1 == "strconv.ErrRange"
  rw [h1, Go.MakeChecks.laidMetH_plain _ _ _ rfl] at k1
  rw [h2, Go.MakeChecks.laidMetH_plain _ _ _ rfl] at k2
  obtain ⟨a0, s0, hv0, -, -, -⟩ := laid_sentinel k1 errNamed errType Tryd.underlying86 errRow Tryd.underlying126 Tryd.underlying128 rfl rfl Tryd.underlying9 cellsErr cellsStr
  obtain ⟨a1, s1, hv1, -, -, -⟩ := laid_sentinel k2 errNamed2 errType2 Tryd.underlying86 errRow Tryd.underlying126 Tryd.underlying128 rfl rfl Tryd.underlying9 cellsErr cellsStr
  exact ⟨_, _, _, _, hv0, hv1⟩

section
variable {H : Type} {enc : TypeId × Value → H} {W : World} {base b : Nat} {spare : Nat → Bool} {held : Bool}
set_option maxRecDepth 100000 in
theorem open_text {v : Value} {d : DataW H} {p : List MemPlace}
    (hv : Value.okWide Tryd.prog W .any base 9 v) (h : DataW.Trod enc Tryd.prog W b spare held 9 v d p) : ∃ s : ByteArray, v = .string s ∧ s.size ≤ maxLen := by
  obtain ⟨s, rfl, _, _, hs⟩ := Go.ChangeMaps.open_string Tryd.underlying9 hv h
  exact ⟨s, rfl, hs⟩
end

def badText : ByteArray := ⟨#[105, 110, 118, 97, 108, 105, 100, 32, 115, 121, 110, 116, 97, 120]⟩
def farText : ByteArray := ⟨#[118, 97, 108, 117, 101, 32, 111, 117, 116, 32, 111, 102, 32, 114, 97, 110, 103, 101]⟩
/-- A world for the witness: the settled one with two blocks more (the two errors' structs), the five variables as their initialisers lay them. -/
noncomputable def errWorld (os : Os) : World :=
  let N := (World.settled Tryd.prog os).heap.size
  let w0 := World.holding Tryd.prog os ⟨#[.cells #[.string badText] 128, .cells #[.string farText] 128], #[], []⟩
  { w0 with heap := layCells (layCells (layCells (layCells (layCells w0.heap 0 (Lib.pow10Tab.map fun z => Value.int .u64 z).toArray)
      4 (tab32.map fun z => Value.int .u8 z).toArray) 5 (tab64.map fun z => Value.int .u8 z).toArray)
      1 #[.iface 126 (.pointer (some ⟨N, 0, none⟩))]) 2 #[.iface 126 (.pointer (some ⟨N + 1, 0, none⟩))] }
end Go.Proofs.YtakidcehebpmkaaDoor
