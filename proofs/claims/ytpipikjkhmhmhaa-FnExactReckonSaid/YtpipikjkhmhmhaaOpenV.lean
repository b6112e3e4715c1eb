/-
  How values read.
-/
import Derived.Test.YtpipikjkhmhmhaaOpen0
import Derived.Test.YtpipikjkhmhmhaaTyVal
namespace Go.Proofs.Ytpipikjkhmhmhaa
open Go.ChangeShapes Go.WideShapes Go.ChangeAt Go.RowKit Go.Joins Go.Deep
set_option linter.unusedVariables false

theorem trod_part {H : Type} {enc : TypeId × Value → H} {P : Program} {W : World} {b : Nat} {spare : Nat → Bool} {held : Bool} {t : TypeId} {fs : Array Field} {fuel : Nat} {cs : List Value} {x : DataW H × List MemPlace} (ht : P.underlying t = some (.struct fs)) (h : DataW.trod enc P W b spare held fuel t cs = some x) (i : Nat) (f : Field) (hi : fs[i]? = some f) :
    ∃ n y, DataW.trod enc P W b spare held n f.type ((cs.drop f.offset).take (P.cellsOf f.type)) = some y := by
  obtain ⟨xs, n, _, _, hl, hlen, hf⟩ := DataW.trod_struct ht h
  have h1 := hf i f hi
  have h2 : i < xs.length := by rw [hlen]; exact (Array.getElem?_eq_some_iff.1 hi).1
  rw [List.getElem?_eq_getElem h2] at h1
  exact ⟨n, _, h1⟩
theorem cells_Value : Try.prog.cellsOf 102 = 3 := by kernel_rfl
theorem list_Value {cs : List Value} (h : cs.length = 3) : ∃ v0 v1 v2, cs = [v0, v1, v2] := by
  match cs, h with
  | [v0, v1, v2], _ => exact ⟨v0, v1, v2, rfl⟩
section
variable {H : Type} {enc : TypeId × Value → H} {W : World} {base b : Nat} {spare : Nat → Bool} {held : Bool}
set_option maxRecDepth 100000 in
theorem open_Value {fuel : Nat} {cs : List Value} {y : DataW H × List MemPlace} (h : DataW.trod enc Try.prog W b spare held fuel 102 cs = some y) :
    ∃ (x : GV), cs = [.int .i64 x.k, .int .i64 x.n, .string x.t] ∧ fitValue x := by
  have hl : cs.length = Try.prog.cellsOf 102 := by obtain ⟨xs, n, _, _, hl, _⟩ := DataW.trod_struct Try.underlying102 h; exact hl
  obtain ⟨v0, v1, v2, rfl⟩ := list_Value (hl.trans cells_Value)
  obtain ⟨n0, y0, h0⟩ := trod_part Try.underlying102 h 0 _ rfl
  have g0 : DataW.trod enc Try.prog W b spare held n0 2 [v0] = some y0 := by
    have hc : Try.prog.cellsOf 2 = 1 := by kernel_rfl
    have q : DataW.trod enc Try.prog W b spare held n0 2 (([v0, v1, v2].drop 0).take (Try.prog.cellsOf 2)) = some y0 := h0
    rw [hc] at q; exact q
  obtain ⟨z0, e0, _, f0⟩ := DataW.trod_int Try.underlying2 g0
  simp at e0
  subst e0
  obtain ⟨n1, y1, h1⟩ := trod_part Try.underlying102 h 1 _ rfl
  have g1 : DataW.trod enc Try.prog W b spare held n1 2 [v1] = some y1 := by
    have hc : Try.prog.cellsOf 2 = 1 := by kernel_rfl
    have q : DataW.trod enc Try.prog W b spare held n1 2 (([.int .i64 z0, v1, v2].drop 1).take (Try.prog.cellsOf 2)) = some y1 := h1
    rw [hc] at q; exact q
  obtain ⟨z1, e1, _, f1⟩ := DataW.trod_int Try.underlying2 g1
  simp at e1
  subst e1
  obtain ⟨n2, y2, h2⟩ := trod_part Try.underlying102 h 2 _ rfl
  have g2 : DataW.trod enc Try.prog W b spare held n2 9 [v2] = some y2 := by
    have hc : Try.prog.cellsOf 9 = 1 := by kernel_rfl
    have q : DataW.trod enc Try.prog W b spare held n2 9 (([.int .i64 z0, .int .i64 z1, v2].drop 2).take (Try.prog.cellsOf 9)) = some y2 := h2
    rw [hc] at q; exact q
  obtain ⟨z2, e2, _, f2⟩ := DataW.trod_string Try.underlying9 g2
  simp at e2
  subst e2
  exact ⟨⟨z0, z1, z2⟩, rfl, ⟨f0, f1, f2⟩⟩
end
end Go.Proofs.Ytpipikjkhmhmhaa
