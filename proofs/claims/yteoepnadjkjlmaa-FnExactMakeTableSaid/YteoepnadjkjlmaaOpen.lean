/-
  How the arguments of the laws read: a value of the struct Value, a slice of values, a slice of such slices, a text.
-/
import Derived.Test.YteoepnadjkjlmaaOpen0
import Derived.OpenShut
import Derived.Lib.SmallJoins
import Derived.ChangeOld
namespace Go.Proofs.Yteoepnadjkjlmaa
open Go.ChangeShapes Go.WideShapes Go.ChangeAt Go.RowKit Go.Joins Go.Deep
set_option linter.unusedVariables false

theorem cellsV : Try.prog.cellsOf 52 = 3 := by kernel_rfl

/-- The fields of a value as the reading gives them. -/
def FitV (k n : Int) (t : ByteArray) : Prop := (Lit.int .i64 k).wf = true ∧ (Lit.int .i64 n).wf = true ∧ t.size ≤ maxLen

section
variable {H : Type} {enc : TypeId × Value → H} {W : World} {base b : Nat} {spare : Nat → Bool} {held : Bool}
set_option maxRecDepth 100000 in
theorem open_value {v : Value} {d : DataW H} {p : List MemPlace}
    (hv : Value.okWide Try.prog W .any base 52 v) (h : DataW.Trod enc Try.prog W b spare held 52 v d p) :
    ∃ (k n : Int) (t : ByteArray), v = .agg #[.int .i64 k, .int .i64 n, .string t] ∧ FitV k n t := by
  obtain ⟨c0, c1, c2, y0, y1, y2, m, rfl, hd, hp, hy0, hy1, hy2⟩ := open_agg3 Try.underlying52 (by kernel_rfl) cellsV hv h
  obtain ⟨k, e0, _, wk⟩ := DataW.trod_int Try.underlying2 hy0
  obtain ⟨n, e1, _, wn⟩ := DataW.trod_int Try.underlying2 hy1
  obtain ⟨t, e2, _, wt⟩ := DataW.trod_string Try.underlying9 hy2
  simp at e0 e1 e2
  subst e0 e1 e2
  exact ⟨k, n, t, rfl, wk, wn, wt⟩

theorem list3 {cs : List Value} (h : cs.length = 3) : ∃ x y z, cs = [x, y, z] := by
  match cs, h with
  | [x, y, z], _ => exact ⟨x, y, z, rfl⟩

theorem cells3 {P : Program} {t : TypeId} {f0 f1 f2 : Field} {fuel : Nat} {cs : List Value} {x : DataW H × List MemPlace} (hs : P.underlying t = some (.struct #[f0, f1, f2])) (hone : oneCellFields P #[f0, f1, f2] = true)
    (hC : P.cellsOf t = 3) (h : DataW.trod enc P W b spare held fuel t cs = some x) :
    ∃ c0 c1 c2 y0 y1 y2 n, cs = [c0, c1, c2] ∧ DataW.trod enc P W b spare held n f0.type [c0] = some y0 ∧ DataW.trod enc P W b spare held n f1.type [c1] = some y1 ∧ DataW.trod enc P W b spare held n f2.type [c2] = some y2 := by
  obtain ⟨y0, y1, y2, n, hx, hl, h0, h1, h2⟩ := trod_struct3 hs h
  obtain ⟨o0, k0⟩ := hone_of hone 0 f0 rfl
  obtain ⟨o1, k1⟩ := hone_of hone 1 f1 rfl
  obtain ⟨o2, k2⟩ := hone_of hone 2 f2 rfl
  obtain ⟨c0, c1, c2, rfl⟩ := list3 (hl.trans hC)
  rw [o0, k0] at h0
  rw [o1, k1] at h1
  rw [o2, k2] at h2
  exact ⟨c0, c1, c2, y0, y1, y2, n, rfl, h0, h1, h2⟩

set_option maxRecDepth 100000 in
theorem open_cells {fuel : Nat} {cs : List Value} {x : DataW H × List MemPlace} (h : DataW.trod enc Try.prog W b spare held fuel 52 cs = some x) :
    ∃ v : GV, cs = [.int .i64 v.k, .int .i64 v.n, .string v.t] ∧ v.fit := by
  obtain ⟨c0, c1, c2, y0, y1, y2, n, rfl, h0, h1, h2⟩ := cells3 Try.underlying52 (by kernel_rfl) cellsV h
  obtain ⟨k, e0, _, wk⟩ := DataW.trod_int Try.underlying2 h0
  obtain ⟨n', e1, _, wn⟩ := DataW.trod_int Try.underlying2 h1
  obtain ⟨t, e2, _, wt⟩ := DataW.trod_string Try.underlying9 h2
  simp at e0 e1 e2
  subst e0 e1 e2
  exact ⟨⟨k, n', t⟩, rfl, wk, wn, wt⟩

/-- What the reading gives of a slice of values. -/
def FitVs (W : World) (A : Option Addr) (len : Nat) (vs : List GV) : Prop := len = vs.length ∧ RowAt W W.heap.size A vs ∧ vs.length ≤ maxLen ∧ ∀ v ∈ vs, v.fit

set_option maxRecDepth 100000 in
theorem open_row {fuel : Nat} {cs : List Value} {x : DataW H × List MemPlace} (h : DataW.trod enc Try.prog W b spare held fuel 37 cs = some x) :
    ∃ A len c vs, cs = [.slice A len c] ∧ FitVs W A len vs := by
  rcases open_slice Try.underlying37 h with ⟨hcs, hx⟩ | ⟨a, len, cap, m, n, D, Pl, hcs, hbb, hl, hm, hmm, hx, hi⟩
  · exact ⟨none, 0, 0, [], hcs, rfl, .inl rfl, Nat.zero_le _, by simp⟩
  · rw [cellsV] at hi
    have hlm : len ≤ m := by rw [hmm]; split <;> omega
    obtain ⟨f, hf⟩ := choose_lt (α := GV) (n := len) (p := fun i v => VAt W a.block (a.off + i * 3) v ∧ v.fit) (fun i hil => by
      obtain ⟨cs', hc, ht⟩ := hi i (by omega)
      obtain ⟨v, rfl, hfit⟩ := open_cells ht
      obtain ⟨_, _, hat⟩ := World.cells?_some hc
      have g0 := hat 0 (by omega)
      have g1 := hat 1 (by omega)
      have g2 := hat 2 (by omega)
      simp at g0 g1 g2
      rw [Go.Deep.add_add] at g0 g1 g2
      refine ⟨v, ⟨?_, ?_, ?_⟩, hfit⟩
      · exact cell_add0 g0
      · exact cell_add0 g1
      · exact cell_add0 g2)
    refine ⟨some a, len, cap, (List.range len).map f, hcs, by simp, ?_, by simp; omega, ?_⟩
    · rcases Nat.eq_zero_or_pos len with rfl | hpos
      · exact .inl (by simp)
      · have h0 := (hf 0 hpos).1.1
        refine .inr ⟨a.block, a.off, ?_, (World.block_lt_of_cell? W ⟨a.block, a.off + 0 * 3, none⟩ h0), fun i v hv => ?_⟩
        · obtain ⟨cs', hc, ht⟩ := hi 0 (by omega)
          obtain ⟨v, rfl, hfit⟩ := open_cells ht
          obtain ⟨_, _, hat⟩ := World.cells?_some hc
          have g0 := hat 0 (by omega)
          simp [Addr.add] at g0
          have hs := World.cell?_spot g0
          obtain ⟨bk, off, sp⟩ := a
          simp at hs
          rw [hs]
        · simp only [List.getElem?_map, Option.map_eq_some_iff] at hv
          obtain ⟨j, hj, rfl⟩ := hv
          obtain ⟨hil, rfl⟩ := List.getElem?_eq_some_iff.1 hj
          simp only [List.length_range] at hil
          rw [List.getElem_range]
          exact (hf i hil).1
    · intro v hv
      simp at hv
      obtain ⟨i, hi', rfl⟩ := hv
      exact (hf i hi').2
set_option maxRecDepth 100000 in
theorem open_values {v : Value} {d : DataW H} {p : List MemPlace}
    (hv : Value.okWide Try.prog W .any base 37 v) (h : DataW.Trod enc Try.prog W b spare held 37 v d p) :
    ∃ A len c vs, v = .slice A len c ∧ FitVs W A len vs := by
  obtain ⟨a, len, cap, rfl⟩ := okWide_slice Try.underlying37 hv
  obtain ⟨fuel, hf⟩ := h
  obtain ⟨A, l, c, vs, hcs, hfit⟩ := open_row hf
  simp [Value.cells] at hcs
  obtain ⟨rfl, rfl, rfl⟩ := hcs
  exact ⟨_, _, _, vs, rfl, hfit⟩
end
end Go.Proofs.Yteoepnadjkjlmaa
