/-
  Joins and projections, told by the values that they take and answer. Small words for how arguments read. How the arguments of the laws read: a value of the struct Value, a slice of values, a slice of such slices, a text. How a slice of bytes reads.
-/
import Derived.Test.YtemcpdpbikgfcaaSumVZ
import Derived.Test.YtemcpdpbikgfcaaJoinW
import Derived.Test.YtemcpdpbikgfcaaJoinY
import Derived.Test.YtemcpdpbikgfcaaProjIZ
import Derived.Test.YtemcpdpbikgfcaaProjS
import Derived.Test.YtemcpdpbikgfcaaMemBZ
import Derived.OpenShut
import Derived.Lib.SmallJoins
import Derived.ChangeOld
import Derived.Test.YtemcpdpbikgfcaaVRowZ
namespace Go.Proofs.Ytemcpdpbikgfcaa
open Go.RowKit Go.Sort
set_option linter.unusedVariables false

theorem DPost.vd {w : World} {zs : List GDiff} {e : Ending} {w' : World} (h : DPost w zs e w') : VD w zs e w' := by
  obtain ⟨A, c, rfl, _, hd, hb⟩ := h
  exact ⟨_, rfl, ⟨A, c, rfl, hd⟩, hb⟩
theorem v_join {va vb : Value} {a b : List GDiff} (on : Int) (hon : (Lit.int .i64 on).wf = true) (w : World) (ha : DV w va a) (hb : DV w vb b) (la : lensD a) (lb : lensD b) :
    Calls Try.prog 27 #[va, vb, .int .i64 on] w (VD w (joinD a b on)) := by
  obtain ⟨A, c, rfl, hA⟩ := ha
  obtain ⟨B, d, rfl, hB⟩ := hb
  exact (impl_joinDiffs A B c d a b on w hA hB la.1 lb.1 (lens_max la) (lens_max lb) hon).mono fun _ _ h => h.vd
theorem v_sjoin {va vb : Value} {a b : List GDiff} (on : Int) (hon : (Lit.int .i64 on).wf = true) (w : World) (ha : DV w va a) (hb : DV w vb b) (la : lensD a) (lb : lensD b) :
    Calls Try.prog 26 #[va, vb, .int .i64 on] w (VD w (joinD a b on)) := by
  obtain ⟨A, c, rfl, hA⟩ := ha
  obtain ⟨B, d, rfl, hB⟩ := hb
  exact (spec_joinDiffs A B c d a b on w hA hB la.1 lb.1 (lens_max la) (lens_max lb) hon).mono fun _ _ h => h.vd
/-- The value v is a list of integers. -/
def IV (w : World) (v : Value) (cols : List Int) : Prop := ∃ A c, v = .slice A cols.length c ∧ IntsAt w 0 w.heap.size A cols
theorem IV.to_ {w w' : World} {v : Value} {cols : List Int} (h : IV w v cols) (hb : Below w.heap.size w w') : IV w' v cols := by
  obtain ⟨A, c, e, hd⟩ := h; exact ⟨A, c, e, hd.to_ hb⟩
theorem v_project {va vc : Value} {a : List GDiff} {cols : List Int} (w : World) (ha : DV w va a) (hc : IV w vc cols) (la : lensD a) (lc : cols.length ≤ 1048576) :
    Calls Try.prog 30 #[va, vc] w (VD w (projD a cols)) := by
  obtain ⟨A, c, rfl, hA⟩ := ha
  obtain ⟨B, d, rfl, hB⟩ := hc
  exact (impl_project A B c d a cols w hA hB la.1 lc (lens_max la)).mono fun _ _ h => h.vd
theorem v_sproject {va vc : Value} {a : List GDiff} {cols : List Int} (w : World) (ha : DV w va a) (hc : IV w vc cols) (la : lensD a) (lc : cols.length ≤ 1048576) :
    Calls Try.prog 28 #[va, vc] w (VD w (projD a cols)) := by
  obtain ⟨A, c, rfl, hA⟩ := ha
  obtain ⟨B, d, rfl, hB⟩ := hc
  exact (spec_project A B c d a cols w hA hB la.1 lc (lens_max la)).mono fun _ _ h => h.vd
theorem lens_join (a b : List GDiff) (on : Int) : lensD (joinD a b on) := lens_ok (joinD_ok a b on)
theorem lens_proj (a : List GDiff) (cols : List Int) : lensD (projD a cols) := lens_ok (projD_ok a cols)
theorem lens_add (a b : List GDiff) : lensD (addDD a b) := lens_ok (addDD_ok a b)
theorem one_join : (joinD oneZ oneZ 1).length = 1 := by decide +kernel
end Go.Proofs.Ytemcpdpbikgfcaa
namespace Go.Proofs.Ytemcpdpbikgfcaa
open Go.ChangeShapes Go.WideShapes Go.ChangeAt Go.RowKit Go.Joins Go.Deep
set_option linter.unusedVariables false

theorem own : ownKnob Try.prog.godebug = none := by kernel_rfl
theorem laidOut : laidOutB Try.prog = true := by kernel_rfl
instance : Inhabited GV := ⟨⟨0, 0, ByteArray.empty⟩⟩
theorem cell_add {w : World} {a : Addr} {n : Nat} {v : Value} (hn : 0 < n) : w.cell? (a.add n) = some v → w.cell? ⟨a.block, a.off + n, none⟩ = some v := by
  intro h
  simpa [Addr.add, Nat.pos_iff_ne_zero.1 hn] using h
theorem cell_add0 {w : World} {a : Addr} {n : Nat} {v : Value} (h : w.cell? (a.add n) = some v) : w.cell? ⟨a.block, a.off + n, none⟩ = some v := by
  rcases Nat.eq_zero_or_pos n with rfl | hn
  · have hs := World.cell?_spot h
    obtain ⟨bk, off, sp⟩ := a
    simp [Addr.add] at h hs
    subst hs
    simpa using h
  · exact cell_add hn h
end Go.Proofs.Ytemcpdpbikgfcaa
namespace Go.Proofs.Ytemcpdpbikgfcaa
open Go.ChangeShapes Go.WideShapes Go.ChangeAt Go.RowKit Go.Joins Go.Deep
set_option linter.unusedVariables false

theorem cellsV : Try.prog.cellsOf 98 = 3 := by kernel_rfl

/-- The fields of a value as the reading gives them. -/
def FitV (k n : Int) (t : ByteArray) : Prop := (Lit.int .i64 k).wf = true ∧ (Lit.int .i64 n).wf = true ∧ t.size ≤ maxLen

section
variable {H : Type} {enc : TypeId × Value → H} {W : World} {base b : Nat} {spare : Nat → Bool} {held : Bool}
set_option maxRecDepth 100000 in
theorem open_value {v : Value} {d : DataW H} {p : List MemPlace}
    (hv : Value.okWide Try.prog W .any base 98 v) (h : DataW.Trod enc Try.prog W b spare held 98 v d p) :
    ∃ (k n : Int) (t : ByteArray), v = .agg #[.int .i64 k, .int .i64 n, .string t] ∧ FitV k n t := by
  obtain ⟨c0, c1, c2, y0, y1, y2, m, rfl, hd, hp, hy0, hy1, hy2⟩ := open_agg3 Try.underlying98 (by kernel_rfl) cellsV hv h
  obtain ⟨k, e0, _, wk⟩ := DataW.trod_int Try.underlying2 hy0
  obtain ⟨n, e1, _, wn⟩ := DataW.trod_int Try.underlying2 hy1
  obtain ⟨t, e2, _, wt⟩ := DataW.trod_string Try.underlying9 hy2
  simp at e0 e1 e2
  subst e0 e1 e2
  exact ⟨k, n, t, rfl, wk, wn, wt⟩

theorem list3 {cs : List Value} (h : cs.length = 3) : ∃ x y z, cs = [x, y, z] := by
  match cs, h with
  | [x, y, z], _ => exact ⟨x, y, z, rfl⟩

theorem cells3 {P : Program} {t : TypeId} {f0 f1 f2 : Field} {fuel : Nat} {cs : List Value} {x : DataW H × List MemPlace} (hs : P.underlying t = some (.struct #[f0, f1, f2])) (hone : oneCellFields P #[f0, f1, f2] = true)
    (hC : P.cellsOf t = 3) (h : DataW.trod enc P W b spare held fuel t cs = some x) :
    ∃ c0 c1 c2 y0 y1 y2 n, cs = [c0, c1, c2] ∧ DataW.trod enc P W b spare held n f0.type [c0] = some y0 ∧ DataW.trod enc P W b spare held n f1.type [c1] = some y1 ∧ DataW.trod enc P W b spare held n f2.type [c2] = some y2 := by
  obtain ⟨y0, y1, y2, n, hx, hl, h0, h1, h2⟩ := trod_struct3 hs h
  obtain ⟨o0, k0⟩ := hone_of hone 0 f0 rfl
  obtain ⟨o1, k1⟩ := hone_of hone 1 f1 rfl
  obtain ⟨o2, k2⟩ := hone_of hone 2 f2 rfl
  obtain ⟨c0, c1, c2, rfl⟩ := list3 (hl.trans hC)
  rw [o0, k0] at h0
  rw [o1, k1] at h1
  rw [o2, k2] at h2
  exact ⟨c0, c1, c2, y0, y1, y2, n, rfl, h0, h1, h2⟩

set_option maxRecDepth 100000 in
theorem open_cells {fuel : Nat} {cs : List Value} {x : DataW H × List MemPlace} (h : DataW.trod enc Try.prog W b spare held fuel 98 cs = some x) :
    ∃ v : GV, cs = [.int .i64 v.k, .int .i64 v.n, .string v.t] ∧ v.fit := by
  obtain ⟨c0, c1, c2, y0, y1, y2, n, rfl, h0, h1, h2⟩ := cells3 Try.underlying98 (by kernel_rfl) cellsV h
  obtain ⟨k, e0, _, wk⟩ := DataW.trod_int Try.underlying2 h0
  obtain ⟨n', e1, _, wn⟩ := DataW.trod_int Try.underlying2 h1
  obtain ⟨t, e2, _, wt⟩ := DataW.trod_string Try.underlying9 h2
  simp at e0 e1 e2
  subst e0 e1 e2
  exact ⟨⟨k, n', t⟩, rfl, wk, wn, wt⟩

/-- What the reading gives of a slice of values. -/
def FitVs (W : World) (A : Option Addr) (len : Nat) (vs : List GV) : Prop := len = vs.length ∧ RowAt W W.heap.size A vs ∧ vs.length ≤ maxLen ∧ ∀ v ∈ vs, v.fit

set_option maxRecDepth 100000 in
theorem open_row {fuel : Nat} {cs : List Value} {x : DataW H × List MemPlace} (h : DataW.trod enc Try.prog W b spare held fuel 63 cs = some x) :
    ∃ A len c vs, cs = [.slice A len c] ∧ FitVs W A len vs := by
  rcases open_slice Try.underlying63 h with ⟨hcs, hx⟩ | ⟨a, len, cap, m, n, D, Pl, hcs, hbb, hl, hm, hmm, hx, hi⟩
  · exact ⟨none, 0, 0, [], hcs, rfl, .inl rfl, Nat.zero_le _, by simp⟩
  · rw [cellsV] at hi
    have hlm : len ≤ m := by rw [hmm]; split <;> omega
    obtain ⟨f, hf⟩ := choose_lt (α := GV) (n := len) (p := fun i v => VAt W a.block (a.off + i * 3) v ∧ v.fit) (fun i hil => by
      obtain ⟨cs', hc, ht⟩ := hi i (by omega)
      obtain ⟨v, rfl, hfit⟩ := open_cells ht
      obtain ⟨_, _, hat⟩ := World.cells?_some hc
      have g0 := hat 0 (by omega)
      have g1 := hat 1 (by omega)
      have g2 := hat 2 (by omega)
      simp at g0 g1 g2
      rw [Go.Deep.add_add] at g0 g1 g2
      refine ⟨v, ⟨?_, ?_, ?_⟩, hfit⟩
      · exact cell_add0 g0
      · exact cell_add0 g1
      · exact cell_add0 g2)
    refine ⟨some a, len, cap, (List.range len).map f, hcs, by simp, ?_, by simp; omega, ?_⟩
    · rcases Nat.eq_zero_or_pos len with rfl | hpos
      · exact .inl (by simp)
      · have h0 := (hf 0 hpos).1.1
        refine .inr ⟨a.block, a.off, ?_, (World.block_lt_of_cell? W ⟨a.block, a.off + 0 * 3, none⟩ h0), fun i v hv => ?_⟩
        · obtain ⟨cs', hc, ht⟩ := hi 0 (by omega)
          obtain ⟨v, rfl, hfit⟩ := open_cells ht
          obtain ⟨_, _, hat⟩ := World.cells?_some hc
          have g0 := hat 0 (by omega)
          simp [Addr.add] at g0
          have hs := World.cell?_spot g0
          obtain ⟨bk, off, sp⟩ := a
          simp at hs
          rw [hs]
        · simp only [List.getElem?_map, Option.map_eq_some_iff] at hv
          obtain ⟨j, hj, rfl⟩ := hv
          obtain ⟨hil, rfl⟩ := List.getElem?_eq_some_iff.1 hj
          simp only [List.length_range] at hil
          rw [List.getElem_range]
          exact (hf i hil).1
    · intro v hv
      simp at hv
      obtain ⟨i, hi', rfl⟩ := hv
      exact (hf i hi').2
set_option maxRecDepth 100000 in
theorem open_values {v : Value} {d : DataW H} {p : List MemPlace}
    (hv : Value.okWide Try.prog W .any base 63 v) (h : DataW.Trod enc Try.prog W b spare held 63 v d p) :
    ∃ A len c vs, v = .slice A len c ∧ FitVs W A len vs := by
  obtain ⟨a, len, cap, rfl⟩ := okWide_slice Try.underlying63 hv
  obtain ⟨fuel, hf⟩ := h
  obtain ⟨A, l, c, vs, hcs, hfit⟩ := open_row hf
  simp [Value.cells] at hcs
  obtain ⟨rfl, rfl, rfl⟩ := hcs
  exact ⟨_, _, _, vs, rfl, hfit⟩
end
end Go.Proofs.Ytemcpdpbikgfcaa
namespace Go.Proofs.Ytemcpdpbikgfcaa
open Go.ChangeShapes Go.WideShapes Go.ChangeAt Go.RowKit Go.Joins Go.Deep
set_option linter.unusedVariables false

theorem cellsB : Try.prog.cellsOf 5 = 1 := by kernel_rfl
/-- What the reading gives of a slice of bytes. -/
def FitB (W : World) (A : Option Addr) (len : Nat) (xs : List UInt8) : Prop := len = xs.length ∧ BAt W W.heap.size A xs
section
variable {H : Type} {enc : TypeId × Value → H} {W : World} {base b : Nat} {spare : Nat → Bool} {held : Bool}
set_option maxRecDepth 100000 in
theorem open_byterow {fuel : Nat} {cs : List Value} {x : DataW H × List MemPlace} (h : DataW.trod enc Try.prog W b spare held fuel 46 cs = some x) :
    ∃ A len c xs, cs = [.slice A len c] ∧ FitB W A len xs := by
  rcases open_slice Try.underlying46 h with ⟨hcs, hx⟩ | ⟨a, len, cap, m, n, D, Pl, hcs, hbb, hl, hm, hmm, hx, hi⟩
  · exact ⟨none, 0, 0, [], hcs, rfl, .inl rfl⟩
  · rw [cellsB] at hi
    have hlm : len ≤ m := by rw [hmm]; split <;> omega
    obtain ⟨f, hf⟩ := choose_lt (α := UInt8) (n := len) (p := fun i c => W.cell? ⟨a.block, a.off + i, none⟩ = some (.int .u8 (c.toNat : Int)) ∧ W.cell? (a.add i) = some (.int .u8 (c.toNat : Int))) (fun i hil => by
      obtain ⟨cs', hc, ht⟩ := hi i (by omega)
      obtain ⟨z, e0, _, wz⟩ := DataW.trod_int Try.underlying5 ht
      obtain ⟨_, _, hat⟩ := World.cells?_some hc
      subst e0
      have g0 := hat 0 (by omega)
      simp at g0
      rw [Go.Deep.add_add] at g0
      have hz : 0 ≤ z ∧ z ≤ 255 := by
        have : IntKind.u8.min ≤ z ∧ z ≤ IntKind.u8.max := by simpa [Lit.wf] using wz
        exact this
      refine ⟨UInt8.ofNat z.toNat, ?_⟩
      have e : ((UInt8.ofNat z.toNat).toNat : Int) = z := by simp; omega
      rw [e]
      have g1 := g0
      exact ⟨cell_add0 (by simpa using g0), by simpa using g1⟩)
    refine ⟨some a, len, cap, (List.range len).map f, hcs, by simp, ?_⟩
    rcases Nat.eq_zero_or_pos len with rfl | hpos
    · exact .inl (by simp)
    · refine .inr ⟨a.block, a.off, ?_, (World.block_lt_of_cell? W ⟨a.block, a.off + 0, none⟩ (hf 0 hpos).1), fun i v hv => ?_⟩
      · have g0 := (hf 0 hpos).2
        simp [Addr.add] at g0
        have hs := World.cell?_spot g0
        obtain ⟨bk, off, sp⟩ := a
        simp at hs
        rw [hs]
      · simp only [List.getElem?_map, Option.map_eq_some_iff] at hv
        obtain ⟨j, hj, rfl⟩ := hv
        obtain ⟨hil, rfl⟩ := List.getElem?_eq_some_iff.1 hj
        simp only [List.length_range] at hil
        rw [List.getElem_range]
        exact (hf i hil).1
set_option maxRecDepth 100000 in
theorem open_bytes {v : Value} {d : DataW H} {p : List MemPlace}
    (hv : Value.okWide Try.prog W .any base 46 v) (h : DataW.Trod enc Try.prog W b spare held 46 v d p) :
    ∃ A len c xs, v = .slice A len c ∧ FitB W A len xs := by
  obtain ⟨a, len, cap, rfl⟩ := okWide_slice Try.underlying46 hv
  obtain ⟨fuel, hf⟩ := h
  obtain ⟨A, l, c, xs, hcs, hfit⟩ := open_byterow hf
  simp [Value.cells] at hcs
  obtain ⟨rfl, rfl, rfl⟩ := hcs
  exact ⟨_, _, _, xs, rfl, hfit⟩
end
end Go.Proofs.Ytemcpdpbikgfcaa
