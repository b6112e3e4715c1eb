/-
  How lists of expressions read. How rules read. How rows read. How tables read.
-/
import Derived.Test.YteoepnadjkjlmaaGreatOpenNZ
import Derived.Test.YteoepnadjkjlmaaGreatSzAtomZ
import Derived.Test.YteoepnadjkjlmaaGreatRowStZ
import Derived.Test.YteoepnadjkjlmaaGreatSzValZ
namespace Go.Proofs.YteoepnadjkjlmaaGreat
open Go.ChangeShapes Go.WideShapes Go.ChangeAt Go.RowKit Go.Joins Go.Deep
set_option linter.unusedVariables false

section
variable {H : Type} {enc : TypeId × Value → H} {W : World} {base b : Nat} {spare : Nat → Bool} {held : Bool}
set_option maxRecDepth 100000 in
theorem open_NodeSs {fuel : Nat} {cs : List Value} {y : DataW H × List MemPlace} (h : DataW.trod enc Tryz.prog W b spare held fuel 23 cs = some y) :
    ∃ (A : Option Addr) (len c : Nat) (xs : List (List GNode)), cs = [.slice A len c] ∧ len = xs.length ∧ NodeSsAt W 0 W.heap.size A xs ∧ fitNodeSs xs := by
  rcases open_slice Tryz.underlying23 h with ⟨hcs, hx⟩ | ⟨a, len, cap, m, n, D, Pl, hcs, hbb, hl, hm, hmm, hx, hi⟩
  · exact ⟨none, 0, 0, [], hcs, rfl, .inl rfl, Nat.zero_le _, by simp⟩
  · have hce : Tryz.prog.cellsOf 74 = 1 := by kernel_rfl
    rw [hce] at hi
    have hlm : len ≤ m := by rw [hmm]; split <;> omega
    have hel : ∀ i, i < m → ∃ x : List GNode, NodeSAt W 0 W.heap.size a.block (a.off + i) x ∧ fitNodeS x := by
      intro i him
      obtain ⟨cs', hc, ht⟩ := hi i him
      obtain ⟨A0, l0, c0, x, e0, el, ⟨v0, s0⟩, hfit⟩ := open_Nodes ht
      subst e0 el
      obtain ⟨_, _, hat⟩ := World.cells?_some hc
      have g0 := hat 0 (by simp)
      simp at g0
      rw [Go.Deep.add_add] at g0
      exact ⟨x, ⟨A0, c0, ⟨cell_add0 g0, v0⟩, s0⟩, hfit⟩
    obtain ⟨f, hf⟩ := choose_lt (α := List GNode) (n := len) (p := fun i x => NodeSAt W 0 W.heap.size a.block (a.off + i) x ∧ fitNodeS x) (fun i hil => hel i (by omega))
    refine ⟨some a, len, cap, (List.range len).map f, hcs, by simp, ?_, by simp; omega, ?_⟩
    · rcases Nat.eq_zero_or_pos len with rfl | hpos
      · exact .inl (by simp)
      · have h00 : ∃ u, W.cell? a = some u := by
          obtain ⟨cs', hc, ht⟩ := hi 0 (by omega)
          obtain ⟨_, hln, hat⟩ := World.cells?_some hc
          have g0 := hat 0 (by omega)
          rw [Nat.zero_mul, show (a.add 0).add 0 = a by simp [Addr.add]] at g0
          rw [List.getElem?_eq_getElem (by omega)] at g0
          exact ⟨_, g0⟩
        obtain ⟨u0, hu0⟩ := h00
        have hsp := World.cell?_spot hu0
        have hlt := World.block_lt_of_cell? W a hu0
        refine .inr ⟨a.block, a.off, by obtain ⟨bk, of, sp⟩ := a; simp at hsp; rw [hsp], Nat.zero_le _, hlt, fun i x hx => ?_⟩
        simp only [List.getElem?_map, Option.map_eq_some_iff] at hx
        obtain ⟨j, hj, rfl⟩ := hx
        obtain ⟨hil, rfl⟩ := List.getElem?_eq_some_iff.1 hj
        simp only [List.length_range] at hil
        rw [List.getElem_range]
        exact (hf i hil).1
    · intro x hx
      simp at hx
      obtain ⟨i, hi', rfl⟩ := hx
      exact (hf i hi').2
end
end Go.Proofs.YteoepnadjkjlmaaGreat
namespace Go.Proofs.YteoepnadjkjlmaaGreat
open Go.ChangeShapes Go.WideShapes Go.ChangeAt Go.RowKit Go.Joins Go.Deep
set_option linter.unusedVariables false

instance : Inhabited GAtom := ⟨⟨ByteArray.empty, []⟩⟩
theorem cells_Atom : Tryz.prog.cellsOf 25 = 2 := by kernel_rfl
theorem list_Atom {cs : List Value} (h : cs.length = 2) : ∃ v0 v1, cs = [v0, v1] := by
  match cs, h with
  | [v0, v1], _ => exact ⟨v0, v1, rfl⟩
section
variable {H : Type} {enc : TypeId × Value → H} {W : World} {base b : Nat} {spare : Nat → Bool} {held : Bool}
set_option maxRecDepth 100000 in
theorem open_Atom {fuel : Nat} {cs : List Value} {y : DataW H × List MemPlace} (h : DataW.trod enc Tryz.prog W b spare held fuel 25 cs = some y) :
    ∃ (x : GAtom) (A1 : Option Addr) (c1 : Nat), cs = [.string x.name, .slice A1 x.args.length c1] ∧ fitAtom x ∧ NodeSsAt W 0 W.heap.size A1 x.args := by
  have hl : cs.length = Tryz.prog.cellsOf 25 := by obtain ⟨xs, n, _, _, hl, _⟩ := DataW.trod_struct Tryz.underlying25 h; exact hl
  obtain ⟨v0, v1, rfl⟩ := list_Atom (hl.trans cells_Atom)
  obtain ⟨n0, y0, h0⟩ := trod_part Tryz.underlying25 h 0 _ rfl
  have g0 : DataW.trod enc Tryz.prog W b spare held n0 9 [v0] = some y0 := by
    have hc : Tryz.prog.cellsOf 9 = 1 := by kernel_rfl
    have q : DataW.trod enc Tryz.prog W b spare held n0 9 (([v0, v1].drop 0).take (Tryz.prog.cellsOf 9)) = some y0 := h0
    rw [hc] at q; exact q
  obtain ⟨z0, e0, _, f0⟩ := DataW.trod_string Tryz.underlying9 g0
  simp at e0
  subst e0
  obtain ⟨n1, y1, h1⟩ := trod_part Tryz.underlying25 h 1 _ rfl
  have g1 : DataW.trod enc Tryz.prog W b spare held n1 23 [v1] = some y1 := by
    have hc : Tryz.prog.cellsOf 23 = 1 := by kernel_rfl
    have q : DataW.trod enc Tryz.prog W b spare held n1 23 (([.string z0, v1].drop 1).take (Tryz.prog.cellsOf 23)) = some y1 := h1
    rw [hc] at q; exact q
  obtain ⟨A1, l1, c1, z1, e1, el1, s1, f1⟩ := open_NodeSs g1
  simp at e1
  subst e1 el1
  exact ⟨⟨z0, z1⟩, _, _, rfl, ⟨f0, f1⟩, s1⟩
set_option maxRecDepth 100000 in
theorem open_Atom_arg {v : Value} {d : DataW H} {p : List MemPlace} (hv : Value.okWide Tryz.prog W .any base 25 v) (h : DataW.Trod enc Tryz.prog W b spare held 25 v d p) :
    ∃ (x : GAtom) (A1 : Option Addr) (c1 : Nat), v = .agg #[.string x.name, .slice A1 x.args.length c1] ∧ fitAtom x ∧ NodeSsAt W 0 W.heap.size A1 x.args := by
  obtain ⟨cs, rfl, hsz⟩ := okWide_struct Tryz.underlying25 hv
  obtain ⟨fuel, hf⟩ := h
  obtain ⟨x, A1, c1, ec, hr⟩ := open_Atom hf
  refine ⟨x, A1, c1, ?_, hr⟩
  have e2 : cs.toList = _ := ec
  rw [← Array.toArray_toList (xs := cs), e2]
end
end Go.Proofs.YteoepnadjkjlmaaGreat
namespace Go.Proofs.YteoepnadjkjlmaaGreat
open Go.ChangeShapes Go.WideShapes Go.ChangeAt Go.RowKit Go.Joins Go.Deep
set_option linter.unusedVariables false

section
variable {H : Type} {enc : TypeId × Value → H} {W : World} {base b : Nat} {spare : Nat → Bool} {held : Bool}
set_option maxRecDepth 100000 in
theorem open_Values {fuel : Nat} {cs : List Value} {y : DataW H × List MemPlace} (h : DataW.trod enc Tryz.prog W b spare held fuel 97 cs = some y) :
    ∃ (A : Option Addr) (len c : Nat) (xs : List (GV)), cs = [.slice A len c] ∧ len = xs.length ∧ (CapOk xs.length c ∧ ValuesAt W 0 W.heap.size A xs) ∧ fitValues xs := by
  rcases open_slice Tryz.underlying97 h with ⟨hcs, hx⟩ | ⟨a, len, cap, m, n, D, Pl, hcs, hbb, hl, hm, hmm, hx, hi⟩
  · exact ⟨none, 0, 0, [], hcs, rfl, ⟨⟨Nat.le_refl _, Nat.zero_le _⟩, .inl rfl⟩, Nat.zero_le _, by simp⟩
  · have hce : Tryz.prog.cellsOf 99 = 3 := by kernel_rfl
    rw [hce] at hi
    have hlm : len ≤ m := by rw [hmm]; split <;> omega
    have hel : ∀ i, i < m → ∃ x : GV, ValueAt W 0 W.heap.size a.block (a.off + i * 3) x ∧ fitValue x := by
      intro i him
      obtain ⟨cs', hc, ht⟩ := hi i him
      obtain ⟨x, rfl, hfit⟩ := open_Value ht
      obtain ⟨_, _, hat⟩ := World.cells?_some hc
      have g0 := hat 0 (by simp)
      have g1 := hat 1 (by simp)
      have g2 := hat 2 (by simp)
      simp at g0 g1 g2
      rw [Go.Deep.add_add] at g0 g1 g2
      exact ⟨x, ⟨cell_add0 g0, cell_add0 g1, cell_add0 g2⟩, hfit⟩
    obtain ⟨f, hf⟩ := choose_lt (α := GV) (n := len) (p := fun i x => ValueAt W 0 W.heap.size a.block (a.off + i * 3) x ∧ fitValue x) (fun i hil => hel i (by omega))
    refine ⟨some a, len, cap, (List.range len).map f, hcs, by simp, ⟨⟨by simp; exact hl, hm⟩, ?_⟩, by simp; omega, ?_⟩
    · rcases Nat.eq_zero_or_pos len with rfl | hpos
      · exact .inl (by simp)
      · have h00 : ∃ u, W.cell? a = some u := by
          obtain ⟨cs', hc, ht⟩ := hi 0 (by omega)
          obtain ⟨_, hln, hat⟩ := World.cells?_some hc
          have g0 := hat 0 (by omega)
          rw [Nat.zero_mul, show (a.add 0).add 0 = a by simp [Addr.add]] at g0
          rw [List.getElem?_eq_getElem (by omega)] at g0
          exact ⟨_, g0⟩
        obtain ⟨u0, hu0⟩ := h00
        have hsp := World.cell?_spot hu0
        have hlt := World.block_lt_of_cell? W a hu0
        refine .inr ⟨a.block, a.off, by obtain ⟨bk, of, sp⟩ := a; simp at hsp; rw [hsp], Nat.zero_le _, hlt, fun i x hx => ?_⟩
        simp only [List.getElem?_map, Option.map_eq_some_iff] at hx
        obtain ⟨j, hj, rfl⟩ := hx
        obtain ⟨hil, rfl⟩ := List.getElem?_eq_some_iff.1 hj
        simp only [List.length_range] at hil
        rw [List.getElem_range]
        exact (hf i hil).1
    · intro x hx
      simp at hx
      obtain ⟨i, hi', rfl⟩ := hx
      exact (hf i hi').2
end
section
variable {H : Type} {enc : TypeId × Value → H} {W : World} {base b : Nat} {spare : Nat → Bool} {held : Bool}
set_option maxRecDepth 100000 in
theorem open_Values_arg {v : Value} {d : DataW H} {p : List MemPlace} (hv : Value.okWide Tryz.prog W .any base 97 v) (h : DataW.Trod enc Tryz.prog W b spare held 97 v d p) :
    ∃ (A : Option Addr) (c : Nat) (xs : List (GV)), v = .slice A xs.length c ∧ fitValues xs ∧ ValuesAt W 0 W.heap.size A xs := by
  obtain ⟨a, len, cap, rfl⟩ := okWide_slice Tryz.underlying97 hv
  obtain ⟨fuel, hf⟩ := h
  obtain ⟨A, l, c, xs, hcs, rfl, ⟨_, hr⟩, hfit⟩ := open_Values hf
  simp [Value.cells] at hcs
  obtain ⟨rfl, rfl, rfl⟩ := hcs
  exact ⟨_, _, xs, rfl, hfit, hr⟩
end
end Go.Proofs.YteoepnadjkjlmaaGreat
namespace Go.Proofs.YteoepnadjkjlmaaGreat
open Go.ChangeShapes Go.WideShapes Go.ChangeAt Go.RowKit Go.Joins Go.Deep
set_option linter.unusedVariables false

section
variable {H : Type} {enc : TypeId × Value → H} {W : World} {base b : Nat} {spare : Nat → Bool} {held : Bool}
set_option maxRecDepth 100000 in
theorem open_ValueSs {fuel : Nat} {cs : List Value} {y : DataW H × List MemPlace} (h : DataW.trod enc Tryz.prog W b spare held fuel 44 cs = some y) :
    ∃ (A : Option Addr) (len c : Nat) (xs : List (List GV)), cs = [.slice A len c] ∧ len = xs.length ∧ (CapOk xs.length c ∧ ValueSsAt W 0 W.heap.size A xs) ∧ fitValueSs xs := by
  rcases open_slice Tryz.underlying44 h with ⟨hcs, hx⟩ | ⟨a, len, cap, m, n, D, Pl, hcs, hbb, hl, hm, hmm, hx, hi⟩
  · exact ⟨none, 0, 0, [], hcs, rfl, ⟨⟨Nat.le_refl _, Nat.zero_le _⟩, .inl rfl⟩, Nat.zero_le _, by simp⟩
  · have hce : Tryz.prog.cellsOf 97 = 1 := by kernel_rfl
    rw [hce] at hi
    have hlm : len ≤ m := by rw [hmm]; split <;> omega
    have hel : ∀ i, i < m → ∃ x : List GV, ValueSAt W 0 W.heap.size a.block (a.off + i) x ∧ fitValueS x := by
      intro i him
      obtain ⟨cs', hc, ht⟩ := hi i him
      obtain ⟨A0, l0, c0, x, e0, el, ⟨v0, s0⟩, hfit⟩ := open_Values ht
      subst e0 el
      obtain ⟨_, _, hat⟩ := World.cells?_some hc
      have g0 := hat 0 (by simp)
      simp at g0
      rw [Go.Deep.add_add] at g0
      exact ⟨x, ⟨A0, c0, ⟨cell_add0 g0, v0⟩, s0⟩, hfit⟩
    obtain ⟨f, hf⟩ := choose_lt (α := List GV) (n := len) (p := fun i x => ValueSAt W 0 W.heap.size a.block (a.off + i) x ∧ fitValueS x) (fun i hil => hel i (by omega))
    refine ⟨some a, len, cap, (List.range len).map f, hcs, by simp, ⟨⟨by simp; exact hl, hm⟩, ?_⟩, by simp; omega, ?_⟩
    · rcases Nat.eq_zero_or_pos len with rfl | hpos
      · exact .inl (by simp)
      · have h00 : ∃ u, W.cell? a = some u := by
          obtain ⟨cs', hc, ht⟩ := hi 0 (by omega)
          obtain ⟨_, hln, hat⟩ := World.cells?_some hc
          have g0 := hat 0 (by omega)
          rw [Nat.zero_mul, show (a.add 0).add 0 = a by simp [Addr.add]] at g0
          rw [List.getElem?_eq_getElem (by omega)] at g0
          exact ⟨_, g0⟩
        obtain ⟨u0, hu0⟩ := h00
        have hsp := World.cell?_spot hu0
        have hlt := World.block_lt_of_cell? W a hu0
        refine .inr ⟨a.block, a.off, by obtain ⟨bk, of, sp⟩ := a; simp at hsp; rw [hsp], Nat.zero_le _, hlt, fun i x hx => ?_⟩
        simp only [List.getElem?_map, Option.map_eq_some_iff] at hx
        obtain ⟨j, hj, rfl⟩ := hx
        obtain ⟨hil, rfl⟩ := List.getElem?_eq_some_iff.1 hj
        simp only [List.length_range] at hil
        rw [List.getElem_range]
        exact (hf i hil).1
    · intro x hx
      simp at hx
      obtain ⟨i, hi', rfl⟩ := hx
      exact (hf i hi').2
end
section
variable {H : Type} {enc : TypeId × Value → H} {W : World} {base b : Nat} {spare : Nat → Bool} {held : Bool}
set_option maxRecDepth 100000 in
theorem open_ValueSs_arg {v : Value} {d : DataW H} {p : List MemPlace} (hv : Value.okWide Tryz.prog W .any base 44 v) (h : DataW.Trod enc Tryz.prog W b spare held 44 v d p) :
    ∃ (A : Option Addr) (c : Nat) (xs : List (List GV)), v = .slice A xs.length c ∧ fitValueSs xs ∧ ValueSsAt W 0 W.heap.size A xs := by
  obtain ⟨a, len, cap, rfl⟩ := okWide_slice Tryz.underlying44 hv
  obtain ⟨fuel, hf⟩ := h
  obtain ⟨A, l, c, xs, hcs, rfl, ⟨_, hr⟩, hfit⟩ := open_ValueSs hf
  simp [Value.cells] at hcs
  obtain ⟨rfl, rfl, rfl⟩ := hcs
  exact ⟨_, _, xs, rfl, hfit, hr⟩
end
end Go.Proofs.YteoepnadjkjlmaaGreat
