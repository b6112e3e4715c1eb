/-
  How rules read.
-/
import Derived.Test.YtmbdccbgcobflaaOpenN
import Derived.Test.YtmbdccbgcobflaaTyRule
namespace Go.Proofs.Ytmbdccbgcobflaa
open Go.ChangeShapes Go.WideShapes Go.ChangeAt Go.RowKit Go.Joins Go.Deep
set_option linter.unusedVariables false

instance : Inhabited GAtom := ⟨⟨ByteArray.empty, []⟩⟩
theorem cells_Atom : Try.prog.cellsOf 24 = 2 := by kernel_rfl
theorem list_Atom {cs : List Value} (h : cs.length = 2) : ∃ v0 v1, cs = [v0, v1] := by
  match cs, h with
  | [v0, v1], _ => exact ⟨v0, v1, rfl⟩
section
variable {H : Type} {enc : TypeId × Value → H} {W : World} {base b : Nat} {spare : Nat → Bool} {held : Bool}
set_option maxRecDepth 100000 in
theorem open_Atom {fuel : Nat} {cs : List Value} {y : DataW H × List MemPlace} (h : DataW.trod enc Try.prog W b spare held fuel 24 cs = some y) :
    ∃ (x : GAtom) (A1 : Option Addr) (c1 : Nat), cs = [.string x.name, .slice A1 x.args.length c1] ∧ fitAtom x ∧ NodeSsAt W 0 W.heap.size A1 x.args := by
  have hl : cs.length = Try.prog.cellsOf 24 := by obtain ⟨xs, n, _, _, hl, _⟩ := DataW.trod_struct Try.underlying24 h; exact hl
  obtain ⟨v0, v1, rfl⟩ := list_Atom (hl.trans cells_Atom)
  obtain ⟨n0, y0, h0⟩ := trod_part Try.underlying24 h 0 _ rfl
  have g0 : DataW.trod enc Try.prog W b spare held n0 9 [v0] = some y0 := by
    have hc : Try.prog.cellsOf 9 = 1 := by kernel_rfl
    have q : DataW.trod enc Try.prog W b spare held n0 9 (([v0, v1].drop 0).take (Try.prog.cellsOf 9)) = some y0 := h0
    rw [hc] at q; exact q
  obtain ⟨z0, e0, _, f0⟩ := DataW.trod_string Try.underlying9 g0
  simp at e0
  subst e0
  obtain ⟨n1, y1, h1⟩ := trod_part Try.underlying24 h 1 _ rfl
  have g1 : DataW.trod enc Try.prog W b spare held n1 22 [v1] = some y1 := by
    have hc : Try.prog.cellsOf 22 = 1 := by kernel_rfl
    have q : DataW.trod enc Try.prog W b spare held n1 22 (([.string z0, v1].drop 1).take (Try.prog.cellsOf 22)) = some y1 := h1
    rw [hc] at q; exact q
  obtain ⟨A1, l1, c1, z1, e1, el1, s1, f1⟩ := open_NodeSs g1
  simp at e1
  subst e1 el1
  exact ⟨⟨z0, z1⟩, _, _, rfl, ⟨f0, f1⟩, s1⟩
end
instance : Inhabited GLit := ⟨⟨0, ⟨ByteArray.empty, []⟩, ByteArray.empty, [], []⟩⟩
theorem cells_Lit : Try.prog.cellsOf 69 = 6 := by kernel_rfl
theorem list_Lit {cs : List Value} (h : cs.length = 6) : ∃ v0 v1 v2 v3 v4 v5, cs = [v0, v1, v2, v3, v4, v5] := by
  match cs, h with
  | [v0, v1, v2, v3, v4, v5], _ => exact ⟨v0, v1, v2, v3, v4, v5, rfl⟩
section
variable {H : Type} {enc : TypeId × Value → H} {W : World} {base b : Nat} {spare : Nat → Bool} {held : Bool}
set_option maxRecDepth 100000 in
theorem open_Lit {fuel : Nat} {cs : List Value} {y : DataW H × List MemPlace} (h : DataW.trod enc Try.prog W b spare held fuel 69 cs = some y) :
    ∃ (x : GLit) (A2 : Option Addr) (c2 : Nat) (A4 : Option Addr) (c4 : Nat) (A5 : Option Addr) (c5 : Nat), cs = [.int .i64 x.k, .string x.atom.name, .slice A2 x.atom.args.length c2, .string x.op, .slice A4 x.left.length c4, .slice A5 x.right.length c5] ∧ fitLit x ∧ NodeSsAt W 0 W.heap.size A2 x.atom.args ∧ (CapOk x.left.length c4 ∧ NodesAt W 0 W.heap.size A4 x.left) ∧ (CapOk x.right.length c5 ∧ NodesAt W 0 W.heap.size A5 x.right) := by
  have hl : cs.length = Try.prog.cellsOf 69 := by obtain ⟨xs, n, _, _, hl, _⟩ := DataW.trod_struct Try.underlying69 h; exact hl
  obtain ⟨v0, v1, v2, v3, v4, v5, rfl⟩ := list_Lit (hl.trans cells_Lit)
  obtain ⟨n0, y0, h0⟩ := trod_part Try.underlying69 h 0 _ rfl
  have g0 : DataW.trod enc Try.prog W b spare held n0 2 [v0] = some y0 := by
    have hc : Try.prog.cellsOf 2 = 1 := by kernel_rfl
    have q : DataW.trod enc Try.prog W b spare held n0 2 (([v0, v1, v2, v3, v4, v5].drop 0).take (Try.prog.cellsOf 2)) = some y0 := h0
    rw [hc] at q; exact q
  obtain ⟨z0, e0, _, f0⟩ := DataW.trod_int Try.underlying2 g0
  simp at e0
  subst e0
  obtain ⟨n1, y1, h1⟩ := trod_part Try.underlying69 h 1 _ rfl
  have g1 : DataW.trod enc Try.prog W b spare held n1 24 [v1, v2] = some y1 := by
    have hc : Try.prog.cellsOf 24 = 2 := by kernel_rfl
    have q : DataW.trod enc Try.prog W b spare held n1 24 (([.int .i64 z0, v1, v2, v3, v4, v5].drop 1).take (Try.prog.cellsOf 24)) = some y1 := h1
    rw [hc] at q; exact q
  obtain ⟨z1, A2, c2, e1, f1, s2⟩ := open_Atom g1
  simp only [List.cons.injEq, and_true] at e1
  obtain ⟨rfl, rfl⟩ := e1
  obtain ⟨n2, y2, h2⟩ := trod_part Try.underlying69 h 2 _ rfl
  have g2 : DataW.trod enc Try.prog W b spare held n2 9 [v3] = some y2 := by
    have hc : Try.prog.cellsOf 9 = 1 := by kernel_rfl
    have q : DataW.trod enc Try.prog W b spare held n2 9 (([.int .i64 z0, .string z1.name, .slice A2 z1.args.length c2, v3, v4, v5].drop 3).take (Try.prog.cellsOf 9)) = some y2 := h2
    rw [hc] at q; exact q
  obtain ⟨z2, e2, _, f2⟩ := DataW.trod_string Try.underlying9 g2
  simp at e2
  subst e2
  obtain ⟨n3, y3, h3⟩ := trod_part Try.underlying69 h 3 _ rfl
  have g3 : DataW.trod enc Try.prog W b spare held n3 67 [v4] = some y3 := by
    have hc : Try.prog.cellsOf 67 = 1 := by kernel_rfl
    have q : DataW.trod enc Try.prog W b spare held n3 67 (([.int .i64 z0, .string z1.name, .slice A2 z1.args.length c2, .string z2, v4, v5].drop 4).take (Try.prog.cellsOf 67)) = some y3 := h3
    rw [hc] at q; exact q
  obtain ⟨A4, l4, c4, z3, e3, el3, s4, f3⟩ := open_Nodes g3
  simp at e3
  subst e3 el3
  obtain ⟨n4, y4, h4⟩ := trod_part Try.underlying69 h 4 _ rfl
  have g4 : DataW.trod enc Try.prog W b spare held n4 67 [v5] = some y4 := by
    have hc : Try.prog.cellsOf 67 = 1 := by kernel_rfl
    have q : DataW.trod enc Try.prog W b spare held n4 67 (([.int .i64 z0, .string z1.name, .slice A2 z1.args.length c2, .string z2, .slice A4 z3.length c4, v5].drop 5).take (Try.prog.cellsOf 67)) = some y4 := h4
    rw [hc] at q; exact q
  obtain ⟨A5, l5, c5, z4, e4, el4, s5, f4⟩ := open_Nodes g4
  simp at e4
  subst e4 el4
  exact ⟨⟨z0, z1, z2, z3, z4⟩, _, _, _, _, _, _, rfl, ⟨f0, f1.1, f1.2, f2, f3, f4⟩, s2, s4, s5⟩
end
section
variable {H : Type} {enc : TypeId × Value → H} {W : World} {base b : Nat} {spare : Nat → Bool} {held : Bool}
set_option maxRecDepth 100000 in
theorem open_Lits {fuel : Nat} {cs : List Value} {y : DataW H × List MemPlace} (h : DataW.trod enc Try.prog W b spare held fuel 26 cs = some y) :
    ∃ (A : Option Addr) (len c : Nat) (xs : List (GLit)), cs = [.slice A len c] ∧ len = xs.length ∧ LitsAt W 0 W.heap.size A xs ∧ fitLits xs := by
  rcases open_slice Try.underlying26 h with ⟨hcs, hx⟩ | ⟨a, len, cap, m, n, D, Pl, hcs, hbb, hl, hm, hmm, hx, hi⟩
  · exact ⟨none, 0, 0, [], hcs, rfl, .inl rfl, Nat.zero_le _, by simp⟩
  · have hce : Try.prog.cellsOf 69 = 6 := by kernel_rfl
    rw [hce] at hi
    have hlm : len ≤ m := by rw [hmm]; split <;> omega
    have hel : ∀ i, i < m → ∃ x : GLit, LitAt W 0 W.heap.size a.block (a.off + i * 6) x ∧ fitLit x := by
      intro i him
      obtain ⟨cs', hc, ht⟩ := hi i him
      obtain ⟨x, A2, c2, A4, c4, A5, c5, rfl, hfit, s2, ⟨v4, s4⟩, ⟨v5, s5⟩⟩ := open_Lit ht
      obtain ⟨_, _, hat⟩ := World.cells?_some hc
      have g0 := hat 0 (by simp)
      have g1 := hat 1 (by simp)
      have g2 := hat 2 (by simp)
      have g3 := hat 3 (by simp)
      have g4 := hat 4 (by simp)
      have g5 := hat 5 (by simp)
      simp at g0 g1 g2 g3 g4 g5
      rw [Go.Deep.add_add] at g0 g1 g2 g3 g4 g5
      exact ⟨x, ⟨cell_add0 g0, cell_add0 g1, ⟨A2, c2, cell_add0 g2, s2⟩, cell_add0 g3, ⟨A4, c4, ⟨cell_add0 g4, v4⟩, s4⟩, ⟨A5, c5, ⟨cell_add0 g5, v5⟩, s5⟩⟩, hfit⟩
    obtain ⟨f, hf⟩ := choose_lt (α := GLit) (n := len) (p := fun i x => LitAt W 0 W.heap.size a.block (a.off + i * 6) x ∧ fitLit x) (fun i hil => hel i (by omega))
    refine ⟨some a, len, cap, (List.range len).map f, hcs, by simp, ?_, by simp; omega, ?_⟩
    · rcases Nat.eq_zero_or_pos len with rfl | hpos
      · exact .inl (by simp)
      · have h00 : ∃ u, W.cell? a = some u := by
          obtain ⟨cs', hc, ht⟩ := hi 0 (by omega)
          obtain ⟨_, hln, hat⟩ := World.cells?_some hc
          have g0 := hat 0 (by omega)
          rw [Nat.zero_mul, show (a.add 0).add 0 = a by simp [Addr.add]] at g0
          rw [List.getElem?_eq_getElem (by omega)] at g0
          exact ⟨_, g0⟩
        obtain ⟨u0, hu0⟩ := h00
        have hsp := World.cell?_spot hu0
        have hlt := World.block_lt_of_cell? W a hu0
        refine .inr ⟨a.block, a.off, by obtain ⟨bk, of, sp⟩ := a; simp at hsp; rw [hsp], Nat.zero_le _, hlt, fun i x hx => ?_⟩
        simp only [List.getElem?_map, Option.map_eq_some_iff] at hx
        obtain ⟨j, hj, rfl⟩ := hx
        obtain ⟨hil, rfl⟩ := List.getElem?_eq_some_iff.1 hj
        simp only [List.length_range] at hil
        rw [List.getElem_range]
        exact (hf i hil).1
    · intro x hx
      simp at hx
      obtain ⟨i, hi', rfl⟩ := hx
      exact (hf i hi').2
end
instance : Inhabited GRule := ⟨⟨⟨ByteArray.empty, []⟩, [], []⟩⟩
theorem cells_Rule : Try.prog.cellsOf 28 = 4 := by kernel_rfl
theorem list_Rule {cs : List Value} (h : cs.length = 4) : ∃ v0 v1 v2 v3, cs = [v0, v1, v2, v3] := by
  match cs, h with
  | [v0, v1, v2, v3], _ => exact ⟨v0, v1, v2, v3, rfl⟩
section
variable {H : Type} {enc : TypeId × Value → H} {W : World} {base b : Nat} {spare : Nat → Bool} {held : Bool}
set_option maxRecDepth 100000 in
theorem open_Rule {fuel : Nat} {cs : List Value} {y : DataW H × List MemPlace} (h : DataW.trod enc Try.prog W b spare held fuel 28 cs = some y) :
    ∃ (x : GRule) (A1 : Option Addr) (c1 : Nat) (A2 : Option Addr) (c2 : Nat) (A3 : Option Addr) (c3 : Nat), cs = [.string x.head.name, .slice A1 x.head.args.length c1, .slice A2 x.aggs.length c2, .slice A3 x.body.length c3] ∧ fitRule x ∧ NodeSsAt W 0 W.heap.size A1 x.head.args ∧ StrsAt W 0 W.heap.size A2 x.aggs ∧ LitsAt W 0 W.heap.size A3 x.body := by
  have hl : cs.length = Try.prog.cellsOf 28 := by obtain ⟨xs, n, _, _, hl, _⟩ := DataW.trod_struct Try.underlying28 h; exact hl
  obtain ⟨v0, v1, v2, v3, rfl⟩ := list_Rule (hl.trans cells_Rule)
  obtain ⟨n0, y0, h0⟩ := trod_part Try.underlying28 h 0 _ rfl
  have g0 : DataW.trod enc Try.prog W b spare held n0 24 [v0, v1] = some y0 := by
    have hc : Try.prog.cellsOf 24 = 2 := by kernel_rfl
    have q : DataW.trod enc Try.prog W b spare held n0 24 (([v0, v1, v2, v3].drop 0).take (Try.prog.cellsOf 24)) = some y0 := h0
    rw [hc] at q; exact q
  obtain ⟨z0, A1, c1, e0, f0, s1⟩ := open_Atom g0
  simp only [List.cons.injEq, and_true] at e0
  obtain ⟨rfl, rfl⟩ := e0
  obtain ⟨n1, y1, h1⟩ := trod_part Try.underlying28 h 1 _ rfl
  have g1 : DataW.trod enc Try.prog W b spare held n1 25 [v2] = some y1 := by
    have hc : Try.prog.cellsOf 25 = 1 := by kernel_rfl
    have q : DataW.trod enc Try.prog W b spare held n1 25 (([.string z0.name, .slice A1 z0.args.length c1, v2, v3].drop 2).take (Try.prog.cellsOf 25)) = some y1 := h1
    rw [hc] at q; exact q
  obtain ⟨A2, l2, c2, z1, e1, el1, s2, f1⟩ := open_Strs g1
  simp at e1
  subst e1 el1
  obtain ⟨n2, y2, h2⟩ := trod_part Try.underlying28 h 2 _ rfl
  have g2 : DataW.trod enc Try.prog W b spare held n2 26 [v3] = some y2 := by
    have hc : Try.prog.cellsOf 26 = 1 := by kernel_rfl
    have q : DataW.trod enc Try.prog W b spare held n2 26 (([.string z0.name, .slice A1 z0.args.length c1, .slice A2 z1.length c2, v3].drop 3).take (Try.prog.cellsOf 26)) = some y2 := h2
    rw [hc] at q; exact q
  obtain ⟨A3, l3, c3, z2, e2, el2, s3, f2⟩ := open_Lits g2
  simp at e2
  subst e2 el2
  exact ⟨⟨z0, z1, z2⟩, _, _, _, _, _, _, rfl, ⟨f0.1, f0.2, f1, f2⟩, s1, s2, s3⟩
end
section
variable {H : Type} {enc : TypeId × Value → H} {W : World} {base b : Nat} {spare : Nat → Bool} {held : Bool}
set_option maxRecDepth 100000 in
theorem open_Rule_arg {v : Value} {d : DataW H} {p : List MemPlace} (hv : Value.okWide Try.prog W .any base 28 v) (h : DataW.Trod enc Try.prog W b spare held 28 v d p) :
    ∃ (x : GRule) (A1 : Option Addr) (c1 : Nat) (A2 : Option Addr) (c2 : Nat) (A3 : Option Addr) (c3 : Nat), v = .agg #[.string x.head.name, .slice A1 x.head.args.length c1, .slice A2 x.aggs.length c2, .slice A3 x.body.length c3] ∧ fitRule x ∧ NodeSsAt W 0 W.heap.size A1 x.head.args ∧ StrsAt W 0 W.heap.size A2 x.aggs ∧ LitsAt W 0 W.heap.size A3 x.body := by
  obtain ⟨cs, rfl, hsz⟩ := okWide_struct Try.underlying28 hv
  obtain ⟨fuel, hf⟩ := h
  obtain ⟨x, A1, c1, A2, c2, A3, c3, ec, hr⟩ := open_Rule hf
  refine ⟨x, A1, c1, A2, c2, A3, c3, ?_, hr⟩
  have e2 : cs.toList = _ := ec
  rw [← Array.toArray_toList (xs := cs), e2]
end
end Go.Proofs.Ytmbdccbgcobflaa
