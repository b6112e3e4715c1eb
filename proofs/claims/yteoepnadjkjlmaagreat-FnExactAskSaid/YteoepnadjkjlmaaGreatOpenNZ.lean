/-
  How values read. How nodes read.
-/
import Derived.Test.YteoepnadjkjlmaaGreatOpen0Z
import Derived.Test.YteoepnadjkjlmaaGreatRowStZ
import Derived.Test.YteoepnadjkjlmaaGreatSzNodesZ
namespace Go.Proofs.YteoepnadjkjlmaaGreat
open Go.ChangeShapes Go.WideShapes Go.ChangeAt Go.RowKit Go.Joins Go.Deep
set_option linter.unusedVariables false

theorem trod_part {H : Type} {enc : TypeId × Value → H} {P : Program} {W : World} {b : Nat} {spare : Nat → Bool} {held : Bool} {t : TypeId} {fs : Array Field} {fuel : Nat} {cs : List Value} {x : DataW H × List MemPlace} (ht : P.underlying t = some (.struct fs)) (h : DataW.trod enc P W b spare held fuel t cs = some x) (i : Nat) (f : Field) (hi : fs[i]? = some f) :
    ∃ n y, DataW.trod enc P W b spare held n f.type ((cs.drop f.offset).take (P.cellsOf f.type)) = some y := by
  obtain ⟨xs, n, _, _, hl, hlen, hf⟩ := DataW.trod_struct ht h
  have h1 := hf i f hi
  have h2 : i < xs.length := by rw [hlen]; exact (Array.getElem?_eq_some_iff.1 hi).1
  rw [List.getElem?_eq_getElem h2] at h1
  exact ⟨n, _, h1⟩
theorem cells_Value : Tryz.prog.cellsOf 99 = 3 := by kernel_rfl
theorem list_Value {cs : List Value} (h : cs.length = 3) : ∃ v0 v1 v2, cs = [v0, v1, v2] := by
  match cs, h with
  | [v0, v1, v2], _ => exact ⟨v0, v1, v2, rfl⟩
section
variable {H : Type} {enc : TypeId × Value → H} {W : World} {base b : Nat} {spare : Nat → Bool} {held : Bool}
set_option maxRecDepth 100000 in
theorem open_Value {fuel : Nat} {cs : List Value} {y : DataW H × List MemPlace} (h : DataW.trod enc Tryz.prog W b spare held fuel 99 cs = some y) :
    ∃ (x : GV), cs = [.int .i64 x.k, .int .i64 x.n, .string x.t] ∧ fitValue x := by
  have hl : cs.length = Tryz.prog.cellsOf 99 := by obtain ⟨xs, n, _, _, hl, _⟩ := DataW.trod_struct Tryz.underlying99 h; exact hl
  obtain ⟨v0, v1, v2, rfl⟩ := list_Value (hl.trans cells_Value)
  obtain ⟨n0, y0, h0⟩ := trod_part Tryz.underlying99 h 0 _ rfl
  have g0 : DataW.trod enc Tryz.prog W b spare held n0 2 [v0] = some y0 := by
    have hc : Tryz.prog.cellsOf 2 = 1 := by kernel_rfl
    have q : DataW.trod enc Tryz.prog W b spare held n0 2 (([v0, v1, v2].drop 0).take (Tryz.prog.cellsOf 2)) = some y0 := h0
    rw [hc] at q; exact q
  obtain ⟨z0, e0, _, f0⟩ := DataW.trod_int Tryz.underlying2 g0
  simp at e0
  subst e0
  obtain ⟨n1, y1, h1⟩ := trod_part Tryz.underlying99 h 1 _ rfl
  have g1 : DataW.trod enc Tryz.prog W b spare held n1 2 [v1] = some y1 := by
    have hc : Tryz.prog.cellsOf 2 = 1 := by kernel_rfl
    have q : DataW.trod enc Tryz.prog W b spare held n1 2 (([.int .i64 z0, v1, v2].drop 1).take (Tryz.prog.cellsOf 2)) = some y1 := h1
    rw [hc] at q; exact q
  obtain ⟨z1, e1, _, f1⟩ := DataW.trod_int Tryz.underlying2 g1
  simp at e1
  subst e1
  obtain ⟨n2, y2, h2⟩ := trod_part Tryz.underlying99 h 2 _ rfl
  have g2 : DataW.trod enc Tryz.prog W b spare held n2 9 [v2] = some y2 := by
    have hc : Tryz.prog.cellsOf 9 = 1 := by kernel_rfl
    have q : DataW.trod enc Tryz.prog W b spare held n2 9 (([.int .i64 z0, .int .i64 z1, v2].drop 2).take (Tryz.prog.cellsOf 9)) = some y2 := h2
    rw [hc] at q; exact q
  obtain ⟨z2, e2, _, f2⟩ := DataW.trod_string Tryz.underlying9 g2
  simp at e2
  subst e2
  exact ⟨⟨z0, z1, z2⟩, rfl, ⟨f0, f1, f2⟩⟩
end
end Go.Proofs.YteoepnadjkjlmaaGreat
namespace Go.Proofs.YteoepnadjkjlmaaGreat
open Go.ChangeShapes Go.WideShapes Go.ChangeAt Go.RowKit Go.Joins Go.Deep
set_option linter.unusedVariables false

instance : Inhabited GNode := ⟨⟨0, ByteArray.empty, ⟨0, 0, ByteArray.empty⟩, 0⟩⟩
theorem cells_Node : Tryz.prog.cellsOf 101 = 6 := by kernel_rfl
theorem list_Node {cs : List Value} (h : cs.length = 6) : ∃ v0 v1 v2 v3 v4 v5, cs = [v0, v1, v2, v3, v4, v5] := by
  match cs, h with
  | [v0, v1, v2, v3, v4, v5], _ => exact ⟨v0, v1, v2, v3, v4, v5, rfl⟩
section
variable {H : Type} {enc : TypeId × Value → H} {W : World} {base b : Nat} {spare : Nat → Bool} {held : Bool}
set_option maxRecDepth 100000 in
theorem open_Node {fuel : Nat} {cs : List Value} {y : DataW H × List MemPlace} (h : DataW.trod enc Tryz.prog W b spare held fuel 101 cs = some y) :
    ∃ (x : GNode), cs = [.int .i64 x.k, .string x.name, .int .i64 x.v.k, .int .i64 x.v.n, .string x.v.t, .int .i64 x.size] ∧ fitNode x := by
  have hl : cs.length = Tryz.prog.cellsOf 101 := by obtain ⟨xs, n, _, _, hl, _⟩ := DataW.trod_struct Tryz.underlying101 h; exact hl
  obtain ⟨v0, v1, v2, v3, v4, v5, rfl⟩ := list_Node (hl.trans cells_Node)
  obtain ⟨n0, y0, h0⟩ := trod_part Tryz.underlying101 h 0 _ rfl
  have g0 : DataW.trod enc Tryz.prog W b spare held n0 2 [v0] = some y0 := by
    have hc : Tryz.prog.cellsOf 2 = 1 := by kernel_rfl
    have q : DataW.trod enc Tryz.prog W b spare held n0 2 (([v0, v1, v2, v3, v4, v5].drop 0).take (Tryz.prog.cellsOf 2)) = some y0 := h0
    rw [hc] at q; exact q
  obtain ⟨z0, e0, _, f0⟩ := DataW.trod_int Tryz.underlying2 g0
  simp at e0
  subst e0
  obtain ⟨n1, y1, h1⟩ := trod_part Tryz.underlying101 h 1 _ rfl
  have g1 : DataW.trod enc Tryz.prog W b spare held n1 9 [v1] = some y1 := by
    have hc : Tryz.prog.cellsOf 9 = 1 := by kernel_rfl
    have q : DataW.trod enc Tryz.prog W b spare held n1 9 (([.int .i64 z0, v1, v2, v3, v4, v5].drop 1).take (Tryz.prog.cellsOf 9)) = some y1 := h1
    rw [hc] at q; exact q
  obtain ⟨z1, e1, _, f1⟩ := DataW.trod_string Tryz.underlying9 g1
  simp at e1
  subst e1
  obtain ⟨n2, y2, h2⟩ := trod_part Tryz.underlying101 h 2 _ rfl
  have g2 : DataW.trod enc Tryz.prog W b spare held n2 99 [v2, v3, v4] = some y2 := by
    have hc : Tryz.prog.cellsOf 99 = 3 := by kernel_rfl
    have q : DataW.trod enc Tryz.prog W b spare held n2 99 (([.int .i64 z0, .string z1, v2, v3, v4, v5].drop 2).take (Tryz.prog.cellsOf 99)) = some y2 := h2
    rw [hc] at q; exact q
  obtain ⟨z2, e2, f2⟩ := open_Value g2
  simp only [List.cons.injEq, and_true] at e2
  obtain ⟨rfl, rfl, rfl⟩ := e2
  obtain ⟨n3, y3, h3⟩ := trod_part Tryz.underlying101 h 3 _ rfl
  have g3 : DataW.trod enc Tryz.prog W b spare held n3 2 [v5] = some y3 := by
    have hc : Tryz.prog.cellsOf 2 = 1 := by kernel_rfl
    have q : DataW.trod enc Tryz.prog W b spare held n3 2 (([.int .i64 z0, .string z1, .int .i64 z2.k, .int .i64 z2.n, .string z2.t, v5].drop 5).take (Tryz.prog.cellsOf 2)) = some y3 := h3
    rw [hc] at q; exact q
  obtain ⟨z3, e3, _, f3⟩ := DataW.trod_int Tryz.underlying2 g3
  simp at e3
  subst e3
  exact ⟨⟨z0, z1, z2, z3⟩, rfl, ⟨f0, f1, f2.1, f2.2.1, f2.2.2, f3⟩⟩
end
section
variable {H : Type} {enc : TypeId × Value → H} {W : World} {base b : Nat} {spare : Nat → Bool} {held : Bool}
set_option maxRecDepth 100000 in
theorem open_Nodes {fuel : Nat} {cs : List Value} {y : DataW H × List MemPlace} (h : DataW.trod enc Tryz.prog W b spare held fuel 74 cs = some y) :
    ∃ (A : Option Addr) (len c : Nat) (xs : List (GNode)), cs = [.slice A len c] ∧ len = xs.length ∧ (CapOk xs.length c ∧ NodesAt W 0 W.heap.size A xs) ∧ fitNodes xs := by
  rcases open_slice Tryz.underlying74 h with ⟨hcs, hx⟩ | ⟨a, len, cap, m, n, D, Pl, hcs, hbb, hl, hm, hmm, hx, hi⟩
  · exact ⟨none, 0, 0, [], hcs, rfl, ⟨⟨Nat.le_refl _, Nat.zero_le _⟩, .inl rfl⟩, Nat.zero_le _, by simp⟩
  · have hce : Tryz.prog.cellsOf 101 = 6 := by kernel_rfl
    rw [hce] at hi
    have hlm : len ≤ m := by rw [hmm]; split <;> omega
    have hel : ∀ i, i < m → ∃ x : GNode, NodeAt W 0 W.heap.size a.block (a.off + i * 6) x ∧ fitNode x := by
      intro i him
      obtain ⟨cs', hc, ht⟩ := hi i him
      obtain ⟨x, rfl, hfit⟩ := open_Node ht
      obtain ⟨_, _, hat⟩ := World.cells?_some hc
      have g0 := hat 0 (by simp)
      have g1 := hat 1 (by simp)
      have g2 := hat 2 (by simp)
      have g3 := hat 3 (by simp)
      have g4 := hat 4 (by simp)
      have g5 := hat 5 (by simp)
      simp at g0 g1 g2 g3 g4 g5
      rw [Go.Deep.add_add] at g0 g1 g2 g3 g4 g5
      exact ⟨x, ⟨cell_add0 g0, cell_add0 g1, cell_add0 g2, cell_add0 g3, cell_add0 g4, cell_add0 g5⟩, hfit⟩
    obtain ⟨f, hf⟩ := choose_lt (α := GNode) (n := len) (p := fun i x => NodeAt W 0 W.heap.size a.block (a.off + i * 6) x ∧ fitNode x) (fun i hil => hel i (by omega))
    refine ⟨some a, len, cap, (List.range len).map f, hcs, by simp, ⟨⟨by simp; exact hl, hm⟩, ?_⟩, by simp; omega, ?_⟩
    · rcases Nat.eq_zero_or_pos len with rfl | hpos
      · exact .inl (by simp)
      · have h00 : ∃ u, W.cell? a = some u := by
          obtain ⟨cs', hc, ht⟩ := hi 0 (by omega)
          obtain ⟨_, hln, hat⟩ := World.cells?_some hc
          have g0 := hat 0 (by omega)
          rw [Nat.zero_mul, show (a.add 0).add 0 = a by simp [Addr.add]] at g0
          rw [List.getElem?_eq_getElem (by omega)] at g0
          exact ⟨_, g0⟩
        obtain ⟨u0, hu0⟩ := h00
        have hsp := World.cell?_spot hu0
        have hlt := World.block_lt_of_cell? W a hu0
        refine .inr ⟨a.block, a.off, by obtain ⟨bk, of, sp⟩ := a; simp at hsp; rw [hsp], Nat.zero_le _, hlt, fun i x hx => ?_⟩
        simp only [List.getElem?_map, Option.map_eq_some_iff] at hx
        obtain ⟨j, hj, rfl⟩ := hx
        obtain ⟨hil, rfl⟩ := List.getElem?_eq_some_iff.1 hj
        simp only [List.length_range] at hil
        rw [List.getElem_range]
        exact (hf i hil).1
    · intro x hx
      simp at hx
      obtain ⟨i, hi', rfl⟩ := hx
      exact (hf i hi').2
end
section
variable {H : Type} {enc : TypeId × Value → H} {W : World} {base b : Nat} {spare : Nat → Bool} {held : Bool}
set_option maxRecDepth 100000 in
theorem open_Nodes_arg {v : Value} {d : DataW H} {p : List MemPlace} (hv : Value.okWide Tryz.prog W .any base 74 v) (h : DataW.Trod enc Tryz.prog W b spare held 74 v d p) :
    ∃ (A : Option Addr) (c : Nat) (xs : List (GNode)), v = .slice A xs.length c ∧ fitNodes xs ∧ NodesAt W 0 W.heap.size A xs := by
  obtain ⟨a, len, cap, rfl⟩ := okWide_slice Tryz.underlying74 hv
  obtain ⟨fuel, hf⟩ := h
  obtain ⟨A, l, c, xs, hcs, rfl, ⟨_, hr⟩, hfit⟩ := open_Nodes hf
  simp [Value.cells] at hcs
  obtain ⟨rfl, rfl, rfl⟩ := hcs
  exact ⟨_, _, xs, rfl, hfit, hr⟩
end
end Go.Proofs.YteoepnadjkjlmaaGreat
