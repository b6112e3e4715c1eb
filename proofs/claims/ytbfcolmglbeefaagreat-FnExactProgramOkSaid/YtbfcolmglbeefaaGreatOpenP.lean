/-
  How programs read.
-/
import Derived.Test.YtbfcolmglbeefaaGreatOpenR
import Derived.Test.YtbfcolmglbeefaaGreatTyProg
namespace Go.Proofs.YtbfcolmglbeefaaGreat
open Go.ChangeShapes Go.WideShapes Go.ChangeAt Go.RowKit Go.Joins Go.Deep
set_option linter.unusedVariables false

section
variable {H : Type} {enc : TypeId × Value → H} {W : World} {base b : Nat} {spare : Nat → Bool} {held : Bool}
set_option maxRecDepth 100000 in
theorem open_Rules {fuel : Nat} {cs : List Value} {y : DataW H × List MemPlace} (h : DataW.trod enc Tryz.prog W b spare held fuel 23 cs = some y) :
    ∃ (A : Option Addr) (len c : Nat) (xs : List (GRule)), cs = [.slice A len c] ∧ len = xs.length ∧ RulesAt W 0 W.heap.size A xs ∧ fitRules xs := by
  rcases open_slice Tryz.underlying23 h with ⟨hcs, hx⟩ | ⟨a, len, cap, m, n, D, Pl, hcs, hbb, hl, hm, hmm, hx, hi⟩
  · exact ⟨none, 0, 0, [], hcs, rfl, .inl rfl, Nat.zero_le _, by simp⟩
  · have hce : Tryz.prog.cellsOf 63 = 4 := by kernel_rfl
    rw [hce] at hi
    have hlm : len ≤ m := by rw [hmm]; split <;> omega
    have hel : ∀ i, i < m → ∃ x : GRule, RuleAt W 0 W.heap.size a.block (a.off + i * 4) x ∧ fitRule x := by
      intro i him
      obtain ⟨cs', hc, ht⟩ := hi i him
      obtain ⟨x, A1, c1, A2, c2, A3, c3, rfl, hfit, s1, s2, s3⟩ := open_Rule ht
      obtain ⟨_, _, hat⟩ := World.cells?_some hc
      have g0 := hat 0 (by simp)
      have g1 := hat 1 (by simp)
      have g2 := hat 2 (by simp)
      have g3 := hat 3 (by simp)
      simp at g0 g1 g2 g3
      rw [Go.Deep.add_add] at g0 g1 g2 g3
      exact ⟨x, ⟨cell_add0 g0, ⟨A1, c1, cell_add0 g1, s1⟩, ⟨A2, c2, cell_add0 g2, s2⟩, ⟨A3, c3, cell_add0 g3, s3⟩⟩, hfit⟩
    obtain ⟨f, hf⟩ := choose_lt (α := GRule) (n := len) (p := fun i x => RuleAt W 0 W.heap.size a.block (a.off + i * 4) x ∧ fitRule x) (fun i hil => hel i (by omega))
    refine ⟨some a, len, cap, (List.range len).map f, hcs, by simp, ?_, by simp; omega, ?_⟩
    · rcases Nat.eq_zero_or_pos len with rfl | hpos
      · exact .inl (by simp)
      · have h00 : ∃ u, W.cell? a = some u := by
          obtain ⟨cs', hc, ht⟩ := hi 0 (by omega)
          obtain ⟨_, hln, hat⟩ := World.cells?_some hc
          have g0 := hat 0 (by omega)
          rw [Nat.zero_mul, show (a.add 0).add 0 = a by simp [Addr.add]] at g0
          rw [List.getElem?_eq_getElem (by omega)] at g0
          exact ⟨_, g0⟩
        obtain ⟨u0, hu0⟩ := h00
        have hsp := World.cell?_spot hu0
        have hlt := World.block_lt_of_cell? W a hu0
        refine .inr ⟨a.block, a.off, by obtain ⟨bk, of, sp⟩ := a; simp at hsp; rw [hsp], Nat.zero_le _, hlt, fun i x hx => ?_⟩
        simp only [List.getElem?_map, Option.map_eq_some_iff] at hx
        obtain ⟨j, hj, rfl⟩ := hx
        obtain ⟨hil, rfl⟩ := List.getElem?_eq_some_iff.1 hj
        simp only [List.length_range] at hil
        rw [List.getElem_range]
        exact (hf i hil).1
    · intro x hx
      simp at hx
      obtain ⟨i, hi', rfl⟩ := hx
      exact (hf i hi').2
end
instance : Inhabited GDecl := ⟨⟨ByteArray.empty, []⟩⟩
theorem cells_Decl : Tryz.prog.cellsOf 56 = 2 := by kernel_rfl
theorem list_Decl {cs : List Value} (h : cs.length = 2) : ∃ v0 v1, cs = [v0, v1] := by
  match cs, h with
  | [v0, v1], _ => exact ⟨v0, v1, rfl⟩
section
variable {H : Type} {enc : TypeId × Value → H} {W : World} {base b : Nat} {spare : Nat → Bool} {held : Bool}
set_option maxRecDepth 100000 in
theorem open_Decl {fuel : Nat} {cs : List Value} {y : DataW H × List MemPlace} (h : DataW.trod enc Tryz.prog W b spare held fuel 56 cs = some y) :
    ∃ (x : GDecl) (A1 : Option Addr) (c1 : Nat), cs = [.string x.name, .slice A1 x.types.length c1] ∧ fitDecl x ∧ StrsAt W 0 W.heap.size A1 x.types := by
  have hl : cs.length = Tryz.prog.cellsOf 56 := by obtain ⟨xs, n, _, _, hl, _⟩ := DataW.trod_struct Tryz.underlying56 h; exact hl
  obtain ⟨v0, v1, rfl⟩ := list_Decl (hl.trans cells_Decl)
  obtain ⟨n0, y0, h0⟩ := trod_part Tryz.underlying56 h 0 _ rfl
  have g0 : DataW.trod enc Tryz.prog W b spare held n0 9 [v0] = some y0 := by
    have hc : Tryz.prog.cellsOf 9 = 1 := by kernel_rfl
    have q : DataW.trod enc Tryz.prog W b spare held n0 9 (([v0, v1].drop 0).take (Tryz.prog.cellsOf 9)) = some y0 := h0
    rw [hc] at q; exact q
  obtain ⟨z0, e0, _, f0⟩ := DataW.trod_string Tryz.underlying9 g0
  simp at e0
  subst e0
  obtain ⟨n1, y1, h1⟩ := trod_part Tryz.underlying56 h 1 _ rfl
  have g1 : DataW.trod enc Tryz.prog W b spare held n1 38 [v1] = some y1 := by
    have hc : Tryz.prog.cellsOf 38 = 1 := by kernel_rfl
    have q : DataW.trod enc Tryz.prog W b spare held n1 38 (([.string z0, v1].drop 1).take (Tryz.prog.cellsOf 38)) = some y1 := h1
    rw [hc] at q; exact q
  obtain ⟨A1, l1, c1, z1, e1, el1, s1, f1⟩ := open_Strs g1
  simp at e1
  subst e1 el1
  exact ⟨⟨z0, z1⟩, _, _, rfl, ⟨f0, f1⟩, s1⟩
end
section
variable {H : Type} {enc : TypeId × Value → H} {W : World} {base b : Nat} {spare : Nat → Bool} {held : Bool}
set_option maxRecDepth 100000 in
theorem open_Decls {fuel : Nat} {cs : List Value} {y : DataW H × List MemPlace} (h : DataW.trod enc Tryz.prog W b spare held fuel 22 cs = some y) :
    ∃ (A : Option Addr) (len c : Nat) (xs : List (GDecl)), cs = [.slice A len c] ∧ len = xs.length ∧ DeclsAt W 0 W.heap.size A xs ∧ fitDecls xs := by
  rcases open_slice Tryz.underlying22 h with ⟨hcs, hx⟩ | ⟨a, len, cap, m, n, D, Pl, hcs, hbb, hl, hm, hmm, hx, hi⟩
  · exact ⟨none, 0, 0, [], hcs, rfl, .inl rfl, Nat.zero_le _, by simp⟩
  · have hce : Tryz.prog.cellsOf 56 = 2 := by kernel_rfl
    rw [hce] at hi
    have hlm : len ≤ m := by rw [hmm]; split <;> omega
    have hel : ∀ i, i < m → ∃ x : GDecl, DeclAt W 0 W.heap.size a.block (a.off + i * 2) x ∧ fitDecl x := by
      intro i him
      obtain ⟨cs', hc, ht⟩ := hi i him
      obtain ⟨x, A1, c1, rfl, hfit, s1⟩ := open_Decl ht
      obtain ⟨_, _, hat⟩ := World.cells?_some hc
      have g0 := hat 0 (by simp)
      have g1 := hat 1 (by simp)
      simp at g0 g1
      rw [Go.Deep.add_add] at g0 g1
      exact ⟨x, ⟨cell_add0 g0, ⟨A1, c1, cell_add0 g1, s1⟩⟩, hfit⟩
    obtain ⟨f, hf⟩ := choose_lt (α := GDecl) (n := len) (p := fun i x => DeclAt W 0 W.heap.size a.block (a.off + i * 2) x ∧ fitDecl x) (fun i hil => hel i (by omega))
    refine ⟨some a, len, cap, (List.range len).map f, hcs, by simp, ?_, by simp; omega, ?_⟩
    · rcases Nat.eq_zero_or_pos len with rfl | hpos
      · exact .inl (by simp)
      · have h00 : ∃ u, W.cell? a = some u := by
          obtain ⟨cs', hc, ht⟩ := hi 0 (by omega)
          obtain ⟨_, hln, hat⟩ := World.cells?_some hc
          have g0 := hat 0 (by omega)
          rw [Nat.zero_mul, show (a.add 0).add 0 = a by simp [Addr.add]] at g0
          rw [List.getElem?_eq_getElem (by omega)] at g0
          exact ⟨_, g0⟩
        obtain ⟨u0, hu0⟩ := h00
        have hsp := World.cell?_spot hu0
        have hlt := World.block_lt_of_cell? W a hu0
        refine .inr ⟨a.block, a.off, by obtain ⟨bk, of, sp⟩ := a; simp at hsp; rw [hsp], Nat.zero_le _, hlt, fun i x hx => ?_⟩
        simp only [List.getElem?_map, Option.map_eq_some_iff] at hx
        obtain ⟨j, hj, rfl⟩ := hx
        obtain ⟨hil, rfl⟩ := List.getElem?_eq_some_iff.1 hj
        simp only [List.length_range] at hil
        rw [List.getElem_range]
        exact (hf i hil).1
    · intro x hx
      simp at hx
      obtain ⟨i, hi', rfl⟩ := hx
      exact (hf i hi').2
end
instance : Inhabited GProgram := ⟨⟨[], []⟩⟩
theorem cells_Program : Tryz.prog.cellsOf 25 = 2 := by kernel_rfl
theorem list_Program {cs : List Value} (h : cs.length = 2) : ∃ v0 v1, cs = [v0, v1] := by
  match cs, h with
  | [v0, v1], _ => exact ⟨v0, v1, rfl⟩
section
variable {H : Type} {enc : TypeId × Value → H} {W : World} {base b : Nat} {spare : Nat → Bool} {held : Bool}
set_option maxRecDepth 100000 in
theorem open_Program {fuel : Nat} {cs : List Value} {y : DataW H × List MemPlace} (h : DataW.trod enc Tryz.prog W b spare held fuel 25 cs = some y) :
    ∃ (x : GProgram) (A0 : Option Addr) (c0 : Nat) (A1 : Option Addr) (c1 : Nat), cs = [.slice A0 x.decls.length c0, .slice A1 x.rules.length c1] ∧ fitProgram x ∧ DeclsAt W 0 W.heap.size A0 x.decls ∧ RulesAt W 0 W.heap.size A1 x.rules := by
  have hl : cs.length = Tryz.prog.cellsOf 25 := by obtain ⟨xs, n, _, _, hl, _⟩ := DataW.trod_struct Tryz.underlying25 h; exact hl
  obtain ⟨v0, v1, rfl⟩ := list_Program (hl.trans cells_Program)
  obtain ⟨n0, y0, h0⟩ := trod_part Tryz.underlying25 h 0 _ rfl
  have g0 : DataW.trod enc Tryz.prog W b spare held n0 22 [v0] = some y0 := by
    have hc : Tryz.prog.cellsOf 22 = 1 := by kernel_rfl
    have q : DataW.trod enc Tryz.prog W b spare held n0 22 (([v0, v1].drop 0).take (Tryz.prog.cellsOf 22)) = some y0 := h0
    rw [hc] at q; exact q
  obtain ⟨A0, l0, c0, z0, e0, el0, s0, f0⟩ := open_Decls g0
  simp at e0
  subst e0 el0
  obtain ⟨n1, y1, h1⟩ := trod_part Tryz.underlying25 h 1 _ rfl
  have g1 : DataW.trod enc Tryz.prog W b spare held n1 23 [v1] = some y1 := by
    have hc : Tryz.prog.cellsOf 23 = 1 := by kernel_rfl
    have q : DataW.trod enc Tryz.prog W b spare held n1 23 (([.slice A0 z0.length c0, v1].drop 1).take (Tryz.prog.cellsOf 23)) = some y1 := h1
    rw [hc] at q; exact q
  obtain ⟨A1, l1, c1, z1, e1, el1, s1, f1⟩ := open_Rules g1
  simp at e1
  subst e1 el1
  exact ⟨⟨z0, z1⟩, _, _, _, _, rfl, ⟨f0, f1⟩, s0, s1⟩
end
section
variable {H : Type} {enc : TypeId × Value → H} {W : World} {base b : Nat} {spare : Nat → Bool} {held : Bool}
set_option maxRecDepth 100000 in
theorem open_Program_arg {v : Value} {d : DataW H} {p : List MemPlace} (hv : Value.okWide Tryz.prog W .any base 25 v) (h : DataW.Trod enc Tryz.prog W b spare held 25 v d p) :
    ∃ (x : GProgram) (A0 : Option Addr) (c0 : Nat) (A1 : Option Addr) (c1 : Nat), v = .agg #[.slice A0 x.decls.length c0, .slice A1 x.rules.length c1] ∧ fitProgram x ∧ DeclsAt W 0 W.heap.size A0 x.decls ∧ RulesAt W 0 W.heap.size A1 x.rules := by
  obtain ⟨cs, rfl, hsz⟩ := okWide_struct Tryz.underlying25 hv
  obtain ⟨fuel, hf⟩ := h
  obtain ⟨x, A0, c0, A1, c1, ec, hr⟩ := open_Program hf
  refine ⟨x, A0, c0, A1, c1, ?_, hr⟩
  have e2 : cs.toList = _ := ec
  rw [← Array.toArray_toList (xs := cs), e2]
end
end Go.Proofs.YtbfcolmglbeefaaGreat
