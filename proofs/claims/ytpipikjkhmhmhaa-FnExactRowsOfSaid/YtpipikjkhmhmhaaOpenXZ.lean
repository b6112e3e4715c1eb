/-
  How databases read. How a text that is an argument reads.
-/
import Derived.Test.YtpipikjkhmhmhaaOpenTab
import Derived.Test.YtpipikjkhmhmhaaSzValZ
import Derived.Test.YtpipikjkhmhmhaaOpen0Z
import Derived.ChangeMaps5
namespace Go.Proofs.Ytpipikjkhmhmhaa
open Go.ChangeShapes Go.WideShapes Go.ChangeAt Go.RowKit Go.Joins Go.Deep
set_option linter.unusedVariables false

instance : Inhabited GRel := ⟨⟨ByteArray.empty, []⟩⟩
theorem cells_Rel : Try.prog.cellsOf 91 = 2 := by kernel_rfl
theorem list_Rel {cs : List Value} (h : cs.length = 2) : ∃ v0 v1, cs = [v0, v1] := by
  match cs, h with
  | [v0, v1], _ => exact ⟨v0, v1, rfl⟩
section
variable {H : Type} {enc : TypeId × Value → H} {W : World} {base b : Nat} {spare : Nat → Bool} {held : Bool}
set_option maxRecDepth 100000 in
theorem open_Rel {fuel : Nat} {cs : List Value} {y : DataW H × List MemPlace} (h : DataW.trod enc Try.prog W b spare held fuel 91 cs = some y) :
    ∃ (x : GRel) (A1 : Option Addr) (c1 : Nat), cs = [.string x.name, .slice A1 x.rows.length c1] ∧ fitRel x ∧ (CapOk x.rows.length c1 ∧ ValueSsAt W 0 W.heap.size A1 x.rows) := by
  have hl : cs.length = Try.prog.cellsOf 91 := by obtain ⟨xs, n, _, _, hl, _⟩ := DataW.trod_struct Try.underlying91 h; exact hl
  obtain ⟨v0, v1, rfl⟩ := list_Rel (hl.trans cells_Rel)
  obtain ⟨n0, y0, h0⟩ := trod_part Try.underlying91 h 0 _ rfl
  have g0 : DataW.trod enc Try.prog W b spare held n0 9 [v0] = some y0 := by
    have hc : Try.prog.cellsOf 9 = 1 := by kernel_rfl
    have q : DataW.trod enc Try.prog W b spare held n0 9 (([v0, v1].drop 0).take (Try.prog.cellsOf 9)) = some y0 := h0
    rw [hc] at q; exact q
  obtain ⟨z0, e0, _, f0⟩ := DataW.trod_string Try.underlying9 g0
  simp at e0
  subst e0
  obtain ⟨n1, y1, h1⟩ := trod_part Try.underlying91 h 1 _ rfl
  have g1 : DataW.trod enc Try.prog W b spare held n1 89 [v1] = some y1 := by
    have hc : Try.prog.cellsOf 89 = 1 := by kernel_rfl
    have q : DataW.trod enc Try.prog W b spare held n1 89 (([.string z0, v1].drop 1).take (Try.prog.cellsOf 89)) = some y1 := h1
    rw [hc] at q; exact q
  obtain ⟨A1, l1, c1, z1, e1, el1, s1, f1⟩ := open_ValueSs g1
  simp at e1
  subst e1 el1
  exact ⟨⟨z0, z1⟩, _, _, rfl, ⟨f0, f1⟩, s1⟩
end
section
variable {H : Type} {enc : TypeId × Value → H} {W : World} {base b : Nat} {spare : Nat → Bool} {held : Bool}
set_option maxRecDepth 100000 in
theorem open_Rels {fuel : Nat} {cs : List Value} {y : DataW H × List MemPlace} (h : DataW.trod enc Try.prog W b spare held fuel 39 cs = some y) :
    ∃ (A : Option Addr) (len c : Nat) (xs : List (GRel)), cs = [.slice A len c] ∧ len = xs.length ∧ (CapOk xs.length c ∧ RelsAt W 0 W.heap.size A xs) ∧ fitRels xs := by
  rcases open_slice Try.underlying39 h with ⟨hcs, hx⟩ | ⟨a, len, cap, m, n, D, Pl, hcs, hbb, hl, hm, hmm, hx, hi⟩
  · exact ⟨none, 0, 0, [], hcs, rfl, ⟨⟨Nat.le_refl _, Nat.zero_le _⟩, .inl rfl⟩, Nat.zero_le _, by simp⟩
  · have hce : Try.prog.cellsOf 91 = 2 := by kernel_rfl
    rw [hce] at hi
    have hlm : len ≤ m := by rw [hmm]; split <;> omega
    have hel : ∀ i, i < m → ∃ x : GRel, RelAt W 0 W.heap.size a.block (a.off + i * 2) x ∧ fitRel x := by
      intro i him
      obtain ⟨cs', hc, ht⟩ := hi i him
      obtain ⟨x, A1, c1, rfl, hfit, ⟨v1, s1⟩⟩ := open_Rel ht
      obtain ⟨_, _, hat⟩ := World.cells?_some hc
      have g0 := hat 0 (by simp)
      have g1 := hat 1 (by simp)
      simp at g0 g1
      rw [Go.Deep.add_add] at g0 g1
      exact ⟨x, ⟨cell_add0 g0, ⟨A1, c1, ⟨cell_add0 g1, v1⟩, s1⟩⟩, hfit⟩
    obtain ⟨f, hf⟩ := choose_lt (α := GRel) (n := len) (p := fun i x => RelAt W 0 W.heap.size a.block (a.off + i * 2) x ∧ fitRel x) (fun i hil => hel i (by omega))
    refine ⟨some a, len, cap, (List.range len).map f, hcs, by simp, ⟨⟨by simp; exact hl, hm⟩, ?_⟩, by simp; omega, ?_⟩
    · rcases Nat.eq_zero_or_pos len with rfl | hpos
      · exact .inl (by simp)
      · have h00 : ∃ u, W.cell? a = some u := by
          obtain ⟨cs', hc, ht⟩ := hi 0 (by omega)
          obtain ⟨_, hln, hat⟩ := World.cells?_some hc
          have g0 := hat 0 (by omega)
          rw [Nat.zero_mul, show (a.add 0).add 0 = a by simp [Addr.add]] at g0
          rw [List.getElem?_eq_getElem (by omega)] at g0
          exact ⟨_, g0⟩
        obtain ⟨u0, hu0⟩ := h00
        have hsp := World.cell?_spot hu0
        have hlt := World.block_lt_of_cell? W a hu0
        refine .inr ⟨a.block, a.off, by obtain ⟨bk, of, sp⟩ := a; simp at hsp; rw [hsp], Nat.zero_le _, hlt, fun i x hx => ?_⟩
        simp only [List.getElem?_map, Option.map_eq_some_iff] at hx
        obtain ⟨j, hj, rfl⟩ := hx
        obtain ⟨hil, rfl⟩ := List.getElem?_eq_some_iff.1 hj
        simp only [List.length_range] at hil
        rw [List.getElem_range]
        exact (hf i hil).1
    · intro x hx
      simp at hx
      obtain ⟨i, hi', rfl⟩ := hx
      exact (hf i hi').2
end
section
variable {H : Type} {enc : TypeId × Value → H} {W : World} {base b : Nat} {spare : Nat → Bool} {held : Bool}
set_option maxRecDepth 100000 in
theorem open_Rels_arg {v : Value} {d : DataW H} {p : List MemPlace} (hv : Value.okWide Try.prog W .any base 39 v) (h : DataW.Trod enc Try.prog W b spare held 39 v d p) :
    ∃ (A : Option Addr) (c : Nat) (xs : List (GRel)), v = .slice A xs.length c ∧ fitRels xs ∧ RelsAt W 0 W.heap.size A xs := by
  obtain ⟨a, len, cap, rfl⟩ := okWide_slice Try.underlying39 hv
  obtain ⟨fuel, hf⟩ := h
  obtain ⟨A, l, c, xs, hcs, rfl, ⟨_, hr⟩, hfit⟩ := open_Rels hf
  simp [Value.cells] at hcs
  obtain ⟨rfl, rfl, rfl⟩ := hcs
  exact ⟨_, _, xs, rfl, hfit, hr⟩
end
end Go.Proofs.Ytpipikjkhmhmhaa
namespace Go.Proofs.Ytpipikjkhmhmhaa
open Go.ChangeShapes Go.WideShapes Go.ChangeAt Go.RowKit Go.Joins Go.Deep
set_option linter.unusedVariables false

section
variable {H : Type} {enc : TypeId × Value → H} {W : World} {base b : Nat} {spare : Nat → Bool} {held : Bool}
set_option maxRecDepth 100000 in
theorem open_text {v : Value} {d : DataW H} {p : List MemPlace}
    (hv : Value.okWide Try.prog W .any base 9 v) (h : DataW.Trod enc Try.prog W b spare held 9 v d p) : ∃ s : ByteArray, v = .string s ∧ s.size ≤ maxLen := by
  obtain ⟨s, rfl, _, _, hs⟩ := Go.ChangeMaps.open_string Try.underlying9 hv h
  exact ⟨s, rfl, hs⟩
end
end Go.Proofs.Ytpipikjkhmhmhaa
