/-
  The draws of differences: spec.l4DrawWide.
-/
import Derived.Test.YtggkggaihfcjmaaSpecMakeTZ
import Derived.Test.YtggkggaihfcjmaaToValZ
import Derived.Test.YtggkggaihfcjmaaToDiff
namespace Go.Proofs.Ytggkggaihfcjmaa
open Go.RowKit Go.Sort
set_option linter.unusedVariables false

/-- A list of differences of the call's own, its rows in blocks from base on. -/
def FD (base : Nat) (w : World) (v : Value) (ps : List DH) : Prop :=
  w.ownsRow base 55 2 v ps.length (flatH ps) ∧ (∃ g c, v = .slice (some ⟨g, 0, none⟩) ps.length c) ∧ ∀ p ∈ ps, VRow base w (.slice p.1.1 p.2.row.length p.1.2) p.2.row
theorem FD.drawn {base g : Nat} {w w' : World} {v : Value} {ps : List DH} (h : FD base w v ps) (hg : w.grownBy w' (some g)) (hb : g < base) : FD base w' v ps :=
  ⟨own_drawn h.1 hg hb, h.2.1, fun p hp => (h.2.2 p hp).drawn hg hb⟩
theorem FD.below {base : Nat} {w w' : World} {v : Value} {ps : List DH} (h : FD base w v ps) (hb : Below w.heap.size w w') : FD base w' v ps :=
  ⟨own_kept h.1 hb, h.2.1, fun p hp => (h.2.2 p hp).below hb⟩
theorem FD.up {base base' : Nat} {w : World} {v : Value} {ps : List DH} (h : FD base w v ps) (hb : base' ≤ base) : FD base' w v ps := by
  refine ⟨⟨h.1.1, ?_⟩, h.2.1, fun p hp => (h.2.2 p hp).mono hb⟩
  rcases h.1.2 with h' | ⟨g, cap, cur, e, hg, hr⟩
  · exact .inl h'
  · exact .inr ⟨g, cap, cur, e, Nat.le_trans hb hg, hr⟩
theorem FD.start {base : Nat} {w : World} (hb : base ≤ w.heap.size) : FD base (w.alloc (.cells #[] 55)) (.slice (some ⟨w.heap.size, 0, none⟩) 0 0) [] :=
  ⟨World.ownsRow_made w #[] 0 hb (Nat.zero_le _) rfl, ⟨_, _, rfl⟩, fun p hp => by simp at hp⟩
theorem FD.app {base : Nat} {w w' : World} {v v' : Value} {ps : List DH} {p : DH} (h : FD base w v ps) (hp : VRow base w (.slice p.1.1 p.2.row.length p.1.2) p.2.row)
    (ho : w'.ownsRow base 55 2 v' (ps.length + 1) (flatH ps ++ dhL p)) (hg : w.grownBy w' v.ownBlock) : FD base w' v' (ps ++ [p]) := by
  have hk : ∀ {u : Value} {x : List GV}, VRow base w u x → VRow base w' u x := fun hu => World.ownsRow.kept hu hg (own_parts h.1 hu (by decide))
  have ho2 : w'.ownsRow base 55 2 v' (ps ++ [p]).length (flatH (ps ++ [p])) := by
    rw [flatH_append, List.length_append]
    simpa [flatH] using ho
  refine ⟨ho2, ?_, fun q hq => ?_⟩
  · rcases ho2.2 with ⟨e, h0⟩ | ⟨g5, cap, cur, e, _⟩
    · simp at h0
    · exact ⟨g5, cap, e⟩
  · rw [List.mem_append, List.mem_singleton] at hq
    rcases hq with hq | rfl
    · exact hk (h.2.2 q hq)
    · exact hk hp
theorem VRow.vals {base : Nat} {w : World} {A : Option Addr} {n c : Nat} {r : List GV} (h : VRow base w (.slice A n c) r) : CapOk r.length c ∧ ValuesAt w base w.heap.size A r := by
  rcases h.2 with ⟨e, h0⟩ | ⟨g, cap, cur, e, hg, hh, hc1, hc2, hc3, hc4⟩
  · obtain rfl := List.eq_nil_of_length_eq_zero h0
    simp only [Value.slice.injEq] at e
    obtain ⟨rfl, rfl, rfl⟩ := e
    exact ⟨⟨Nat.le_refl _, by simp⟩, .inl rfl⟩
  · simp only [Value.slice.injEq] at e
    obtain ⟨rfl, rfl, rfl⟩ := e
    refine ⟨⟨hc1, hc2⟩, .inr ⟨g, 0, rfl, hg, (Array.getElem?_eq_some_iff.1 hh).1, fun i v hv => ?_⟩⟩
    obtain ⟨f0, f1, f2⟩ := flat_at r i v hv
    have hi : i < r.length := (List.getElem?_eq_some_iff.1 hv).1
    have key : ∀ j, j < r.length * 3 → w.cell? ⟨g, j, none⟩ = (flat r)[j]? := fun j hj => by
      have h1 : w.cell? ⟨g, j, none⟩ = cur.toList[j]? := by simp [World.cell?, hh]
      rw [h1, ← hc4, List.getElem?_take_of_lt hj]
    rw [Nat.zero_add]
    exact ⟨(key _ (by omega)).trans f0, (key _ (by omega)).trans f1, (key _ (by omega)).trans f2⟩
theorem FD.diffs {base : Nat} {w : World} {v : Value} {ps : List DH} (h : FD base w v ps) : ∃ A c, v = .slice A ps.length c ∧ CapOk ps.length c ∧ DiffsAt w base w.heap.size A (ps.map (·.2)) := by
  obtain ⟨g0, c0, hv⟩ := h.2.1
  rcases h.1.2 with ⟨rfl, h0⟩ | ⟨g, cap, cur, rfl, hg, hh, hc1, hc2, hc3, hc4⟩
  · cases hv
  · refine ⟨_, cap, rfl, ⟨hc1, hc2⟩, .inr ⟨g, 0, rfl, hg, (Array.getElem?_eq_some_iff.1 hh).1, fun i z hz => ?_⟩⟩
    rw [List.getElem?_map, Option.map_eq_some_iff] at hz
    obtain ⟨p, hpi, rfl⟩ := hz
    have hi : i < ps.length := (List.getElem?_eq_some_iff.1 hpi).1
    obtain ⟨f0, f1⟩ := flatH_at ps i p hpi
    have hm := (h.2.2 p (List.mem_of_getElem? hpi)).vals
    have key : ∀ j, j < ps.length * 2 → w.cell? ⟨g, j, none⟩ = (flatH ps)[j]? := fun j hj => by
      have h1 : w.cell? ⟨g, j, none⟩ = cur.toList[j]? := by simp [World.cell?, hh]
      rw [h1, ← hc4, List.getElem?_take_of_lt hj]
    rw [Nat.zero_add]
    exact ⟨⟨p.1.1, p.1.2, ⟨(key _ (by omega)).trans f0, hm.1⟩, hm.2⟩, (key _ (by omega)).trans f1⟩
/-- What a drawn difference may hold. -/
def smallP (p : DH) : Prop := p.2.row.length ≤ 20 ∧ (∀ v ∈ p.2.row, v.t.size ≤ 100) ∧ -4611686018427387904 ≤ p.2.count ∧ p.2.count ≤ 4611686018427387904
/-- What a draw of differences leaves. -/
def WidePost (w : World) (g : Nat) (A : Option Addr) (c : Nat) (xs : List UInt8) (e : Ending) (w' : World) : Prop :=
  ∃ v ps, e = .returned v ∧ FD w.heap.size w' v ps ∧ ps.length ≤ 8 ∧ (∀ p ∈ ps, smallP p) ∧ St w' g A c xs ∧ w.grownBy w' (some g)
theorem cop_at {base : Nat} {rows : List Row} {v : Value} {us : List Value} {w : World} (h : CopSt base rows v us w) (hl : us.length = rows.length) {i : Nat} (hi : i < rows.length) :
    ∃ g0 c0 g c, v = .slice (some ⟨g0, 0, none⟩) rows.length c0 ∧ base ≤ g0 ∧ w.cell? ⟨g0, i, none⟩ = some (.slice (some ⟨g, 0, none⟩) rows[i].length c) ∧ VRow base w (.slice (some ⟨g, 0, none⟩) rows[i].length c) rows[i] := by
  rcases h.1.2 with ⟨e, h0⟩ | ⟨g, cap, cur, e, hg, hh, hc, _, hsz, ht⟩
  · omega
  · have hu := List.getElem?_eq_getElem (show i < us.length by omega)
    obtain ⟨⟨gr, cr, e1⟩, h2⟩ := h.2 i _ _ hu (List.getElem?_eq_getElem hi)
    refine ⟨g, cap, gr, cr, by rw [e, hl], hg, ?_, by rw [← e1]; exact h2⟩
    rw [← e1, ← hu]
    conv => rhs; rw [← ht]
    rw [List.getElem?_take, if_pos (by omega)]
    simp [World.cell?, hh]
theorem cop_tabB {base : Nat} {rows : List Row} {g0 c0 n : Nat} {us : List Value} {w : World} (h : CopSt base rows (.slice (some ⟨g0, 0, none⟩) n c0) us w) (hl : us.length = rows.length) : TabB w w.heap.size g0 0 rows := by
  have hlt : g0 < w.heap.size := by
    rcases h.1.2 with ⟨e, _⟩ | ⟨g, cap, cur, e, hg, hh, _⟩
    · cases e
    · simp only [Value.slice.injEq, Option.some.injEq, Addr.mk.injEq] at e
      rw [e.1.1]
      exact (Array.getElem?_eq_some_iff.1 hh).1
  refine ⟨hlt, fun i r hr => ?_⟩
  obtain ⟨hi, rfl⟩ := List.getElem?_eq_some_iff.1 hr
  obtain ⟨g1, c1, g, c, e, _, hcell, hV⟩ := cop_at h hl hi
  simp only [Value.slice.injEq, Option.some.injEq, Addr.mk.injEq] at e
  obtain ⟨⟨rfl, _⟩, _, _⟩ := e
  obtain ⟨A, c', e2, hrow⟩ := hV.row
  simp only [Value.slice.injEq] at e2
  obtain ⟨rfl, _, rfl⟩ := e2
  refine ⟨_, _, by rw [Nat.zero_add]; exact hcell, hrow, by simp⟩
theorem six_at (l : List Int) (w : World) {b : Nat} (hW : Whole w b 2 (l.map (Value.int .i64))) {x : Nat} (hx : x < l.length) (hb : ∀ n ∈ l, -4611686018427387904 ≤ n ∧ n ≤ 4611686018427387904) :
    ∃ n : Int, w.cell? ⟨b, x, none⟩ = some (.int .i64 n) ∧ -4611686018427387904 ≤ n ∧ n ≤ 4611686018427387904 :=
  ⟨l[x], by rw [hW.cell, List.getElem?_map, List.getElem?_eq_getElem hx]; rfl, hb _ (List.getElem_mem hx)⟩
end Go.Proofs.Ytggkggaihfcjmaa
