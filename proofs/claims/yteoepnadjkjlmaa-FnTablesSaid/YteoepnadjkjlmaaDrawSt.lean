/-
  What draws leave as it was; tables in the making.
-/
import Derived.Test.YteoepnadjkjlmaaDraw
import Derived.Test.YteoepnadjkjlmaaVRow
import Derived.Test.YteoepnadjkjlmaaSpecMake
namespace Go.Proofs.Yteoepnadjkjlmaa
open Go.RowKit Go.Sort
set_option linter.unusedVariables false

def St (w : World) (g : Nat) (A : Option Addr) (c : Nat) (xs : List UInt8) : Prop := Cur w g A c xs ∧ BAt w g A xs
theorem St.lt {w : World} {g : Nat} {A : Option Addr} {c : Nat} {xs : List UInt8} (h : St w g A c xs) : g < w.heap.size := h.1.lt
theorem St.alloc {w : World} {g : Nat} {A : Option Addr} {c : Nat} {xs : List UInt8} (h : St w g A c xs) (o : Obj) : St (w.alloc o) g A c xs := by
  have hb : Below w.heap.size w (w.alloc o) := (Below.refl _ _).alloc (Nat.le_refl _) _
  obtain ⟨i, z, hi, hW⟩ := h.1
  exact ⟨⟨i, z, hi, hW.below hb hW.lt⟩, h.2.below hb (Nat.le_of_lt h.lt)⟩
theorem St.below {w w' : World} {g : Nat} {A : Option Addr} {c : Nat} {xs : List UInt8} (h : St w g A c xs) (hb : Below w.heap.size w w') : St w' g A c xs := by
  obtain ⟨i, z, hi, hW⟩ := h.1
  exact ⟨⟨i, z, hi, hW.below hb hW.lt⟩, h.2.below hb (Nat.le_of_lt h.lt)⟩
theorem St.set_ {w : World} {g b i : Nat} {u : Value} {A : Option Addr} {c : Nat} {xs : List UInt8} (h : St w g A c xs) (hb : g < b) : St (w.setCell ⟨b, i, none⟩ u) g A c xs := by
  have hbl : Below b w (w.setCell ⟨b, i, none⟩ u) := (Below.refl _ _).setCell (p := ⟨b, i, none⟩) (Nat.le_refl _) _
  obtain ⟨j, z, hj, hW⟩ := h.1
  exact ⟨⟨j, z, hj, hW.below hbl hb⟩, h.2.below hbl (by omega)⟩
theorem grown_new {w w1 : World} {g b i : Nat} {u : Value} (h : w.grownBy w1 (some g)) (hb : w.heap.size ≤ b) : w.grownBy (w1.setCell ⟨b, i, none⟩ u) (some g) :=
  ⟨h.os, h.tape, h.output, by simpa [World.setCell] using h.size, fun k hk hne => by
    rw [Below.heap_setCell _ _ _ _ (by show k ≠ b; omega)]; exact h.block k hk hne⟩
theorem grown_alloc2 {w w1 : World} {g : Nat} (h : w.grownBy w1 (some g)) (o : Obj) : w.grownBy (w1.alloc o) (some g) := grown_to h (World.grownBy_alloc w1 o _)
/-- A block that is not the cursor's lies on. -/
theorem Whole.drawn {w w' : World} {b g : Nat} {t : TypeId} {l : List Value} (h : Whole w b t l) (hg : w.grownBy w' (some g)) (hne : b ≠ g) : Whole w' b t l :=
  (hg.block b h.lt (fun e => by injection e with e; exact hne e)).trans h

theorem St.low {w w' : World} {g B : Nat} {A : Option Addr} {c : Nat} {xs : List UInt8} (h : St w g A c xs) (hb : Below B w w') (hg : g < B) : St w' g A c xs := by
  obtain ⟨i, z, hi, hW⟩ := h.1
  exact ⟨⟨i, z, hi, hW.below hb hg⟩, h.2.below hb (by omega)⟩
theorem grown_own {w w1 w2 : World} {g : Nat} {row : Option Nat} (h : w.grownBy w1 (some g)) (k : w1.grownBy w2 row) (hr : ∀ b, row = some b → w.heap.size ≤ b) : w.grownBy w2 (some g) :=
  ⟨k.os.trans h.os, k.tape.trans h.tape, k.output.trans h.output, Nat.le_trans h.size k.size, fun i hi hne => (k.block i (Nat.lt_of_lt_of_le hi h.size) (fun e => by have := hr i e.symm; omega)).trans (h.block i hi hne)⟩
theorem VRow.drawn {B g : Nat} {w w' : World} {v : Value} {r : List GV} (h : VRow B w v r) (hg : w.grownBy w' (some g)) (hB : g < B) : VRow B w' v r := by
  refine ⟨h.1, ?_⟩
  rcases h.2 with h' | ⟨b, cap, cur, e, hb, hh, hr⟩
  · exact .inl h'
  · refine .inr ⟨b, cap, cur, e, hb, ?_, hr⟩
    have : b < w.heap.size := by
      rcases Nat.lt_or_ge b w.heap.size with h' | h'
      · exact h'
      · rw [Array.getElem?_eq_none h'] at hh; cases hh
    rw [hg.block b this (fun e => by injection e; omega)]; exact hh
theorem vrow_some {B : Nat} {w : World} {v : Value} {r : List GV} (h : VRow B w v r) (hr : r ≠ []) : ∃ a cap, v = .slice (some ⟨a, 0, none⟩) r.length cap := by
  rcases h.2 with ⟨_, h0⟩ | ⟨g, cap, cur, rfl, _⟩
  · exact absurd (List.eq_nil_of_length_eq_zero h0) hr
  · exact ⟨g, cap, rfl⟩
/-- A table in the making: v is the slice, us its cells, rows what they hold. -/
def TSt (base : Nat) (v : Value) (us : List Value) (rows : List Row) (w : World) : Prop :=
  CopSt base rows v us w ∧ us.length = rows.length ∧ ∀ r ∈ rows, r.length ≤ 20 ∧ ∀ x ∈ r, x.t.size ≤ 100
theorem own_drawn {w w' : World} {base g : Nat} {e : TypeId} {size n : Nat} {v : Value} {xs : List Value} (h : w.ownsRow base e size v n xs) (hg : w.grownBy w' (some g)) (hb : g < base) : w'.ownsRow base e size v n xs := by
  refine h.kept hg ?_
  rcases h.2 with ⟨e, _⟩ | ⟨k, cap, cur, e, hk, _⟩
  · exact .inl (by rw [e]; rfl)
  · exact .inr (by rw [e]; simp only [Value.ownBlock]; intro e2; injection e2; omega)
theorem tst_drawn {w w' : World} {base g : Nat} {v : Value} {us : List Value} {rows : List Row} (h : TSt base v us rows w) (hg : w.grownBy w' (some g)) (hb : g < base) : TSt base v us rows w' :=
  ⟨⟨own_drawn h.1.1 hg hb, fun i u r hu hr => ⟨(h.1.2 i u r hu hr).1, own_drawn (h.1.2 i u r hu hr).2 hg hb⟩⟩, h.2⟩
theorem tst_below {w w' : World} {base : Nat} {v : Value} {us : List Value} {rows : List Row} (h : TSt base v us rows w) (hb : Below w.heap.size w w') : TSt base v us rows w' := ⟨cop_below h.1 hb, h.2⟩
theorem tst_next {base : Nat} {rows : List Row} {v v' : Value} {us : List Value} {w w' : World} {g c : Nat} {r : Row} (h : TSt base v us rows w) (hv : VRow base w (.slice (some ⟨g, 0, none⟩) r.length c) r) (hr1 : r.length ≤ 20) (hr2 : ∀ x ∈ r, x.t.size ≤ 100)
    (ho : w'.ownsRow base 35 1 v' (us.length + 1) (us ++ [.slice (some ⟨g, 0, none⟩) r.length c])) (hg : w.grownBy w' v.ownBlock) : TSt base v' (us ++ [.slice (some ⟨g, 0, none⟩) r.length c]) (rows ++ [r]) w' := by
  refine ⟨cop_next (rows := rows ++ [r]) ⟨h.1.1, fun i u x hu hx => ?_⟩ (by rw [h.2.1]; simp) hv ho hg, by simp [h.2.1], ?_⟩
  · have hi : i < us.length := (List.getElem?_eq_some_iff.1 hu).1
    rw [List.getElem?_append_left (by rw [← h.2.1]; exact hi)] at hx
    exact h.1.2 i u x hu hx
  · intro x hx
    rw [List.mem_append] at hx
    rcases hx with hx | hx
    · exact h.2.2 x hx
    · simp at hx; subst hx; exact ⟨hr1, hr2⟩
end Go.Proofs.Yteoepnadjkjlmaa
