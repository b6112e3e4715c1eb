/-
  Lists of texts: slices of the call's own, and how a text is put into an ascending list.
-/
import Derived.Test.YtmbdccbgcobflaaTyNode
import Derived.Laws.AppendOwn
import Derived.Lib.Strings
import Derived.Laws.Cover1
namespace Go.Proofs.Ytmbdccbgcobflaa
open Go.RowKit Go.Sort
set_option linter.unusedVariables false

def strL (l : List ByteArray) : List Value := l.map Value.string
theorem strL_length (l : List ByteArray) : (strL l).length = l.length * 1 := by simp [strL]
theorem strL_append (a b : List ByteArray) : strL (a ++ b) = strL a ++ strL b := by simp [strL]
theorem strL_one (l : List ByteArray) : ∀ u ∈ strL l, u.oneCell' = true := by
  intro u hu; simp [strL] at hu; obtain ⟨a, _, rfl⟩ := hu; rfl
/-- A slice of texts of the call's own, from block B on. -/
def SRow (B : Nat) (w : World) (v : Value) (l : List ByteArray) : Prop := w.ownsRow B 9 1 v l.length (strL l)
theorem SRow.strs {B : Nat} {w : World} {v : Value} {l : List ByteArray} (h : SRow B w v l) : ∃ A c, v = .slice A l.length c ∧ CapOk l.length c ∧ StrsAt w B w.heap.size A l := by
  rcases h.2 with ⟨rfl, h0⟩ | ⟨g, cap, cur, rfl, hg, hh, hc1, hc2, hc3, hc4⟩
  · exact ⟨none, 0, by rw [h0], by rw [h0]; exact ⟨Nat.le_refl _, Nat.zero_le _⟩, .inl (List.eq_nil_of_length_eq_zero h0)⟩
  · refine ⟨_, cap, rfl, ⟨hc1, hc2⟩, .inr ⟨g, 0, rfl, hg, ?_, fun i x hx => ?_⟩⟩
    · rcases Nat.lt_or_ge g w.heap.size with h' | h'
      · exact h'
      · rw [Array.getElem?_eq_none h'] at hh; cases hh
    · have hi : i < l.length := (List.getElem?_eq_some_iff.1 hx).1
      have h1 : w.cell? ⟨g, i, none⟩ = cur.toList[i]? := by simp [World.cell?, hh]
      show w.cell? ⟨g, 0 + i, none⟩ = some (.string x)
      rw [Nat.zero_add, h1, ← List.getElem?_take_of_lt (show i < l.length * 1 by omega), hc4]
      simp [strL, hx]
/-- A list of texts that is there, not nil. -/
def SL (w : World) (v : Value) (l : List ByteArray) : Prop := ∃ g o c, v = .slice (some ⟨g, o, none⟩) l.length c ∧ CapOk l.length c ∧ g < w.heap.size ∧ ∀ i x, l[i]? = some x → w.cell? ⟨g, o + i, none⟩ = some (.string x)
theorem SL.to_ {w w' : World} {v : Value} {l : List ByteArray} (h : SL w v l) (hb : Below w.heap.size w w') : SL w' v l := by
  obtain ⟨g, o, c, h1, h2, h3, h4⟩ := h
  exact ⟨g, o, c, h1, h2, Nat.lt_of_lt_of_le h3 hb.size, fun i x hx => (hb.cell (p := ⟨g, o + i, none⟩) h3).trans (h4 i x hx)⟩
theorem SL.strs {w : World} {v : Value} {l : List ByteArray} (h : SL w v l) : ∃ A c, v = .slice A l.length c ∧ StrsAt w 0 w.heap.size A l := by
  obtain ⟨g, o, c, h1, h2, h3, h4⟩ := h
  exact ⟨_, c, h1, .inr ⟨g, o, rfl, Nat.zero_le _, h3, fun i x hx => h4 i x hx⟩⟩
theorem SRow.sl {B : Nat} {w : World} {v : Value} {l : List ByteArray} (h : SRow B w v l) (hn : v ≠ .slice none 0 0) : SL w v l := by
  rcases h.2 with ⟨h0, _⟩ | ⟨g, cap, cur, rfl, hg, hh, hc1, hc2, hc3, hc4⟩
  · exact absurd h0 hn
  · refine ⟨g, 0, cap, rfl, ⟨hc1, hc2⟩, ?_, fun i x hx => ?_⟩
    · rcases Nat.lt_or_ge g w.heap.size with h' | h'
      · exact h'
      · rw [Array.getElem?_eq_none h'] at hh; cases hh
    · have hi : i < l.length := (List.getElem?_eq_some_iff.1 hx).1
      have h1 : w.cell? ⟨g, i, none⟩ = cur.toList[i]? := by simp [World.cell?, hh]
      rw [Nat.zero_add, h1, ← List.getElem?_take_of_lt (show i < l.length * 1 by omega), hc4]
      simp [strL, hx]

def ltB (a b : ByteArray) : Bool := Op.bytesLess a.toList b.toList
def posM : List ByteArray → ByteArray → Nat
  | [], _ => 0
  | x :: r, s => if ltB x s = true then posM r s + 1 else 0
def insM (l : List ByteArray) (s : ByteArray) : List ByteArray := if l[posM l s]? = some s then l else l.take (posM l s) ++ (s :: l.drop (posM l s))
theorem posM_le (s : ByteArray) : ∀ l, posM l s ≤ l.length
  | [] => Nat.le_refl _
  | x :: r => by rw [posM]; have := posM_le s r; split <;> simp <;> omega
theorem posM_step (s : ByteArray) : ∀ (l : List ByteArray) (k : Nat) (h : k < l.length), k ≤ posM l s → (ltB l[k] s = true → k + 1 ≤ posM l s) ∧ (ltB l[k] s = false → posM l s = k)
  | [], k, h, _ => by simp at h
  | x :: r, 0, h, _ => by
    rw [posM]
    constructor
    · intro h'; rw [if_pos (show ltB x s = true from h')]; omega
    · intro h'; rw [if_neg (by rw [show ltB x s = false from h']; decide)]
  | x :: r, k + 1, h, hk => by
    rw [posM] at hk ⊢
    by_cases hx : ltB x s = true
    · rw [if_pos hx] at hk ⊢
      have := posM_step s r k (by simpa using h) (by omega)
      constructor
      · intro h'; have := this.1 h'; omega
      · intro h'; have := this.2 h'; omega
    · rw [if_neg hx] at hk; omega
end Go.Proofs.Ytmbdccbgcobflaa
