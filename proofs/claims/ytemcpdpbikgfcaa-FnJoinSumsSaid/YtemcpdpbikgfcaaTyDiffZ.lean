/-
  Words for data of any struct in memory: cells set one after the other, sums of costs, new blocks. Values in memory. Differences in memory.
-/
import Derived.Test.YtemcpdpbikgfcaaVRowZ
import Derived.Deep.QuietTactic
import Derived.BigQuiet
import Derived.Lib.QuietBelow
namespace Go.Proofs.Ytemcpdpbikgfcaa
open Go.RowKit Go.Sort
set_option linter.unusedVariables false

/-- A slice's length lies within its capacity, and that within the machine. -/
def CapOk (len c : Nat) : Prop := len ≤ c ∧ c ≤ 9223372036854775807
def setL (l : List Value) (o : Nat) : List Value → List Value
  | [] => l
  | v :: vs => setL (l.set o v) (o + 1) vs
def setW (w : World) (g o : Nat) : List Value → World
  | [] => w
  | v :: vs => setW (w.setCell ⟨g, o, none⟩ v) g (o + 1) vs
theorem setL_len : ∀ (vs l : List Value) (o : Nat), (setL l o vs).length = l.length
  | [], l, o => rfl
  | v :: vs, l, o => by rw [setL, setL_len vs]; simp
theorem setL_out : ∀ (vs l : List Value) (o i : Nat), (i < o ∨ o + vs.length ≤ i) → (setL l o vs)[i]? = l[i]?
  | [], l, o, i, _ => rfl
  | v :: vs, l, o, i, h => by
    rw [setL, setL_out vs _ _ _ (by simp at h; omega), List.getElem?_set_ne (by simp at h; omega)]
theorem setL_in : ∀ (vs l : List Value) (o j : Nat) (u : Value), o + vs.length ≤ l.length → vs[j]? = some u → (setL l o vs)[o + j]? = some u
  | v :: vs, l, o, 0, u, h, hu => by
    simp at hu h
    rw [setL, setL_out vs _ _ _ (by omega), Nat.add_zero, List.getElem?_set_self (by omega), hu]
  | v :: vs, l, o, j + 1, u, h, hu => by
    simp at hu h
    have := setL_in vs (l.set o v) (o + 1) j u (by simp; omega) hu
    rw [setL, show o + (j + 1) = o + 1 + j by omega]
    exact this
  | [], l, o, j, u, h, hu => by simp at hu
theorem setW_whole : ∀ (vs : List Value) {w : World} {g : Nat} {t : TypeId} {l : List Value} (o : Nat), Whole w g t l → Whole (setW w g o vs) g t (setL l o vs)
  | [], w, g, t, l, o, h => h
  | v :: vs, w, g, t, l, o, h => setW_whole vs (o + 1) (h.set_ o v)
theorem setW_block : ∀ (vs : List Value) (w : World) (g o k : Nat), k ≠ g → (setW w g o vs).heap[k]? = w.heap[k]?
  | [], w, g, o, k, h => rfl
  | v :: vs, w, g, o, k, h => (setW_block vs _ g (o + 1) k h).trans (Below.heap_setCell w ⟨g, o, none⟩ v k h)
theorem setW_size : ∀ (vs : List Value) (w : World) (g o : Nat), (setW w g o vs).heap.size = w.heap.size
  | [], w, g, o => rfl
  | v :: vs, w, g, o => by rw [setW, setW_size vs]; simp [World.setCell]
theorem setW_below : ∀ (vs : List Value) {B : Nat} {a w : World} (g o : Nat), Below B a w → B ≤ g → Below B a (setW w g o vs)
  | [], B, a, w, g, o, h, hg => h
  | v :: vs, B, a, w, g, o, h, hg => setW_below vs g (o + 1) (h.setCell (p := ⟨g, o, none⟩) hg v) hg
theorem Whole.offW {w : World} {g b o : Nat} {t : TypeId} {l : List Value} (h : Whole w g t l) (vs : List Value) (hne : g ≠ b) : Whole (setW w b o vs) g t l := (setW_block vs w b o g hne).trans h

def sumC {α : Type} (c : α → Nat) (xs : List α) : Nat := (xs.map c).sum
theorem sumC_take {α : Type} (c : α → Nat) (xs : List α) (i : Nat) (h : i < xs.length) : sumC c (xs.take (i + 1)) = sumC c (xs.take i) + c xs[i] := by
  unfold sumC
  rw [List.take_succ_eq_append_getElem h, List.map_append, List.sum_append]
  simp
theorem sumC_le {α : Type} (c : α → Nat) (xs : List α) (i : Nat) : sumC c (xs.take i) ≤ sumC c xs := by
  unfold sumC
  conv => rhs; rw [← List.take_append_drop i xs]
  rw [List.map_append, List.sum_append]
  omega
theorem sumC_mem {α : Type} (c : α → Nat) (xs : List α) (x : α) (h : x ∈ xs) : c x ≤ sumC c xs := by
  obtain ⟨i, hi, rfl⟩ := List.getElem_of_mem h
  have h1 := sumC_take c xs i hi
  have h2 := sumC_le c xs (i + 1)
  omega
theorem szC_neg {c d : Nat} {left : Int} (h : left - c < 0) (hd : c ≤ d) : szC d left = -1 := by unfold szC; rw [if_pos (by omega)]

/-- None of these blocks is frozen. -/
def UF (w : World) (lo B : Nat) : Prop := ∀ b, lo ≤ b → b < B → ∀ o, w.frozen? ⟨b, o, none⟩ = false
theorem UF.start (w : World) : UF w w.heap.size w.heap.size := fun b h1 h2 => by omega
theorem UF.next {w1 w2 : World} {lo : Nat} (h : UF w1 lo w1.heap.size) (hb : Below w1.heap.size w1 w2) (k : UF w2 w1.heap.size w2.heap.size) : UF w2 lo w2.heap.size := fun b h1 h2 o => by
  rcases Nat.lt_or_ge b w1.heap.size with h3 | h3
  · exact (hb.frozen (p := ⟨b, o, none⟩) h3).trans (h b h1 h3 o)
  · exact k b h3 h2 o
theorem UF.alloc {w : World} {lo : Nat} (h : UF w lo w.heap.size) (a : Array Value) (t : TypeId) : UF (w.alloc (.cells a t)) lo (w.alloc (.cells a t)).heap.size := by
  refine h.next ((Below.refl _ _).alloc (Nat.le_refl _) _) (fun b h1 h2 o => ?_)
  have e : b = w.heap.size := by simp at h2; omega
  subst e
  have hW := Whole.new w t a.toList
  rw [Array.toArray_toList] at hW
  exact hW.frozen o
theorem UF.set_ {w : World} {lo B : Nat} (h : UF w lo B) (p : Addr) (u : Value) : UF (w.setCell p u) lo B := fun b h1 h2 o => by rw [World.frozen?_setCell]; exact h b h1 h2 o
theorem UF.setW : ∀ (vs : List Value) {w : World} {lo B : Nat} (g o : Nat), UF w lo B → UF (setW w g o vs) lo B
  | [], w, lo, B, g, o, h => h
  | v :: vs, w, lo, B, g, o, h => UF.setW vs g (o + 1) (h.set_ ⟨g, o, none⟩ v)

/-- Three new blocks: the boxed argument, the answer's, the local's. -/
theorem three_new (w : World) (a : Array Value) (ta t : TypeId) (z y : List Value) :
    Whole (((w.alloc (.cells a ta)).alloc (.cells z.toArray t)).alloc (.cells y.toArray t)) w.heap.size ta a.toList ∧
    Whole (((w.alloc (.cells a ta)).alloc (.cells z.toArray t)).alloc (.cells y.toArray t)) (w.heap.size + 1) t z ∧ Whole (((w.alloc (.cells a ta)).alloc (.cells z.toArray t)).alloc (.cells y.toArray t)) (w.heap.size + 1 + 1) t y ∧
    Below w.heap.size w (((w.alloc (.cells a ta)).alloc (.cells z.toArray t)).alloc (.cells y.toArray t)) ∧ (((w.alloc (.cells a ta)).alloc (.cells z.toArray t)).alloc (.cells y.toArray t)).heap.size = w.heap.size + 3 ∧
    UF (((w.alloc (.cells a ta)).alloc (.cells z.toArray t)).alloc (.cells y.toArray t)) w.heap.size (((w.alloc (.cells a ta)).alloc (.cells z.toArray t)).alloc (.cells y.toArray t)).heap.size := by
  have h1 := Whole.new w ta a.toList
  rw [Array.toArray_toList] at h1
  have h2 := Whole.new (w.alloc (.cells a ta)) t z
  have h3 := Whole.new ((w.alloc (.cells a ta)).alloc (.cells z.toArray t)) t y
  have e2 : (w.alloc (.cells a ta)).heap.size = w.heap.size + 1 := by simp
  have e3 : ((w.alloc (.cells a ta)).alloc (.cells z.toArray t)).heap.size = w.heap.size + 2 := by simp
  have b1 : Below w.heap.size w (w.alloc (.cells a ta)) := (Below.refl _ _).alloc (Nat.le_refl _) _
  have b2 := (Below.refl (w.heap.size + 1) (w.alloc (.cells a ta))).alloc (by rw [e2]; exact Nat.le_refl _) (.cells z.toArray t)
  have b3 := (Below.refl (w.heap.size + 2) ((w.alloc (.cells a ta)).alloc (.cells z.toArray t))).alloc (by rw [e3]; exact Nat.le_refl _) (.cells y.toArray t)
  rw [e2] at h2
  rw [e3] at h3
  exact ⟨(h1.below b2 (by omega)).below b3 (by omega), h2.below b3 (by omega), h3, (b1.trans (b2.mono (by omega))).trans (b3.mono (by omega)), by simp, (((UF.start w).alloc _ _).alloc _ _).alloc _ _⟩
/-- Two new blocks: two boxed arguments. -/
theorem two_new (w : World) (a b : Array Value) (t : TypeId) :
    Whole ((w.alloc (.cells a t)).alloc (.cells b t)) w.heap.size t a.toList ∧ Whole ((w.alloc (.cells a t)).alloc (.cells b t)) (w.heap.size + 1) t b.toList ∧ Below w.heap.size w ((w.alloc (.cells a t)).alloc (.cells b t)) ∧ ((w.alloc (.cells a t)).alloc (.cells b t)).heap.size = w.heap.size + 2 := by
  have h1 := Whole.new w t a.toList
  rw [Array.toArray_toList] at h1
  have h2 := Whole.new (w.alloc (.cells a t)) t b.toList
  rw [Array.toArray_toList] at h2
  have e2 : (w.alloc (.cells a t)).heap.size = w.heap.size + 1 := by simp
  have b1 : Below w.heap.size w (w.alloc (.cells a t)) := (Below.refl _ _).alloc (Nat.le_refl _) _
  have b2 := (Below.refl (w.heap.size + 1) (w.alloc (.cells a t))).alloc (by rw [e2]; exact Nat.le_refl _) (.cells b t)
  rw [e2] at h2
  exact ⟨h1.below b2 (by omega), h2, b1.trans (b2.mono (by omega)), by simp⟩
/-- What a function over two equal data answers. -/
def EqYes (w : World) (e : Ending) (w' : World) : Prop := e = .returned (.bool true) ∧ Below w.heap.size w w'
end Go.Proofs.Ytemcpdpbikgfcaa
namespace Go.Proofs.Ytemcpdpbikgfcaa
open Go.RowKit Go.Sort
set_option linter.unusedVariables false

def ValueAt (w : World) (lo B g o : Nat) (x : GV) : Prop := w.cell? ⟨g, o, none⟩ = some (.int .i64 x.k) ∧ w.cell? ⟨g, o + 1, none⟩ = some (.int .i64 x.n) ∧ w.cell? ⟨g, o + 2, none⟩ = some (.string x.t)
theorem ValueAt.same {w w' : World} {lo B g o : Nat} {x : GV} (h : ValueAt w lo B g o x) (hc : ∀ j, j < 3 → w'.cell? ⟨g, o + j, none⟩ = w.cell? ⟨g, o + j, none⟩) (hs : ∀ b, lo ≤ b → b < B → w'.heap[b]? = w.heap[b]?) : ValueAt w' lo B g o x := by
  obtain ⟨h0, h1, h2⟩ := h
  exact ⟨(hc 0 (by omega)).trans h0, (hc 1 (by omega)).trans h1, (hc 2 (by omega)).trans h2⟩
theorem ValueAt.mono {w : World} {lo lo' B B' g o : Nat} {x : GV} (h : ValueAt w lo B g o x) (hlo : lo' ≤ lo) (hB : B ≤ B') : ValueAt w lo' B' g o x := by
  obtain ⟨h0, h1, h2⟩ := h
  exact ⟨h0, h1, h2⟩
def ValuesAt (w : World) (lo B : Nat) (A : Option Addr) (xs : List (GV)) : Prop := xs = [] ∨ ∃ g o, A = some ⟨g, o, none⟩ ∧ lo ≤ g ∧ g < B ∧ ∀ i x, xs[i]? = some x → ValueAt w lo B g (o + i * 3) x
theorem ValuesAt.keep {w w' : World} {lo B : Nat} {A : Option Addr} {xs : List (GV)} (h : ValuesAt w lo B A xs) (hs : ∀ b, lo ≤ b → b < B → w'.heap[b]? = w.heap[b]?) : ValuesAt w' lo B A xs := by
  rcases h with h | ⟨g, o, hA, h1, h2, hc⟩
  · exact .inl h
  · exact .inr ⟨g, o, hA, h1, h2, fun i x hx => (hc i x hx).same (fun j _ => World.cell?_of_block (w := w) (w' := w') (hs g h1 h2)) hs⟩
theorem ValuesAt.mono {w : World} {lo lo' B B' : Nat} {A : Option Addr} {xs : List (GV)} (h : ValuesAt w lo B A xs) (hlo : lo' ≤ lo) (hB : B ≤ B') : ValuesAt w lo' B' A xs := by
  rcases h with h | ⟨g, o, hA, h1, h2, hc⟩
  · exact .inl h
  · exact .inr ⟨g, o, hA, by omega, by omega, fun i x hx => (hc i x hx).mono hlo hB⟩
theorem ValuesAt.to_ {w w' : World} {lo : Nat} {A : Option Addr} {xs : List (GV)} (h : ValuesAt w lo w.heap.size A xs) (hb : Below w.heap.size w w') : ValuesAt w' lo w'.heap.size A xs := (h.keep (fun b _ hb' => hb.block b hb')).mono (Nat.le_refl _) hb.size
theorem ValuesAt.at_ {w : World} {lo B : Nat} {A : Option Addr} {xs : List (GV)} (h : ValuesAt w lo B A xs) {i : Nat} (hi : i < xs.length) : ∃ g o, A = some ⟨g, o, none⟩ ∧ lo ≤ g ∧ g < B ∧ ValueAt w lo B g (o + i * 3) xs[i] := by
  rcases h with h | ⟨g, o, hA, h1, h2, hc⟩
  · subst h; simp at hi
  · exact ⟨g, o, hA, h1, h2, hc i _ (List.getElem?_eq_getElem hi)⟩
def fitValue (x : GV) : Prop := (Lit.int .i64 x.k).wf = true ∧ (Lit.int .i64 x.n).wf = true ∧ x.t.size ≤ maxLen
def costValue (x : GV) : Nat := x.t.size
def fitValues (xs : List (GV)) : Prop := xs.length ≤ maxLen ∧ ∀ x ∈ xs, fitValue x
def costValues (xs : List (GV)) : Nat := xs.length + sumC costValue xs

end Go.Proofs.Ytemcpdpbikgfcaa
namespace Go.Proofs.Ytemcpdpbikgfcaa
open Go.RowKit Go.Sort
set_option linter.unusedVariables false

structure GDiff where
  row : List (GV)
  count : Int
def DiffAt (w : World) (lo B g o : Nat) (x : GDiff) : Prop := (∃ A c, (w.cell? ⟨g, o, none⟩ = some (.slice A x.row.length c) ∧ CapOk x.row.length c) ∧ ValuesAt w lo B A x.row) ∧ w.cell? ⟨g, o + 1, none⟩ = some (.int .i64 x.count)
theorem DiffAt.same {w w' : World} {lo B g o : Nat} {x : GDiff} (h : DiffAt w lo B g o x) (hc : ∀ j, j < 2 → w'.cell? ⟨g, o + j, none⟩ = w.cell? ⟨g, o + j, none⟩) (hs : ∀ b, lo ≤ b → b < B → w'.heap[b]? = w.heap[b]?) : DiffAt w' lo B g o x := by
  obtain ⟨h0, h1⟩ := h
  exact ⟨(by obtain ⟨A, c, a1, a2⟩ := h0; exact ⟨A, c, ⟨(hc 0 (by omega)).trans a1.1, a1.2⟩, a2.keep hs⟩), (hc 1 (by omega)).trans h1⟩
theorem DiffAt.mono {w : World} {lo lo' B B' g o : Nat} {x : GDiff} (h : DiffAt w lo B g o x) (hlo : lo' ≤ lo) (hB : B ≤ B') : DiffAt w lo' B' g o x := by
  obtain ⟨h0, h1⟩ := h
  exact ⟨(by obtain ⟨A, c, a1, a2⟩ := h0; exact ⟨A, c, a1, a2.mono hlo hB⟩), h1⟩
def DiffsAt (w : World) (lo B : Nat) (A : Option Addr) (xs : List (GDiff)) : Prop := xs = [] ∨ ∃ g o, A = some ⟨g, o, none⟩ ∧ lo ≤ g ∧ g < B ∧ ∀ i x, xs[i]? = some x → DiffAt w lo B g (o + i * 2) x
theorem DiffsAt.keep {w w' : World} {lo B : Nat} {A : Option Addr} {xs : List (GDiff)} (h : DiffsAt w lo B A xs) (hs : ∀ b, lo ≤ b → b < B → w'.heap[b]? = w.heap[b]?) : DiffsAt w' lo B A xs := by
  rcases h with h | ⟨g, o, hA, h1, h2, hc⟩
  · exact .inl h
  · exact .inr ⟨g, o, hA, h1, h2, fun i x hx => (hc i x hx).same (fun j _ => World.cell?_of_block (w := w) (w' := w') (hs g h1 h2)) hs⟩
theorem DiffsAt.mono {w : World} {lo lo' B B' : Nat} {A : Option Addr} {xs : List (GDiff)} (h : DiffsAt w lo B A xs) (hlo : lo' ≤ lo) (hB : B ≤ B') : DiffsAt w lo' B' A xs := by
  rcases h with h | ⟨g, o, hA, h1, h2, hc⟩
  · exact .inl h
  · exact .inr ⟨g, o, hA, by omega, by omega, fun i x hx => (hc i x hx).mono hlo hB⟩
theorem DiffsAt.to_ {w w' : World} {lo : Nat} {A : Option Addr} {xs : List (GDiff)} (h : DiffsAt w lo w.heap.size A xs) (hb : Below w.heap.size w w') : DiffsAt w' lo w'.heap.size A xs := (h.keep (fun b _ hb' => hb.block b hb')).mono (Nat.le_refl _) hb.size
theorem DiffsAt.at_ {w : World} {lo B : Nat} {A : Option Addr} {xs : List (GDiff)} (h : DiffsAt w lo B A xs) {i : Nat} (hi : i < xs.length) : ∃ g o, A = some ⟨g, o, none⟩ ∧ lo ≤ g ∧ g < B ∧ DiffAt w lo B g (o + i * 2) xs[i] := by
  rcases h with h | ⟨g, o, hA, h1, h2, hc⟩
  · subst h; simp at hi
  · exact ⟨g, o, hA, h1, h2, hc i _ (List.getElem?_eq_getElem hi)⟩
def fitDiff (x : GDiff) : Prop := fitValues x.row ∧ (Lit.int .i64 x.count).wf = true
def costDiff (x : GDiff) : Nat := costValues x.row
def fitDiffs (xs : List (GDiff)) : Prop := xs.length ≤ maxLen ∧ ∀ x ∈ xs, fitDiff x
def costDiffs (xs : List (GDiff)) : Nat := xs.length + sumC costDiff xs

end Go.Proofs.Ytemcpdpbikgfcaa
