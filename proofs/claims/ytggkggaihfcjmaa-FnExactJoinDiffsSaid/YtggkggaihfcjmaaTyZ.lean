/-
  Slices of values that a call made itself; a struct's three cells. Words for data of any struct in memory: cells set one after the other, sums of costs, new blocks.
-/
import Derived.Test.YtggkggaihfcjmaaWholeZ
import Derived.Laws.AppendOwn
import Derived.Deep.QuietTactic
import Derived.BigQuiet
import Derived.Lib.QuietBelow
namespace Go.Proofs.Ytggkggaihfcjmaa
open Go.RowKit
set_option linter.unusedVariables false

/-- A slice of values of the call's own, from block B on, that holds r. -/
def VRow (B : Nat) (w : World) (v : Value) (r : List GV) : Prop := w.ownsRow B 52 3 v r.length (flat r)
theorem VRow.row {B : Nat} {w : World} {v : Value} {r : List GV} (h : VRow B w v r) : ∃ A c, v = .slice A r.length c ∧ RowAt w w.heap.size A r := by
  rcases h.2 with ⟨rfl, h0⟩ | ⟨g, cap, cur, rfl, hg, hh, hc1, hc2, hc3, hc4⟩
  · exact ⟨none, 0, by rw [h0], .inl (List.eq_nil_of_length_eq_zero h0)⟩
  · refine ⟨_, cap, rfl, .inr ⟨g, 0, rfl, ?_, fun i v hv => ?_⟩⟩
    · rcases Nat.lt_or_ge g w.heap.size with h' | h'
      · exact h'
      · rw [Array.getElem?_eq_none h'] at hh; cases hh
    · obtain ⟨f0, f1, f2⟩ := flat_at r i v hv
      have hi : i < r.length := (List.getElem?_eq_some_iff.1 hv).1
      have key : ∀ j, j < r.length * 3 → w.cell? ⟨g, j, none⟩ = (flat r)[j]? := fun j hj => by
        have h1 : w.cell? ⟨g, j, none⟩ = cur.toList[j]? := by simp [World.cell?, hh]
        rw [h1, ← hc4, List.getElem?_take_of_lt hj]
      rw [Nat.zero_add]
      exact ⟨(key _ (by omega)).trans f0, (key _ (by omega)).trans f1, (key _ (by omega)).trans f2⟩
theorem VRow.below {B : Nat} {w w' : World} {v : Value} {r : List GV} (h : VRow B w v r) (hb : Below w.heap.size w w') : VRow B w' v r := by
  refine ⟨h.1, ?_⟩
  rcases h.2 with h' | ⟨g, cap, cur, e, hg, hh, hr⟩
  · exact .inl h'
  · refine .inr ⟨g, cap, cur, e, hg, ?_, hr⟩
    have : g < w.heap.size := by
      rcases Nat.lt_or_ge g w.heap.size with h' | h'
      · exact h'
      · rw [Array.getElem?_eq_none h'] at hh; cases hh
    rw [hb.block g this]; exact hh
theorem VRow.mono {B B' : Nat} {w : World} {v : Value} {r : List GV} (h : VRow B w v r) (hB : B' ≤ B) : VRow B' w v r := by
  refine ⟨h.1, ?_⟩
  rcases h.2 with h' | ⟨g, cap, cur, e, hg, hr⟩
  · exact .inl h'
  · exact .inr ⟨g, cap, cur, e, by omega, hr⟩
theorem vrow_app {B : Nat} {w2 : World} {v2 : Value} {r : List GV} {v : GV} (h : w2.ownsRow B 52 3 v2 (r.length + 1) (flat r ++ [.int .i64 v.k, .int .i64 v.n, .string v.t])) : VRow B w2 v2 (r ++ [v]) := by
  unfold VRow
  rw [flat_append, List.length_append]
  exact h
theorem news_three (w : World) (a b c : Value) (t : TypeId) : ∀ j u, [a, b, c][j]? = some u → (w.alloc (.cells #[a, b, c] t)).cell? ((⟨w.heap.size, 0, none⟩ : Addr).add j) = some u := by
  intro j u hj
  match j, hj with
  | 0, hj => simp at hj; subst hj; simp [Addr.add]
  | 1, hj => simp at hj; subst hj; simp [Addr.add]
  | 2, hj => simp at hj; subst hj; simp [Addr.add]
theorem one_three (k n : Int) (t : ByteArray) : ∀ u ∈ [Value.int .i64 k, .int .i64 n, .string t], u.oneCell' = true := by
  intro u hu; simp at hu; rcases hu with rfl | rfl | rfl <;> rfl
theorem vrow_nil (B : Nat) (w : World) : VRow B w (.slice none 0 0) [] := ⟨rfl, .inl ⟨rfl, rfl⟩⟩
theorem vrow_new (w : World) : VRow w.heap.size (w.alloc (.cells #[] 52)) (.slice (some ⟨w.heap.size, 0, none⟩) 0 0) [] :=
  ⟨rfl, .inr ⟨w.heap.size, 0, #[], rfl, Nat.le_refl _, heap_alloc_new w _, Nat.le_refl _, by unfold maxLen; omega, rfl, rfl⟩⟩
theorem put3 {w : World} {g : Nat} {t : TypeId} {a b c : Value} (x y z : Value) (h : Whole w g t [a, b, c]) :
    Whole (((w.setCell ⟨g, 0, none⟩ x).setCell ⟨g, 1, none⟩ y).setCell ⟨g, 2, none⟩ z) g t [x, y, z] := ((h.set_ 0 x).set_ 1 y).set_ 2 z
theorem below3 {B g : Nat} {a w : World} (x y z : Value) (h : Below B a w) (hg : B ≤ g) : Below B a (((w.setCell ⟨g, 0, none⟩ x).setCell ⟨g, 1, none⟩ y).setCell ⟨g, 2, none⟩ z) :=
  ((h.setCell hg x).setCell hg y).setCell hg z
theorem cells3_ {w : World} {g : Nat} {t : TypeId} {x y z : Value} (h : Whole w g t [x, y, z]) : w.cell? ⟨g, 0, none⟩ = some x ∧ w.cell? ⟨g, 1, none⟩ = some y ∧ w.cell? ⟨g, 2, none⟩ = some z :=
  ⟨h.cell 0, h.cell 1, h.cell 2⟩
def VV (v : GV) : Value := .agg #[.int .i64 v.k, .int .i64 v.n, .string v.t]
def zeroV : List Value := [.int .i64 0, .int .i64 0, .string ByteArray.empty]
theorem new3 (w : World) : Whole (w.alloc (.cells #[.int .i64 0, .int .i64 0, .string ⟨#[]⟩] 52)) w.heap.size 52 zeroV := Whole.new w _ _
theorem own_ge {w : World} {base : Nat} {e : TypeId} {size n : Nat} {v : Value} {xs : List Value} (h : w.ownsRow base e size v n xs) : ∀ k, v.ownBlock = some k → base ≤ k := by
  intro k hk
  rcases h.2 with ⟨rfl, _⟩ | ⟨g, cap, cur, rfl, hg, _⟩
  · simp [Value.ownBlock] at hk
  · simp [Value.ownBlock] at hk; omega
theorem grown_next {w w1 w2 : World} {b : Nat} (h : w.grownBy w1 (some b)) (k : w1.grownBy w2 (some b)) : w.grownBy w2 (some b) :=
  ⟨k.os.trans h.os, k.tape.trans h.tape, k.output.trans h.output, Nat.le_trans h.size k.size, fun i hi hne => (k.block i (Nat.lt_of_lt_of_le hi h.size) hne).trans (h.block i hi hne)⟩
theorem grown_below {w w' : World} {b : Option Nat} (h : Below w.heap.size w w') : w.grownBy w' b := ⟨h.os, h.tape, h.output, h.size, fun k hk _ => h.block k hk⟩
theorem grown_set {w w1 : World} {g i : Nat} {u : Value} (h : w.grownBy w1 (some g)) : w.grownBy (w1.setCell ⟨g, i, none⟩ u) (some g) :=
  ⟨h.os, h.tape, h.output, by simpa [World.setCell] using h.size, fun k hk hne => by
    rw [Below.heap_setCell _ _ _ _ (by intro e; exact hne (by rw [e]))]; exact h.block k hk hne⟩
theorem grown_refl (w : World) (g : Nat) : w.grownBy w (some g) := ⟨rfl, rfl, rfl, Nat.le_refl _, fun _ _ _ => rfl⟩
theorem flat_one (r : List GV) : ∀ u ∈ flat r, u.oneCell' = true := by
  induction r with
  | nil => intro u hu; simp [flat] at hu
  | cons v r ih => intro u hu; simp [flat] at hu; rcases hu with rfl | rfl | rfl | h; rfl; rfl; rfl; exact ih u h
theorem Whole.far {w : World} {g g' i : Nat} {t : TypeId} {l : List Value} {u : Value} (h : Whole w g t l) (hne : g ≠ g') : Whole (w.setCell ⟨g', i, none⟩ u) g t l := by
  unfold Whole at h ⊢; rw [Below.heap_setCell _ _ _ _ hne]; exact h
theorem frozen3 {w : World} {g : Nat} {t : TypeId} {x y z : Value} (h : Whole w g t [x, y, z]) : w.frozen? ⟨g, 0, none⟩ = false ∧ w.frozen? ⟨g, 1, none⟩ = false ∧ w.frozen? ⟨g, 2, none⟩ = false :=
  ⟨h.frozen 0, h.frozen 1, h.frozen 2⟩
theorem infoU8 : (Try.prog.info? 5).map (fun i => (i.zero, i.size, i.bytes)) = some (some (.int .u8 0), 1, 1) := by kernel_rfl
theorem flat_get : ∀ (vs : List GV) (j : Nat) (u : Value), (flat vs)[j]? = some u → ∃ i v, vs[i]? = some v ∧ ((j = i * 3 ∧ u = .int .i64 v.k) ∨ (j = i * 3 + 1 ∧ u = .int .i64 v.n) ∨ (j = i * 3 + 2 ∧ u = .string v.t))
  | [], j, u, h => by simp [flat] at h
  | x :: vs, 0, u, h => by simp [flat] at h; exact ⟨0, x, rfl, .inl ⟨rfl, h.symm⟩⟩
  | x :: vs, 1, u, h => by simp [flat] at h; exact ⟨0, x, rfl, .inr (.inl ⟨rfl, h.symm⟩)⟩
  | x :: vs, 2, u, h => by simp [flat] at h; exact ⟨0, x, rfl, .inr (.inr ⟨rfl, h.symm⟩)⟩
  | x :: vs, j + 3, u, h => by
    obtain ⟨i, v, hv, h'⟩ := flat_get vs j u (by simpa [flat] using h)
    refine ⟨i + 1, v, by simpa using hv, ?_⟩
    rcases h' with ⟨rfl, e⟩ | ⟨rfl, e⟩ | ⟨rfl, e⟩
    · exact .inl ⟨by omega, e⟩
    · exact .inr (.inl ⟨by omega, e⟩)
    · exact .inr (.inr ⟨by omega, e⟩)
end Go.Proofs.Ytggkggaihfcjmaa
namespace Go.Proofs.Ytggkggaihfcjmaa
open Go.RowKit Go.Sort
set_option linter.unusedVariables false

/-- A slice's length lies within its capacity, and that within the machine. -/
def CapOk (len c : Nat) : Prop := len ≤ c ∧ c ≤ 9223372036854775807
def setL (l : List Value) (o : Nat) : List Value → List Value
  | [] => l
  | v :: vs => setL (l.set o v) (o + 1) vs
def setW (w : World) (g o : Nat) : List Value → World
  | [] => w
  | v :: vs => setW (w.setCell ⟨g, o, none⟩ v) g (o + 1) vs
theorem setL_len : ∀ (vs l : List Value) (o : Nat), (setL l o vs).length = l.length
  | [], l, o => rfl
  | v :: vs, l, o => by rw [setL, setL_len vs]; simp
theorem setL_out : ∀ (vs l : List Value) (o i : Nat), (i < o ∨ o + vs.length ≤ i) → (setL l o vs)[i]? = l[i]?
  | [], l, o, i, _ => rfl
  | v :: vs, l, o, i, h => by
    rw [setL, setL_out vs _ _ _ (by simp at h; omega), List.getElem?_set_ne (by simp at h; omega)]
theorem setL_in : ∀ (vs l : List Value) (o j : Nat) (u : Value), o + vs.length ≤ l.length → vs[j]? = some u → (setL l o vs)[o + j]? = some u
  | v :: vs, l, o, 0, u, h, hu => by
    simp at hu h
    rw [setL, setL_out vs _ _ _ (by omega), Nat.add_zero, List.getElem?_set_self (by omega), hu]
  | v :: vs, l, o, j + 1, u, h, hu => by
    simp at hu h
    have := setL_in vs (l.set o v) (o + 1) j u (by simp; omega) hu
    rw [setL, show o + (j + 1) = o + 1 + j by omega]
    exact this
  | [], l, o, j, u, h, hu => by simp at hu
theorem setW_whole : ∀ (vs : List Value) {w : World} {g : Nat} {t : TypeId} {l : List Value} (o : Nat), Whole w g t l → Whole (setW w g o vs) g t (setL l o vs)
  | [], w, g, t, l, o, h => h
  | v :: vs, w, g, t, l, o, h => setW_whole vs (o + 1) (h.set_ o v)
theorem setW_block : ∀ (vs : List Value) (w : World) (g o k : Nat), k ≠ g → (setW w g o vs).heap[k]? = w.heap[k]?
  | [], w, g, o, k, h => rfl
  | v :: vs, w, g, o, k, h => (setW_block vs _ g (o + 1) k h).trans (Below.heap_setCell w ⟨g, o, none⟩ v k h)
theorem setW_size : ∀ (vs : List Value) (w : World) (g o : Nat), (setW w g o vs).heap.size = w.heap.size
  | [], w, g, o => rfl
  | v :: vs, w, g, o => by rw [setW, setW_size vs]; simp [World.setCell]
theorem setW_below : ∀ (vs : List Value) {B : Nat} {a w : World} (g o : Nat), Below B a w → B ≤ g → Below B a (setW w g o vs)
  | [], B, a, w, g, o, h, hg => h
  | v :: vs, B, a, w, g, o, h, hg => setW_below vs g (o + 1) (h.setCell (p := ⟨g, o, none⟩) hg v) hg
theorem Whole.offW {w : World} {g b o : Nat} {t : TypeId} {l : List Value} (h : Whole w g t l) (vs : List Value) (hne : g ≠ b) : Whole (setW w b o vs) g t l := (setW_block vs w b o g hne).trans h

def sumC {α : Type} (c : α → Nat) (xs : List α) : Nat := (xs.map c).sum
theorem sumC_take {α : Type} (c : α → Nat) (xs : List α) (i : Nat) (h : i < xs.length) : sumC c (xs.take (i + 1)) = sumC c (xs.take i) + c xs[i] := by
  unfold sumC
  rw [List.take_succ_eq_append_getElem h, List.map_append, List.sum_append]
  simp
theorem sumC_le {α : Type} (c : α → Nat) (xs : List α) (i : Nat) : sumC c (xs.take i) ≤ sumC c xs := by
  unfold sumC
  conv => rhs; rw [← List.take_append_drop i xs]
  rw [List.map_append, List.sum_append]
  omega
theorem sumC_mem {α : Type} (c : α → Nat) (xs : List α) (x : α) (h : x ∈ xs) : c x ≤ sumC c xs := by
  obtain ⟨i, hi, rfl⟩ := List.getElem_of_mem h
  have h1 := sumC_take c xs i hi
  have h2 := sumC_le c xs (i + 1)
  omega
theorem szC_neg {c d : Nat} {left : Int} (h : left - c < 0) (hd : c ≤ d) : szC d left = -1 := by unfold szC; rw [if_pos (by omega)]

/-- None of these blocks is frozen. -/
def UF (w : World) (lo B : Nat) : Prop := ∀ b, lo ≤ b → b < B → ∀ o, w.frozen? ⟨b, o, none⟩ = false
theorem UF.start (w : World) : UF w w.heap.size w.heap.size := fun b h1 h2 => by omega
theorem UF.next {w1 w2 : World} {lo : Nat} (h : UF w1 lo w1.heap.size) (hb : Below w1.heap.size w1 w2) (k : UF w2 w1.heap.size w2.heap.size) : UF w2 lo w2.heap.size := fun b h1 h2 o => by
  rcases Nat.lt_or_ge b w1.heap.size with h3 | h3
  · exact (hb.frozen (p := ⟨b, o, none⟩) h3).trans (h b h1 h3 o)
  · exact k b h3 h2 o
theorem UF.alloc {w : World} {lo : Nat} (h : UF w lo w.heap.size) (a : Array Value) (t : TypeId) : UF (w.alloc (.cells a t)) lo (w.alloc (.cells a t)).heap.size := by
  refine h.next ((Below.refl _ _).alloc (Nat.le_refl _) _) (fun b h1 h2 o => ?_)
  have e : b = w.heap.size := by simp at h2; omega
  subst e
  have hW := Whole.new w t a.toList
  rw [Array.toArray_toList] at hW
  exact hW.frozen o
theorem UF.set_ {w : World} {lo B : Nat} (h : UF w lo B) (p : Addr) (u : Value) : UF (w.setCell p u) lo B := fun b h1 h2 o => by rw [World.frozen?_setCell]; exact h b h1 h2 o
theorem UF.setW : ∀ (vs : List Value) {w : World} {lo B : Nat} (g o : Nat), UF w lo B → UF (setW w g o vs) lo B
  | [], w, lo, B, g, o, h => h
  | v :: vs, w, lo, B, g, o, h => UF.setW vs g (o + 1) (h.set_ ⟨g, o, none⟩ v)

/-- Three new blocks: the boxed argument, the answer's, the local's. -/
theorem three_new (w : World) (a : Array Value) (ta t : TypeId) (z y : List Value) :
    Whole (((w.alloc (.cells a ta)).alloc (.cells z.toArray t)).alloc (.cells y.toArray t)) w.heap.size ta a.toList ∧
    Whole (((w.alloc (.cells a ta)).alloc (.cells z.toArray t)).alloc (.cells y.toArray t)) (w.heap.size + 1) t z ∧ Whole (((w.alloc (.cells a ta)).alloc (.cells z.toArray t)).alloc (.cells y.toArray t)) (w.heap.size + 1 + 1) t y ∧
    Below w.heap.size w (((w.alloc (.cells a ta)).alloc (.cells z.toArray t)).alloc (.cells y.toArray t)) ∧ (((w.alloc (.cells a ta)).alloc (.cells z.toArray t)).alloc (.cells y.toArray t)).heap.size = w.heap.size + 3 ∧
    UF (((w.alloc (.cells a ta)).alloc (.cells z.toArray t)).alloc (.cells y.toArray t)) w.heap.size (((w.alloc (.cells a ta)).alloc (.cells z.toArray t)).alloc (.cells y.toArray t)).heap.size := by
  have h1 := Whole.new w ta a.toList
  rw [Array.toArray_toList] at h1
  have h2 := Whole.new (w.alloc (.cells a ta)) t z
  have h3 := Whole.new ((w.alloc (.cells a ta)).alloc (.cells z.toArray t)) t y
  have e2 : (w.alloc (.cells a ta)).heap.size = w.heap.size + 1 := by simp
  have e3 : ((w.alloc (.cells a ta)).alloc (.cells z.toArray t)).heap.size = w.heap.size + 2 := by simp
  have b1 : Below w.heap.size w (w.alloc (.cells a ta)) := (Below.refl _ _).alloc (Nat.le_refl _) _
  have b2 := (Below.refl (w.heap.size + 1) (w.alloc (.cells a ta))).alloc (by rw [e2]; exact Nat.le_refl _) (.cells z.toArray t)
  have b3 := (Below.refl (w.heap.size + 2) ((w.alloc (.cells a ta)).alloc (.cells z.toArray t))).alloc (by rw [e3]; exact Nat.le_refl _) (.cells y.toArray t)
  rw [e2] at h2
  rw [e3] at h3
  exact ⟨(h1.below b2 (by omega)).below b3 (by omega), h2.below b3 (by omega), h3, (b1.trans (b2.mono (by omega))).trans (b3.mono (by omega)), by simp, (((UF.start w).alloc _ _).alloc _ _).alloc _ _⟩
/-- Two new blocks: two boxed arguments. -/
theorem two_new (w : World) (a b : Array Value) (t : TypeId) :
    Whole ((w.alloc (.cells a t)).alloc (.cells b t)) w.heap.size t a.toList ∧ Whole ((w.alloc (.cells a t)).alloc (.cells b t)) (w.heap.size + 1) t b.toList ∧ Below w.heap.size w ((w.alloc (.cells a t)).alloc (.cells b t)) ∧ ((w.alloc (.cells a t)).alloc (.cells b t)).heap.size = w.heap.size + 2 := by
  have h1 := Whole.new w t a.toList
  rw [Array.toArray_toList] at h1
  have h2 := Whole.new (w.alloc (.cells a t)) t b.toList
  rw [Array.toArray_toList] at h2
  have e2 : (w.alloc (.cells a t)).heap.size = w.heap.size + 1 := by simp
  have b1 : Below w.heap.size w (w.alloc (.cells a t)) := (Below.refl _ _).alloc (Nat.le_refl _) _
  have b2 := (Below.refl (w.heap.size + 1) (w.alloc (.cells a t))).alloc (by rw [e2]; exact Nat.le_refl _) (.cells b t)
  rw [e2] at h2
  exact ⟨h1.below b2 (by omega), h2, b1.trans (b2.mono (by omega)), by simp⟩
/-- What a function over two equal data answers. -/
def EqYes (w : World) (e : Ending) (w' : World) : Prop := e = .returned (.bool true) ∧ Below w.heap.size w w'
end Go.Proofs.Ytggkggaihfcjmaa
