/-
  laws.markValueSS, laws.heldValueSS over tables whose rows are blocks of their own. Words for data of any struct in memory: cells set one after the other, sums of costs, new blocks.
-/
import Derived.Test.YteoepnadjkjlmaaGreatDigitsZ
import Derived.Test.YteoepnadjkjlmaaGreatMarkZ
import Derived.Deep.QuietTactic
import Derived.BigQuiet
import Derived.Lib.QuietBelow
namespace Go.Proofs.YteoepnadjkjlmaaGreat
open Go.RowKit Go.Sort
set_option linter.unusedVariables false

/-- A table, or the nil one. -/
def TabG (w : World) (A : Option Addr) (ps : List PR) : Prop := ps = [] ∨ ∃ g l, A = some ⟨g, 0, none⟩ ∧ OutAt w g ps l
theorem TabG.below {w w' : World} {A : Option Addr} {ps : List PR} (h : TabG w A ps) (hb : Below w.heap.size w w') : TabG w' A ps := by
  rcases h with h | ⟨g, l, hA, h⟩
  · exact .inl h
  · exact .inr ⟨g, l, hA, h.below hb⟩
theorem TabG.tab {w : World} {A : Option Addr} {ps : List PR} (h : TabG w A ps) : TabAt w w.heap.size A (ps.map (·.2)) := by
  rcases h with rfl | ⟨g, l, rfl, h⟩
  · exact .inl rfl
  · exact h.tab
def sumP (ps : List PR) : Nat := (ps.map fun p => p.2.length).sum
theorem sumP_take (ps : List PR) (i : Nat) (h : i < ps.length) : sumP (ps.take (i + 1)) = sumP (ps.take i) + ps[i].2.length := by
  unfold sumP
  rw [List.take_succ_eq_append_getElem h, List.map_append, List.sum_append]
  simp
theorem sumP_take_le (ps : List PR) (i : Nat) : sumP (ps.take i) ≤ sumP ps := by
  unfold sumP
  conv => rhs; rw [← List.take_append_drop i ps]
  rw [List.map_append, List.sum_append]
  omega
def markP (k : Nat) : List PR → List PR
  | [] => []
  | p :: ps => (p.1, marked k p.2.length) :: markP (k + 3 * p.2.length) ps
theorem markP_len : ∀ (k : Nat) (ps : List PR), (markP k ps).length = ps.length
  | _, [] => rfl
  | k, p :: ps => by simp [markP, markP_len _ ps]
theorem markP_fst : ∀ (k : Nat) (ps : List PR), (markP k ps).map (·.1) = ps.map (·.1)
  | _, [] => rfl
  | k, p :: ps => by simp [markP, markP_fst _ ps]
theorem markP_head : ∀ (k : Nat) (ps : List PR), (markP k ps).map headV = ps.map headV
  | _, [] => rfl
  | k, p :: ps => by simp only [markP, List.map_cons, markP_head _ ps]; simp [headV, marked_len]
theorem markP_at : ∀ (k : Nat) (ps : List PR) (i : Nat) (h : i < ps.length), (markP k ps)[i]'(by rw [markP_len]; exact h) = (ps[i].1, marked (k + 3 * sumP (ps.take i)) ps[i].2.length)
  | k, p :: ps, 0, h => by simp [markP, sumP]
  | k, p :: ps, i + 1, h => by
    simp only [markP, List.getElem_cons_succ, List.take_succ_cons]
    rw [markP_at (k + 3 * p.2.length) ps i (by simpa using h)]
    have : k + 3 * p.2.length + 3 * sumP (ps.take i) = k + 3 * sumP (p :: ps.take i) := by simp [sumP]; omega
    rw [this]
  | k, [], i, h => by simp at h

/-- All blocks but those of S are as they were. -/
structure GrownS (w w' : World) (S : List Nat) : Prop where
  os : w'.os = w.os
  tape : w'.tape = w.tape
  output : w'.output = w.output
  size : w.heap.size ≤ w'.heap.size
  block : ∀ k, k < w.heap.size → k ∉ S → w'.heap[k]? = w.heap[k]?
theorem GrownS.next {w w1 w2 : World} {S : List Nat} {g : Nat} (h : GrownS w w1 S) (k : w1.grownBy w2 (some g)) (hg : g ∈ S) : GrownS w w2 S :=
  ⟨k.os.trans h.os, k.tape.trans h.tape, k.output.trans h.output, Nat.le_trans h.size k.size, fun i hi hne => (k.block i (Nat.lt_of_lt_of_le hi h.size) (fun e => by injection e with e; exact hne (e ▸ hg))).trans (h.block i hi hne)⟩
/-- The state of the marking: the rows before place i are marked. -/
def MarkSt (w : World) (g : Nat) (ps : List PR) (l : List Value) (k i : Nat) (w' : World) : Prop :=
  Whole w' g 52 (ps.map headV ++ l) ∧ (∀ (j : Nat) (hj : j < ps.length), Whole w' ps[j].1 79 (flat (if j < i then marked (k + 3 * sumP (ps.take j)) ps[j].2.length else ps[j].2))) ∧ GrownS w w' (ps.map (·.1))
theorem mark_start {w : World} {g : Nat} {ps : List PR} {l : List Value} (k : Nat) (h : OutAt w g ps l) : MarkSt w g ps l k 0 w :=
  ⟨h.1, fun j hj => by rw [if_neg (by omega)]; exact h.2.1 _ (List.getElem_mem hj), rfl, rfl, rfl, Nat.le_refl _, fun _ _ _ => rfl⟩
theorem mark_next {w w1 w2 : World} {g : Nat} {ps : List PR} {l : List Value} {k i : Nat} (hne : ∀ p ∈ ps, p.1 ≠ g) (hnd : (ps.map (·.1)).Nodup) (h : MarkSt w g ps l k i w1) (hi : i < ps.length) (hw : Whole w2 ps[i].1 79 (flat (marked (k + 3 * sumP (ps.take i)) ps[i].2.length)))
    (hg : w1.grownBy w2 (some ps[i].1)) : MarkSt w g ps l k (i + 1) w2 := by
  have hkeep : ∀ {b : Nat} {t : TypeId} {x : List Value}, Whole w1 b t x → b ≠ ps[i].1 → Whole w2 b t x := fun hb hn => (hg.block _ hb.lt (fun e => hn (by injection e))).trans hb
  refine ⟨hkeep h.1 (fun e => hne _ (List.getElem_mem hi) e.symm), fun j hj => ?_, h.2.2.next hg (List.mem_map_of_mem (List.getElem_mem hi))⟩
  by_cases e : j = i
  · subst e
    rw [if_pos (by omega)]; exact hw
  · have h1 := h.2.1 j hj
    have hb : ps[j].1 ≠ ps[i].1 := by
      intro e2
      have hp := List.pairwise_iff_getElem.1 hnd
      rcases Nat.lt_or_gt_of_ne e with hlt | hgt
      · exact hp j i (by simpa using hj) (by simpa using hi) hlt (by simpa using e2)
      · exact hp i j (by simpa using hi) (by simpa using hj) hgt (by simpa using e2.symm)
    by_cases h4 : j < i
    · rw [if_pos h4] at h1; rw [if_pos (by omega)]; exact hkeep h1 hb
    · rw [if_neg h4] at h1; rw [if_neg (by omega)]; exact hkeep h1 hb
theorem mark_end {w w1 : World} {g : Nat} {ps : List PR} {l : List Value} {k i : Nat} (hne : ∀ p ∈ ps, p.1 ≠ g) (h : MarkSt w g ps l k i w1) (hi : ps.length ≤ i) : OutAt w1 g (markP k ps) l ∧ GrownS w w1 (ps.map (·.1)) := by
  refine ⟨⟨by rw [markP_head]; exact h.1, fun p hp => ?_, fun p hp => ?_⟩, h.2.2⟩
  · obtain ⟨j, hj, rfl⟩ := List.getElem_of_mem hp
    rw [markP_len] at hj
    rw [markP_at k ps j hj]
    have := h.2.1 j hj
    rw [if_pos (by omega)] at this
    exact this
  · have : p.1 ∈ (markP k ps).map (·.1) := List.mem_map_of_mem hp
    rw [markP_fst, List.mem_map] at this
    obtain ⟨q, hq, e⟩ := this
    rw [← e]; exact hne q hq

/-- What laws.markValueSS leaves. -/
def MarkPost (w : World) (A : Option Addr) (ps : List PR) (k : Nat) (e : Ending) (w' : World) : Prop := e = .returned (.int .i64 ((k + 3 * sumP ps : Nat) : Int)) ∧ TabG w' A (markP k ps) ∧ GrownS w w' (ps.map (·.1))

set_option maxRecDepth 100000 in
set_option maxHeartbeats 1600000 in
theorem mark_table (A : Option Addr) (cap k : Nat) (ps : List PR) (w : World) (h : TabG w A ps) (hnd : (ps.map (·.1)).Nodup) (hk : 1 ≤ k) (hk2 : k ≤ 1000) (hn : ps.length ≤ 1048576) (hs : sumP ps ≤ 1048576) :
    Calls Tryz.prog 15 #[.slice A ps.length cap, .int .i64 k] w (MarkPost w A ps k) := by
  rcases h with rfl | ⟨g, l, rfl, hO⟩
  · go_enter Tryz.func15, Tryz.ntmps15
    go_wp2_with fail
    go_loopw [1, 5] (fun kk i w' => kk = .int .i64 k ∧ i = .int .i64 0 ∧ w' = w) (fun _ _ _ => 0)
    case atStart => exact ⟨rfl, rfl, rfl⟩
    case round =>
      obtain ⟨rfl, rfl, rfl⟩ := hrel
      go_wp2_with fail
      go_ret
      exact ⟨by simp [sumP], .inl rfl, rfl, rfl, rfl, Nat.le_refl _, fun _ _ _ => rfl⟩
  · have hne := Lib.hid hO.2.2
    have hS0 := Lib.hid (mark_start k hO)
    have HND := Lib.hid hnd
    have HE : (((k + 3 * sumP (ps.take 0) : Nat) : Int)) = (k : Int) := by simp [sumP]
    clear hO hnd
    go_enter Tryz.func15, Tryz.ntmps15
    go_wp2_with fail
    go_loopw [1, 5] (fun kk i w' => ∃ j K : Nat, j ≤ ps.length ∧ Hid (K = k + 3 * sumP (ps.take j)) ∧ K ≤ 4000000 ∧ 1 ≤ K ∧ kk = .int .i64 K ∧ i = .int .i64 j ∧ Hid (MarkSt w g ps l k j w')) (fun _ i _ => ps.length - (intOf i).toNat)
    case atStart => exact ⟨0, k, Nat.zero_le _, Lib.hid (by simp [sumP]), by omega, hk, rfl, rfl, hS0⟩
    case round =>
      obtain ⟨j, K, hj, hK, hK1, hK2, rfl, rfl, hS⟩ := hrel
      by_cases hlt : j < ps.length
      · have hcell : wr.cell? ⟨g, j, none⟩ = some (.slice (some ⟨ps[j].1, 0, none⟩) ps[j].2.length ps[j].2.length) := by
          rw [hS.out.1.cell, List.getElem?_append_left (by simpa using hlt), List.getElem?_map, List.getElem?_eq_getElem hlt]; rfl
        have hw := hS.out.2.1 j hlt
        rw [if_neg (by omega)] at hw
        have hst := sumP_take ps j hlt
        have hle := sumP_take_le ps (j + 1)
        have hKo := hK.out
        have hcon := mark_row ps[j].1 ps[j].2.length ps[j].2.length K (flat ps[j].2) wr hw (by rw [flat_length]; exact Nat.le_refl _) hK2 (by omega) (by omega)
        have HN := Lib.hid (show K + 3 * ps[j].2.length = k + 3 * sumP (ps.take (j + 1)) by omega)
        have hn1 : K + 3 * ps[j].2.length ≤ 4000000 := by omega
        have hi1 : (j : Int) < (ps.length : Int) := by omega
        clear hw hst hle hKo
        go_wp2_with fail
        refine hcon.mono ?_
        rintro e w2 ⟨rfl, hw2, hg2⟩
        rw [List.drop_eq_nil_of_le (by rw [flat_length]; exact Nat.le_refl _), List.append_nil, hK.out] at hw2
        have hS2 := Lib.hid (mark_next hne.out HND.out hS.out hlt hw2 hg2)
        clear hcon hw2 hg2 hcell
        go_wp2_with fail
        go_roundw
        case rel => exact ⟨j + 1, K + 3 * ps[j].2.length, by omega, HN, hn1, by omega, rfl, by go_num, hS2⟩
        case measure => simp [intOf]; omega
      · have hi1 : ¬ (j : Int) < (ps.length : Int) := by omega
        obtain ⟨m1, m2⟩ := mark_end hne.out hS.out (by omega)
        have hKo := hK.out
        rw [List.take_of_length_le (by omega)] at hKo
        have HK := Lib.hid hKo
        clear hKo
        go_wp2_with fail
        go_ret
        exact ⟨by rw [← HK.out]; rfl, .inr ⟨g, l, rfl, m1⟩, m2⟩

end Go.Proofs.YteoepnadjkjlmaaGreat
namespace Go.Proofs.YteoepnadjkjlmaaGreat
open Go.RowKit Go.Sort
set_option linter.unusedVariables false

/-- A slice's length lies within its capacity, and that within the machine. -/
def CapOk (len c : Nat) : Prop := len ≤ c ∧ c ≤ 9223372036854775807
def setL (l : List Value) (o : Nat) : List Value → List Value
  | [] => l
  | v :: vs => setL (l.set o v) (o + 1) vs
def setW (w : World) (g o : Nat) : List Value → World
  | [] => w
  | v :: vs => setW (w.setCell ⟨g, o, none⟩ v) g (o + 1) vs
theorem setL_len : ∀ (vs l : List Value) (o : Nat), (setL l o vs).length = l.length
  | [], l, o => rfl
  | v :: vs, l, o => by rw [setL, setL_len vs]; simp
theorem setL_out : ∀ (vs l : List Value) (o i : Nat), (i < o ∨ o + vs.length ≤ i) → (setL l o vs)[i]? = l[i]?
  | [], l, o, i, _ => rfl
  | v :: vs, l, o, i, h => by
    rw [setL, setL_out vs _ _ _ (by simp at h; omega), List.getElem?_set_ne (by simp at h; omega)]
theorem setL_in : ∀ (vs l : List Value) (o j : Nat) (u : Value), o + vs.length ≤ l.length → vs[j]? = some u → (setL l o vs)[o + j]? = some u
  | v :: vs, l, o, 0, u, h, hu => by
    simp at hu h
    rw [setL, setL_out vs _ _ _ (by omega), Nat.add_zero, List.getElem?_set_self (by omega), hu]
  | v :: vs, l, o, j + 1, u, h, hu => by
    simp at hu h
    have := setL_in vs (l.set o v) (o + 1) j u (by simp; omega) hu
    rw [setL, show o + (j + 1) = o + 1 + j by omega]
    exact this
  | [], l, o, j, u, h, hu => by simp at hu
theorem setW_whole : ∀ (vs : List Value) {w : World} {g : Nat} {t : TypeId} {l : List Value} (o : Nat), Whole w g t l → Whole (setW w g o vs) g t (setL l o vs)
  | [], w, g, t, l, o, h => h
  | v :: vs, w, g, t, l, o, h => setW_whole vs (o + 1) (h.set_ o v)
theorem setW_block : ∀ (vs : List Value) (w : World) (g o k : Nat), k ≠ g → (setW w g o vs).heap[k]? = w.heap[k]?
  | [], w, g, o, k, h => rfl
  | v :: vs, w, g, o, k, h => (setW_block vs _ g (o + 1) k h).trans (Below.heap_setCell w ⟨g, o, none⟩ v k h)
theorem setW_size : ∀ (vs : List Value) (w : World) (g o : Nat), (setW w g o vs).heap.size = w.heap.size
  | [], w, g, o => rfl
  | v :: vs, w, g, o => by rw [setW, setW_size vs]; simp [World.setCell]
theorem setW_below : ∀ (vs : List Value) {B : Nat} {a w : World} (g o : Nat), Below B a w → B ≤ g → Below B a (setW w g o vs)
  | [], B, a, w, g, o, h, hg => h
  | v :: vs, B, a, w, g, o, h, hg => setW_below vs g (o + 1) (h.setCell (p := ⟨g, o, none⟩) hg v) hg
theorem Whole.offW {w : World} {g b o : Nat} {t : TypeId} {l : List Value} (h : Whole w g t l) (vs : List Value) (hne : g ≠ b) : Whole (setW w b o vs) g t l := (setW_block vs w b o g hne).trans h

def sumC {α : Type} (c : α → Nat) (xs : List α) : Nat := (xs.map c).sum
theorem sumC_take {α : Type} (c : α → Nat) (xs : List α) (i : Nat) (h : i < xs.length) : sumC c (xs.take (i + 1)) = sumC c (xs.take i) + c xs[i] := by
  unfold sumC
  rw [List.take_succ_eq_append_getElem h, List.map_append, List.sum_append]
  simp
theorem sumC_le {α : Type} (c : α → Nat) (xs : List α) (i : Nat) : sumC c (xs.take i) ≤ sumC c xs := by
  unfold sumC
  conv => rhs; rw [← List.take_append_drop i xs]
  rw [List.map_append, List.sum_append]
  omega
theorem sumC_mem {α : Type} (c : α → Nat) (xs : List α) (x : α) (h : x ∈ xs) : c x ≤ sumC c xs := by
  obtain ⟨i, hi, rfl⟩ := List.getElem_of_mem h
  have h1 := sumC_take c xs i hi
  have h2 := sumC_le c xs (i + 1)
  omega
theorem szC_neg {c d : Nat} {left : Int} (h : left - c < 0) (hd : c ≤ d) : szC d left = -1 := by unfold szC; rw [if_pos (by omega)]

/-- None of these blocks is frozen. -/
def UF (w : World) (lo B : Nat) : Prop := ∀ b, lo ≤ b → b < B → ∀ o, w.frozen? ⟨b, o, none⟩ = false
theorem UF.start (w : World) : UF w w.heap.size w.heap.size := fun b h1 h2 => by omega
theorem UF.next {w1 w2 : World} {lo : Nat} (h : UF w1 lo w1.heap.size) (hb : Below w1.heap.size w1 w2) (k : UF w2 w1.heap.size w2.heap.size) : UF w2 lo w2.heap.size := fun b h1 h2 o => by
  rcases Nat.lt_or_ge b w1.heap.size with h3 | h3
  · exact (hb.frozen (p := ⟨b, o, none⟩) h3).trans (h b h1 h3 o)
  · exact k b h3 h2 o
theorem UF.alloc {w : World} {lo : Nat} (h : UF w lo w.heap.size) (a : Array Value) (t : TypeId) : UF (w.alloc (.cells a t)) lo (w.alloc (.cells a t)).heap.size := by
  refine h.next ((Below.refl _ _).alloc (Nat.le_refl _) _) (fun b h1 h2 o => ?_)
  have e : b = w.heap.size := by simp at h2; omega
  subst e
  have hW := Whole.new w t a.toList
  rw [Array.toArray_toList] at hW
  exact hW.frozen o
theorem UF.set_ {w : World} {lo B : Nat} (h : UF w lo B) (p : Addr) (u : Value) : UF (w.setCell p u) lo B := fun b h1 h2 o => by rw [World.frozen?_setCell]; exact h b h1 h2 o
theorem UF.setW : ∀ (vs : List Value) {w : World} {lo B : Nat} (g o : Nat), UF w lo B → UF (setW w g o vs) lo B
  | [], w, lo, B, g, o, h => h
  | v :: vs, w, lo, B, g, o, h => UF.setW vs g (o + 1) (h.set_ ⟨g, o, none⟩ v)

/-- Three new blocks: the boxed argument, the answer's, the local's. -/
theorem three_new (w : World) (a : Array Value) (ta t : TypeId) (z y : List Value) :
    Whole (((w.alloc (.cells a ta)).alloc (.cells z.toArray t)).alloc (.cells y.toArray t)) w.heap.size ta a.toList ∧
    Whole (((w.alloc (.cells a ta)).alloc (.cells z.toArray t)).alloc (.cells y.toArray t)) (w.heap.size + 1) t z ∧ Whole (((w.alloc (.cells a ta)).alloc (.cells z.toArray t)).alloc (.cells y.toArray t)) (w.heap.size + 1 + 1) t y ∧
    Below w.heap.size w (((w.alloc (.cells a ta)).alloc (.cells z.toArray t)).alloc (.cells y.toArray t)) ∧ (((w.alloc (.cells a ta)).alloc (.cells z.toArray t)).alloc (.cells y.toArray t)).heap.size = w.heap.size + 3 ∧
    UF (((w.alloc (.cells a ta)).alloc (.cells z.toArray t)).alloc (.cells y.toArray t)) w.heap.size (((w.alloc (.cells a ta)).alloc (.cells z.toArray t)).alloc (.cells y.toArray t)).heap.size := by
  have h1 := Whole.new w ta a.toList
  rw [Array.toArray_toList] at h1
  have h2 := Whole.new (w.alloc (.cells a ta)) t z
  have h3 := Whole.new ((w.alloc (.cells a ta)).alloc (.cells z.toArray t)) t y
  have e2 : (w.alloc (.cells a ta)).heap.size = w.heap.size + 1 := by simp
  have e3 : ((w.alloc (.cells a ta)).alloc (.cells z.toArray t)).heap.size = w.heap.size + 2 := by simp
  have b1 : Below w.heap.size w (w.alloc (.cells a ta)) := (Below.refl _ _).alloc (Nat.le_refl _) _
  have b2 := (Below.refl (w.heap.size + 1) (w.alloc (.cells a ta))).alloc (by rw [e2]; exact Nat.le_refl _) (.cells z.toArray t)
  have b3 := (Below.refl (w.heap.size + 2) ((w.alloc (.cells a ta)).alloc (.cells z.toArray t))).alloc (by rw [e3]; exact Nat.le_refl _) (.cells y.toArray t)
  rw [e2] at h2
  rw [e3] at h3
  exact ⟨(h1.below b2 (by omega)).below b3 (by omega), h2.below b3 (by omega), h3, (b1.trans (b2.mono (by omega))).trans (b3.mono (by omega)), by simp, (((UF.start w).alloc _ _).alloc _ _).alloc _ _⟩
/-- Two new blocks: two boxed arguments. -/
theorem two_new (w : World) (a b : Array Value) (t : TypeId) :
    Whole ((w.alloc (.cells a t)).alloc (.cells b t)) w.heap.size t a.toList ∧ Whole ((w.alloc (.cells a t)).alloc (.cells b t)) (w.heap.size + 1) t b.toList ∧ Below w.heap.size w ((w.alloc (.cells a t)).alloc (.cells b t)) ∧ ((w.alloc (.cells a t)).alloc (.cells b t)).heap.size = w.heap.size + 2 := by
  have h1 := Whole.new w t a.toList
  rw [Array.toArray_toList] at h1
  have h2 := Whole.new (w.alloc (.cells a t)) t b.toList
  rw [Array.toArray_toList] at h2
  have e2 : (w.alloc (.cells a t)).heap.size = w.heap.size + 1 := by simp
  have b1 : Below w.heap.size w (w.alloc (.cells a t)) := (Below.refl _ _).alloc (Nat.le_refl _) _
  have b2 := (Below.refl (w.heap.size + 1) (w.alloc (.cells a t))).alloc (by rw [e2]; exact Nat.le_refl _) (.cells b t)
  rw [e2] at h2
  exact ⟨h1.below b2 (by omega), h2, b1.trans (b2.mono (by omega)), by simp⟩
/-- What a function over two equal data answers. -/
def EqYes (w : World) (e : Ending) (w' : World) : Prop := e = .returned (.bool true) ∧ Below w.heap.size w w'
end Go.Proofs.YteoepnadjkjlmaaGreat
