/-
  slices.SortFunc over differences whose rows are blocks of their own: the closure of impl.diffsOf, what the sort leaves.
-/
import Derived.Test.YtggkggaihfcjmaaCmpGZ
import Derived.Test.YtggkggaihfcjmaaGAcc
import Derived.Test.YtggkggaihfcjmaaCoef
import Derived.Test.YtggkggaihfcjmaaShelf
namespace Go.Proofs.Ytggkggaihfcjmaa
open Go.RowKit Go.Sort Go.Shelf
set_option linter.unusedVariables false

theorem Grows.alloc {a b : World} (h : Grows a b) (o : Obj) : Grows a (b.alloc o) := ⟨h.1.alloc h.1.size _, h.2⟩
theorem sort_closureD (A A' : Option Addr) (c c' : Nat) (vs us : List GV) (n n' : Int) (w : World) (hr : RowAt w w.heap.size A vs) (hr' : RowAt w w.heap.size A' us) (hl : vs.length ≤ 1048576) (hl' : us.length ≤ 1048576) :
    Calls Try.prog 91 #[.agg #[.slice A vs.length c, .int .i64 n], .agg #[.slice A' us.length c', .int .i64 n']] w fun e w' => e = .returned (.int .i64 (cmpR vs us)) ∧ Grows w w' := by
  have hg : Grows w ((w.alloc (.cells #[.slice A vs.length c, .int .i64 n] 55)).alloc (.cells #[.slice A' us.length c', .int .i64 n'] 55)) := ((Grows.refl w).alloc _).alloc _
  have h1 := Lib.hid (hr.to_ hg.1)
  have h2 := Lib.hid (hr'.to_ hg.1)
  clear hr hr'
  go_enter Try.func91, Try.ntmps91
  go_wp2_with fail
  refine (impl_rows_d A A' c c' vs us _ h1.out h2.out hl hl').mono ?_
  rintro e w1 ⟨rfl, hb1⟩
  go_wp2_with fail
  go_ret
  exact ⟨rfl, hg.next hb1⟩
theorem sortK_block {α : Type} [Inhabited α] (enc : α → List Value) (k : Nat) (w : World) (g off m : Nat) (dk : Array α) (os : Array Obj) {i : Nat} (hi : i < w.heap.size) (hne : i ≠ g) : (sortWorldK enc k w g off m dk os).heap[i]? = w.heap[i]? := by
  unfold sortWorldK putRowK
  rw [heap_grow_old _ _ (by simpa using hi)]
  show (mapBlock (Sort.ahead w m) g _).heap[i]? = _
  simp only [mapBlock, Array.getElem?_modify]
  rw [if_neg (fun e => hne e.symm)]
  rfl
theorem sortK_own {α : Type} [Inhabited α] (enc : α → List Value) (k : Nat) (w : World) (g m : Nat) (dk : Array α) (os : Array Obj) {t : TypeId} {l : List Value} (h : Whole w g t l) (hl : dk.size * k ≤ l.length) : Whole (sortWorldK enc k w g 0 m dk os) g t ((flatK enc k dk).toList ++ l.drop (dk.size * k)) := by
  have hlt := h.lt
  unfold Whole sortWorldK putRowK at *
  rw [heap_grow_old _ _ (by simpa using hlt)]
  show (mapBlock (Sort.ahead w m) g _).heap[g]? = _
  simp only [mapBlock, Array.getElem?_modify, if_true, heap_ahead, h, Option.map_some, onCells]
  congr 2
  apply Array.ext_getElem?
  intro i
  simp only [putCells, Array.getElem?_mapIdx, List.getElem?_toArray]
  by_cases hi : i < dk.size * k
  · rw [List.getElem?_append_left (by simpa using hi), List.getElem?_eq_getElem (by omega)]
    simp [hi]
  · rw [List.getElem?_append_right (by simp; omega)]
    simp only [Array.length_toList, size_flatK, List.getElem?_drop]
    rw [show dk.size * k + (i - dk.size * k) = i by omega]
    cases l[i]? with
    | none => rfl
    | some x => simp [hi]
theorem sortK_grown {α : Type} [Inhabited α] (enc : α → List Value) (k : Nat) (w : World) (g off m : Nat) (dk : Array α) (os : Array Obj) : w.grownBy (sortWorldK enc k w g off m dk os) (some g) :=
  ⟨rfl, rfl, rfl, by simp [sortWorldK, putRowK, putRow, mapBlock], fun i hi hne => sortK_block enc k w g off m dk os hi (fun e => hne (by rw [e]))⟩
def dh0 : DH := ((none, 0), ⟨[], 0⟩)
def encP (ps : List DH) (i : Nat) : List Value := dhL (ps.getD i dh0)
def rowP (ps : List DH) (i : Nat) : List GV := (ps.getD i dh0).2.row
def cfP (ps : List DH) (i j : Nat) : Int := cmpR (rowP ps i) (rowP ps j)
theorem swo_P (ps : List DH) : SWO (ltOf (cfP ps)) where
  irrefl x := by unfold ltOf cfP; rw [(good_cmpR.eq _ _).2 rfl]; rfl
  trans x y z h1 h2 := by
    unfold ltOf cfP at *
    simp only [decide_eq_true_eq] at *
    exact good_cmpR.trans _ _ _ h1 h2
  ntrans x y z h1 h2 := by
    unfold ltOf cfP at *
    simp only [decide_eq_false_iff_not] at *
    intro h3
    have h4 := good_cmpR.anti (rowP ps x) (rowP ps y)
    by_cases h5 : cmpR (rowP ps y) (rowP ps x) < 0
    · exact h2 (good_cmpR.trans _ _ _ h5 h3)
    · have h6 : cmpR (rowP ps y) (rowP ps x) = 0 := by omega
      rw [(good_cmpR.eq _ _).1 h6] at h2
      exact h2 h3
theorem getD_mem {α : Type} {l : List α} {d : α} {i : Nat} (h : i < l.length) : l.getD i d ∈ l := by simp [List.getD, List.getElem?_eq_getElem h]
theorem rowW_at {B : Nat} {w w' : World} {p : DH} (h : RowW B w p) (hb : ∀ b, p.1.1 = some ⟨b, 0, none⟩ → b < w.heap.size → (∃ l, Whole w b 52 l) → w'.heap[b]? = w.heap[b]?) : RowAt w' w'.heap.size p.1.1 p.2.row := by
  rcases h with h | ⟨b, l, e, hB, hW⟩
  · exact .inl h
  · have h1 : Whole w' b 52 (flat p.2.row ++ l) := (hb b e hW.lt ⟨_, hW⟩).trans hW
    rw [e]
    refine .inr ⟨b, 0, rfl, h1.lt, fun i v hv => ?_⟩
    obtain ⟨h0, h2, h3⟩ := flat_at p.2.row i v hv
    have hi : i < p.2.row.length := (List.getElem?_eq_some_iff.1 hv).1
    have key : ∀ j, j < p.2.row.length * 3 → (flat p.2.row ++ l)[j]? = (flat p.2.row)[j]? := fun j hj => List.getElem?_append_left (by rw [flat_length]; exact hj)
    refine ⟨?_, ?_, ?_⟩ <;> rw [h1.cell, Nat.zero_add, key _ (by omega)] <;> assumption
theorem whole_ne {w : World} {g b : Nat} {l l' : List Value} (h : Whole w g 55 l) (h' : Whole w b 52 l') : b ≠ g := by
  intro e; subst e; unfold Whole at h h'; rw [h] at h'; cases h'
theorem cmp_laysD {B : Nat} (g : Nat) (ps : List DH) (l : List Value) (w : World) (hg : Whole w g 55 (flatH ps ++ l)) (h : ∀ p ∈ ps, RowW B w p) (hl : ∀ p ∈ ps, p.2.row.length ≤ 1048576) : CmpLays Try.prog 91 #[] (encP ps) 2 (cfP ps) g 0 ps.length w := by
  intro m os dk hs x y
  have hrow : ∀ i, RowAt (sortWorldK (encP ps) 2 w g 0 m dk os) (sortWorldK (encP ps) 2 w g 0 m dk os).heap.size (ps.getD i dh0).1.1 (rowP ps i) := by
    intro i
    unfold rowP
    rcases Nat.lt_or_ge i ps.length with hi | hi
    · exact rowW_at (h _ (getD_mem hi)) (fun b _ hlt ⟨l', hW⟩ => sortK_block _ _ _ _ _ _ _ _ hlt (whole_ne hg hW))
    · exact .inl (by simp [List.getD, List.getElem?_eq_none hi, dh0])
  have hlen : ∀ i, (rowP ps i).length ≤ 1048576 := by
    intro i
    unfold rowP
    rcases Nat.lt_or_ge i ps.length with hi | hi
    · exact hl _ (getD_mem hi)
    · simp [List.getD, List.getElem?_eq_none hi, dh0]
  exact (sort_closureD _ _ _ _ (rowP ps x) (rowP ps y) _ _ _ (hrow x) (hrow y) (hlen x) (hlen y)).mono fun e w' ⟨he, hg⟩ => ⟨he, hg.out⟩
theorem dhL_get (p : DH) (j : Nat) (hj : j < 2) : (dhL p)[j]? = some (dhL p)[j]! := by
  match j, hj with
  | 0, _ => rfl
  | 1, _ => rfl
theorem flatH_get (ps : List DH) (j : Nat) (hj : j < ps.length * 2) : (flatH ps)[j]? = some (dhL (ps.getD (j / 2) dh0))[j % 2]! := by
  have hi : j / 2 < ps.length := by omega
  obtain ⟨f0, f1⟩ := flatH_at ps (j / 2) ps[j / 2] (List.getElem?_eq_getElem hi)
  have hd : ps.getD (j / 2) dh0 = ps[j / 2] := by simp [List.getD, List.getElem?_eq_getElem hi]
  rw [hd]
  rcases Nat.mod_two_eq_zero_or_one j with h0 | h1
  · rw [h0]
    rw [show j / 2 * 2 = j by omega] at f0
    exact f0
  · rw [h1]
    rw [show j / 2 * 2 + 1 = j by omega] at f1
    exact f1
theorem flatK_H (ps : List DH) (d : Array Nat) : (flatK (encP ps) 2 d).toList = flatH (d.toList.map fun i => ps.getD i dh0) := by
  apply List.ext_getElem?
  intro j
  by_cases hj : j < d.size * 2
  · rw [flatH_get _ j (by simpa using hj)]
    have h1 := get_flatK (encP ps) 2 d j hj
    rw [Array.getElem?_toList, Array.getElem?_eq_getElem (by simpa using hj)]
    rw [getElem!_pos (flatK (encP ps) 2 d) j (by simpa using hj)] at h1
    rw [h1]
    have h2 : j / 2 < d.size := by omega
    unfold encP
    simp [List.getD, h2]
  · rw [List.getElem?_eq_none (by simpa using hj), List.getElem?_eq_none (by rw [flatH_length]; simpa using hj)]
/-- What the sort leaves. -/
def SortPostD (w : World) (g : Nat) (ps : List DH) (l : List Value) (e : Ending) (w' : World) : Prop :=
  e = .returned (.tuple #[]) ∧ ∃ qs : List DH, qs.Perm ps ∧ qs.Pairwise (fun a b => cmpR a.2.row b.2.row ≤ 0) ∧ Whole w' g 55 (flatH qs ++ l) ∧ w.grownBy w' (some g)
theorem range_getDH (ps : List DH) : (List.range ps.length).map (fun i => ps.getD i dh0) = ps := by
  apply List.ext_getElem
  · simp
  · intro i h1 h2
    simp [List.getD, List.getElem?_eq_getElem h2]
theorem sort_diffs {B : Nat} (g cap : Nat) (ps : List DH) (l : List Value) (w : World) (hg : Whole w g 55 (flatH ps ++ l)) (h : ∀ p ∈ ps, RowW B w p) (hl : ∀ p ∈ ps, p.2.row.length ≤ 1048576) (hn : ps.length ≤ 3000) :
    Calls Try.prog 90 #[.slice (some ⟨g, 0, none⟩) ps.length cap, .func (.func 91) #[] #[]] w (SortPostD w g ps l) := by
  have eg : ∀ args w, (callFunc 91 args).run Try.prog w = .ok (.enter 91 args) w := enters_of Try.func91 (by kernel_rfl) rfl
  have hd : (Array.range ps.length).size = ps.length := by simp
  have hH : HoldsK (encP ps) 2 w g 0 (Array.range ps.length) := by
    intro j hj
    rw [size_flatK, hd] at hj
    refine ⟨?_, hg.frozen _⟩
    rw [hg.cell, Nat.zero_add, List.getElem?_append_left (by rw [flatH_length]; exact hj), flatH_get ps j hj, get_flatK _ _ _ _ (by rw [hd]; exact hj)]
    have h2 : j / 2 < ps.length := by omega
    simp [encP, h2, getElem!_pos]
  have hcon := AnyQ.slices_SortFunc (α := Nat) Try.sortL 2 Try.isAgg55 Try.sizeOf55 (encP ps) (fun _ => rfl) (fun x => dhL_one _) (cfP ps) (swo_P ps) 91 #[] g 0 cap (Array.range ps.length) w eg (by rw [hd]; exact cmp_laysD g ps l w hg h hl) hH hg.lt (by rw [hd]; omega)
  rw [hd] at hcon
  refine Calls.mono hcon fun e w' he => ?_
  obtain ⟨rfl, d', n, os, hp, hs, rfl⟩ := he
  obtain ⟨hp1, hp2, hp3⟩ := hp
  rw [hd] at hp1
  have e1 : d'.extract 0 ps.length = d' := by rw [← hp1]; simp
  have e2 : (Array.range ps.length).extract 0 ps.length = Array.range ps.length := by rw [show ps.length = (Array.range ps.length).size by simp]; simp
  rw [e1, e2, Array.toList_range] at hp3
  have hq : (d'.toList.map fun i => ps.getD i dh0).Perm ps := by
    have := hp3.map (fun i => ps.getD i dh0)
    rwa [range_getDH] at this
  refine ⟨rfl, d'.toList.map (fun i => ps.getD i dh0), hq, ?_, ?_, sortK_grown _ _ _ _ _ _ _ _⟩
  · rw [List.pairwise_map, List.pairwise_iff_getElem]
    intro i j hi hj hij
    have h1 := hs i j (Nat.zero_le _) hij (by simpa [hp1] using hj)
    rw [getElem!_pos d' i (by simpa using hi), getElem!_pos d' j (by simpa using hj)] at h1
    unfold ltOf cfP at h1
    simp only [decide_eq_false_iff_not] at h1
    have h2 := good_cmpR.anti (rowP ps d'[i]) (rowP ps d'[j])
    show cmpR (rowP ps d'.toList[i]) (rowP ps d'.toList[j]) ≤ 0
    simp only [Array.getElem_toList]
    omega
  · have := sortK_own (encP ps) 2 w g n d' os hg (by rw [List.length_append, flatH_length, hp1]; omega)
    rw [flatK_H, List.drop_append_of_le_length (by rw [flatH_length, hp1]; exact Nat.le_refl _), List.drop_eq_nil_of_le (by rw [flatH_length, hp1]; exact Nat.le_refl _), List.nil_append] at this
    exact this
end Go.Proofs.Ytggkggaihfcjmaa
