/-
  slices.SortFunc over a table whose rows are blocks of their own.
-/
import Derived.Test.YteoepnadjkjlmaaTabHead
import Derived.Test.YteoepnadjkjlmaaCmpD
import Derived.Test.YteoepnadjkjlmaaTab
import Derived.Test.YteoepnadjkjlmaaShelf
namespace Go.Proofs.Yteoepnadjkjlmaa
open Go.RowKit Go.Sort Go.Shelf
set_option linter.unusedVariables false

theorem sort_block {α : Type} [Inhabited α] (enc : α → Value) (w : World) (g off m : Nat) (dk : Array α) (os : Array Obj) {k : Nat} (hk : k < w.heap.size) (hne : k ≠ g) : (sortWorld enc w g off m dk os).heap[k]? = w.heap[k]? := by
  unfold sortWorld
  rw [heap_grow_old _ _ (by simpa using hk)]
  show (mapBlock (Sort.ahead w m) g _).heap[k]? = _
  simp only [mapBlock, Array.getElem?_modify]
  rw [if_neg (fun e => hne e.symm)]
  rfl
theorem sort_own {α : Type} [Inhabited α] (enc : α → Value) (w : World) (g m : Nat) (dk : Array α) (os : Array Obj) {t : TypeId} {l : List Value} (h : Whole w g t l) (hl : l.length = dk.size) : Whole (sortWorld enc w g 0 m dk os) g t (dk.toList.map enc) := by
  have hlt := h.lt
  unfold Whole sortWorld at *
  rw [heap_grow_old _ _ (by simpa using hlt)]
  show (mapBlock (Sort.ahead w m) g _).heap[g]? = _
  simp only [mapBlock, Array.getElem?_modify, if_true, heap_ahead, h, Option.map_some, onCells]
  congr 2
  apply Array.ext
  · simp [putCells, hl]
  · intro i h1 h2
    have hi : i < dk.size := by simpa using h2
    simp only [putCells, Array.getElem_mapIdx]
    rw [if_pos ⟨Nat.zero_le _, by omega⟩]
    simp [hi]
theorem sort_grown {α : Type} [Inhabited α] (enc : α → Value) (w : World) (g off m : Nat) (dk : Array α) (os : Array Obj) : w.grownBy (sortWorld enc w g off m dk os) (some g) :=
  ⟨rfl, rfl, rfl, by simp [sortWorld], fun k hk hne => sort_block enc w g off m dk os hk (fun e => hne (by rw [e]))⟩

/-- The row's head by its place; behind the last an empty one. -/
def encI (ps : List PR) (i : Nat) : Value := headV (ps.getD i (0, []))
def rowI (ps : List PR) (i : Nat) : Row := (ps.getD i (0, [])).2
def cfI (ps : List PR) (i j : Nat) : Int := cmpR (rowI ps i) (rowI ps j)
theorem swo_I (ps : List PR) : SWO (ltOf (cfI ps)) where
  irrefl x := by unfold ltOf cfI; rw [cmp_self]; rfl
  trans x y z h1 h2 := by
    unfold ltOf cfI at *
    simp only [decide_eq_true_eq] at *
    exact good_cmpR.trans _ _ _ h1 h2
  ntrans x y z h1 h2 := by
    unfold ltOf cfI at *
    simp only [decide_eq_false_iff_not] at *
    intro h3
    have h4 := good_cmpR.anti (rowI ps x) (rowI ps y)
    by_cases h5 : cmpR (rowI ps y) (rowI ps x) < 0
    · exact h2 (good_cmpR.trans _ _ _ h5 h3)
    · have h6 : cmpR (rowI ps y) (rowI ps x) = 0 := by omega
      rw [(good_cmpR.eq _ _).1 h6] at h2
      exact h2 h3
theorem encI_one (ps : List PR) : OneCell (encI ps) := fun x => rfl
theorem rowI_at {w w' : World} {ps : List PR} (h : Own w ps) (hw : ∀ p ∈ ps, w'.heap[p.1]? = w.heap[p.1]?) (i : Nat) : RowAt w' w'.heap.size (some ⟨(ps.getD i (0, [])).1, 0, none⟩) (rowI ps i) := by
  unfold rowI
  rcases Nat.lt_or_ge i ps.length with hi | hi
  · have hm : ps.getD i (0, []) ∈ ps := by simp [List.getD, List.getElem?_eq_getElem hi]
    have h1 : Whole w' (ps.getD i (0, [])).1 54 (flat (ps.getD i (0, [])).2) := (hw _ hm).trans (h _ hm)
    exact h1.row h1.lt
  · exact .inl (by simp [List.getD, List.getElem?_eq_none hi])
theorem range_getD (ps : List PR) : (List.range ps.length).map (fun i => ps.getD i (0, [])) = ps := by
  apply List.ext_getElem
  · simp
  · intro i h1 h2
    simp [List.getD, List.getElem?_eq_getElem h2]

theorem cmp_lays (g : Nat) (ps : List PR) (w : World) (h : Own w ps) (hne : ∀ p ∈ ps, p.1 ≠ g) (hl : ∀ p ∈ ps, p.2.length ≤ 1048576) : CmpLays1 Try.prog 44 #[] (encI ps) (cfI ps) g 0 ps.length w := by
  intro m os dk hs x y
  have hrow : ∀ i, RowAt (sortWorld (encI ps) w g 0 m dk os) (sortWorld (encI ps) w g 0 m dk os).heap.size (some ⟨(ps.getD i (0, [])).1, 0, none⟩) (rowI ps i) :=
    rowI_at h (fun p hp => sort_block _ _ _ _ _ _ _ (h p hp).lt (hne p hp))
  have hlen : ∀ i, (rowI ps i).length ≤ 1048576 := by
    intro i
    unfold rowI
    rcases Nat.lt_or_ge i ps.length with hi | hi
    · exact hl _ (by simp [List.getD, List.getElem?_eq_getElem hi])
    · simp [List.getD, List.getElem?_eq_none hi]
  exact (sort_closure _ _ _ _ (rowI ps x) (rowI ps y) _ (hrow x) (hrow y) (hlen x) (hlen y)).mono fun e w' ⟨he, hg⟩ => ⟨he, hg.out⟩

/-- What the sort leaves. -/
def SortPost (w : World) (g : Nat) (ps : List PR) (e : Ending) (w' : World) : Prop :=
  e = .returned (.tuple #[]) ∧ ∃ qs : List PR, qs.Perm ps ∧ SortedR (qs.map (·.2)) ∧ OutAt w' g qs [] ∧ w.grownBy w' (some g)

theorem sort_table (g cap : Nat) (ps : List PR) (w : World) (h : OutAt w g ps []) (hl : ∀ p ∈ ps, p.2.length ≤ 1048576) (hn : ps.length ≤ 3000) :
    Calls Try.prog 43 #[.slice (some ⟨g, 0, none⟩) ps.length cap, .func (.func 44) #[] #[]] w (SortPost w g ps) := by
  have eg : ∀ args w, (callFunc 44 args).run Try.prog w = .ok (.enter 44 args) w := enters_of Try.func44 (by kernel_rfl) rfl
  have hd : (Array.range ps.length).size = ps.length := by simp
  have hH : Holds (encI ps) w g 0 (Array.range ps.length) := by
    intro j hj
    rw [hd] at hj
    refine ⟨?_, h.1.frozen _⟩
    rw [h.1.cell, List.append_nil, Nat.zero_add, List.getElem?_map, List.getElem?_eq_getElem hj]
    simp [encI, List.getD, hj, getElem!_pos]
  have hcon := Any.slices_SortFunc Try.sortL (encI ps) (encI_one ps) (cfI ps) (swo_I ps) 44 #[] g 0 cap (Array.range ps.length) w eg (by rw [hd]; exact cmp_lays g ps w h.2.1 h.2.2 hl) hH h.1.lt (by rw [hd]; omega)
  rw [hd] at hcon
  refine Calls.mono hcon fun e w' he => ?_
  obtain ⟨rfl, d', n, os, hp, hs, rfl⟩ := he
  obtain ⟨hp1, hp2, hp3⟩ := hp
  rw [hd] at hp1
  have e1 : d'.extract 0 ps.length = d' := by rw [← hp1]; simp
  have e2 : (Array.range ps.length).extract 0 ps.length = Array.range ps.length := by rw [show ps.length = (Array.range ps.length).size by simp]; simp
  rw [e1, e2, Array.toList_range] at hp3
  have hq : (d'.toList.map fun i => ps.getD i (0, [])).Perm ps := by
    have := hp3.map (fun i => ps.getD i (0, []))
    rwa [range_getD] at this
  refine ⟨rfl, d'.toList.map (fun i => ps.getD i (0, [])), hq, ?_, ⟨?_, ?_, ?_⟩, sort_grown _ _ _ _ _ _ _⟩
  · unfold SortedR
    rw [List.map_map, List.pairwise_map, List.pairwise_iff_getElem]
    intro i j hi hj hij
    have h1 := hs i j (Nat.zero_le _) hij (by simpa [hp1] using hj)
    rw [getElem!_pos d' i (by simpa using hi), getElem!_pos d' j (by simpa using hj)] at h1
    unfold ltOf cfI at h1
    simp only [decide_eq_false_iff_not] at h1
    have h2 := good_cmpR.anti (rowI ps d'[i]) (rowI ps d'[j])
    show cmpR (rowI ps d'.toList[i]) (rowI ps d'.toList[j]) ≤ 0
    simp only [Array.getElem_toList]
    omega
  · have := sort_own (encI ps) w g n d' os h.1 (by simp [hp1])
    rw [List.append_nil, List.map_map]
    exact this
  · intro p hp
    have hm := hq.mem_iff.1 hp
    exact (sort_block _ _ _ _ _ _ _ (h.2.1 p hm).lt (h.2.2 p hm)).trans (h.2.1 p hm)
  · intro p hp
    exact h.2.2 p (hq.mem_iff.1 hp)
end Go.Proofs.Yteoepnadjkjlmaa
