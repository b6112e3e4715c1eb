/-
  laws.toValueSS: the table that it makes owns its blocks.
-/
import Derived.Test.YteoepnadjkjlmaaTabZ
namespace Go.Proofs.Yteoepnadjkjlmaa
open Go.RowKit
set_option linter.unusedVariables false

/-- The outer block's cells: row i is the whole block gs[i]. -/
def heads : List Nat → List (List GV) → List Value
  | g :: gs, r :: rows => .slice (some ⟨g, 0, none⟩) r.length r.length :: heads gs rows
  | _, _ => []
/-- Each row is a whole block of its own. -/
def RowsOwn (w : World) (gs : List Nat) (rows : List (List GV)) : Prop :=
  gs.length = rows.length ∧ ∀ (i g : Nat) (r : List GV), gs[i]? = some g → rows[i]? = some r → Whole w g 54 (flat r)
/-- A table whose outer block is g and whose rows are the blocks gs, all from lo on and all different. -/
def TabOwn (w : World) (lo g : Nat) (gs : List Nat) (rows : List (List GV)) : Prop :=
  RowsOwn w gs rows ∧ Whole w g 35 (heads gs rows) ∧ lo ≤ g ∧ (∀ x ∈ gs, lo ≤ x ∧ x ≠ g) ∧ gs.Nodup

theorem heads_length : ∀ (gs : List Nat) (rows : List (List GV)), gs.length = rows.length → (heads gs rows).length = rows.length
  | [], [], _ => rfl
  | g :: gs, r :: rows, h => by simp only [heads, List.length_cons]; rw [heads_length gs rows (by simpa using h)]
theorem heads_at : ∀ (gs : List Nat) (rows : List (List GV)) (i : Nat) (g : Nat) (r : List GV), gs[i]? = some g → rows[i]? = some r → (heads gs rows)[i]? = some (.slice (some ⟨g, 0, none⟩) r.length r.length)
  | g' :: gs, r' :: rows, 0, g, r, h, h' => by simp at h h'; subst h h'; rfl
  | g' :: gs, r' :: rows, i + 1, g, r, h, h' => by simpa [heads] using heads_at gs rows i g r (by simpa using h) (by simpa using h')
  | [], _, i, g, r, h, h' => by simp at h
  | _ :: _, [], i, g, r, h, h' => by simp at h'
theorem heads_snoc : ∀ (gs : List Nat) (rows : List (List GV)) (g : Nat) (r : List GV), gs.length = rows.length → heads (gs ++ [g]) (rows ++ [r]) = heads gs rows ++ [.slice (some ⟨g, 0, none⟩) r.length r.length]
  | [], [], g, r, _ => rfl
  | g' :: gs, r' :: rows, g, r, h => by simp only [List.cons_append, heads]; rw [heads_snoc gs rows g r (by simpa using h)]
theorem RowsOwn.below {w w' : World} {gs : List Nat} {rows : List (List GV)} (h : RowsOwn w gs rows) (hb : Below w.heap.size w w') : RowsOwn w' gs rows :=
  ⟨h.1, fun i g r hg hr => (h.2 i g r hg hr).below hb (h.2 i g r hg hr).lt⟩
theorem TabOwn.below {w w' : World} {lo g : Nat} {gs : List Nat} {rows : List (List GV)} (h : TabOwn w lo g gs rows) (hb : Below w.heap.size w w') : TabOwn w' lo g gs rows :=
  ⟨h.1.below hb, h.2.1.below hb h.2.1.lt, h.2.2.1, h.2.2.2.1, h.2.2.2.2⟩
theorem TabOwn.tab {w : World} {lo g : Nat} {gs : List Nat} {rows : List (List GV)} (h : TabOwn w lo g gs rows) : TabAt w w.heap.size (some ⟨g, 0, none⟩) rows := by
  refine .inr ⟨g, 0, rfl, h.2.1.lt, fun i r hr => ?_⟩
  obtain ⟨hi, rfl⟩ := List.getElem?_eq_some_iff.1 hr
  have hg : gs[i]? = some (gs[i]'(by have := h.1.1; omega)) := List.getElem?_eq_getElem _
  have hw := h.1.2 i _ _ hg hr
  exact ⟨some ⟨_, 0, none⟩, rows[i].length, by rw [h.2.1.cell, Nat.zero_add]; exact heads_at gs rows i _ _ hg hr, hw.row hw.lt⟩
theorem RowsOwn.snoc {w : World} {gs : List Nat} {rows : List (List GV)} (h : RowsOwn w gs rows) {g : Nat} {r : List GV} (hw : Whole w g 54 (flat r)) : RowsOwn w (gs ++ [g]) (rows ++ [r]) := by
  refine ⟨by simp [h.1], fun i g' r' hg hr => ?_⟩
  rcases Nat.lt_or_ge i gs.length with hi | hi
  · rw [List.getElem?_append_left hi] at hg
    rw [List.getElem?_append_left (by have := h.1; omega)] at hr
    exact h.2 i g' r' hg hr
  · rw [List.getElem?_append_right hi] at hg
    rw [List.getElem?_append_right (by have := h.1; omega)] at hr
    have hi0 : i - gs.length = 0 := by
      rcases Nat.eq_zero_or_pos (i - gs.length) with h0 | h0
      · exact h0
      · rw [List.getElem?_eq_none (by simp; omega)] at hg; cases hg
    rw [← h.1, hi0] at hr
    rw [hi0] at hg
    simp at hg hr
    subst hg hr
    exact hw
theorem RowsOwn.setCell {w : World} {gs : List Nat} {rows : List (List GV)} (h : RowsOwn w gs rows) {p : Addr} (hp : ∀ x ∈ gs, x ≠ p.block) (u : Value) : RowsOwn (w.setCell p u) gs rows :=
  ⟨h.1, fun i g r hg hr => (Below.heap_setCell w p u g (hp g (List.mem_of_getElem? hg))).trans (h.2 i g r hg hr)⟩


/-- What laws.toValueSS leaves. -/
def TabPost (w : World) (rows : List (List GV)) (e : Ending) (w' : World) : Prop :=
  e = .returned (.slice (some ⟨w.heap.size, 0, none⟩) rows.length rows.length) ∧ (∃ gs, TabOwn w' w.heap.size w.heap.size gs rows) ∧ Below w.heap.size w w'

/-- The state of its loop. -/
def TabStep (w : World) (rows : List (List GV)) (k : Nat) (w' : World) : Prop :=
  ∃ (gs : List Nat) (l : List Value), l.length = rows.length - k ∧ RowsOwn w' gs (rows.take k) ∧ Whole w' w.heap.size 35 (heads gs (rows.take k) ++ l) ∧ (∀ x ∈ gs, w.heap.size < x ∧ x < w'.heap.size) ∧ gs.Nodup

theorem tab_step {w w1 w2 : World} {rows : List (List GV)} {k : Nat} (hk : k < rows.length) (h : TabStep w rows k w1) (hb : Below w1.heap.size w1 w2) (hw : Whole w2 w1.heap.size 54 (flat rows[k])) :
    (∃ u, w2.cell? ⟨w.heap.size, k, none⟩ = some u) ∧ w2.frozen? ⟨w.heap.size, k, none⟩ = false ∧
      TabStep w rows (k + 1) (w2.setCell ⟨w.heap.size, k, none⟩ (.slice (some ⟨w1.heap.size, 0, none⟩) rows[k].length rows[k].length)) := by
  obtain ⟨gs, l, hl, hro, hwh, hlt, hnd⟩ := h
  have hgl : gs.length = k := by rw [hro.1, List.length_take]; omega
  have hwh2 := hwh.below hb hwh.lt
  have hhl : (heads gs (rows.take k)).length = k := by rw [heads_length _ _ hro.1, List.length_take]; omega
  match l, hl with
  | [], hl => simp at hl; omega
  | u :: l, hl =>
    refine ⟨⟨u, by rw [hwh2.cell, List.getElem?_append_right (by omega), hhl]; simp⟩, hwh2.frozen k, gs ++ [w1.heap.size], l, by simp at hl; omega, ?_, ?_, ?_, ?_⟩
    · rw [List.take_succ_eq_append_getElem hk]
      refine ((hro.below hb).snoc hw).setCell ?_ _
      intro x hx
      rw [List.mem_append] at hx
      rcases hx with hx | hx
      · have := (hlt x hx).1
        show x ≠ w.heap.size
        omega
      · simp at hx
        subst hx
        have := hwh.lt
        show w1.heap.size ≠ w.heap.size
        omega
    · have h3 := hwh2.set_ k (.slice (some ⟨w1.heap.size, 0, none⟩) rows[k].length rows[k].length)
      rw [List.take_succ_eq_append_getElem hk, heads_snoc _ _ _ _ hro.1]
      have e : (heads gs (rows.take k) ++ u :: l).set k (.slice (some ⟨w1.heap.size, 0, none⟩) rows[k].length rows[k].length) = heads gs (rows.take k) ++ [.slice (some ⟨w1.heap.size, 0, none⟩) rows[k].length rows[k].length] ++ l := by
        rw [List.set_append_right _ _ (by omega), hhl]
        simp
      rw [e] at h3
      exact h3
    · intro x hx
      rw [List.mem_append] at hx
      have hs : (w2.setCell ⟨w.heap.size, k, none⟩ (.slice (some ⟨w1.heap.size, 0, none⟩) rows[k].length rows[k].length)).heap.size = w2.heap.size := by simp [World.setCell]
      rw [hs]
      have h2 := hw.lt
      rcases hx with hx | hx
      · have := hlt x hx
        omega
      · simp at hx
        subst hx
        have := hwh.lt
        omega
    · rw [List.nodup_append]
      refine ⟨hnd, by simp, ?_⟩
      intro x hx y hy
      simp at hy
      subst hy
      have := (hlt x hx).2
      omega

set_option maxHeartbeats 800000 in
theorem to_tables (A : Option Addr) (c : Nat) (rows : List (List GV)) (w : World) (hr : TabAt w w.heap.size A rows) (hl : rows.length ≤ 1048576) (hlr : ∀ r ∈ rows, r.length ≤ 1048576) :
    Calls Try.prog 7 #[.slice A rows.length c] w (TabPost w rows) := by
  obtain ⟨i0, hi0, hz0, hz1, hz2⟩ := info_parts infoVs
  have hmk := fun W => run_make (P := Try.prog) W 24 35 i0 _ Try.underlying24 hi0 hz0 .i64 .i64 rows.length rows.length (by omega) (by omega) (by rw [hz2]; omega) (by omega)
  go_enter Try.func7, Try.ntmps7
  go_wp2_with fail
  have HW0 := Lib.hid (show TabStep w rows 0 (w.alloc (.cells (madeCells #[.slice none 0 0] rows.length) 35)) from
    ⟨[], (madeCells #[.slice none 0 0] rows.length).toList, by simp [size_madeCells], ⟨by simp, by simp⟩, by simpa [heads] using Whole.new w 35 (madeCells #[.slice none 0 0] rows.length).toList, by simp, by simp⟩)
  clear hmk
  go_loopw [4] (fun i w' => ∃ k : Nat, k ≤ rows.length ∧ i = .int .i64 k ∧ Hid (TabStep w rows k w') ∧ Below w.heap.size w w') (fun i _ => rows.length - (intOf i).toNat)
  case atStart => exact ⟨0, Nat.zero_le _, rfl, HW0, (Below.refl _ _).alloc (Nat.le_refl _) _⟩
  case round =>
    obtain ⟨k, hk, rfl, hW, hB⟩ := hrel
    by_cases hlt : k < rows.length
    · obtain ⟨g, o, A', c', rfl, hg, hcell, hrow⟩ := (hr.to_ hB).at_ hlt
      have hm := hlr _ (List.getElem_mem hlt)
      go_wp2_with fail
      refine (to_values A' c' rows[k] _ hrow hm).mono ?_
      rintro e w2 ⟨rfl, hwn, hb2⟩
      have hB2 := below_next hB hb2 rfl rfl
      clear hcell
      obtain ⟨⟨u, q0⟩, r0, hst⟩ := tab_step hlt hW.out hb2 hwn
      have HST := Lib.hid hst
      have hB3 := hB2.setCell (p := ⟨w.heap.size, k, none⟩) (Nat.le_refl _) (.slice (some ⟨wr.heap.size, 0, none⟩) rows[k].length rows[k].length)
      clear hst hwn
      go_wp2_with fail
      go_roundw
      case rel => exact ⟨k + 1, by omega, by go_num, HST, hB3⟩
      case measure => simp [intOf]; omega
    · go_wp2_with fail
      go_ret
      obtain ⟨gs, l, hl3, hro, hwh, hlt3, hnd⟩ := hW.out
      obtain rfl : l = [] := List.eq_nil_of_length_eq_zero (by rw [hl3]; omega)
      rw [List.take_of_length_le (by omega)] at hro hwh
      rw [List.append_nil] at hwh
      exact ⟨rfl, ⟨gs, hro, hwh, Nat.le_refl _, fun x hx => ⟨by have := (hlt3 x hx).1; omega, by have := (hlt3 x hx).1; omega⟩, hnd⟩, hB⟩
end Go.Proofs.Yteoepnadjkjlmaa
