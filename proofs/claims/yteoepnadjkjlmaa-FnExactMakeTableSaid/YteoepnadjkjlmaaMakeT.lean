/-
  Contract of impl.MakeTable.
-/
import Derived.Test.YteoepnadjkjlmaaCompact
import Derived.Test.YteoepnadjkjlmaaCopyRow
import Derived.Test.YteoepnadjkjlmaaTabMake
import Derived.Test.YteoepnadjkjlmaaTabOk
namespace Go.Proofs.Yteoepnadjkjlmaa
open Go.RowKit Go.Sort
set_option linter.unusedVariables false

/-- What impl.MakeTable answers. -/
def MakeAns (w : World) (rows : List Row) (v : Value) (w' : World) : Prop :=
  (rowsOkB rows = false ∧ v = .slice none 0 0) ∨
  (rowsOkB rows = true ∧ ∃ (g cap : Nat) (qs : List PR) (l : List Value), v = .slice (some ⟨g, 0, none⟩) qs.length cap ∧ OutAt w' g qs l ∧ AscP (qs.map (·.2)) ∧ (∀ r, r ∈ qs.map (·.2) ↔ r ∈ rows) ∧ w.heap.size ≤ g ∧ (∀ p ∈ qs, w.heap.size ≤ p.1) ∧ (qs.map (·.1)).Nodup ∧ qs.length ≤ rows.length)
def MakePost (w : World) (rows : List Row) (e : Ending) (w' : World) : Prop := (∃ v, e = .returned v ∧ MakeAns w rows v w') ∧ Below w.heap.size w w'

theorem below_grown {w w1 w2 : World} {g : Nat} (h : Below w.heap.size w w1) (hg : w1.grownBy w2 (some g)) (hge : w.heap.size ≤ g) : Below w.heap.size w w2 :=
  ⟨hg.os.trans h.os, hg.tape.trans h.tape, hg.output.trans h.output, Nat.le_trans h.size hg.size, fun k hk => (hg.block k (Nat.lt_of_lt_of_le hk h.size) (fun e => by injection e; omega)).trans (h.block k hk)⟩

/-- The state of its loop. -/
def AppSt (g n : Nat) (rows : List Row) (ps : List PR) (w' : World) : Prop :=
  ps.map (·.2) = rows.take ps.length ∧ w'.ownsRow g 35 1 (.slice (some ⟨g, 0, none⟩) ps.length n) ps.length (ps.map headV) ∧ Own w' ps ∧ (∀ p ∈ ps, g < p.1) ∧ (ps.map (·.1)).Nodup
theorem app_next {g n : Nat} {rows : List Row} {ps : List PR} {w1 w2 w4 : World} (hlt : ps.length < rows.length) (h : AppSt g n rows ps w1) (hg : g < w1.heap.size) (hb : Below w1.heap.size w1 w2) (hw : Whole w2 w1.heap.size 54 (flat rows[ps.length]))
    (ho : w4.ownsRow g 35 1 (.slice (some ⟨g, 0, none⟩) (ps.length + 1) n) (ps.length + 1) (ps.map headV ++ [headV (w1.heap.size, rows[ps.length])])) (hg4 : (w2.alloc (.cells #[headV (w1.heap.size, rows[ps.length])] 35)).grownBy w4 (some g)) :
    AppSt g n rows (ps ++ [(w1.heap.size, rows[ps.length])]) w4 := by
  obtain ⟨h1, h2, h3, h4, h5⟩ := h
  have hkeep : ∀ {k : Nat} {t : TypeId} {l : List Value}, Whole w2 k t l → k ≠ g → Whole w4 k t l := by
    intro k t l hk hne
    have e1 := Below.heap_alloc w2 (.cells #[headV (w1.heap.size, rows[ps.length])] 35) k hk.lt
    have e2 := hg4.block k (by have := hk.lt; simp; omega) (fun e => hne (by injection e))
    exact (e2.trans e1).trans hk
  refine ⟨?_, ?_, ?_, ?_, ?_⟩
  · rw [List.map_append, h1, List.length_append, List.length_singleton, List.take_succ_eq_append_getElem hlt]; rfl
  · rw [List.length_append, List.length_singleton, List.map_append]; exact ho
  · intro p hp
    rw [List.mem_append] at hp
    rcases hp with hp | hp
    · exact hkeep ((h3 p hp).below hb (h3 p hp).lt) (by have := h4 p hp; omega)
    · simp at hp; subst hp
      exact hkeep hw (by show w1.heap.size ≠ g; omega)
  · intro p hp
    rw [List.mem_append] at hp
    rcases hp with hp | hp
    · exact h4 p hp
    · simp at hp; subst hp; exact hg
  · rw [List.map_append, List.nodup_append]
    refine ⟨h5, by simp, fun a ha b hb' => ?_⟩
    simp at hb'
    subst hb'
    rw [List.mem_map] at ha
    obtain ⟨p, hp, rfl⟩ := ha
    have := (h3 p hp).lt
    omega
theorem app_end {g n : Nat} {rows : List Row} {ps : List PR} {w : World} (h : AppSt g n rows ps w) (hn : rows.length ≤ ps.length) (he : ps.length = n) : OutAt w g ps [] ∧ ps.map (·.2) = rows := by
  obtain ⟨h1, h2, h3, h4, h5⟩ := h
  rw [List.take_of_length_le hn] at h1
  refine ⟨⟨?_, h3, fun p hp => by have := h4 p hp; omega⟩, h1⟩
  rcases h2.2 with ⟨e, _⟩ | ⟨g', cap, cur, e, _, hh, _, _, hs, ht⟩
  · cases e
  · injection e with e1 e2 e3
    injection e1 with e1
    injection e1 with e1
    subst e1 e3
    unfold Whole
    rw [hh, List.append_nil, ← ht, List.take_of_length_le (by simp [hs, he])]
theorem make_end {w w' : World} {g cap : Nat} {rows : List Row} {ps qs : List PR} (h1 : ps.map (·.2) = rows) (h2 : qs.Perm ps) (h3 : SortedR (qs.map (·.2))) (h4 : ∃ l, OutAt w' g (dd qs) l) (h5 : w.heap.size ≤ g) (h6 : ∀ p ∈ ps, g < p.1) (h7 : (ps.map (·.1)).Nodup) (hok : rowsOkB rows = true) :
    MakeAns w rows (.slice (some ⟨g, 0, none⟩) (dd qs).length cap) w' := by
  obtain ⟨l, h4⟩ := h4
  refine .inr ⟨hok, g, cap, dd qs, l, rfl, h4, dd_asc qs h3, fun r => ?_, h5, fun p hp => ?_, ?_, ?_⟩
  · rw [dd_mem, ← h1]; exact (h2.map _).mem_iff
  · have := h6 p (h2.mem_iff.1 ((dd_sub qs).subset hp)); omega
  · exact ((h2.map (·.1)).nodup_iff.2 h7).sublist ((dd_sub qs).map _)
  · have := dd_len qs
    rw [h2.length_eq] at this
    rw [← h1, List.length_map]; exact this

theorem rows_ok_row {rows : List Row} (h : rowsOkB rows = true) : rows.length ≤ 3000 ∧ ∀ r ∈ rows, r.length ≤ 8 ∧ ∀ v ∈ r, v.t.size ≤ 60 := by
  unfold rowsOkB at h
  simp only [Bool.and_eq_true, decide_eq_true_eq, List.all_eq_true] at h
  refine ⟨h.2, fun r hr => ?_⟩
  have h1 := h.1 r hr
  unfold goodRow rowOkB at h1
  simp only [Bool.and_eq_true, decide_eq_true_eq, List.all_eq_true] at h1
  refine ⟨h1.1.2, fun v hv => ?_⟩
  have h2 := h1.1.1 v hv
  have he : v.t.toList.isEmpty = true → v.t.size ≤ 60 := by
    intro h
    have h3 : v.t.toList.length = 0 := by rw [List.isEmpty_iff.1 h]; rfl
    rw [Lib.toList_data] at h3
    have h4 : v.t.data.toList.length = v.t.size := by simp
    omega
  unfold okG valueOkB at h2
  split at h2
  · simp only [Bool.and_eq_true] at h2; exact he h2.2
  · split at h2
    · unfold textOkB at h2
      simp only [Bool.and_eq_true, decide_eq_true_eq] at h2
      exact h2.2.2
    · split at h2
      · simp only [Bool.and_eq_true] at h2; exact he h2.2
      · cases h2

set_option maxRecDepth 100000 in
set_option maxHeartbeats 1600000 in
theorem copy_table (A : Option Addr) (c : Nat) (rows : List Row) (w1 : World) (hr : TabAt w1 w1.heap.size A rows) (hn : rows.length ≤ 3000) (hrow : ∀ r ∈ rows, r.length ≤ 8 ∧ ∀ v ∈ r, v.t.size ≤ 60) :
    Calls Try.prog 27 #[.slice A rows.length c] w1 fun e w' => ∃ ps : List PR, e = .returned (.slice (some ⟨w1.heap.size, 0, none⟩) ps.length rows.length) ∧ ps.length = rows.length ∧ AppSt w1.heap.size rows.length rows ps w' ∧ w1.heap.size < w'.heap.size ∧ Below w1.heap.size w1 w' := by
  obtain ⟨i0, hi0, hz0, hz1, hz2⟩ := info_parts infoVs
  have HROW := Lib.hid hrow
  clear hrow
  have hmk := fun W => run_make (P := Try.prog) W 24 35 i0 _ Try.underlying24 hi0 hz0 .i64 .i64 0 rows.length (by omega) (by omega) (by rw [hz2]; omega) (by omega)
  have hA0 := Lib.hid (show AppSt w1.heap.size rows.length rows [] (w1.alloc (.cells (madeCells #[.slice none 0 0] rows.length) 35)) from
    ⟨by simp, by simpa using World.ownsRow_made (base := w1.heap.size) (e := 35) (size := 1) w1 (madeCells #[.slice none 0 0] rows.length) rows.length (Nat.le_refl _) (by unfold maxLen; omega) (by simp [size_madeCells]), by intro p hp; simp at hp, by simp, by simp⟩)
  have hB0 : Below w1.heap.size w1 (w1.alloc (.cells (madeCells #[.slice none 0 0] rows.length) 35)) := (Below.refl _ _).alloc (Nat.le_refl _) _
  have hg0 : w1.heap.size ≤ w1.heap.size := Nat.le_refl _
  go_enter Try.func27, Try.ntmps27
  go_wp2_with fail
  clear hmk
  go_loopw [3, 11] (fun s i w' => ∃ ps : List PR, ps.length ≤ rows.length ∧ i = .int .i64 ps.length ∧ s = .slice (some ⟨w1.heap.size, 0, none⟩) ps.length rows.length ∧ Hid (AppSt w1.heap.size rows.length rows ps w') ∧ w1.heap.size < w'.heap.size ∧ Below w1.heap.size w1 w') (fun _ i _ => rows.length - (intOf i).toNat)
  case atStart => exact ⟨[], Nat.zero_le _, rfl, rfl, hA0, by simp, hB0⟩
  case round =>
    obtain ⟨ps, hps, rfl, rfl, hA, hwz, hB⟩ := hrel
    by_cases hlt : ps.length < rows.length
    · obtain ⟨g, o, A', c', rfl, hg, hcell, hrow⟩ := (hr.to_ hB).at_ hlt
      have hm := HROW.out _ (List.getElem_mem hlt)
      have hi1 : (ps.length : Int) < (rows.length : Int) := by omega
      go_wp2_with fail
      refine (copy_row A' c' rows[ps.length] _ hrow (by omega) (fun v hv => by have := hm.2 v hv; omega)).mono ?_
      rintro e w2 ⟨rfl, hwn, hb2⟩
      have hB2 := below_next hB hb2 rfl rfl
      have hA2 := hA.out.2.1
      have hW2 := Lib.hid hwn
      have hsz2 := hb2.size
      have ho : w2.ownsRow w1.heap.size 35 1 (.slice (some ⟨w1.heap.size, 0, none⟩) ps.length rows.length) ps.length (ps.map headV) := hA2.kept (row := none) (grown_below hb2) (.inr (by simp [Value.ownBlock]))
      have HO := Lib.hid ho
      clear ho hA2 hwn hcell
      go_wp2_with (first | (at_builtin; refine wpList_append_fits _ rfl (.tmp 15) (.tmp 18) _ rfl w1.heap.size 35 i0 1 Try.underlying24 hi0 hz1 w1.heap.size ps.length rows.length _ rfl (HO.out.alloc _) ⟨w2.heap.size, 0, none⟩ 1 1 [headV (wr.heap.size, rows[ps.length])] rfl rfl (by intro j u hj; cases j with | zero => (simp at hj; subst hj; simp [headV, Addr.add]) | succ j => simp at hj) (by simp [headV, Value.oneCell']) (by omega) ?_; intro w4 ho4 hg4; refine Hid.out ?_))
      refine Lib.hid ?_
      have hN := Lib.hid (app_next hlt hA.out hwz hb2 hW2.out ho4 hg4)
      have hB4 : Below w1.heap.size w1 w4 := below_grown (hB2.alloc hB2.size _) hg4 hg0
      have hs4 : w1.heap.size < w4.heap.size := by have := hg4.size; simp at this; omega
      clear ho4 hg4
      go_wp2_with fail
      go_roundw
      case rel => exact ⟨ps ++ [(wr.heap.size, rows[ps.length])], by simp; omega, by simp, by simp, hN, hs4, hB4⟩
      case measure => simp [intOf]; omega
    · have hi1 : ¬ (ps.length : Int) < (rows.length : Int) := by omega
      go_wp2_with fail
      go_ret
      exact ⟨ps, rfl, by omega, hA.out, hwz, hB⟩
/-- What impl.ascend leaves of a table of the call's own. -/
def AscPost (w : World) (g cap : Nat) (ps : List PR) (e : Ending) (w' : World) : Prop :=
  ∃ qs : List PR, e = .returned (.slice (some ⟨g, 0, none⟩) (dd qs).length cap) ∧ qs.Perm ps ∧ SortedR (qs.map (·.2)) ∧ (∃ l, OutAt w' g (dd qs) l) ∧ w.grownBy w' (some g)
set_option maxRecDepth 100000 in
set_option maxHeartbeats 1600000 in
theorem ascend_table (g cap : Nat) (ps : List PR) (w : World) (h : OutAt w g ps []) (hl : ∀ p ∈ ps, p.2.length ≤ 1048576) (hn : ps.length ≤ 3000) (hcap : ps.length ≤ cap) (hcap2 : cap ≤ 3000) :
    Calls Try.prog 26 #[.slice (some ⟨g, 0, none⟩) ps.length cap] w (AscPost w g cap ps) := by
  have HLEN := Lib.hid hl
  clear hl
  go_enter Try.func26, Try.ntmps26
  go_wp2_with fail
  refine (sort_table g cap ps _ h HLEN.out hn).mono ?_
  rintro e w2 ⟨rfl, qs, hq1, hq2, hq3, hq4⟩
  have hql : qs.length = ps.length := hq1.length_eq
  have HQ1 := Lib.hid hq1
  have HQ2 := Lib.hid hq2
  have HQ4 := Lib.hid hq4
  clear hq1 hq2 hq4 h
  have hcon := compact_table g cap qs w2 hq3 (fun p hp => HLEN.out p (HQ1.out.mem_iff.1 hp)) (by omega) (by omega) (by omega)
  rw [hql] at hcon
  clear hql hq3
  go_wp2_with fail
  refine hcon.mono ?_
  rintro e w3 ⟨rfl, hc2, hc3⟩
  have H3 := Lib.hid (grown_next HQ4.out hc3)
  have HC2 := Lib.hid hc2
  clear hcon hc2 hc3
  go_wp2_with fail
  go_ret
  exact ⟨qs, rfl, HQ1.out, HQ2.out, HC2.out, H3.out⟩
set_option maxRecDepth 100000 in
set_option maxHeartbeats 1600000 in
theorem impl_make (A : Option Addr) (c : Nat) (rows : List Row) (w : World) (hr : TabAt w w.heap.size A rows) (hl : rows.length ≤ 1048576) (hlr : ∀ r ∈ rows, r.length ≤ 1048576 ∧ ∀ v ∈ r, v.t.size ≤ maxLen) :
    Calls Try.prog 8 #[.slice A rows.length c] w (MakePost w rows) := by
  obtain ⟨i0, hi0, hz0, hz1, hz2⟩ := info_parts infoVs
  go_enter Try.func8, Try.ntmps8
  go_wp2_with fail
  refine (impl_rowsOk A c rows _ hr hl hlr).mono ?_
  rintro e w1 ⟨rfl, hb1⟩
  by_cases hok : rowsOkB rows = true
  · obtain ⟨hn, hrow⟩ := rows_ok_row hok
    have HOK := Lib.hid hok
    have HROW := Lib.hid hrow
    clear hrow
    go_wp2_with fail
    clear hok
    have hg0 : w.heap.size ≤ w1.heap.size := hb1.size
    refine (copy_table A c rows w1 (hr.to_ hb1) hn HROW.out).mono ?_
    rintro e w1' ⟨ps, rfl, hpl, hAA, hwz, hbc⟩
    have hA := Lib.hid hAA
    have hB := below_next hb1 hbc rfl rfl
    have hps : ps.length ≤ rows.length := by omega
    have hps2 : ¬ ps.length < rows.length := by omega
    clear hAA hbc hpl
    obtain ⟨hO, hrs⟩ := app_end hA.out (by omega) (by omega)
    have hgt := Lib.hid hA.out.2.2.2.1
    have hnd := Lib.hid hA.out.2.2.2.2
    have hlen : ∀ p ∈ ps, p.2.length ≤ 1048576 := fun p hp => by
      have := (HROW.out p.2 (by rw [← hrs]; exact List.mem_map_of_mem hp)).1
      omega
    have HRS := Lib.hid hrs
    have HLEN := Lib.hid hlen
    have hpn : ps.length ≤ 3000 := by omega
    clear hrs hlen
    go_wp2_with fail
    refine (ascend_table _ rows.length ps _ hO HLEN.out hpn (by omega) (by omega)).mono ?_
    rintro e w3 ⟨qs, rfl, hq1, hq2, hc2, hq4⟩
    have hB3 := below_grown hB hq4 hg0
    have HQ1 := Lib.hid hq1
    have HQ2 := Lib.hid hq2
    clear hq1 hq2 hq4
    have hans := Lib.hid (make_end (cap := rows.length) HRS.out HQ1.out HQ2.out hc2 hg0 hgt.out hnd.out HOK.out)
    clear hc2
    go_wp2_with fail
    go_ret
    exact ⟨⟨_, rfl, hans.out⟩, hB3⟩
  · rw [Bool.not_eq_true] at hok
    have H := Lib.hid hok
    go_wp2_with fail
    go_ret
    exact ⟨⟨_, rfl, .inl ⟨H.out, rfl⟩⟩, hb1⟩
end Go.Proofs.Yteoepnadjkjlmaa
