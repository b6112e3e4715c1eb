/-
  slices.CompactFunc over a sorted table: the first row of each run stays.
-/
import Derived.Test.YteoepnadjkjlmaaTabSort
import Derived.Test.YteoepnadjkjlmaaVRow
import Derived.Lib.SliceRun
import Derived.BigQuiet
namespace Go.Proofs.Yteoepnadjkjlmaa
open Go.RowKit Go.Sort
set_option linter.unusedVariables false

/-- What slices.CompactFunc leaves. -/
def CompPost (w : World) (g cap : Nat) (ps : List PR) (e : Ending) (w' : World) : Prop :=
  e = .returned (.slice (some ⟨g, 0, none⟩) (dd ps).length cap) ∧ (∃ l, OutAt w' g (dd ps) l) ∧ w.grownBy w' (some g)
/-- The state of its second loop: the rows before place j are done, kk of them are kept. -/
def CompSt (w : World) (g : Nat) (ps : List PR) (j kk : Nat) (w' : World) : Prop :=
  ∃ cur : List Value, cur.length = ps.length ∧ (dd (ps.take j)).length = kk ∧ cur.take kk = (dd (ps.take j)).map headV ∧ kk + 1 ≤ j ∧ (∀ i, j ≤ i + 1 → cur[i]? = (ps.map headV)[i]?) ∧
    Whole w' g 35 cur ∧ Own w' ps ∧ w.grownBy w' (some g)
theorem own_grown {w w' : World} {g : Nat} {ps : List PR} (h : Own w ps) (hne : ∀ p ∈ ps, p.1 ≠ g) (hg : w.grownBy w' (some g)) : Own w' ps :=
  fun p hp => (hg.block p.1 (h p hp).lt (fun e => hne p hp (by injection e))).trans (h p hp)
theorem grown_setc {w w1 : World} {g i : Nat} {u : Value} (h : w.grownBy w1 (some g)) : w.grownBy (w1.setCell ⟨g, i, none⟩ u) (some g) :=
  ⟨h.os, h.tape, h.output, by simpa [World.setCell] using h.size, fun k hk hne => by
    rw [Below.heap_setCell _ _ _ _ (by intro e; exact hne (by rw [e]))]; exact h.block k hk hne⟩
theorem grown_setcs {w : World} {g : Nat} : ∀ (l : List Value) (i : Nat) {w1 : World}, w.grownBy w1 (some g) → w.grownBy (w1.setCells g i l) (some g)
  | [], i, w1, h => h
  | u :: l, i, w1, h => grown_setcs l (i + 1) (grown_setc h)
theorem whole_setcs {g : Nat} {t : TypeId} : ∀ (l : List Value) (i : Nat) {w : World} {cur : List Value}, Whole w g t cur → i + l.length ≤ cur.length → Whole (w.setCells g i l) g t (cur.take i ++ l ++ cur.drop (i + l.length))
  | [], i, w, cur, h, hl => by simpa [World.setCells] using h
  | u :: l, i, w, cur, h, hl => by
    have h1 := whole_setcs l (i + 1) (h.set_ i u) (by simp at hl ⊢; omega)
    have hi : i < cur.length := by simp at hl; omega
    have e : (cur.set i u).take (i + 1) ++ l ++ (cur.set i u).drop (i + 1 + l.length) = cur.take i ++ (u :: l) ++ cur.drop (i + (u :: l).length) := by
      rw [List.take_succ_eq_append_getElem (by simpa using hi), List.take_set_of_le (Nat.le_refl _), List.drop_set_of_lt (by omega)]
      simp [show i + 1 + l.length = i + (l.length + 1) by omega]
    rw [e] at h1
    exact h1

theorem comp_start {w w' : World} {g : Nat} {ps : List PR} {k : Nat} (hk : k + 1 < ps.length) (hd : dd (ps.take (k + 1)) = ps.take (k + 1)) (hc : cmpR ps[k + 1].2 ps[k].2 = 0) (h : OutAt w g ps []) (hb : Below w.heap.size w w') :
    CompSt w g ps (k + 2) (k + 1) w' := by
  have h1 := h.below hb
  have h2 := h1.1
  rw [List.append_nil] at h2
  refine ⟨ps.map headV, by simp, ?_, ?_, by omega, fun _ _ => rfl, h2, h1.2.1, grown_below hb⟩
  · rw [dd_snoc ps k hk, if_pos hc, List.append_nil, hd, List.length_take]; omega
  · rw [dd_snoc ps k hk, if_pos hc, List.append_nil, hd, List.map_take]
theorem comp_skip {w w1 w' : World} {g : Nat} {ps : List PR} {j kk : Nat} (hj : j + 1 < ps.length) (hc : cmpR ps[j + 1].2 ps[j].2 = 0) (h : CompSt w g ps (j + 1) kk w1) (hb : Below w1.heap.size w1 w') : CompSt w g ps (j + 2) kk w' := by
  obtain ⟨cur, h1, h2, h3, h4, h5, h6, h7, h8⟩ := h
  refine ⟨cur, h1, ?_, ?_, by omega, fun i hi => h5 i (by omega), h6.below hb h6.lt, fun p hp => (h7 p hp).below hb (h7 p hp).lt, grown_next h8 (grown_below hb)⟩
  · rw [dd_snoc ps j hj, if_pos hc, List.append_nil]; exact h2
  · rw [dd_snoc ps j hj, if_pos hc, List.append_nil]; exact h3
theorem comp_keep {w w1 w' : World} {g : Nat} {ps : List PR} {j kk : Nat} (hj : j + 1 < ps.length) (hc : cmpR ps[j + 1].2 ps[j].2 ≠ 0) (hne : ∀ p ∈ ps, p.1 ≠ g) (h : CompSt w g ps (j + 1) kk w1) (hb : Below w1.heap.size w1 w') :
    (∃ u, w'.cell? ⟨g, kk, none⟩ = some u) ∧ w'.frozen? ⟨g, kk, none⟩ = false ∧ CompSt w g ps (j + 2) (kk + 1) (w'.setCell ⟨g, kk, none⟩ (headV ps[j + 1])) := by
  obtain ⟨cur, h1, h2, h3, h4, h5, h6, h7, h8⟩ := h
  have h9 := h6.below hb h6.lt
  have hkk : kk < cur.length := by omega
  have hdd : dd (ps.take (j + 2)) = dd (ps.take (j + 1)) ++ [ps[j + 1]] := by rw [dd_snoc ps j hj, if_neg hc]
  refine ⟨⟨cur[kk], by rw [h9.cell, List.getElem?_eq_getElem hkk]⟩, h9.frozen _, cur.set kk (headV ps[j + 1]), by simpa using h1, ?_, ?_, by omega, fun i hi => ?_, h9.set_ _ _, ?_, grown_setc (grown_next h8 (grown_below hb))⟩
  · rw [hdd]; simp [h2]
  · rw [hdd, List.take_succ_eq_append_getElem (by simpa using hkk), List.take_set_of_le (Nat.le_refl _), h3]
    simp
  · rw [List.getElem?_set_ne (by omega)]; exact h5 i (by omega)
  · intro p hp
    exact (Below.heap_setCell _ _ _ _ (hne p hp)).trans ((h7 p hp).below hb (h7 p hp).lt)
theorem comp_cell {w w1 : World} {g : Nat} {ps : List PR} {j kk i : Nat} (h : CompSt w g ps j kk w1) (hi : i < ps.length) (hj : j ≤ i + 1) : w1.cell? ⟨g, i, none⟩ = some (.slice (some ⟨ps[i].1, 0, none⟩) ps[i].2.length ps[i].2.length) := by
  obtain ⟨cur, h1, h2, h3, h4, h5, h6, h7, h8⟩ := h
  rw [h6.cell, h5 i hj, List.getElem?_map, List.getElem?_eq_getElem hi]
  rfl
theorem comp_row {w w1 : World} {g : Nat} {ps : List PR} {j kk i : Nat} (h : CompSt w g ps j kk w1) (hi : i < ps.length) : RowAt w1 w1.heap.size (some ⟨ps[i].1, 0, none⟩) ps[i].2 := by
  obtain ⟨cur, h1, h2, h3, h4, h5, h6, h7, h8⟩ := h
  exact h7.row (List.getElem_mem hi)
theorem comp_end {w w1 : World} {g cap : Nat} {ps : List PR} {kk : Nat} (hne : ∀ p ∈ ps, p.1 ≠ g) (h : CompSt w g ps ps.length kk w1) :
    (∀ i, i < ps.length - kk → (w1.cell? ⟨g, kk + i, none⟩).isSome = true) ∧ (∀ i, i < ps.length - kk → w1.frozen? ⟨g, kk + i, none⟩ = false) ∧ kk = (dd ps).length ∧ kk < ps.length ∧
      (∃ l, OutAt (w1.setCells g kk (List.replicate (ps.length - kk) (.slice none 0 0))) g (dd ps) l) ∧ w.grownBy (w1.setCells g kk (List.replicate (ps.length - kk) (.slice none 0 0))) (some g) := by
  obtain ⟨cur, h1, h2, h3, h4, h5, h6, h7, h8⟩ := h
  rw [List.take_length] at h2 h3
  refine ⟨fun i hi => by rw [h6.cell, List.getElem?_eq_getElem (by omega)]; rfl, fun i hi => h6.frozen _, h2.symm, by omega, ?_, grown_setcs _ _ h8⟩
  have h9 := whole_setcs (List.replicate (ps.length - kk) (.slice none 0 0)) kk h6 (by simp; omega)
  rw [h3, List.append_assoc] at h9
  refine ⟨_, h9, ?_, fun p hp => hne p ((dd_sub ps).subset hp)⟩
  intro p hp
  have hp2 := (dd_sub ps).subset hp
  exact ((grown_setcs (w := w1) (g := g) _ _ (World.grownBy.refl _ _)).block p.1 (h7 p hp2).lt (fun e => hne p hp2 (by injection e))).trans (h7 p hp2)

theorem zeroVs : ∀ w, (zeroValue 35).run Try.prog w = .ok (.slice none 0 0) w := Try.zeroValue35

theorem out_done {w w' : World} {g : Nat} {ps : List PR} {k : Nat} (hk : ps.length ≤ k) (h : OutAt w g ps []) (hd : dd (ps.take k) = ps.take k) (hb : Below w.heap.size w w') : (dd ps).length = ps.length ∧ (∃ l, OutAt w' g (dd ps) l) ∧ w.grownBy w' (some g) := by
  rw [List.take_of_length_le hk] at hd
  rw [hd]
  exact ⟨rfl, ⟨[], h.below hb⟩, grown_below hb⟩
theorem out_cell {w : World} {g : Nat} {ps : List PR} {l : List Value} {i : Nat} (h : OutAt w g ps l) (hi : i < ps.length) : w.cell? ⟨g, i, none⟩ = some (.slice (some ⟨ps[i].1, 0, none⟩) ps[i].2.length ps[i].2.length) := by
  rw [h.1.cell, List.getElem?_append_left (by simpa using hi), List.getElem?_map, List.getElem?_eq_getElem hi]
  rfl

theorem same_is (b : Bool) (A A' : Option Addr) (c c' : Nat) (vs us : List GV) (w : World) (hb : (cmpR vs us == 0) = b) (hr : RowAt w w.heap.size A vs) (hr' : RowAt w w.heap.size A' us) (hl : vs.length ≤ 1048576) (hl' : us.length ≤ 1048576) :
    Calls Try.prog 46 #[.slice A vs.length c, .slice A' us.length c'] w fun e w' => e = .returned (.bool b) ∧ Below w.heap.size w w' := by
  subst hb; exact same_closure A A' c c' vs us w hr hr' hl hl'

set_option maxRecDepth 100000 in
set_option maxHeartbeats 4000000 in
theorem compact_table (g cap : Nat) (ps : List PR) (w : World) (h : OutAt w g ps []) (hl : ∀ p ∈ ps, p.2.length ≤ 1048576) (hn : ps.length ≤ 3000) (hcap : ps.length ≤ cap) (hcap2 : cap ≤ 3000) :
    Calls Try.prog 45 #[.slice (some ⟨g, 0, none⟩) ps.length cap, .func (.func 46) #[] #[]] w (CompPost w g cap ps) := by
  by_cases h2 : ps.length < 2
  · have hd : dd ps = ps := by
      match ps, h2 with
      | [], _ => rfl
      | [a], _ => rfl
    have H := Lib.hid hd
    clear hd
    go_enter Try.func45, Try.ntmps45
    go_wp2_with fail
    go_ret
    refine ⟨by rw [H.out]; rfl, by rw [H.out]; exact ⟨[], h⟩, World.grownBy.refl _ _⟩
  have HO := Lib.hid h
  have hne := Lib.hid h.2.2
  have hl' := Lib.hid hl
  clear h hl
  go_enter Try.func45, Try.ntmps45
  go_wp2_with fail
  go_loopw [5] (fun i w' => ∃ m : Nat, 1 ≤ m ∧ m ≤ ps.length ∧ i = .int .i64 m ∧ Hid (dd (ps.take m) = ps.take m) ∧ Below w.heap.size w w') (fun i _ => ps.length - (intOf i).toNat)
  case atStart => exact ⟨1, Nat.le_refl _, by omega, rfl, Lib.hid (dd_one ps), Below.refl _ _⟩
  case round =>
    obtain ⟨m, hm1, hm, rfl, hd, hB⟩ := hrel
    by_cases hlt : m < ps.length
    · obtain ⟨k, hkm⟩ : ∃ k, m = k + 1 := ⟨m - 1, by omega⟩
      have hk : k < ps.length := by omega
      have hO := HO.out.below hB
      have q0 := cell_regrown (out_cell hO hk)
      have q1 := cell_regrown (out_cell hO hlt)
      have hr0 := hO.2.1.row (List.getElem_mem hk)
      have hr1 := hO.2.1.row (List.getElem_mem hlt)
      have hm0 := hl'.out _ (List.getElem_mem hk)
      have hm2 := hl'.out _ (List.getElem_mem hlt)
      have hi0 : (0 : Int) ≤ (m : Int) := by omega
      have hi1 : (m : Int) < (ps.length : Int) := by omega
      have hi2 : (0 : Int) ≤ (k : Int) := by omega
      have hi3 : (k : Int) < (ps.length : Int) := by omega
      have hi4 : (1 : Int) ≤ (m : Int) := by omega
      have e1 : (m : Int) - 1 = (k : Int) := by omega
      have HD0 := Lib.hid (show cmpR ps[m].2 ps[k].2 ≠ 0 → dd (ps.take (m + 1)) = ps.take (m + 1) by
        intro hc
        subst hkm
        rw [dd_snoc ps k hlt, if_neg hc, hd.out, List.take_succ_eq_append_getElem hlt])
      have HS0 := Lib.hid (fun (hc : cmpR ps[m].2 ps[k].2 = 0) (W : World) (hb : Below w.heap.size w W) => show CompSt w g ps (m + 1) m W by
        subst hkm
        exact comp_start hlt hd.out hc HO.out hb)
      have HKM := Lib.hid hkm
      clear hkm hO
      by_cases hc : cmpR ps[m].2 ps[k].2 = 0
      · have hcb : (cmpR ps[m].2 ps[k].2 == 0) = true := by simpa using hc
        go_wp2_with fail
        refine wp_region_quiet_below (by kernel_rfl) (by kernel_rfl) ?_
        repeat (go_big_quiet_step (first
          | (go_at_call 46; exact Calls.regrown_of (same_is _ _ _ _ _ ps[m].2 ps[k].2 _ hcb (hr1.to_ (below_regrown wr _ _)) (hr0.to_ (below_regrown wr _ _)) hm2 hm0))))
        refine wpQuiet_nil ?_
        intro _ hw'
        obtain ⟨⟨dq, osq⟩, hw''⟩ := hw'
        subst hw''
        have hB2 := below_next hB (below_regrown wr dq osq) rfl rfl
        generalize grow (redrawn wr dq) osq = wx at *
        have HS := Lib.hid (HS0.out hc wx hB2)
        clear q0 q1 e1 hcb hc hr0 hr1
        have hmc : m < cap := by omega
        go_wp2_with fail
        go_loopw [5, 7] (fun s5 s7 w' => ∃ kk k2 : Nat, s5 = .int .i64 kk ∧ s7 = .int .i64 k2 ∧ 1 ≤ k2 ∧ m + k2 ≤ ps.length ∧ kk + 1 ≤ m + k2 ∧ Hid (CompSt w g ps (m + k2) kk w')) (fun _ s7 _ => ps.length - m - (intOf s7).toNat)
        case atStart => exact ⟨m, 1, rfl, rfl, Nat.le_refl _, by omega, by omega, HS⟩
        case round =>
          obtain ⟨kk, k2, rfl, rfl, hk1, hk2, hkk, hS⟩ := hrel
          by_cases hlt2 : m + k2 < ps.length
          · obtain ⟨j, hkj⟩ : ∃ j, k2 = j + 1 := ⟨k2 - 1, by omega⟩
            have hj : m + j < ps.length := by omega
            have c0 := comp_cell hS.out (i := m + j) hj (by omega)
            have c1 := comp_cell hS.out (i := m + k2) hlt2 (by omega)
            have hr0 := comp_row hS.out hj
            have hr1 := comp_row hS.out hlt2
            have hn0 := hl'.out _ (List.getElem_mem hj)
            have hn1 := hl'.out _ (List.getElem_mem hlt2)
            have q2 := cell_regrown c0
            have q3 := cell_regrown c1
            clear c0 c1
            have HSK := Lib.hid (fun (hc : cmpR ps[m + k2].2 ps[m + j].2 = 0) (W : World) (hb : Below wr.heap.size wr W) => show CompSt w g ps (m + (k2 + 1)) kk W by
              subst hkj
              exact comp_skip (j := m + j) hlt2 hc hS.out hb)
            have HKP := Lib.hid (fun (hc : cmpR ps[m + k2].2 ps[m + j].2 ≠ 0) (W : World) (hb : Below wr.heap.size wr W) => show (∃ u, W.cell? ⟨g, kk, none⟩ = some u) ∧ W.frozen? ⟨g, kk, none⟩ = false ∧ CompSt w g ps (m + (k2 + 1)) (kk + 1) (W.setCell ⟨g, kk, none⟩ (.slice (some ⟨ps[m + k2].1, 0, none⟩) ps[m + k2].2.length ps[m + k2].2.length)) by
              subst hkj
              exact comp_keep (j := m + j) hlt2 hc hne.out hS.out hb)
            have HCL := Lib.hid (fun (W : World) (hb : Below wr.heap.size wr W) => show W.cell? ⟨g, m + k2, none⟩ = some (.slice (some ⟨ps[m + k2].1, 0, none⟩) ps[m + k2].2.length ps[m + k2].2.length) from
              (hb.cell (p := ⟨g, m + k2, none⟩) (World.block_lt_of_cell? _ ⟨g, m + k2, none⟩ (comp_cell hS.out (i := m + k2) hlt2 (by omega)))).trans (comp_cell hS.out (i := m + k2) hlt2 (by omega)))
            have i0 : (0 : Int) ≤ (k2 : Int) := by omega
            have i1 : (k2 : Int) < ((ps.length - m : Nat) : Int) := by omega
            have i2 : (0 : Int) ≤ (j : Int) := by omega
            have i3 : (j : Int) < ((ps.length - m : Nat) : Int) := by omega
            have i4 : (1 : Int) ≤ (k2 : Int) := by omega
            have i5 : k2 < ps.length - m := by omega
            have i6 : j < ps.length - m := by omega
            have e1 : (k2 : Int) - 1 = (j : Int) := by omega
            have HKJ := Lib.hid hkj
            clear hkj
            by_cases hc : cmpR ps[m + k2].2 ps[m + j].2 = 0
            · have hcb : (cmpR ps[m + k2].2 ps[m + j].2 == 0) = true := by simpa using hc
              go_wp2_with fail
              refine wp_region_quiet_below (by kernel_rfl) (by kernel_rfl) ?_
              repeat (go_big_quiet_step (first
                | (go_at_call 46; exact Calls.regrown_of (same_is _ _ _ _ _ ps[m + k2].2 ps[m + j].2 _ hcb (hr1.to_ (below_regrown wr _ _)) (hr0.to_ (below_regrown wr _ _)) hn1 hn0))))
              refine wpQuiet_nil ?_
              intro _ hw'
              obtain ⟨⟨dq, osq⟩, hw''⟩ := hw'
              subst hw''
              have hb2 := below_regrown wr dq osq
              generalize grow (redrawn wr dq) osq = wx at *
              have HS2 := Lib.hid (HSK.out hc wx hb2)
              clear q2 q3 e1 hcb hc hr0 hr1
              go_wp2_with fail
              go_roundw
              case rel => exact ⟨kk, k2 + 1, rfl, by go_num, by omega, by omega, by omega, HS2⟩
              case measure => simp [intOf]; omega
            · have hcb : (cmpR ps[m + k2].2 ps[m + j].2 == 0) = false := by simpa using hc
              go_wp2_with fail
              refine wp_region_quiet_below (by kernel_rfl) (by kernel_rfl) ?_
              repeat (go_big_quiet_step (first
                | (go_at_call 46; exact Calls.regrown_of (same_is _ _ _ _ _ ps[m + k2].2 ps[m + j].2 _ hcb (hr1.to_ (below_regrown wr _ _)) (hr0.to_ (below_regrown wr _ _)) hn1 hn0))))
              refine wpQuiet_nil ?_
              intro _ hw'
              obtain ⟨⟨dq, osq⟩, hw''⟩ := hw'
              subst hw''
              have hb2 := below_regrown wr dq osq
              generalize grow (redrawn wr dq) osq = wx at *
              obtain ⟨⟨u, hu⟩, hf, hs2⟩ := HKP.out hc wx hb2
              have hcl := HCL.out wx hb2
              have HS2 := Lib.hid hs2
              have hkn : kk < ps.length := by omega
              clear q2 q3 e1 hcb hc hr0 hr1 hs2
              go_wp2_with fail
              go_roundw
              case rel => exact ⟨kk + 1, k2 + 1, by go_num, by go_num, by omega, by omega, by omega, HS2⟩
              case measure => simp [intOf]; omega
          · have hS2 := hS.out
            rw [show m + k2 = ps.length by omega] at hS2
            obtain ⟨a1, a2, a3, a4, a5, a6⟩ := comp_end (cap := cap) hne.out hS2
            have hclr : ∀ ty, (Builtin.clear_ #[24] ty #[.slice (some ⟨g, kk, none⟩) (ps.length - kk) (cap - kk)]).run Try.prog wr = .ok (.tuple #[]) (wr.setCells g kk (List.replicate (ps.length - kk) (.slice none 0 0))) :=
              fun ty => Lib.run_clear_slice wr 24 35 ty _ Try.underlying24 zeroVs rfl rfl g kk _ _ (by omega) a1 a2
            have A3 := Lib.hid a3
            clear a1 a2 a3 hS2
            have i1 : ¬ (k2 : Int) < ((ps.length - m : Nat) : Int) := by omega
            have i2 : kk ≤ ps.length := by omega
            have i3 : kk < cap := by omega
            have i4 : kk ≤ cap := by omega
            go_wp2_with fail
            go_ret
            exact ⟨by rw [← A3.out]; rfl, a5, a6⟩
      · have hcb : (cmpR ps[m].2 ps[k].2 == 0) = false := by simpa using hc
        go_wp2_with fail
        refine wp_region_quiet_below (by kernel_rfl) (by kernel_rfl) ?_
        repeat (go_big_quiet_step (first
          | (go_at_call 46; exact Calls.regrown_of (same_is _ _ _ _ _ ps[m].2 ps[k].2 _ hcb (hr1.to_ (below_regrown wr _ _)) (hr0.to_ (below_regrown wr _ _)) hm2 hm0))))
        refine wpQuiet_nil ?_
        intro _ hw'
        obtain ⟨⟨dq, osq⟩, hw''⟩ := hw'
        subst hw''
        have hB2 := below_next hB (below_regrown wr dq osq) rfl rfl
        generalize grow (redrawn wr dq) osq = wx at *
        have HN := Lib.hid (HD0.out hc)
        clear q0 q1 e1 hcb hc hr0 hr1
        go_wp2_with fail
        go_roundw
        case rel => exact ⟨m + 1, by omega, by omega, by go_num, HN, hB2⟩
        case measure => simp [intOf]; omega
    · obtain ⟨f1, f2, f3⟩ := out_done (k := m) (by omega) HO.out hd.out hB
      have F1 := Lib.hid f1
      clear f1
      have hi : ¬ (m : Int) < (ps.length : Int) := by omega
      go_wp2_with fail
      go_ret
      exact ⟨by rw [F1.out]; rfl, f2, f3⟩
end Go.Proofs.Yteoepnadjkjlmaa
