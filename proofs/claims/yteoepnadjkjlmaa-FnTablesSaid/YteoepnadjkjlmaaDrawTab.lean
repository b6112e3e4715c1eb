/-
  The draws of tables: spec.l1DrawRows, spec.DrawMakeTable.
-/
import Derived.Test.YteoepnadjkjlmaaDrawAny
import Derived.Test.YteoepnadjkjlmaaSpecMake
namespace Go.Proofs.Yteoepnadjkjlmaa
open Go.RowKit Go.Sort
set_option linter.unusedVariables false

theorem tst_put {base : Nat} {rows : List Row} {us : List Value} {w : World} {g0 c0 g c j : Nat} {r : Row} (h : TSt base (.slice (some ⟨g0, 0, none⟩) us.length c0) us rows w) (hv : VRow base w (.slice (some ⟨g, 0, none⟩) r.length c) r) (hr1 : r.length ≤ 20) (hr2 : ∀ x ∈ r, x.t.size ≤ 100) (hj : j < us.length) :
    TSt base (.slice (some ⟨g0, 0, none⟩) us.length c0) (us.set j (.slice (some ⟨g, 0, none⟩) r.length c)) (rows.set j r) (w.setCell ⟨g0, j, none⟩ (.slice (some ⟨g, 0, none⟩) r.length c)) ∧ (∃ u, w.cell? ⟨g0, j, none⟩ = some u) ∧ w.frozen? ⟨g0, j, none⟩ = false ∧ base ≤ g0 := by
  obtain ⟨s1, s2⟩ := h.1.1.stored j (.slice (some ⟨g, 0, none⟩) r.length c)
  have hk : ∀ {u : Value} {x : Row}, VRow base w u x → VRow base (w.setCell ⟨g0, j, none⟩ (.slice (some ⟨g, 0, none⟩) r.length c)) u x := fun hu => World.ownsRow.kept hu s2 (own_parts h.1.1 hu (by decide))
  refine ⟨⟨⟨by simpa using s1, fun i u x hu hx => ?_⟩, by simp [h.2.1], ?_⟩, ⟨us[j], ?_⟩, h.1.1.frozenAt j, own_ge h.1.1 _ rfl⟩
  · by_cases e : i = j
    · subst e
      rw [List.getElem?_set_self hj] at hu
      rw [List.getElem?_set_self (by rw [← h.2.1]; exact hj)] at hx
      injection hu with hu; injection hx with hx
      subst hu hx
      exact ⟨⟨g, c, rfl⟩, hk hv⟩
    · rw [List.getElem?_set_ne (Ne.symm e)] at hu hx
      exact ⟨(h.1.2 i u x hu hx).1, hk (h.1.2 i u x hu hx).2⟩
  · intro x hx
    rcases List.mem_or_eq_of_mem_set hx with h' | h'
    · exact h.2.2 x h'
    · subst h'; exact ⟨hr1, hr2⟩
  · rw [h.1.1.cellAt j (by omega), List.getElem?_eq_getElem hj]
/-- A drawn table. -/
def TabGot (w w' : World) (v : Value) (rows : List Row) : Prop :=
  (∃ A c, v = .slice A rows.length c ∧ TabAt w' w'.heap.size A rows) ∧ rows.length ≤ 3001 ∧ ∀ r ∈ rows, r.length ≤ 20 ∧ ∀ x ∈ r, x.t.size ≤ 100
theorem nil_tab (w : World) (n : Nat) : TabAt (w.alloc (.cells (madeCells #[.slice none 0 0] n) 35)) (w.alloc (.cells (madeCells #[.slice none 0 0] n) 35)).heap.size (some ⟨w.heap.size, 0, none⟩) (List.replicate n []) := by
  refine .inr ⟨w.heap.size, 0, rfl, by simp, fun i r hr => ?_⟩
  obtain ⟨hi, rfl⟩ := List.getElem?_eq_some_iff.1 hr
  have hW := Whole.new w 35 (madeCells #[.slice none 0 0] n).toList
  rw [Array.toArray_toList] at hW
  refine ⟨none, 0, ?_, .inl (by simp)⟩
  rw [hW.cell, toList_madeCells_one, Nat.zero_add, List.getElem?_replicate, if_pos (by simpa using hi)]
  simp

theorem tab_got {w w' : World} {base : Nat} {v : Value} {us : List Value} {rows : List Row} (h : TSt base v us rows w') (hu : us.length ≤ 8) : TabGot w w' v rows := by
  obtain ⟨A, c, e, hT⟩ := cop_end h.1 h.2.1
  exact ⟨⟨A, c, e, hT⟩, by have := h.2.1; omega, h.2.2⟩
def RowsPost (w : World) (g : Nat) (A : Option Addr) (c : Nat) (xs : List UInt8) (e : Ending) (w' : World) : Prop := ∃ v rows, e = .returned v ∧ TabGot w w' v rows ∧ St w' g A c xs ∧ w.grownBy w' (some g)

set_option maxRecDepth 100000 in
set_option maxHeartbeats 3200000 in
theorem draw_rows (g : Nat) (A : Option Addr) (c : Nat) (xs : List UInt8) (w : World) (hS : St w g A c xs) (hl : xs.length ≤ 1048576) :
    Calls Try.prog 32 #[.pointer (some ⟨g, 0, none⟩)] w (RowsPost w g A c xs) := by
  obtain ⟨i0, hi0, hz0, hz1, hz2⟩ := info_parts infoVs
  obtain ⟨i1, hi1, hy0, hy1, hy2⟩ := info_parts infoV
  have hgl := hS.lt
  go_enter Try.func32, Try.ntmps32
  go_wp2_with fail
  refine (l1_below g A c xs 3 _ hS.1 hS.2 hl (by omega) (by omega)).mono ?_
  rintro e w1 ⟨x, rfl, hx, hD1⟩
  obtain ⟨n, hn⟩ : ∃ n, n = 1 + x := ⟨_, rfl⟩
  have e1 : 1 + (x : Int) = (n : Int) := by omega
  have hn4 : n ≤ 3 := by omega
  have hn0 : 1 ≤ n := by omega
  have hS1 := Lib.hid (show St w1 g A c xs from ⟨hD1.1, hD1.2.1⟩)
  have hG1 := Lib.hid hD1.2.2
  have hz1' := hG1.out.size
  clear hD1 hS hn hx
  have hT0 := Lib.hid (show TSt w1.heap.size (.slice (some ⟨w1.heap.size, 0, none⟩) 0 0) [] [] (w1.alloc (.cells #[] 35)) from
    ⟨⟨World.ownsRow_made (base := w1.heap.size) (size := 1) w1 #[] 0 (Nat.le_refl _) (Nat.zero_le _) rfl, by simp⟩, rfl, by simp⟩)
  have hS1a := hS1.out.alloc (.cells #[] 35)
  have hG1a := grown_alloc2 hG1.out (.cells #[] 35)
  go_wp2_with fail
  refine (l1_below g A c xs 9 _ hS1a.1 hS1a.2 hl (by omega) (by omega)).mono ?_
  rintro e w2 ⟨y, rfl, hy, hD2⟩
  have hS2 := Lib.hid (show St w2 g A c xs from ⟨hD2.1, hD2.2.1⟩)
  have hG2 := Lib.hid (grown_to hG1a hD2.2.2)
  have hg1 : g < w1.heap.size := by omega
  have hT2 := Lib.hid (tst_drawn hT0.out hD2.2.2 hg1)
  have hz2' : w1.heap.size < w2.heap.size := by have := hD2.2.2.size; simp at this; omega
  clear hD2 hS1a hG1a hT0 hS1 hG1
  go_wp2_with fail
  go_loopw [4, 5] (fun s4 s5 w' => ∃ (j : Nat) (us : List Value) (rows : List Row) (g0 c0 : Nat), s5 = .int .i64 j ∧ j + us.length ≤ 8 ∧ s4 = .slice (some ⟨g0, 0, none⟩) us.length c0 ∧ Hid (TSt w1.heap.size s4 us rows w') ∧ Hid (St w' g A c xs) ∧ Hid (w.grownBy w' (some g)) ∧ w1.heap.size < w'.heap.size) (fun _ s5 _ => (intOf s5).toNat)
  case atStart => exact ⟨y, [], [], _, _, rfl, by simp; omega, rfl, hT2, hS2, hG2, hz2'⟩
  case round =>
    obtain ⟨j, us, rows, g0, c0, rfl, hj, rfl, hT, hSt, hG, hwz⟩ := hrel
    by_cases hlt : 0 < j
    · have hji : (0 : Int) < (j : Int) := by omega
      go_wp2_with fail
      refine (draw_row g A c xs n _ hSt.out hl (by omega)).mono ?_
      rintro e w3 ⟨u, r, rfl, ⟨a3, cap3, rfl⟩, hV3, hr3, ht3, hS3, hG3⟩
      have hT3 := Lib.hid (tst_drawn hT.out hG3 hg1)
      have HV3 := Lib.hid (hV3.mono (show w1.heap.size ≤ wr.heap.size by omega))
      have hG4 := Lib.hid (grown_to hG.out hG3)
      have hS4 := Lib.hid hS3
      have hz3 := hG3.size
      clear hV3 hS3 hG3
      go_wp2_with (first
        | (at_builtin; refine wpList_append_own _ rfl (.tmp 16) (.tmp 20) _ rfl w1.heap.size 35 i0 _ 1 24 Try.underlying24 hi0 hz0 hz1 hz2 rfl (by decide) _ _ _ rfl (hT3.out.1.1.alloc _) ⟨w3.heap.size, 0, none⟩ 1 1 [.slice (some ⟨a3, 0, none⟩) r.length cap3] rfl rfl (news_cell _ _ _) (by simp [Value.oneCell']) (by unfold maxLen; omega) (by omega) (by simp; omega) ?_; intro v5 w6 ho6 hg6 hv6; refine Hid.out ?_))
      refine Lib.hid ?_
      have hT6 := tst_next (tst_below hT3.out ((Below.refl w3.heap.size w3).alloc (Nat.le_refl _) (.cells #[.slice (some ⟨a3, 0, none⟩) r.length cap3] 35))) (HV3.out.below ((Below.refl w3.heap.size w3).alloc (Nat.le_refl _) _)) (by omega) ht3 ho6 hg6
      have hB6 : Below w1.heap.size w3 w6 := ((Below.refl _ _).alloc (by omega) _).grown hg6 (by simp; omega) (own_ge hT3.out.1.1)
      have hS6 := Lib.hid (hS4.out.low hB6 hg1)
      have hG6 := Lib.hid (grown_own (grown_alloc2 hG4.out _) hg6 (fun b hb => by have := own_ge hT3.out.1.1 b hb; omega))
      have hz6 := hB6.size
      obtain ⟨g5, c5, rfl⟩ : ∃ g5 c5, v5 = .slice (some ⟨g5, 0, none⟩) (us.length + 1) c5 := by
        rcases ho6.2 with ⟨e, h0⟩ | ⟨g5, cap, cur, e, _⟩
        · omega
        · exact ⟨g5, cap, e⟩
      have HT6 := Lib.hid hT6
      clear ho6 hg6 hv6 hT6
      go_wp2_with fail
      go_roundw
      case rel => exact ⟨j - 1, us ++ [.slice (some ⟨a3, 0, none⟩) r.length cap3], rows ++ [r], g5, c5, by go_num, by simp; omega, by simp, HT6, hS6, hG6, by omega⟩
      case measure => simp [intOf]; omega
    · have hji : ¬ (0 : Int) < (j : Int) := by omega
      have hgr : g < wr.heap.size := by omega
      go_wp2_with fail
      refine (l1_once g A c xs 10 _ hSt.out.1 hSt.out.2 hl (by omega) (by omega)).mono ?_
      rintro e w3 ⟨b, rfl, hD3⟩
      have hT3 := Lib.hid (tst_drawn hT.out hD3.2.2 hg1)
      have hS3 := Lib.hid (show St w3 g A c xs from ⟨hD3.1, hD3.2.1⟩)
      have hG3 := Lib.hid (grown_to hG.out hD3.2.2)
      have hz3 := hD3.2.2.size
      clear hD3 hT hSt hG
      cases b with
      | false =>
        go_wp2_with fail
        refine (l1_once g A c xs 200 _ hS3.out.1 hS3.out.2 hl (by omega) (by omega)).mono ?_
        rintro e wt ⟨bt, rfl, hDt⟩
        have hTt := Lib.hid (tst_drawn hT3.out hDt.2.2 hg1)
        have hSt := Lib.hid (show St wt g A c xs from ⟨hDt.1, hDt.2.1⟩)
        have hGt := Lib.hid (grown_to hG3.out hDt.2.2)
        clear hDt hT3 hS3 hG3
        cases bt with
        | false =>
          have hend := Lib.hid (tab_got (w := w) hTt.out (by first | omega | (simp; omega)))
          go_wp2_with fail
          go_ret
          exact ⟨_, _, rfl, hend.out, hSt.out, hGt.out⟩
        | true =>
          go_wp2_with fail
          refine (l1_below g A c xs 2 _ hSt.out.1 hSt.out.2 hl (by omega) (by omega)).mono ?_
          rintro e wu ⟨z, rfl, hz, hDu⟩
          obtain ⟨m, hm⟩ : ∃ m, m = 3000 + z := ⟨_, rfl⟩
          have e2 : 3000 + (z : Int) = (m : Int) := by omega
          have hm2 : m ≤ 3001 := by omega
          have hSu := Lib.hid (St.alloc (show St wu g A c xs from ⟨hDu.1, hDu.2.1⟩) (.cells (madeCells #[.slice none 0 0] m) 35))
          have hGu := Lib.hid (grown_alloc2 (grown_to hGt.out hDu.2.2) (.cells (madeCells #[.slice none 0 0] m) 35))
          have hmk := fun W => run_make (P := Try.prog) W 24 35 i0 _ Try.underlying24 hi0 hz0 .i64 .i64 m m (by omega) (by omega) (by rw [hz2]; omega) (by omega)
          clear hDu hm hz
          go_wp2_with fail
          go_ret
          exact ⟨_, List.replicate m [], rfl, ⟨⟨some ⟨wu.heap.size, 0, none⟩, m, by rw [List.length_replicate]; rfl, nil_tab wu m⟩, by simpa using hm2, by intro r hr; have := List.eq_of_mem_replicate hr; subst this; simp⟩, hSu.out, hGu.out⟩
      | true =>
        by_cases hus : 0 < us.length
        · have husi : (0 : Int) < (us.length : Int) := by omega
          go_wp2_with fail
          refine (l1_below g A c xs us.length _ hS3.out.1 hS3.out.2 hl hus (by omega)).mono ?_
          rintro e w4 ⟨k, rfl, hk, hD4⟩
          have hT4 := Lib.hid (tst_drawn hT3.out hD4.2.2 hg1)
          have hS4 := Lib.hid (show St w4 g A c xs from ⟨hD4.1, hD4.2.1⟩)
          have hG4 := Lib.hid (grown_to hG3.out hD4.2.2)
          have hz4 := hD4.2.2.size
          clear hD4 hT3 hS3 hG3
          go_wp2_with fail
          refine (draw_row g A c xs n _ hS4.out hl (by omega)).mono ?_
          rintro e w5 ⟨u, r, rfl, ⟨a5, cap5, rfl⟩, hV5, hr5, ht5, hS5, hG5⟩
          have HV5 := Lib.hid hV5
          have HS5 := Lib.hid hS5
          have HG5 := Lib.hid hG5
          have hz5 := hG5.size
          clear hV5 hS5 hG5
          go_wp2_with fail
          refine (draw_any g A c xs _ HS5.out hl).mono ?_
          rintro e w6 ⟨v, rfl, hvt, hS6, hG6⟩
          have HV6 := Lib.hid (HV5.out.drawn hG6 (show g < w4.heap.size by omega))
          have HS6 := Lib.hid hS6
          have HG6 := Lib.hid (grown_to HG5.out hG6)
          have hz6 := hG6.size
          clear hS6 hG6 HV5 HS5 HG5
          unfold VV
          go_wp2_with (first
            | (at_builtin; refine wpList_append_own _ rfl (.tmp 36) (.tmp 39) _ rfl w4.heap.size 54 i1 _ 3 32 Try.underlying35 hi1 hy0 hy1 hy2 rfl (by decide) _ _ _ rfl ((show w6.ownsRow w4.heap.size 54 3 (.slice (some ⟨a5, 0, none⟩) r.length cap5) _ _ from HV6.out).alloc _) ⟨w6.heap.size, 0, none⟩ 1 1 [.int .i64 v.k, .int .i64 v.n, .string v.t] rfl rfl (news_three _ _ _ _ _) (one_three _ _ _) (by unfold maxLen; omega) (by omega) (by simp; omega) ?_; intro v7 w8 ho8 hg8 hv8; refine Hid.out ?_))
          refine Lib.hid ?_
          have hV8 : VRow w4.heap.size w8 v7 (r ++ [v]) := vrow_app ho8
          obtain ⟨a8, c8, rfl⟩ := vrow_some hV8 (by simp)
          have hB8 : Below w4.heap.size w6 w8 := ((Below.refl _ _).alloc (by omega) _).grown hg8 (by simp; omega) (own_ge HV6.out)
          have hS8 := Lib.hid (HS6.out.low hB8 (by omega))
          have hG48 : w4.grownBy w8 (some g) := grown_own (grown_alloc2 HG6.out _) hg8 (own_ge HV6.out)
          have hG8 := Lib.hid (grown_to hG4.out hG48)
          have hT8 := tst_drawn hT4.out hG48 hg1
          obtain ⟨hT9, ⟨u9, hu9⟩, hf9, hge9⟩ := tst_put hT8 (hV8.mono (show w1.heap.size ≤ w4.heap.size by omega)) (by simp; omega) (fun y hy => by rcases List.mem_append.1 hy with h | h; exact ht5 y h; simp at h; rw [h]; exact hvt) hk
          have HT9 := Lib.hid hT9
          have hS9 := Lib.hid (St.set_ (i := k) (u := .slice (some ⟨a8, 0, none⟩) (r ++ [v]).length c8) hS8.out (show g < g0 by omega))
          have hG9 := Lib.hid (grown_new (i := k) (u := .slice (some ⟨a8, 0, none⟩) (r ++ [v]).length c8) hG8.out (show w.heap.size ≤ g0 by omega))
          have hki : (k : Int) < (us.length : Int) := by omega
          have hk0 : (0 : Int) ≤ (k : Int) := by omega
          have hzz : w1.heap.size ≤ w8.heap.size := by have := hB8.size; omega
          clear ho8 hg8 hv8 hV8 hB8 hG48 hT8 hT9 hS8 hG8 HV6 HS6 HG6 hT4 hS4 hG4
          generalize hRL : (r ++ [v]).length = RL at *
          go_wp2_with fail
          refine (l1_once g A c xs 200 _ hS9.out.1 hS9.out.2 hl (by omega) (by omega)).mono ?_
          rintro e wt ⟨bt, rfl, hDt⟩
          have hTt := Lib.hid (tst_drawn HT9.out hDt.2.2 hg1)
          have hSt := Lib.hid (show St wt g A c xs from ⟨hDt.1, hDt.2.1⟩)
          have hGt := Lib.hid (grown_to hG9.out hDt.2.2)
          clear hDt HT9 hS9 hG9
          cases bt with
          | false =>
            have hend := Lib.hid (tab_got (w := w) hTt.out (by first | omega | (simp; omega)))
            go_wp2_with fail
            go_ret
            exact ⟨_, _, rfl, hend.out, hSt.out, hGt.out⟩
          | true =>
            go_wp2_with fail
            refine (l1_below g A c xs 2 _ hSt.out.1 hSt.out.2 hl (by omega) (by omega)).mono ?_
            rintro e wu ⟨z, rfl, hz, hDu⟩
            obtain ⟨m, hm⟩ : ∃ m, m = 3000 + z := ⟨_, rfl⟩
            have e2 : 3000 + (z : Int) = (m : Int) := by omega
            have hm2 : m ≤ 3001 := by omega
            have hSu := Lib.hid (St.alloc (show St wu g A c xs from ⟨hDu.1, hDu.2.1⟩) (.cells (madeCells #[.slice none 0 0] m) 35))
            have hGu := Lib.hid (grown_alloc2 (grown_to hGt.out hDu.2.2) (.cells (madeCells #[.slice none 0 0] m) 35))
            have hmk := fun W => run_make (P := Try.prog) W 24 35 i0 _ Try.underlying24 hi0 hz0 .i64 .i64 m m (by omega) (by omega) (by rw [hz2]; omega) (by omega)
            clear hDu hm hz
            go_wp2_with fail
            go_ret
            exact ⟨_, List.replicate m [], rfl, ⟨⟨some ⟨wu.heap.size, 0, none⟩, m, by rw [List.length_replicate]; rfl, nil_tab wu m⟩, by simpa using hm2, by intro r hr; have := List.eq_of_mem_replicate hr; subst this; simp⟩, hSu.out, hGu.out⟩
        · have husi : ¬ (0 : Int) < (us.length : Int) := by omega
          have husd : decide ((0 : Int) < (us.length : Int)) = false := by simpa using husi
          have husn : decide (0 < us.length) = false := by simpa using hus
          go_wp2_with fail
          refine (l1_once g A c xs 200 _ hS3.out.1 hS3.out.2 hl (by omega) (by omega)).mono ?_
          rintro e wt ⟨bt, rfl, hDt⟩
          have hTt := Lib.hid (tst_drawn hT3.out hDt.2.2 hg1)
          have hSt := Lib.hid (show St wt g A c xs from ⟨hDt.1, hDt.2.1⟩)
          have hGt := Lib.hid (grown_to hG3.out hDt.2.2)
          clear hDt hT3 hS3 hG3
          cases bt with
          | false =>
            have hend := Lib.hid (tab_got (w := w) hTt.out (by first | omega | (simp; omega)))
            go_wp2_with fail
            go_ret
            exact ⟨_, _, rfl, hend.out, hSt.out, hGt.out⟩
          | true =>
            go_wp2_with fail
            refine (l1_below g A c xs 2 _ hSt.out.1 hSt.out.2 hl (by omega) (by omega)).mono ?_
            rintro e wu ⟨z, rfl, hz, hDu⟩
            obtain ⟨m, hm⟩ : ∃ m, m = 3000 + z := ⟨_, rfl⟩
            have e2 : 3000 + (z : Int) = (m : Int) := by omega
            have hm2 : m ≤ 3001 := by omega
            have hSu := Lib.hid (St.alloc (show St wu g A c xs from ⟨hDu.1, hDu.2.1⟩) (.cells (madeCells #[.slice none 0 0] m) 35))
            have hGu := Lib.hid (grown_alloc2 (grown_to hGt.out hDu.2.2) (.cells (madeCells #[.slice none 0 0] m) 35))
            have hmk := fun W => run_make (P := Try.prog) W 24 35 i0 _ Try.underlying24 hi0 hz0 .i64 .i64 m m (by omega) (by omega) (by rw [hz2]; omega) (by omega)
            clear hDu hm hz
            go_wp2_with fail
            go_ret
            exact ⟨_, List.replicate m [], rfl, ⟨⟨some ⟨wu.heap.size, 0, none⟩, m, by rw [List.length_replicate]; rfl, nil_tab wu m⟩, by simpa using hm2, by intro r hr; have := List.eq_of_mem_replicate hr; subst this; simp⟩, hSu.out, hGu.out⟩

/-- What spec.DrawMakeTable leaves. -/
def DrawnTab (w : World) (e : Ending) (w' : World) : Prop := ∃ v rows, e = .returned v ∧ TabGot w w' v rows ∧ Below w.heap.size w w'
theorem draw_table (A : Option Addr) (c : Nat) (xs : List UInt8) (w : World) (hx : BAt w w.heap.size A xs) (hl : xs.length ≤ 1048576) :
    Calls Try.prog 13 #[.slice A xs.length c] w (DrawnTab w) := by
  go_enter Try.func13, Try.ntmps13
  go_wp2_with fail
  refine (l1_new A c xs _ hx hl).mono ?_
  rintro e w1 ⟨rfl, hC, hb1⟩
  have hS1 : St w1 w.heap.size A c xs := ⟨hC, hx.below hb1 (Nat.le_refl _)⟩
  go_wp2_with fail
  refine (draw_rows w.heap.size A c xs _ hS1 hl).mono ?_
  rintro e w2 ⟨v, rows, rfl, hT, hS2, hG2⟩
  have hB2 : Below w.heap.size w w2 := hb1.grown hG2 hb1.size (fun k hk => by injection hk; omega)
  go_wp2_with fail
  go_ret
  exact ⟨v, rows, rfl, hT, hB2⟩
end Go.Proofs.Yteoepnadjkjlmaa
