/-
  spec.l4DrawWide.
-/
import Derived.Test.YtemcpdpbikgfcaaDraw4Z
namespace Go.Proofs.Ytemcpdpbikgfcaa
open Go.RowKit Go.Sort
set_option linter.unusedVariables false

theorem own_cap {w : World} {base : Nat} {e : TypeId} {size n : Nat} {g c m : Nat} {xs : List Value} (h : w.ownsRow base e size (.slice (some ⟨g, 0, none⟩) m c) n xs) : n ≤ c ∧ c ≤ maxLen := by
  rcases h.2 with ⟨e1, _⟩ | ⟨g1, cap, cur, e1, hg, hh, hc1, hc2, hr⟩
  · cases e1
  · simp only [Value.slice.injEq] at e1
    obtain ⟨_, _, rfl⟩ := e1
    exact ⟨hc1, hc2⟩
set_option maxRecDepth 100000 in
set_option maxHeartbeats 6400000 in
theorem draw_wide (g : Nat) (A : Option Addr) (c : Nat) (xs : List UInt8) (n : Nat) (w : World) (hS : St w g A c xs) (hl : xs.length ≤ 1048576) (hn : n ≤ 20) :
    Calls Try.prog 94 #[.pointer (some ⟨g, 0, none⟩), .int .i64 n] w (WidePost w g A c xs) := by
  obtain ⟨i0, hi0, hz0, hz1, hz2⟩ := info_parts infoVs
  obtain ⟨i1, hi1, hy0, hy1, hy2⟩ := info_parts infoValue
  obtain ⟨i2, hi2, hx0', hx1, hx2⟩ := info_parts infoDiff
  have hgl := hS.lt
  have hS1a := hS.alloc (.cells #[] 53)
  have hG1a : w.grownBy (w.alloc (.cells #[] 53)) (some g) := World.grownBy_alloc w _ _
  have hT0 := Lib.hid (show TSt w.heap.size (.slice (some ⟨w.heap.size, 0, none⟩) 0 0) [] [] (w.alloc (.cells #[] 53)) from
    ⟨⟨World.ownsRow_made (base := w.heap.size) (size := 1) w #[] 0 (Nat.le_refl _) (Nat.zero_le _) rfl, by simp⟩, rfl, by simp⟩)
  clear hS
  go_enter Try.func94, Try.ntmps94
  go_wp2_with fail
  refine (l1_below g A c xs 8 _ hS1a.1 hS1a.2 hl (by omega) (by omega)).mono ?_
  rintro e w2 ⟨y, rfl, hy, hD2⟩
  have hS2 := Lib.hid (show St w2 g A c xs from ⟨hD2.1, hD2.2.1⟩)
  have hG2 := Lib.hid (grown_to hG1a hD2.2.2)
  have hT2 := Lib.hid (tst_drawn hT0.out hD2.2.2 hgl)
  clear hD2 hS1a hG1a hT0
  go_wp2_with fail
  go_loopw [5, 6] (fun s4 s5 w' => ∃ (j : Nat) (us : List Value) (rows : List Row) (g0 c0 : Nat), s5 = .int .i64 j ∧ j + us.length ≤ 8 ∧ s4 = .slice (some ⟨g0, 0, none⟩) us.length c0 ∧ Hid (TSt w.heap.size s4 us rows w') ∧ Hid (St w' g A c xs) ∧ Hid (w.grownBy w' (some g))) (fun _ s5 _ => (intOf s5).toNat)
  case atStart => exact ⟨y, [], [], _, _, rfl, by simp; omega, rfl, hT2, hS2, hG2⟩
  case round =>
    obtain ⟨j, us, rows, g0, c0, rfl, hj, rfl, hT, hSt, hG⟩ := hrel
    by_cases hlt : 0 < j
    · have hji : (0 : Int) < (j : Int) := by omega
      obtain ⟨wo, rfl⟩ : ∃ wo : World, wo = wr := ⟨_, rfl⟩
      have hgo : g < wo.heap.size := hSt.out.lt
      have hS0 := Lib.hid (hSt.out.alloc (.cells #[] 52))
      have hG0 := Lib.hid (show wo.grownBy (wo.alloc (.cells #[] 52)) (some g) from World.grownBy_alloc wo _ _)
      have hV0 := Lib.hid (vrow_new wo)
      go_wp2_with fail
      go_loopw [7, 8] (fun o i w' => ∃ (r : List GV), r.length ≤ n ∧ i = .int .i64 r.length ∧ Hid (∃ a cap, o = .slice (some ⟨a, 0, none⟩) r.length cap) ∧ Hid (∀ v ∈ r, v.t.size ≤ 100) ∧ Hid (VRow wo.heap.size w' o r) ∧ Hid (St w' g A c xs) ∧ Hid (wo.grownBy w' (some g))) (fun _ i _ => n - (intOf i).toNat)
      case atStart => exact ⟨[], Nat.zero_le _, rfl, Lib.hid ⟨_, _, rfl⟩, Lib.hid (by simp), hV0, hS0, hG0⟩
      case round =>
        obtain ⟨r, hr, rfl, hnn, ht, hV, hSr, hGr⟩ := hrel
        obtain ⟨a1, c1, rfl⟩ := hnn.out
        have hwz := hGr.out.size
        by_cases hlr : r.length < n
        · have hli : (r.length : Int) < (n : Int) := by omega
          go_wp2_with fail
          refine (l1_below g A c xs 3 _ hSr.out.1 hSr.out.2 hl (by omega) (by omega)).mono ?_
          rintro e w3 ⟨x, rfl, hx, hD3⟩
          have hV3 := Lib.hid (hV.out.drawn hD3.2.2 hgo)
          have hG4 := Lib.hid (grown_to hGr.out hD3.2.2)
          have hw3 := hG4.out.size
          have hS4 := Lib.hid (show St w3 g A c xs from ⟨hD3.1, hD3.2.1⟩)
          clear hD3
          go_wp2_with (first | (at_builtin; refine wpList_append_own _ rfl (.tmp 26) (.tmp 30) _ rfl wo.heap.size 52 i1 _ 3 32 Try.underlying53 hi1 hy0 hy1 hy2 rfl (by decide) _ _ _ rfl ((show w3.ownsRow wo.heap.size 52 3 (.slice (some ⟨a1, 0, none⟩) r.length c1) _ _ from hV3.out).alloc _) ⟨w3.heap.size, 0, none⟩ 1 1 [.int .i64 1, .int .i64 (x : Int), .string ByteArray.empty] rfl rfl (news_three _ _ _ _ _) (one_three _ _ _) (by unfold maxLen; omega) (by omega) (by simp; omega) ?_; intro v2 w4 ho2 hg2 _; refine Hid.out ?_))
          refine Lib.hid ?_
          have hV4 : VRow wo.heap.size w4 v2 (r ++ [⟨1, x, ByteArray.empty⟩]) := vrow_app ho2
          have hB4 : Below wo.heap.size w3 w4 := ((Below.refl _ _).alloc hw3 _).grown hg2 (by simp; omega) (own_ge hV3.out)
          have hS5 := Lib.hid (hS4.out.low hB4 hgo)
          have hG5 := Lib.hid (grown_own (grown_alloc2 hG4.out _) hg2 (own_ge hV3.out))
          obtain ⟨a2, c2, rfl⟩ := vrow_some hV4 (by simp)
          have HV4 := Lib.hid hV4
          clear ho2 hg2 hV4 hB4
          go_wp2_with fail
          go_roundw
          case rel => exact ⟨r ++ [⟨1, x, ByteArray.empty⟩], by simp; omega, by simp, Lib.hid ⟨_, _, rfl⟩, Lib.hid (fun v hv => by rcases List.mem_append.1 hv with h | h; exact ht.out v h; simp at h; rw [h]; simp), HV4, hS5, hG5⟩
          case measure => simp [intOf]; omega
        · have hli : ¬ (r.length : Int) < (n : Int) := by omega
          have hT3 := Lib.hid (tst_drawn hT.out hGr.out (by have := hG.out.size; omega))
          have HV3 := Lib.hid (hV.out.mono (show w.heap.size ≤ wo.heap.size from hG.out.size))
          have hG4 := Lib.hid (grown_to hG.out hGr.out)
          have hwz3 : w.heap.size ≤ wr.heap.size := hG4.out.size
          go_wp2_with (first
            | (at_builtin; refine wpList_append_own _ rfl (.tmp 32) (.tmp 34) _ rfl w.heap.size 53 i0 _ 1 24 Try.underlying33 hi0 hz0 hz1 hz2 rfl (by decide) _ _ _ rfl (hT3.out.1.1.alloc _) ⟨wr.heap.size, 0, none⟩ 1 1 [.slice (some ⟨a1, 0, none⟩) r.length c1] rfl rfl (news_cell _ _ _) (by simp [Value.oneCell']) (by unfold maxLen; omega) (by omega) (by simp; omega) ?_; intro v5 w6 ho6 hg6 hv6; refine Hid.out ?_))
          refine Lib.hid ?_
          have hT6 := tst_next (tst_below hT3.out ((Below.refl wr.heap.size wr).alloc (Nat.le_refl _) (.cells #[.slice (some ⟨a1, 0, none⟩) r.length c1] 53))) (HV3.out.below ((Below.refl wr.heap.size wr).alloc (Nat.le_refl _) _)) (by omega) ht.out ho6 hg6
          have hB6 : Below w.heap.size wr w6 := ((Below.refl _ _).alloc (by omega) _).grown hg6 (by simp; omega) (own_ge hT3.out.1.1)
          have hS6 := Lib.hid (hSr.out.low hB6 hgl)
          have hG6 := Lib.hid (grown_own (grown_alloc2 hG4.out _) hg6 (fun b hb => by have := own_ge hT3.out.1.1 b hb; omega))
          obtain ⟨g5, c5, rfl⟩ : ∃ g5 c5, v5 = .slice (some ⟨g5, 0, none⟩) (us.length + 1) c5 := by
            rcases ho6.2 with ⟨e, h0⟩ | ⟨g5, cap, cur, e, _⟩
            · omega
            · exact ⟨g5, cap, e⟩
          have HT6 := Lib.hid hT6
          clear ho6 hg6 hv6 hT6 hB6
          go_wp2_with fail
          go_roundw
          case rel => exact ⟨j - 1, us ++ [.slice (some ⟨a1, 0, none⟩) r.length c1], rows ++ [r], g5, c5, by go_num, by simp; omega, by simp, HT6, hS6, hG6⟩
          case measure => simp [intOf]; omega
    · have hji : ¬ (0 : Int) < (j : Int) := by omega
      have hul : us.length = rows.length := hT.out.2.1
      have hcp := own_cap hT.out.1.1
      have HTB := Lib.hid (cop_tabB hT.out.1 hul)
      have HRS := Lib.hid hT.out.2.2
      have HLR := Lib.hid (show ∀ r ∈ rows, r.length ≤ 1048576 ∧ ∀ v ∈ r, v.t.size ≤ maxLen from fun r hr => ⟨by have := (HRS.out r hr).1; omega, fun v hv => by have := (HRS.out r hr).2 v hv; unfold maxLen; omega⟩)
      have hr8 : rows.length ≤ 8 := by omega
      have HM := Lib.hid (show Calls Try.prog 107 #[.slice (some ⟨g0, 0, none⟩) us.length c0] wr (SpecMadeF wr rows) by
        rw [hul]
        exact spec_makeF g0 0 c0 rows wr HTB.out (by omega) (by have := hcp.2; unfold maxLen at this; omega) HLR.out)
      clear hT hcp hul
      go_wp2_with fail
      refine HM.out.mono ?_
      rintro e w3 ⟨v3, us3, out, rfl, hu3, hC3, hTI, hlo, hb3⟩
      have hsz3 : w.heap.size ≤ w3.heap.size := Nat.le_trans hG.out.size hb3.size
      have HC3 := Lib.hid (show CopSt w.heap.size out v3 us3 w3 from cop_up hC3 hG.out.size)
      have HRO := Lib.hid (show ∀ r ∈ out, r.length ≤ 20 ∧ ∀ v ∈ r, v.t.size ≤ 100 from fun r hr => by
        rcases hTI with ⟨_, rfl⟩ | ⟨_, _, hm⟩
        · simp at hr
        · exact HRS.out r ((hm r).1 hr))
      have HS3 := Lib.hid (hSt.out.below hb3)
      have HG3 := Lib.hid (grown_to hG.out (grown_below (b := some g) hb3))
      have hol : out.length ≤ 8 := by omega
      have HU3 := Lib.hid hu3
      obtain ⟨A3, c3, rfl, _⟩ := cop_end HC3.out hu3
      clear hC3 hTI hb3 hlo HTB HM HLR HRS hSt hG hu3
      have HS4 := Lib.hid (HS3.out.alloc (.cells #[] 55))
      have HG4 := Lib.hid (grown_alloc2 HG3.out (.cells #[] 55))
      have HF4 := Lib.hid (FD.start (base := w.heap.size) (w := w3) hsz3)
      have HC4 := Lib.hid (cop_below HC3.out ((Below.refl w3.heap.size w3).alloc (Nat.le_refl _) (.cells #[] 55)))
      go_wp2_with fail
      go_loopw [10, 11] (fun z i w' => ∃ (ps : List DH), ps.length ≤ out.length ∧ i = .int .i64 ps.length ∧ Hid (FD w.heap.size w' z ps) ∧ Hid (∀ p ∈ ps, smallP p) ∧ Hid (CopSt w.heap.size out (.slice A3 out.length c3) us3 w') ∧ Hid (St w' g A c xs) ∧ Hid (w.grownBy w' (some g))) (fun _ i _ => out.length - (intOf i).toNat)
      case atStart => exact ⟨[], Nat.zero_le _, rfl, HF4, Lib.hid (by simp), HC4, HS4, HG4⟩
      case round =>
        obtain ⟨ps, hps, rfl, hF, hsm, hC, hSt, hG⟩ := hrel
        obtain ⟨gz, cz, rfl⟩ := hF.out.2.1
        by_cases hlt : ps.length < out.length
        · have hli : (ps.length : Int) < (out.length : Int) := by omega
          have hl0 : (0 : Int) ≤ (ps.length : Int) := by omega
          have hbL := ((Below.refl wr.heap.size wr).alloc (Nat.le_refl _) (.cells #[.int .i64 1, .int .i64 1, .int .i64 2, .int .i64 (-1), .int .i64 (-2), .int .i64 3] 2))
          have hSL := hSt.out.alloc (.cells #[.int .i64 1, .int .i64 1, .int .i64 2, .int .i64 (-1), .int .i64 (-2), .int .i64 3] 2)
          have hWL := Whole.new wr 2 [.int .i64 1, .int .i64 1, .int .i64 2, .int .i64 (-1), .int .i64 (-2), .int .i64 3]
          go_wp2_with fail
          refine (l1_below g A c xs 6 _ hSL.1 hSL.2 hl (by omega) (by omega)).mono ?_
          rintro e w4 ⟨x, rfl, hx, hD4⟩
          have hne4 : wr.heap.size ≠ g := by have := hSt.out.lt; omega
          obtain ⟨m, hm, hm1, hm2⟩ := six_at [1, 1, 2, -1, -2, 3] w4 (hWL.drawn hD4.2.2 hne4) (x := x) hx (by decide)
          have HF5 := Lib.hid ((hF.out.below hbL).drawn hD4.2.2 hgl)
          have HC5 := Lib.hid (show CopSt w.heap.size out (.slice A3 out.length c3) us3 w4 from ⟨own_drawn (cop_below hC.out hbL).1 hD4.2.2 hgl, fun i u r hu hr => ⟨((cop_below hC.out hbL).2 i u r hu hr).1, ((cop_below hC.out hbL).2 i u r hu hr).2.drawn hD4.2.2 hgl⟩⟩)
          have HS5 := Lib.hid (show St w4 g A c xs from ⟨hD4.1, hD4.2.1⟩)
          have HG5 := Lib.hid (grown_to (grown_alloc2 hG.out (.cells #[.int .i64 1, .int .i64 1, .int .i64 2, .int .i64 (-1), .int .i64 (-2), .int .i64 3] 2)) hD4.2.2)
          have hx0 : (0 : Int) ≤ (x : Int) := by omega
          have hx6 : (x : Int) < 6 := by omega
          clear hD4 hSL hWL hbL hF hC hSt hG
          go_wp2_with fail
          refine (l1_once g A c xs 40 _ HS5.out.1 HS5.out.2 hl (by omega) (by omega)).mono ?_
          rintro e w5 ⟨b, rfl, hD5⟩
          have HF6 := Lib.hid (HF5.out.drawn hD5.2.2 hgl)
          have HC6 := Lib.hid (show CopSt w.heap.size out (.slice A3 out.length c3) us3 w5 from ⟨own_drawn HC5.out.1 hD5.2.2 hgl, fun i u r hu hr => ⟨(HC5.out.2 i u r hu hr).1, (HC5.out.2 i u r hu hr).2.drawn hD5.2.2 hgl⟩⟩)
          have HS6 := Lib.hid (show St w5 g A c xs from ⟨hD5.1, hD5.2.1⟩)
          have HG6 := Lib.hid (grown_to HG5.out hD5.2.2)
          clear hD5 hm HF5 HC5 HS5 HG5
          cases b with
          | false =>
            obtain ⟨g7, c7, g8, c8, e7, hg7, hcell, hVr⟩ := cop_at HC6.out HU3.out hlt
            simp only [Value.slice.injEq] at e7
            obtain ⟨rfl, _, rfl⟩ := e7
            have hBx := ((Below.refl w5.heap.size w5).alloc (Nat.le_refl _) (.cells #[.slice (some ⟨g8, 0, none⟩) out[ps.length].length c8, .int .i64 m] 55))
            have HVr := Lib.hid (hVr.below hBx)
            have HFx := Lib.hid (HF6.out.below hBx)
            have HCx := Lib.hid (cop_below HC6.out hBx)
            have HSx := Lib.hid (HS6.out.below hBx)
            have HGx := Lib.hid (grown_alloc2 HG6.out (.cells #[.slice (some ⟨g8, 0, none⟩) out[ps.length].length c8, .int .i64 m] 55))
            have hsz5 : w.heap.size ≤ w5.heap.size := HG6.out.size
            have hsmall := Lib.hid (show smallP ((some ⟨g8, 0, none⟩, c8), ⟨out[ps.length], m⟩) from ⟨(HRO.out _ (List.getElem_mem hlt)).1, (HRO.out _ (List.getElem_mem hlt)).2, by assumption, by assumption⟩)
            have hp8 : ps.length ≤ 8 := by omega
            clear hVr hBx HF6 HC6 HS6 HG6
            go_wp2_with (first
              | (at_builtin; refine wpList_append_own _ rfl (.tmp 57) (.tmp 64) _ rfl w.heap.size 55 i2 _ 2 32 Try.underlying24 hi2 hx0' hx1 hx2 rfl (by decide) _ _ _ rfl HFx.out.1 ⟨w5.heap.size, 0, none⟩ 1 1 (dhL ((some ⟨g8, 0, none⟩, c8), ⟨out[ps.length], m⟩)) rfl rfl (dhL_cells w5 ((some ⟨g8, 0, none⟩, c8), ⟨out[ps.length], m⟩) _) (dhL_one _) (by unfold maxLen; omega) (by omega) (by simp; omega) ?_; intro v9 w9 ho9 hg9 hv9; refine Hid.out ?_))
            refine Lib.hid ?_
            have HF9 := Lib.hid (FD.app (p := ((some ⟨g8, 0, none⟩, c8), ⟨out[ps.length], m⟩)) HFx.out HVr.out ho9 hg9)
            have hB9 : Below w.heap.size (w5.alloc (.cells #[.slice (some ⟨g8, 0, none⟩) out[ps.length].length c8, .int .i64 m] 55)) w9 := (Below.refl _ _).grown hg9 (by simp; omega) (own_ge HFx.out.1)
            have HS9 := Lib.hid (HSx.out.low hB9 hgl)
            have HG9 := Lib.hid (grown_own HGx.out hg9 (own_ge HFx.out.1))
            have HC9 := Lib.hid (show CopSt w.heap.size out (.slice (some ⟨g7, 0, none⟩) out.length c3) us3 w9 from ⟨World.ownsRow.kept HCx.out.1 hg9 (own_parts HFx.out.1 HCx.out.1 (by decide)), fun i u r hu hr => ⟨(HCx.out.2 i u r hu hr).1, World.ownsRow.kept (HCx.out.2 i u r hu hr).2 hg9 (own_parts HFx.out.1 (HCx.out.2 i u r hu hr).2 (by decide))⟩⟩)
            have HM9 := Lib.hid (show ∀ p ∈ ps ++ [((some ⟨g8, 0, none⟩, c8), ⟨out[ps.length], m⟩)], smallP p from fun p hp => by
              rw [List.mem_append, List.mem_singleton] at hp
              rcases hp with hp | rfl
              · exact hsm.out p hp
              · exact hsmall.out)
            obtain ⟨gy, cy, rfl⟩ := HF9.out.2.1
            have hpl : (ps ++ [(((some ⟨g8, 0, none⟩, c8), ⟨out[ps.length], m⟩) : DH)]).length = ps.length + 1 := by simp
            rw [hpl]
            rw [hpl] at HF9
            have HPL := Lib.hid hpl
            clear ho9 hg9 hv9 hB9 hcell hpl
            go_wp2_with fail
            go_roundw
            case rel => exact ⟨ps ++ [((some ⟨g8, 0, none⟩, c8), ⟨out[ps.length], m⟩)], by simp; omega, by rw [HPL.out]; go_num, HF9, HM9, HC9, HS9, HG9⟩
            case measure => simp [intOf]; omega
          | true =>
            have hbL := ((Below.refl w5.heap.size w5).alloc (Nat.le_refl _) (.cells #[.int .i64 1000000, .int .i64 (-1000000), .int .i64 1000001, .int .i64 0, .int .i64 4611686018427387904] 2))
            have hSL := HS6.out.alloc (.cells #[.int .i64 1000000, .int .i64 (-1000000), .int .i64 1000001, .int .i64 0, .int .i64 4611686018427387904] 2)
            have hWL := Whole.new w5 2 [.int .i64 1000000, .int .i64 (-1000000), .int .i64 1000001, .int .i64 0, .int .i64 4611686018427387904]
            have hne5 : w5.heap.size ≠ g := by have := HS6.out.lt; omega
            go_wp2_with fail
            refine (l1_below g A c xs 5 _ hSL.1 hSL.2 hl (by omega) (by omega)).mono ?_
            rintro e w8 ⟨y, rfl, hy, hD8⟩
            obtain ⟨m8, hm8, hm81, hm82⟩ := six_at [1000000, -1000000, 1000001, 0, 4611686018427387904] w8 (hWL.drawn hD8.2.2 hne5) (x := y) hy (by decide)
            have HF8 := Lib.hid ((HF6.out.below hbL).drawn hD8.2.2 hgl)
            have HC8 := Lib.hid (show CopSt w.heap.size out (.slice A3 out.length c3) us3 w8 from ⟨own_drawn (cop_below HC6.out hbL).1 hD8.2.2 hgl, fun i u r hu hr => ⟨((cop_below HC6.out hbL).2 i u r hu hr).1, ((cop_below HC6.out hbL).2 i u r hu hr).2.drawn hD8.2.2 hgl⟩⟩)
            have HS8 := Lib.hid (show St w8 g A c xs from ⟨hD8.1, hD8.2.1⟩)
            have HG8 := Lib.hid (grown_to (grown_alloc2 HG6.out (.cells #[.int .i64 1000000, .int .i64 (-1000000), .int .i64 1000001, .int .i64 0, .int .i64 4611686018427387904] 2)) hD8.2.2)
            have hy0 : (0 : Int) ≤ (y : Int) := by omega
            have hy5 : (y : Int) < 5 := by omega
            clear hD8 hSL hWL hbL HF6 HC6 HS6 HG6
            obtain ⟨g7, c7, g8, c8, e7, hg7, hcell, hVr⟩ := cop_at HC8.out HU3.out hlt
            simp only [Value.slice.injEq] at e7
            obtain ⟨rfl, _, rfl⟩ := e7
            have hBx := ((Below.refl w8.heap.size w8).alloc (Nat.le_refl _) (.cells #[.slice (some ⟨g8, 0, none⟩) out[ps.length].length c8, .int .i64 m8] 55))
            have HVr := Lib.hid (hVr.below hBx)
            have HFx := Lib.hid (HF8.out.below hBx)
            have HCx := Lib.hid (cop_below HC8.out hBx)
            have HSx := Lib.hid (HS8.out.below hBx)
            have HGx := Lib.hid (grown_alloc2 HG8.out (.cells #[.slice (some ⟨g8, 0, none⟩) out[ps.length].length c8, .int .i64 m8] 55))
            have hsz5 : w.heap.size ≤ w8.heap.size := HG8.out.size
            have hsmall := Lib.hid (show smallP ((some ⟨g8, 0, none⟩, c8), ⟨out[ps.length], m8⟩) from ⟨(HRO.out _ (List.getElem_mem hlt)).1, (HRO.out _ (List.getElem_mem hlt)).2, by assumption, by assumption⟩)
            have hp8 : ps.length ≤ 8 := by omega
            clear hVr hBx HF8 HC8 HS8 HG8
            go_wp2_with (first
              | (at_builtin; refine wpList_append_own _ rfl (.tmp 57) (.tmp 64) _ rfl w.heap.size 55 i2 _ 2 32 Try.underlying24 hi2 hx0' hx1 hx2 rfl (by decide) _ _ _ rfl HFx.out.1 ⟨w8.heap.size, 0, none⟩ 1 1 (dhL ((some ⟨g8, 0, none⟩, c8), ⟨out[ps.length], m8⟩)) rfl rfl (dhL_cells w8 ((some ⟨g8, 0, none⟩, c8), ⟨out[ps.length], m8⟩) _) (dhL_one _) (by unfold maxLen; omega) (by omega) (by simp; omega) ?_; intro v9 w9 ho9 hg9 hv9; refine Hid.out ?_))
            refine Lib.hid ?_
            have HF9 := Lib.hid (FD.app (p := ((some ⟨g8, 0, none⟩, c8), ⟨out[ps.length], m8⟩)) HFx.out HVr.out ho9 hg9)
            have hB9 : Below w.heap.size (w8.alloc (.cells #[.slice (some ⟨g8, 0, none⟩) out[ps.length].length c8, .int .i64 m8] 55)) w9 := (Below.refl _ _).grown hg9 (by simp; omega) (own_ge HFx.out.1)
            have HS9 := Lib.hid (HSx.out.low hB9 hgl)
            have HG9 := Lib.hid (grown_own HGx.out hg9 (own_ge HFx.out.1))
            have HC9 := Lib.hid (show CopSt w.heap.size out (.slice (some ⟨g7, 0, none⟩) out.length c3) us3 w9 from ⟨World.ownsRow.kept HCx.out.1 hg9 (own_parts HFx.out.1 HCx.out.1 (by decide)), fun i u r hu hr => ⟨(HCx.out.2 i u r hu hr).1, World.ownsRow.kept (HCx.out.2 i u r hu hr).2 hg9 (own_parts HFx.out.1 (HCx.out.2 i u r hu hr).2 (by decide))⟩⟩)
            have HM9 := Lib.hid (show ∀ p ∈ ps ++ [((some ⟨g8, 0, none⟩, c8), ⟨out[ps.length], m8⟩)], smallP p from fun p hp => by
              rw [List.mem_append, List.mem_singleton] at hp
              rcases hp with hp | rfl
              · exact hsm.out p hp
              · exact hsmall.out)
            obtain ⟨gy, cy, rfl⟩ := HF9.out.2.1
            have hpl : (ps ++ [(((some ⟨g8, 0, none⟩, c8), ⟨out[ps.length], m8⟩) : DH)]).length = ps.length + 1 := by simp
            rw [hpl]
            rw [hpl] at HF9
            have HPL := Lib.hid hpl
            clear ho9 hg9 hv9 hB9 hcell hpl hm8
            go_wp2_with fail
            go_roundw
            case rel => exact ⟨ps ++ [((some ⟨g8, 0, none⟩, c8), ⟨out[ps.length], m8⟩)], by simp; omega, by rw [HPL.out]; go_num, HF9, HM9, HC9, HS9, HG9⟩
            case measure => simp [intOf]; omega
        · have hli : ¬ (ps.length : Int) < (out.length : Int) := by omega
          go_wp2_with fail
          go_ret
          exact ⟨_, ps, rfl, hF.out, by omega, hsm.out, hSt.out, hG.out⟩
end Go.Proofs.Ytemcpdpbikgfcaa
