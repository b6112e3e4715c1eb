/-
  For every slice of bytes, laws.FnDiffSums returns true and leaves its argument as it was. No condition.
-/
import Derived.Test.YtggkggaihfcjmaaSumV
import Derived.Test.YtggkggaihfcjmaaOpenBZ
import Derived.Test.YtggkggaihfcjmaaRows
namespace Go.Proofs.Ytggkggaihfcjmaa.diffSums
open Go.RowKit Go.Sort
set_option linter.unusedVariables false

theorem bat_to {w w' : World} {A : Option Addr} {xs : List UInt8} (h : BAt w w.heap.size A xs) (hb : Below w.heap.size w w') : BAt w' w'.heap.size A xs := by
  have h2 := h.below hb (Nat.le_refl _)
  rcases h2 with h2 | ⟨g, o, e, hg, hc⟩
  · exact .inl h2
  · exact .inr ⟨g, o, e, Nat.lt_of_lt_of_le hg hb.size, hc⟩
theorem pos_len8 {zs : List GDiff} (h : drawnD zs) : (posD zs).length ≤ 8 := by
  unfold posD
  by_cases hk : diffOkB zs = true
  · rw [if_pos hk]; have := posL_len zs; have := h.1; omega
  · rw [if_neg hk]; simp
theorem first_tab {w : World} {B : Nat} {A : Option Addr} {rows : List (List GV)} (h : TabC w B A rows) (h0 : 0 < rows.length) : ∃ g o A' c', A = some ⟨g, o, none⟩ ∧ w.cell? ⟨g, o, none⟩ = some (.slice A' (wid rows) c') := by
  obtain ⟨g, o, A', c', rfl, _, hc, _, _⟩ := h.at_ h0
  exact ⟨g, o, A', c', rfl, by rw [wid_eq h0]; simpa using hc⟩
theorem wid_first {rows : List (List GV)} (h0 : 0 < rows.length) : wid rows = rows[0].length := wid_eq h0
theorem tab_isb (A : Option Addr) (c : Nat) (rows : List (List GV)) (w : World) (hb : tableOkB rows = true) (hr : TabAt w w.heap.size A rows) (hl : lensT rows) :
    Calls Try.prog 43 #[.slice A rows.length c] w fun e w' => e = .returned (.bool true) ∧ Below w.heap.size w w' := by
  rw [← hb]; exact spec_tableOk A c rows w hr hl.1 (lensT_max hl)
set_option maxRecDepth 100000 in
set_option maxHeartbeats 6400000 in
theorem main (A : Option Addr) (c : Nat) (xs : List UInt8) (w : World) (hx : BAt w w.heap.size A xs) (hl : xs.length ≤ 1048576) :
    Calls Try.prog 10 #[.slice A xs.length c] w fun e w' => e = .returned (.bool true) ∧ Below w.heap.size w w' := by
  go_enter Try.func10, Try.ntmps10
  go_wp2_with fail
  refine (big_at A xs.length c false _ (by simp; omega)).mono ?_
  rintro e w0 ⟨rfl, rfl⟩
  go_wp2_with fail
  refine (draw_AddDiffs A c xs _ hx hl).mono ?_
  rintro e w1 ⟨A1, c1, zs, B1, d1, ys, rfl, hz, hy, dz, dy, hb1⟩
  have HX := Lib.hid hx
  have HZ := Lib.hid (show DV w1 (.slice A1 zs.length c1) zs from ⟨A1, c1, rfl, hz⟩)
  have HY := Lib.hid (show DV w1 (.slice B1 ys.length d1) ys from ⟨B1, d1, rfl, hy⟩)
  have LZ := Lib.hid (lens_drawn dz)
  have LY := Lib.hid (lens_drawn dy)
  have hO := one_at w1
  have HO := Lib.hid hO
  clear hz hy dz dy hO hx
  have hBa : Below w.heap.size w ((w1.alloc (.cells #[.int .i64 1, .int .i64 0, .string ByteArray.empty] 52)).alloc (.cells #[.slice (some ⟨w1.heap.size, 0, none⟩) 1 1, .int .i64 1] 55)) := (hb1.alloc hb1.size _).alloc (by have := hb1.size; simp; omega) _
  have hba : Below w1.heap.size w1 ((w1.alloc (.cells #[.int .i64 1, .int .i64 0, .string ByteArray.empty] 52)).alloc (.cells #[.slice (some ⟨w1.heap.size, 0, none⟩) 1 1, .int .i64 1] 55)) := ((Below.refl _ _).alloc (Nat.le_refl _) _).alloc (by simp) _
  have HZa := Lib.hid (HZ.out.to_ hba)
  have HYa := Lib.hid (HY.out.to_ hba)
  clear HZ HY hba
  go_wp2_with fail
  refine (v_ok true _ one_ok HO.out one_lens).mono ?_
  rintro e w2 ⟨rfl, hb2⟩
  have hB2 := below_next hBa hb2 rfl rfl
  have HZ2 := Lib.hid (HZa.out.to_ hb2)
  have HY2 := Lib.hid (HYa.out.to_ hb2)
  clear hBa hb2 HZa HYa HO hb1
  go_wp2_with fail
  refine (v_add _ HZ2.out HY2.out LZ.out LY.out).mono ?_
  rintro e w3 ⟨v3, rfl, hv3, hb3⟩
  have HS3 := Lib.hid hv3
  have hB3 := below_next hB2 hb3 rfl rfl
  have HZ3 := Lib.hid (HZ2.out.to_ hb3)
  have HY3 := Lib.hid (HY2.out.to_ hb3)
  clear hv3 hb3 HZ2 HY2 hB2
  go_wp2_with fail
  refine (v_add _ HY3.out HZ3.out LY.out LZ.out).mono ?_
  rintro e w4 ⟨v4, rfl, hv4, hb4⟩
  have HS4 := Lib.hid (show DV w4 v4 (addDD zs ys) by rw [addDD_comm]; exact hv4)
  have HS3a := Lib.hid (HS3.out.to_ hb4)
  have hB4 := below_next hB3 hb4 rfl rfl
  have HZ4 := Lib.hid (HZ3.out.to_ hb4)
  clear hv4 hb4 HZ3 HY3 hB3 HS3
  go_wp2_with fail
  refine (v_sameD _ HS3a.out HS4.out (lens_ok (addDD_ok _ _))).mono ?_
  rintro e w5 ⟨rfl, hb5⟩
  have hB5 := below_next hB4 hb5 rfl rfl
  have HZ5 := Lib.hid (HZ4.out.to_ hb5)
  clear hb5 HZ4 HS3a HS4 hB4
  go_wp2_with fail
  refine (v_neg _ HZ5.out LZ.out).mono ?_
  rintro e w6 ⟨v6, rfl, hv6, hb6⟩
  have hB6 := below_next hB5 hb6 rfl rfl
  have HN6 := Lib.hid hv6
  have HZ6 := Lib.hid (HZ5.out.to_ hb6)
  clear hv6 hb6 HZ5 hB5
  go_wp2_with fail
  refine (v_add _ HZ6.out HN6.out LZ.out (lens_ok (negD_ok _))).mono ?_
  rintro e w7 ⟨v7, rfl, hv7, hb7⟩
  rw [addDD_neg] at hv7
  obtain ⟨A7, c7, rfl, _⟩ := hv7
  have hB7 := below_next hB6 hb7 rfl rfl
  clear hb7 HZ6 HN6 hB6
  go_wp2_with fail
  refine (draw_DiffOf A c xs _ (bat_to HX.out hB7) hl).mono ?_
  rintro e w8 ⟨A2, c2, zs2, B2, d2, ys2, rfl, hS, hT, dS, dT, hb8⟩
  have hB8 := below_next hB7 hb8 rfl rfl
  have TS := Lib.hid (posD_ok zs2)
  have TT := Lib.hid (posD_ok ys2)
  have hS8 := pos_len8 dS
  have hT8 := pos_len8 dT
  clear dS dT hb8 hB7
  generalize posD zs2 = S at *
  generalize posD ys2 = T at *
  have LS := Lib.hid (lensT_table TS.out)
  have LT := Lib.hid (lensT_table TT.out)
  have HS := Lib.hid (show TV w8 (.slice A2 S.length c2) S from ⟨A2, c2, rfl, hS⟩)
  have HT := Lib.hid (show TV w8 (.slice B2 T.length d2) T from ⟨B2, d2, rfl, hT⟩)
  clear hS hT
  go_wp2_with fail
  refine (v_diffOf _ HS.out HT.out LS.out LT.out).mono ?_
  rintro e w9 ⟨v9, rfl, hv9, hb9⟩
  have hB9 := below_next hB8 hb9 rfl rfl
  have HD9 := Lib.hid hv9
  have HS9 := Lib.hid (HS.out.to_ hb9)
  have HT9 := Lib.hid (HT.out.to_ hb9)
  clear hv9 hb9 HS HT hB8
  go_wp2_with fail
  have HSr := Lib.hid (show TabC w9 w9.heap.size A2 S by obtain ⟨A, c, e, h⟩ := HS9.out; cases e; exact h)
  have HTr := Lib.hid (show TabC w9 w9.heap.size B2 T by obtain ⟨A, c, e, h⟩ := HT9.out; cases e; exact h)
  by_cases hz0 : S.length = 0
  · have hi1 : decide (0 < S.length) = false := decide_eq_false (by omega)
    have hj1 : ¬ (0 : Int) < (S.length : Int) := by omega
    have hcc : compatB (ofL S 1) (ofL T 1) = true := by rw [compat_of]; simp [hz0]
    clear hz0
    refine wp_region_quiet_below (by kernel_rfl) (by kernel_rfl) ?_
    repeat (go_big_quiet_step (first
      | (go_at_call 43; (with_reducible show Calls _ _ #[.slice A2 S.length c2] _ _); exact Calls.regrown_of (tab_isb A2 c2 S _ TS.out (HSr.out.tab.to_ (below_regrown w9 _ _)) LS.out))
      | (go_at_call 43; (with_reducible show Calls _ _ #[.slice B2 T.length d2] _ _); exact Calls.regrown_of (tab_isb B2 d2 T _ TT.out (HTr.out.tab.to_ (below_regrown w9 _ _)) LT.out))))
    refine wpQuiet_nil ?_
    intro _ hw'
    obtain ⟨⟨dq, osq⟩, hw''⟩ := hw'
    subst hw''
    have hBx := below_regrown w9 dq osq
    have HS10 := Lib.hid (HS9.out.to_ hBx)
    have HT10 := Lib.hid (HT9.out.to_ hBx)
    have HD10 := Lib.hid (HD9.out.to_ hBx)
    have hB10 := below_next hB9 hBx rfl rfl
    generalize grow (redrawn w9 dq) osq = w10 at *
    clear hBx HS9 HT9 HD9 HSr HTr hB9
    have HL := Lib.hid (diffOf_law TS.out TT.out hcc hS8 hT8)
    have hbn : Below w10.heap.size w10 (w10.alloc (.cells #[] 53)) := (Below.refl _ _).alloc (Nat.le_refl _) _
    have HS11 := Lib.hid (HS10.out.to_ hbn)
    have HT11 := Lib.hid (HT10.out.to_ hbn)
    have HD11 := Lib.hid (HD10.out.to_ hbn)
    have hB11 := below_next hB10 hbn rfl rfl
    clear hbn HS10 HT10 HD10 hB10
    go_wp2_with fail
    refine (v_diffOf (a := []) _ ⟨_, _, rfl, .inl rfl⟩ HS11.out ⟨by simp, fun r hr => by simp at hr⟩ LS.out).mono ?_
    rintro e w12 ⟨v12, rfl, hv12, hb12⟩
    have HA12 := Lib.hid hv12
    have hB12 := below_next hB11 hb12 rfl rfl
    have HT12 := Lib.hid (HT11.out.to_ hb12)
    have HD12 := Lib.hid (HD11.out.to_ hb12)
    clear hv12 hb12 HS11 HT11 HD11 hB11
    go_wp2_with fail
    refine (v_add _ HA12.out HD12.out (lens_ok (diffOfD_ok _ _)) (lens_ok (diffOfD_ok _ _))).mono ?_
    rintro e w13 ⟨v13, rfl, hv13, hb13⟩
    have HS13 := Lib.hid hv13
    have hB13 := below_next hB12 hb13 rfl rfl
    have HT13 := Lib.hid (HT12.out.to_ hb13)
    clear hv13 hb13 HT12 HD12 HA12 hB12
    go_wp2_with fail
    refine (v_distinct _ HS13.out (lens_ok (addDD_ok _ _))).mono ?_
    rintro e w14 ⟨v14, rfl, hv14, hb14⟩
    rw [HL.out] at hv14
    have HT14 := Lib.hid hv14
    have hB14 := below_next hB13 hb14 rfl rfl
    have HT14a := Lib.hid (HT13.out.to_ hb14)
    clear hv14 hb14 HT13 HS13 hB13
    go_wp2_with fail
    refine (v_sameT _ HT14.out HT14a.out LT.out).mono ?_
    rintro e w15 ⟨rfl, hb15⟩
    have hB15 := below_next hB14 hb15 rfl rfl
    go_wp2_with fail
    go_ret
    exact ⟨rfl, hB15⟩
  · have hi1 : decide (0 < S.length) = true := decide_eq_true (by omega)
    have hj1 : (0 : Int) < (S.length : Int) := by omega
    by_cases hy0 : T.length = 0
    · have hi2 : decide (0 < T.length) = false := decide_eq_false (by omega)
      have hj2 : ¬ (0 : Int) < (T.length : Int) := by omega
      have hcc : compatB (ofL S 1) (ofL T 1) = true := by rw [compat_of]; simp [hy0]
      clear hz0 hy0
      refine wp_region_quiet_below (by kernel_rfl) (by kernel_rfl) ?_
      repeat (go_big_quiet_step (first
        | (go_at_call 43; (with_reducible show Calls _ _ #[.slice A2 S.length c2] _ _); exact Calls.regrown_of (tab_isb A2 c2 S _ TS.out (HSr.out.tab.to_ (below_regrown w9 _ _)) LS.out))
        | (go_at_call 43; (with_reducible show Calls _ _ #[.slice B2 T.length d2] _ _); exact Calls.regrown_of (tab_isb B2 d2 T _ TT.out (HTr.out.tab.to_ (below_regrown w9 _ _)) LT.out))))
      refine wpQuiet_nil ?_
      intro _ hw'
      obtain ⟨⟨dq, osq⟩, hw''⟩ := hw'
      subst hw''
      have hBx := below_regrown w9 dq osq
      have HS10 := Lib.hid (HS9.out.to_ hBx)
      have HT10 := Lib.hid (HT9.out.to_ hBx)
      have HD10 := Lib.hid (HD9.out.to_ hBx)
      have hB10 := below_next hB9 hBx rfl rfl
      generalize grow (redrawn w9 dq) osq = w10 at *
      clear hBx HS9 HT9 HD9 HSr HTr hB9
      have HL := Lib.hid (diffOf_law TS.out TT.out hcc hS8 hT8)
      have hbn : Below w10.heap.size w10 (w10.alloc (.cells #[] 53)) := (Below.refl _ _).alloc (Nat.le_refl _) _
      have HS11 := Lib.hid (HS10.out.to_ hbn)
      have HT11 := Lib.hid (HT10.out.to_ hbn)
      have HD11 := Lib.hid (HD10.out.to_ hbn)
      have hB11 := below_next hB10 hbn rfl rfl
      clear hbn HS10 HT10 HD10 hB10
      go_wp2_with fail
      refine (v_diffOf (a := []) _ ⟨_, _, rfl, .inl rfl⟩ HS11.out ⟨by simp, fun r hr => by simp at hr⟩ LS.out).mono ?_
      rintro e w12 ⟨v12, rfl, hv12, hb12⟩
      have HA12 := Lib.hid hv12
      have hB12 := below_next hB11 hb12 rfl rfl
      have HT12 := Lib.hid (HT11.out.to_ hb12)
      have HD12 := Lib.hid (HD11.out.to_ hb12)
      clear hv12 hb12 HS11 HT11 HD11 hB11
      go_wp2_with fail
      refine (v_add _ HA12.out HD12.out (lens_ok (diffOfD_ok _ _)) (lens_ok (diffOfD_ok _ _))).mono ?_
      rintro e w13 ⟨v13, rfl, hv13, hb13⟩
      have HS13 := Lib.hid hv13
      have hB13 := below_next hB12 hb13 rfl rfl
      have HT13 := Lib.hid (HT12.out.to_ hb13)
      clear hv13 hb13 HT12 HD12 HA12 hB12
      go_wp2_with fail
      refine (v_distinct _ HS13.out (lens_ok (addDD_ok _ _))).mono ?_
      rintro e w14 ⟨v14, rfl, hv14, hb14⟩
      rw [HL.out] at hv14
      have HT14 := Lib.hid hv14
      have hB14 := below_next hB13 hb14 rfl rfl
      have HT14a := Lib.hid (HT13.out.to_ hb14)
      clear hv14 hb14 HT13 HS13 hB13
      go_wp2_with fail
      refine (v_sameT _ HT14.out HT14a.out LT.out).mono ?_
      rintro e w15 ⟨rfl, hb15⟩
      have hB15 := below_next hB14 hb15 rfl rfl
      go_wp2_with fail
      go_ret
      exact ⟨rfl, hB15⟩
    · have hi2 : decide (0 < T.length) = true := decide_eq_true (by omega)
      have hj2 : (0 : Int) < (T.length : Int) := by omega
      obtain ⟨g, o, A5, c5, rfl, hc5⟩ := first_tab HSr.out (by omega)
      obtain ⟨g', o', B5, d5, rfl, hd5⟩ := first_tab HTr.out (by omega)
      have q0 := cell_regrown hc5
      have q1 := cell_regrown hd5
      by_cases hw : wid S = wid T
      · have hwb : ((wid S : Int) != (wid T : Int)) = false := by simp [hw]
        have HCC := Lib.hid (show compatB (ofL S 1) (ofL T 1) = true by rw [compat_of]; simp [hw])
        clear hz0 hy0 hw hc5 hd5
        refine wp_region_quiet_below (by kernel_rfl) (by kernel_rfl) ?_
        repeat (go_big_quiet_step (first
          | (go_at_call 43; (with_reducible show Calls _ _ #[.slice (some ⟨g, o, none⟩) S.length c2] _ _); exact Calls.regrown_of (tab_isb (some ⟨g, o, none⟩) c2 S _ TS.out (HSr.out.tab.to_ (below_regrown w9 _ _)) LS.out))
          | (go_at_call 43; (with_reducible show Calls _ _ #[.slice (some ⟨g', o', none⟩) T.length d2] _ _); exact Calls.regrown_of (tab_isb (some ⟨g', o', none⟩) d2 T _ TT.out (HTr.out.tab.to_ (below_regrown w9 _ _)) LT.out))))
        refine wpQuiet_nil ?_
        intro _ hw'
        obtain ⟨⟨dq, osq⟩, hw''⟩ := hw'
        subst hw''
        have hBx := below_regrown w9 dq osq
        have HS10 := Lib.hid (HS9.out.to_ hBx)
        have HT10 := Lib.hid (HT9.out.to_ hBx)
        have HD10 := Lib.hid (HD9.out.to_ hBx)
        have hB10 := below_next hB9 hBx rfl rfl
        generalize grow (redrawn w9 dq) osq = w10 at *
        clear hBx HS9 HT9 HD9 HSr HTr hB9 q0 q1
        have HL := Lib.hid (diffOf_law TS.out TT.out HCC.out hS8 hT8)
        have hbn : Below w10.heap.size w10 (w10.alloc (.cells #[] 53)) := (Below.refl _ _).alloc (Nat.le_refl _) _
        have HS11 := Lib.hid (HS10.out.to_ hbn)
        have HT11 := Lib.hid (HT10.out.to_ hbn)
        have HD11 := Lib.hid (HD10.out.to_ hbn)
        have hB11 := below_next hB10 hbn rfl rfl
        clear hbn HS10 HT10 HD10 hB10
        go_wp2_with fail
        refine (v_diffOf (a := []) _ ⟨_, _, rfl, .inl rfl⟩ HS11.out ⟨by simp, fun r hr => by simp at hr⟩ LS.out).mono ?_
        rintro e w12 ⟨v12, rfl, hv12, hb12⟩
        have HA12 := Lib.hid hv12
        have hB12 := below_next hB11 hb12 rfl rfl
        have HT12 := Lib.hid (HT11.out.to_ hb12)
        have HD12 := Lib.hid (HD11.out.to_ hb12)
        clear hv12 hb12 HS11 HT11 HD11 hB11
        go_wp2_with fail
        refine (v_add _ HA12.out HD12.out (lens_ok (diffOfD_ok _ _)) (lens_ok (diffOfD_ok _ _))).mono ?_
        rintro e w13 ⟨v13, rfl, hv13, hb13⟩
        have HS13 := Lib.hid hv13
        have hB13 := below_next hB12 hb13 rfl rfl
        have HT13 := Lib.hid (HT12.out.to_ hb13)
        clear hv13 hb13 HT12 HD12 HA12 hB12
        go_wp2_with fail
        refine (v_distinct _ HS13.out (lens_ok (addDD_ok _ _))).mono ?_
        rintro e w14 ⟨v14, rfl, hv14, hb14⟩
        rw [HL.out] at hv14
        have HT14 := Lib.hid hv14
        have hB14 := below_next hB13 hb14 rfl rfl
        have HT14a := Lib.hid (HT13.out.to_ hb14)
        clear hv14 hb14 HT13 HS13 hB13
        go_wp2_with fail
        refine (v_sameT _ HT14.out HT14a.out LT.out).mono ?_
        rintro e w15 ⟨rfl, hb15⟩
        have hB15 := below_next hB14 hb15 rfl rfl
        go_wp2_with fail
        go_ret
        exact ⟨rfl, hB15⟩
      · have hwb : ((wid S : Int) != (wid T : Int)) = true := by simp; omega
        have hno := Lib.hid (diffOfD_no (old := S) (fresh := T) (by rw [compat_of]; simp [hz0, hy0, hw]))
        clear hz0 hy0 hw hc5 hd5
        refine wp_region_quiet_below (by kernel_rfl) (by kernel_rfl) ?_
        repeat (go_big_quiet_step (first
          | (go_at_call 43; (with_reducible show Calls _ _ #[.slice (some ⟨g, o, none⟩) S.length c2] _ _); exact Calls.regrown_of (tab_isb (some ⟨g, o, none⟩) c2 S _ TS.out (HSr.out.tab.to_ (below_regrown w9 _ _)) LS.out))
          | (go_at_call 43; (with_reducible show Calls _ _ #[.slice (some ⟨g', o', none⟩) T.length d2] _ _); exact Calls.regrown_of (tab_isb (some ⟨g', o', none⟩) d2 T _ TT.out (HTr.out.tab.to_ (below_regrown w9 _ _)) LT.out))))
        refine wpQuiet_nil ?_
        intro _ hw'
        obtain ⟨⟨dq, osq⟩, hw''⟩ := hw'
        subst hw''
        have hBx := below_regrown w9 dq osq
        have HS10 := Lib.hid (HS9.out.to_ hBx)
        have HT10 := Lib.hid (HT9.out.to_ hBx)
        have HD10 := Lib.hid (HD9.out.to_ hBx)
        have hB10 := below_next hB9 hBx rfl rfl
        generalize grow (redrawn w9 dq) osq = w10 at *
        clear hBx HS9 HT9 HD9 HSr HTr hB9 q0 q1
        have hvn := HD10.out
        rw [hno.out] at hvn
        obtain ⟨A11, c11, rfl, _⟩ := hvn
        go_wp2_with fail
        go_ret
        exact ⟨rfl, hB10⟩
theorem walk (A : Option Addr) (l c : Nat) (xs : List UInt8) (w : World) (ft : FitB w A l xs) :
    Calls Try.prog 10 #[.slice A l c] w fun e w' => e = .returned (.bool true) ∧ Below w.heap.size w w' := by
  obtain ⟨rfl, hx⟩ := ft
  by_cases h1 : xs.length ≤ 1048576
  · exact main A c xs w hx h1
  · go_enter Try.func10, Try.ntmps10
    go_wp2_with fail
    refine (big_at A xs.length c true _ (by simp; omega)).mono ?_
    rintro e w0 ⟨rfl, rfl⟩
    go_wp2_with fail
    go_ret
    exact ⟨rfl, Below.refl _ _⟩
end Go.Proofs.Ytggkggaihfcjmaa.diffSums
namespace Go.Proofs.Ytggkggaihfcjmaa.diffSums
open Go.ChangeShapes Go.WideShapes Go.ChangeAt Go.RowKit Go.Joins
set_option linter.unusedVariables false

set_option maxRecDepth 100000 in
theorem lifted (os : Os) (started : os.Started) (H : Type) (enc : TypeId × Value → H) :
    ReturnsInHanded {} Try.checked os 10 .any (Rows.fnDiffSumsSpec.pre6 enc Try.prog Try.f10 Rows.fnDiffSumsRow.domain false) (Rows.fnDiffSumsSpec.post enc Try.prog Try.f10 false true false false) := by
  refine returnsInHanded_of_change (C := Try.checked) own started (by kernel_rfl) Try.func10
    (ChangeSpec.witness6 (enc := enc) (C := Try.checked) false ⟨#[], #[.slice none 0 0], []⟩ 8 (by kernel_rfl) (by kernel_rfl) (by kernel_rfl) (by kernel_rfl)) ?_
  intro W base args ds gs before hval0 hW hcnd _
  have hval : ∀ (j : Nat) t v, Try.f10.params[j]? = some t → args[j]? = some v → Value.okWide Try.prog W .any base t v := hval0
  have hW' := hW
  obtain ⟨p, q, hA0, hV, rfl, hfz, hnd⟩ := hW
  have hA : DataW.TrodAll enc Try.prog W 0 (fun _ => true) true Try.f10.params.toList args.toList ds p := hA0
  rw [Try.params10] at hA hval
  obtain ⟨v0, vs0, d0, ds0, p0, q0, hargs, rfl, rfl, h0, r0⟩ := trodAll_cons hA
  obtain ⟨rfl, rfl, rfl⟩ := trodAll_nil r0
  obtain rfl : args = #[v0] := by cases args; simp_all
  obtain ⟨rfl, rfl⟩ := trodVars_none hV
  have z0 := h0
  have lt0 : ∀ x ∈ p0, x.block < W.heap.size := by obtain ⟨m, hm⟩ := z0; exact DataW.trod_lt m _ _ _ hm
  obtain ⟨a0, l0, c0, xs0, rfl, fit0⟩ := open_bytes (hval 0 46 v0 rfl rfl) h0
  clear hA0 hval0
  refine (walk a0 l0 c0 xs0 W fit0).mono fun e W' ⟨he, bel⟩ => ?_
  subst he
  exact ⟨_, rfl, _, _, _, [], _, [], hW', trodAll_mk1 (shut_bool Try.underlying4 _), (trodAll_cons_mk (Below.trod laidOut (by kernel_rfl) (of_decide_eq_true (by kernel_rfl)) z0 bel lt0) trodAll_mk0), rfl, bel.frame _, fun h => by cases h⟩

theorem over : Rows.fnDiffSumsRow.holds Try.pinned (OpenSpec.ofChange Rows.fnDiffSumsSpec) :=
  OpenClaim.holds_of_wide 10 Try.f10 rfl rfl rfl rfl rfl rfl rfl ⟨rfl, rfl, rfl, rfl, rfl⟩ rfl rfl rfl rfl rfl (by kernel_rfl) Try.func10 (by kernel_rfl)
    (of_decide_eq_true (by kernel_rfl)) (by unfold Func.isWrapper; first | (rw [if_pos (by decide +kernel)]; kernel_rfl) | (rw [if_neg (by decide +kernel)]; exact ⟨rfl, rfl⟩))
    (fun os started H enc _ => lifted os started H enc)

theorem proved : Rows.FnDiffSumsSaid := over
end Go.Proofs.Ytggkggaihfcjmaa.diffSums
