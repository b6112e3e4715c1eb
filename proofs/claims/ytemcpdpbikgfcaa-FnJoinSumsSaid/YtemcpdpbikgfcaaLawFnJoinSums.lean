/-
  For every two slices of bytes, laws.FnJoinSums returns true and leaves its arguments as they were. No condition.
-/
import Derived.Test.YtemcpdpbikgfcaaOpenBZ
import Derived.Test.YtemcpdpbikgfcaaRows
namespace Go.Proofs.Ytemcpdpbikgfcaa.joinSums
open Go.RowKit Go.Sort
set_option linter.unusedVariables false

theorem bat_to {w w' : World} {A : Option Addr} {xs : List UInt8} (h : BAt w w.heap.size A xs) (hb : Below w.heap.size w w') : BAt w' w'.heap.size A xs := by
  have h2 := h.below hb (Nat.le_refl _)
  rcases h2 with h2 | ⟨g, o, e, hg, hc⟩
  · exact .inl h2
  · exact .inr ⟨g, o, e, Nat.lt_of_lt_of_le hg hb.size, hc⟩
theorem dv_of {w : World} {A : Option Addr} {n c : Nat} {zs : List GDiff} (h : DV w (.slice A n c) zs) : n = zs.length ∧ DiffsAt w 0 w.heap.size A zs := by
  obtain ⟨A', c', e, hd⟩ := h
  cases e
  exact ⟨rfl, hd⟩
theorem cols_at (w : World) : IV (w.alloc (.cells #[.int .i64 0, .int .i64 0] 2)) (.slice (some ⟨w.heap.size, 0, none⟩) 2 2) [0, 0] := by
  have h := Whole.new w 2 [.int .i64 0, .int .i64 0]
  refine ⟨_, 2, rfl, .inr ⟨w.heap.size, 0, rfl, Nat.zero_le _, by simp, fun i x hx => ?_⟩⟩
  have hi : i < 2 := (List.getElem?_eq_some_iff.1 hx).1
  match i, hi with
  | 0, _ => simp at hx; subst hx; exact h.cell 0
  | 1, _ => simp at hx; subst hx; exact h.cell 1
theorem wid_of {a : List GDiff} (h : 0 < a.length) : widD a = a[0].row.length := by
  cases a with
  | nil => simp at h
  | cons z a => rfl
set_option maxRecDepth 100000 in
set_option maxHeartbeats 16000000 in
theorem main (A X : Option Addr) (c d : Nat) (xs ms : List UInt8) (w : World) (hx : BAt w w.heap.size A xs) (hm : BAt w w.heap.size X ms) (hl : xs.length ≤ 1048576) (hl2 : ms.length ≤ 1048576) :
    Calls Try.prog 9 #[.slice A xs.length c, .slice X ms.length d] w fun e w' => e = .returned (.bool true) ∧ Below w.heap.size w w' := by
  go_enter Try.func9, Try.ntmps9
  go_wp2_with fail
  refine (big_at A xs.length c false _ (by simp; omega)).mono ?_
  rintro e w0 ⟨rfl, rfl⟩
  go_wp2_with fail
  refine (big_at X ms.length d false _ (by simp; omega)).mono ?_
  rintro e w0 ⟨rfl, rfl⟩
  go_wp2_with fail
  refine (draw_AddDiffs A c xs _ hx hl).mono ?_
  rintro e w1 ⟨A1, c1, zs, B1, d1, ys, rfl, hz, hy, dz, dy, hb1⟩
  have HZ := Lib.hid (show DV w1 (.slice A1 zs.length c1) zs from ⟨A1, c1, rfl, hz⟩)
  have HY := Lib.hid (show DV w1 (.slice B1 ys.length d1) ys from ⟨B1, d1, rfl, hy⟩)
  have DZ := Lib.hid dz
  have DY := Lib.hid dy
  clear hz hy dz dy
  go_wp2_with fail
  refine (draw_AddDiffs X d ms _ (bat_to hm hb1) hl2).mono ?_
  rintro e w2 ⟨C1, e1, us, E1, f1, ts, rfl, hu, _, du, _, hb2⟩
  have hB2 := below_next hb1 hb2 rfl rfl
  have HU := Lib.hid (show DV w2 (.slice C1 us.length e1) us from ⟨C1, e1, rfl, hu⟩)
  have DU := Lib.hid du
  have HZ2 := Lib.hid (HZ.out.to_ hb2)
  have HY2 := Lib.hid (HY.out.to_ hb2)
  clear hu du HZ HY hx hm hb1 hb2
  have LZ := Lib.hid (lens_drawn DZ.out)
  have LY := Lib.hid (lens_drawn DY.out)
  have LU := Lib.hid (lens_drawn DU.out)
  have hO := one_at w2
  have HO := Lib.hid hO
  clear hO
  have hba : Below w2.heap.size w2 ((w2.alloc (.cells #[.int .i64 1, .int .i64 0, .string ByteArray.empty] 52)).alloc (.cells #[.slice (some ⟨w2.heap.size, 0, none⟩) 1 1, .int .i64 1] 55)) := ((Below.refl _ _).alloc (Nat.le_refl _) _).alloc (by simp) _
  have hB3 := below_next hB2 hba rfl rfl
  have HZ3 := Lib.hid (HZ2.out.to_ hba)
  have HY3 := Lib.hid (HY2.out.to_ hba)
  have HU3 := Lib.hid (HU.out.to_ hba)
  clear hba HZ2 HY2 HU hB2
  go_wp2_with fail
  refine (v_join 1 (by decide) _ HO.out HO.out one_lens one_lens).mono ?_
  rintro e w4 ⟨v4, rfl, ⟨A4, c4, rfl, _⟩, hb4⟩
  rw [one_join]
  have hB4 := below_next hB3 hb4 rfl rfl
  have HZ4 := Lib.hid (HZ3.out.to_ hb4)
  have HY4 := Lib.hid (HY3.out.to_ hb4)
  have HU4 := Lib.hid (HU3.out.to_ hb4)
  clear hB3 hb4 HZ3 HY3 HU3 HO
  go_wp2_with fail
  have HZr := Lib.hid (dv_of HZ4.out).2
  have HYr := Lib.hid (dv_of HY4.out).2
  have HUr := Lib.hid (dv_of HU4.out).2
  cases hkz : smallB zs with
  | false =>
    refine wp_region_quiet_below (by kernel_rfl) (by kernel_rfl) ?_
    repeat (go_big_quiet_step (first
      | (go_at_call 36; (with_reducible show Calls _ _ #[.slice A1 zs.length c1] _ _); exact Calls.regrown_of (small_isb false A1 c1 zs _ hkz (HZr.out.to_ (below_regrown w4 _ _)) LZ.out.1 (lens_max LZ.out)))))
    refine wpQuiet_nil ?_
    intro _ hw'
    obtain ⟨⟨dq, osq⟩, hw''⟩ := hw'
    subst hw''
    have hBx := below_regrown w4 dq osq
    have hB5 := below_next hB4 hBx rfl rfl
    generalize grow (redrawn w4 dq) osq = w5 at *
    clear hBx HZ4 HY4 HU4 HZr HYr HUr hB4
    go_wp2_with fail
    go_ret
    exact ⟨rfl, hB5⟩
  | true =>
    cases hky : smallB ys with
    | false =>
      refine wp_region_quiet_below (by kernel_rfl) (by kernel_rfl) ?_
      repeat (go_big_quiet_step (first
        | (go_at_call 36; (with_reducible show Calls _ _ #[.slice A1 zs.length c1] _ _); exact Calls.regrown_of (small_isb true A1 c1 zs _ hkz (HZr.out.to_ (below_regrown w4 _ _)) LZ.out.1 (lens_max LZ.out)))
        | (go_at_call 36; (with_reducible show Calls _ _ #[.slice B1 ys.length d1] _ _); exact Calls.regrown_of (small_isb false B1 d1 ys _ hky (HYr.out.to_ (below_regrown w4 _ _)) LY.out.1 (lens_max LY.out)))))
      refine wpQuiet_nil ?_
      intro _ hw'
      obtain ⟨⟨dq, osq⟩, hw''⟩ := hw'
      subst hw''
      have hBx := below_regrown w4 dq osq
      have hB5 := below_next hB4 hBx rfl rfl
      generalize grow (redrawn w4 dq) osq = w5 at *
      clear hBx HZ4 HY4 HU4 HZr HYr HUr hB4
      go_wp2_with fail
      go_ret
      exact ⟨rfl, hB5⟩
    | true =>
      cases hku : smallB us with
      | false =>
        refine wp_region_quiet_below (by kernel_rfl) (by kernel_rfl) ?_
        repeat (go_big_quiet_step (first
          | (go_at_call 36; (with_reducible show Calls _ _ #[.slice A1 zs.length c1] _ _); exact Calls.regrown_of (small_isb true A1 c1 zs _ hkz (HZr.out.to_ (below_regrown w4 _ _)) LZ.out.1 (lens_max LZ.out)))
          | (go_at_call 36; (with_reducible show Calls _ _ #[.slice B1 ys.length d1] _ _); exact Calls.regrown_of (small_isb true B1 d1 ys _ hky (HYr.out.to_ (below_regrown w4 _ _)) LY.out.1 (lens_max LY.out)))
          | (go_at_call 36; (with_reducible show Calls _ _ #[.slice C1 us.length e1] _ _); exact Calls.regrown_of (small_isb false C1 e1 us _ hku (HUr.out.to_ (below_regrown w4 _ _)) LU.out.1 (lens_max LU.out)))))
        refine wpQuiet_nil ?_
        intro _ hw'
        obtain ⟨⟨dq, osq⟩, hw''⟩ := hw'
        subst hw''
        have hBx := below_regrown w4 dq osq
        have hB5 := below_next hB4 hBx rfl rfl
        generalize grow (redrawn w4 dq) osq = w5 at *
        clear hBx HZ4 HY4 HU4 HZr HYr HUr hB4
        go_wp2_with fail
        go_ret
        exact ⟨rfl, hB5⟩
      | true =>
        by_cases hzs0 : zs.length = 0
        · skip
          have qz1 : ((zs.length : Int) == 0) = true := by simp [hzs0]
          have qz2 : (zs.length == 0) = true := by simp [hzs0]
          have qz3 : decide (zs.length = 0) = true := by simp [hzs0]
          clear hzs0
          refine wp_region_quiet_below (by kernel_rfl) (by kernel_rfl) ?_
          repeat (go_big_quiet_step (first
            | (go_at_call 36; (with_reducible show Calls _ _ #[.slice A1 zs.length c1] _ _); exact Calls.regrown_of (small_isb true A1 c1 zs _ hkz (HZr.out.to_ (below_regrown w4 _ _)) LZ.out.1 (lens_max LZ.out)))
            | (go_at_call 36; (with_reducible show Calls _ _ #[.slice B1 ys.length d1] _ _); exact Calls.regrown_of (small_isb true B1 d1 ys _ hky (HYr.out.to_ (below_regrown w4 _ _)) LY.out.1 (lens_max LY.out)))
            | (go_at_call 36; (with_reducible show Calls _ _ #[.slice C1 us.length e1] _ _); exact Calls.regrown_of (small_isb true C1 e1 us _ hku (HUr.out.to_ (below_regrown w4 _ _)) LU.out.1 (lens_max LU.out)))))
          refine wpQuiet_nil ?_
          intro _ hw'
          obtain ⟨⟨dq, osq⟩, hw''⟩ := hw'
          subst hw''
          have hBx := below_regrown w4 dq osq
          have hB5 := below_next hB4 hBx rfl rfl
          generalize grow (redrawn w4 dq) osq = w5 at *
          clear hBx HZ4 HY4 HU4 HZr HYr HUr hB4
          go_wp2_with fail
          go_ret
          exact ⟨rfl, hB5⟩
        · skip
          have qz1 : ((zs.length : Int) == 0) = false := beq_eq_false_iff_ne.2 (by omega)
          have qz2 : (zs.length == 0) = false := beq_eq_false_iff_ne.2 hzs0
          have qz3 : decide (zs.length = 0) = false := decide_eq_false hzs0
          by_cases hys0 : ys.length = 0
          · skip
            have qy1 : ((ys.length : Int) == 0) = true := by simp [hys0]
            have qy2 : (ys.length == 0) = true := by simp [hys0]
            have qy3 : decide (ys.length = 0) = true := by simp [hys0]
            clear hys0
            refine wp_region_quiet_below (by kernel_rfl) (by kernel_rfl) ?_
            repeat (go_big_quiet_step (first
              | (go_at_call 36; (with_reducible show Calls _ _ #[.slice A1 zs.length c1] _ _); exact Calls.regrown_of (small_isb true A1 c1 zs _ hkz (HZr.out.to_ (below_regrown w4 _ _)) LZ.out.1 (lens_max LZ.out)))
              | (go_at_call 36; (with_reducible show Calls _ _ #[.slice B1 ys.length d1] _ _); exact Calls.regrown_of (small_isb true B1 d1 ys _ hky (HYr.out.to_ (below_regrown w4 _ _)) LY.out.1 (lens_max LY.out)))
              | (go_at_call 36; (with_reducible show Calls _ _ #[.slice C1 us.length e1] _ _); exact Calls.regrown_of (small_isb true C1 e1 us _ hku (HUr.out.to_ (below_regrown w4 _ _)) LU.out.1 (lens_max LU.out)))))
            refine wpQuiet_nil ?_
            intro _ hw'
            obtain ⟨⟨dq, osq⟩, hw''⟩ := hw'
            subst hw''
            have hBx := below_regrown w4 dq osq
            have hB5 := below_next hB4 hBx rfl rfl
            generalize grow (redrawn w4 dq) osq = w5 at *
            clear hBx HZ4 HY4 HU4 HZr HYr HUr hB4
            go_wp2_with fail
            go_ret
            exact ⟨rfl, hB5⟩
          · skip
            have qy1 : ((ys.length : Int) == 0) = false := beq_eq_false_iff_ne.2 (by omega)
            have qy2 : (ys.length == 0) = false := beq_eq_false_iff_ne.2 hys0
            have qy3 : decide (ys.length = 0) = false := decide_eq_false hys0
            by_cases hus0 : us.length = 0
            · skip
              have qu1 : ((us.length : Int) == 0) = true := by simp [hus0]
              have qu2 : (us.length == 0) = true := by simp [hus0]
              have qu3 : decide (us.length = 0) = true := by simp [hus0]
              clear hus0
              refine wp_region_quiet_below (by kernel_rfl) (by kernel_rfl) ?_
              repeat (go_big_quiet_step (first
                | (go_at_call 36; (with_reducible show Calls _ _ #[.slice A1 zs.length c1] _ _); exact Calls.regrown_of (small_isb true A1 c1 zs _ hkz (HZr.out.to_ (below_regrown w4 _ _)) LZ.out.1 (lens_max LZ.out)))
                | (go_at_call 36; (with_reducible show Calls _ _ #[.slice B1 ys.length d1] _ _); exact Calls.regrown_of (small_isb true B1 d1 ys _ hky (HYr.out.to_ (below_regrown w4 _ _)) LY.out.1 (lens_max LY.out)))
                | (go_at_call 36; (with_reducible show Calls _ _ #[.slice C1 us.length e1] _ _); exact Calls.regrown_of (small_isb true C1 e1 us _ hku (HUr.out.to_ (below_regrown w4 _ _)) LU.out.1 (lens_max LU.out)))))
              refine wpQuiet_nil ?_
              intro _ hw'
              obtain ⟨⟨dq, osq⟩, hw''⟩ := hw'
              subst hw''
              have hBx := below_regrown w4 dq osq
              have hB5 := below_next hB4 hBx rfl rfl
              generalize grow (redrawn w4 dq) osq = w5 at *
              clear hBx HZ4 HY4 HU4 HZr HYr HUr hB4
              go_wp2_with fail
              go_ret
              exact ⟨rfl, hB5⟩
            · skip
              have qu1 : ((us.length : Int) == 0) = false := beq_eq_false_iff_ne.2 (by omega)
              have qu2 : (us.length == 0) = false := beq_eq_false_iff_ne.2 hus0
              have qu3 : decide (us.length = 0) = false := decide_eq_false hus0
              have hzp : 0 < zs.length := by omega
              have hyp : 0 < ys.length := by omega
              obtain ⟨g1, o1, rfl, x1, x2, ⟨R1, k1, ⟨hc1, x3⟩, x4⟩, x5⟩ := HZr.out.at_ (i := 0) hzp
              obtain ⟨g2, o2, rfl, y1, y2, ⟨R2, k2, ⟨hc2, y3⟩, y4⟩, y5⟩ := HYr.out.at_ (i := 0) hyp
              clear x1 x2 x3 x4 x5 y1 y2 y3 y4 y5
              simp only [Nat.zero_mul, Nat.add_zero] at hc1 hc2
              have r1 := cell_regrown hc1
              have r2 := cell_regrown hc2
              have hz0i : (0 : Int) < (zs.length : Int) := by omega
              have hy0i : (0 : Int) < (ys.length : Int) := by omega
              have HWZ := Lib.hid (wid_of (a := zs) hzp)
              have HWY := Lib.hid (wid_of (a := ys) hyp)
              have HNZ := Lib.hid (show zs ≠ [] from fun e => hzs0 (by rw [e]; rfl))
              have HNY := Lib.hid (show ys ≠ [] from fun e => hys0 (by rw [e]; rfl))
              clear hzs0 hys0 hus0
              have HWE := Lib.hid (show (zs[0].row.length = ys[0].row.length) → widD zs = widD ys from fun h => by rw [HWZ.out, HWY.out, h])
              generalize zs[0].row.length = m1 at *
              generalize ys[0].row.length = m2 at *
              by_cases hmm : m1 = m2
              · skip
                have hw := Lib.hid (HWE.out hmm)
                subst hmm
                have hmb : ((m1 : Int) != (m1 : Int)) = false := by simp
                refine wp_region_quiet_below (by kernel_rfl) (by kernel_rfl) ?_
                repeat (go_big_quiet_step (first
                  | (go_at_call 36; (with_reducible show Calls _ _ #[.slice (some ⟨g1, o1, none⟩) zs.length c1] _ _); exact Calls.regrown_of (small_isb true (some ⟨g1, o1, none⟩) c1 zs _ hkz (HZr.out.to_ (below_regrown w4 _ _)) LZ.out.1 (lens_max LZ.out)))
                  | (go_at_call 36; (with_reducible show Calls _ _ #[.slice (some ⟨g2, o2, none⟩) ys.length d1] _ _); exact Calls.regrown_of (small_isb true (some ⟨g2, o2, none⟩) d1 ys _ hky (HYr.out.to_ (below_regrown w4 _ _)) LY.out.1 (lens_max LY.out)))
                  | (go_at_call 36; (with_reducible show Calls _ _ #[.slice C1 us.length e1] _ _); exact Calls.regrown_of (small_isb true C1 e1 us _ hku (HUr.out.to_ (below_regrown w4 _ _)) LU.out.1 (lens_max LU.out)))))
                refine wpQuiet_nil ?_
                intro _ hw'
                obtain ⟨⟨dq, osq⟩, hw''⟩ := hw'
                subst hw''
                have hBx := below_regrown w4 dq osq
                have hB5 := below_next hB4 hBx rfl rfl
                have HZ5 := Lib.hid (HZ4.out.to_ hBx)
                have HY5 := Lib.hid (HY4.out.to_ hBx)
                have HU5 := Lib.hid (HU4.out.to_ hBx)
                generalize grow (redrawn w4 dq) osq = w5 at *
                clear hBx HZ4 HY4 HU4 HZr HYr HUr hB4 r1 r2 hc1 hc2 qz1 qz2 qz3 qy1 qy2 qy3 qu1 qu2 qu3
                have PZ := Lib.hid (small_parts hkz)
                have PY := Lib.hid (small_parts hky)
                have PU := Lib.hid (small_parts hku)
                have JL := Lib.hid (fun (n : Nat) => join_sums_l (n := n) PZ.out.1 PY.out.1 PU.out.1 hw.out DZ.out.1 DY.out.1 DU.out.1 PZ.out.2 PY.out.2 PU.out.2)
                have JR := Lib.hid (fun (n : Nat) => join_sums_r (n := n) PZ.out.1 PY.out.1 PU.out.1 hw.out DZ.out.1 DY.out.1 DU.out.1 PZ.out.2 PY.out.2 PU.out.2)
                have JP := Lib.hid (proj_sums (cols := [0, 0]) (by decide) PZ.out.1 PY.out.1 hw.out HNZ.out HNY.out DZ.out.1 DY.out.1 PZ.out.2 PY.out.2)
                clear hkz hky hku hz0i hy0i HWZ HWY HWE HNZ HNY PZ PY PU hmb
                generalize hvz : (Value.slice (some ⟨g1, o1, none⟩) zs.length c1) = vz at *
                generalize hvy : (Value.slice (some ⟨g2, o2, none⟩) ys.length d1) = vy at *
                generalize hvu : (Value.slice C1 us.length e1) = vu at *
                clear hvz hvy hvu
                go_wp2_with fail
                refine (v_add _ HZ5.out HY5.out LZ.out LY.out).mono ?_
                rintro e w6 ⟨vs, rfl, hvs, hb6⟩
                have hB6 := below_next hB5 hb6 rfl rfl
                have HZ6 := Lib.hid (HZ5.out.to_ hb6)
                have HY6 := Lib.hid (HY5.out.to_ hb6)
                have HU6 := Lib.hid (HU5.out.to_ hb6)
                have HS6 := Lib.hid hvs
                have LS := Lib.hid (lens_add zs ys)
                generalize addDD zs ys = s at *
                clear hvs hb6 HZ5 HY5 HU5 hB5
                go_wp2_with fail
                go_loopw [11] (fun i w' => ∃ k : Nat, k ≤ 2 ∧ i = .int .i64 k ∧ Hid (DV w' vz zs ∧ DV w' vy ys ∧ DV w' vu us ∧ DV w' vs s) ∧ Below w.heap.size w w') (fun i _ => 2 - (intOf i).toNat)
                case atStart => exact ⟨0, Nat.zero_le _, rfl, Lib.hid ⟨HZ6.out, HY6.out, HU6.out, HS6.out⟩, hB6⟩
                case round =>
                  obtain ⟨k, hk, rfl, hD, hB⟩ := hrel
                  by_cases hlt : k < 2
                  · skip
                    have hi1 : (k : Int) < 2 := by omega
                    have hwf : (Lit.int .i64 (k : Int)).wf = true := by
                      have : k = 0 ∨ k = 1 := by omega
                      rcases this with rfl | rfl <;> decide
                    have HWF := Lib.hid hwf
                    have JLk := Lib.hid (JL.out k)
                    have JRk := Lib.hid (JR.out k)
                    have Za := Lib.hid hD.out.1
                    have Ya := Lib.hid hD.out.2.1
                    have Ua := Lib.hid hD.out.2.2.1
                    have Sa := Lib.hid hD.out.2.2.2
                    have hBa := hB
                    clear hwf hB hD
                    go_wp2_with fail
                    refine (v_join (k : Int) HWF.out _ Sa.out Ua.out LS.out LU.out).mono ?_
                    rintro e wb ⟨vb, rfl, hvb, hbb⟩
                    have hBb := below_next hBa hbb rfl rfl
                    have Zb := Lib.hid (Za.out.to_ hbb)
                    have Yb := Lib.hid (Ya.out.to_ hbb)
                    have Ub := Lib.hid (Ua.out.to_ hbb)
                    have Sb := Lib.hid (Sa.out.to_ hbb)
                    have Pb := Lib.hid hvb
                    clear hvb
                    clear hbb hBa Za Ya Ua Sa
                    obtain ⟨Ap, cp, hvp, _⟩ := Pb.out
                    rw [hvp]
                    clear hvp Pb
                    go_wp2_with fail
                    refine (v_sjoin (k : Int) HWF.out _ Sb.out Ub.out LS.out LU.out).mono ?_
                    rintro e wc ⟨vc, rfl, hvc, hbc⟩
                    have hBc := below_next hBb hbc rfl rfl
                    have Zc := Lib.hid (Zb.out.to_ hbc)
                    have Yc := Lib.hid (Yb.out.to_ hbc)
                    have Uc := Lib.hid (Ub.out.to_ hbc)
                    have Sc := Lib.hid (Sb.out.to_ hbc)
                    have Pc := Lib.hid hvc
                    clear hvc
                    clear hbc hBb Zb Yb Ub Sb
                    obtain ⟨Aq, cq, hvq, _⟩ := Pc.out
                    rw [hvq]
                    clear hvq Pc
                    have hself : ((((joinD s us (k : Int)).length : Nat) : Int) != ((joinD s us (k : Int)).length : Nat)) = false := by simp
                    generalize (joinD s us (k : Int)).length = m at *
                    go_wp2_with fail
                    clear hself
                    refine (v_join (k : Int) HWF.out _ Sc.out Uc.out LS.out LU.out).mono ?_
                    rintro e wd ⟨vd, rfl, hvd, hbd⟩
                    have hBd := below_next hBc hbd rfl rfl
                    have Zd := Lib.hid (Zc.out.to_ hbd)
                    have Yd := Lib.hid (Yc.out.to_ hbd)
                    have Ud := Lib.hid (Uc.out.to_ hbd)
                    have Sd := Lib.hid (Sc.out.to_ hbd)
                    have Pd := Lib.hid hvd
                    clear hvd
                    clear hbd hBc Zc Yc Uc Sc
                    go_wp2_with fail
                    refine (v_join (k : Int) HWF.out _ Zd.out Ud.out LZ.out LU.out).mono ?_
                    rintro e we ⟨ve, rfl, hve, hbe⟩
                    have hBe := below_next hBd hbe rfl rfl
                    have Ze := Lib.hid (Zd.out.to_ hbe)
                    have Ye := Lib.hid (Yd.out.to_ hbe)
                    have Ue := Lib.hid (Ud.out.to_ hbe)
                    have Se := Lib.hid (Sd.out.to_ hbe)
                    have Pe := Lib.hid (Pd.out.to_ hbe)
                    have Qe := Lib.hid hve
                    clear hve
                    clear hbe hBd Zd Yd Ud Sd Pd
                    go_wp2_with fail
                    refine (v_join (k : Int) HWF.out _ Ye.out Ue.out LY.out LU.out).mono ?_
                    rintro e wf ⟨vf, rfl, hvf, hbf⟩
                    have hBf := below_next hBe hbf rfl rfl
                    have Zf := Lib.hid (Ze.out.to_ hbf)
                    have Yf := Lib.hid (Ye.out.to_ hbf)
                    have Uf := Lib.hid (Ue.out.to_ hbf)
                    have Sf := Lib.hid (Se.out.to_ hbf)
                    have Pf := Lib.hid (Pe.out.to_ hbf)
                    have Qf := Lib.hid (Qe.out.to_ hbf)
                    have Rf := Lib.hid hvf
                    clear hvf
                    clear hbf hBe Ze Ye Ue Se Pe Qe
                    go_wp2_with fail
                    refine (v_add _ Qf.out Rf.out (lens_join _ _ _) (lens_join _ _ _)).mono ?_
                    rintro e wg ⟨vg, rfl, hvg, hbg⟩
                    have hBg := below_next hBf hbg rfl rfl
                    have Zg := Lib.hid (Zf.out.to_ hbg)
                    have Yg := Lib.hid (Yf.out.to_ hbg)
                    have Ug := Lib.hid (Uf.out.to_ hbg)
                    have Sg := Lib.hid (Sf.out.to_ hbg)
                    have Pg := Lib.hid (Pf.out.to_ hbg)
                    have Qg := Lib.hid (Qf.out.to_ hbg)
                    have Rg := Lib.hid (Rf.out.to_ hbg)
                    have Tg := Lib.hid hvg
                    clear hvg
                    clear hbg hBf Zf Yf Uf Sf Pf Qf Rf
                    rw [← JLk.out] at Tg
                    clear Qg Rg
                    go_wp2_with fail
                    refine (v_sameD _ Pg.out Tg.out (lens_join _ _ _)).mono ?_
                    rintro e wh ⟨rfl, hbh⟩
                    have hBh := below_next hBg hbh rfl rfl
                    have Zh := Lib.hid (Zg.out.to_ hbh)
                    have Yh := Lib.hid (Yg.out.to_ hbh)
                    have Uh := Lib.hid (Ug.out.to_ hbh)
                    have Sh := Lib.hid (Sg.out.to_ hbh)
                    have Ph := Lib.hid (Pg.out.to_ hbh)
                    have Th := Lib.hid (Tg.out.to_ hbh)
                    clear hbh hBg Zg Yg Ug Sg Pg Tg
                    clear Ph Th
                    go_wp2_with fail
                    refine (v_join (k : Int) HWF.out _ Uh.out Sh.out LU.out LS.out).mono ?_
                    rintro e wi ⟨vi, rfl, hvi, hbi⟩
                    have hBi := below_next hBh hbi rfl rfl
                    have Zi := Lib.hid (Zh.out.to_ hbi)
                    have Yi := Lib.hid (Yh.out.to_ hbi)
                    have Ui := Lib.hid (Uh.out.to_ hbi)
                    have Si := Lib.hid (Sh.out.to_ hbi)
                    have Pi := Lib.hid hvi
                    clear hvi
                    clear hbi hBh Zh Yh Uh Sh
                    go_wp2_with fail
                    refine (v_join (k : Int) HWF.out _ Ui.out Zi.out LU.out LZ.out).mono ?_
                    rintro e wj ⟨vj, rfl, hvj, hbj⟩
                    have hBj := below_next hBi hbj rfl rfl
                    have Zj := Lib.hid (Zi.out.to_ hbj)
                    have Yj := Lib.hid (Yi.out.to_ hbj)
                    have Uj := Lib.hid (Ui.out.to_ hbj)
                    have Sj := Lib.hid (Si.out.to_ hbj)
                    have Pj := Lib.hid (Pi.out.to_ hbj)
                    have Qj := Lib.hid hvj
                    clear hvj
                    clear hbj hBi Zi Yi Ui Si Pi
                    go_wp2_with fail
                    refine (v_join (k : Int) HWF.out _ Uj.out Yj.out LU.out LY.out).mono ?_
                    rintro e wk ⟨vk, rfl, hvk, hbk⟩
                    have hBk := below_next hBj hbk rfl rfl
                    have Zk := Lib.hid (Zj.out.to_ hbk)
                    have Yk := Lib.hid (Yj.out.to_ hbk)
                    have Uk := Lib.hid (Uj.out.to_ hbk)
                    have Sk := Lib.hid (Sj.out.to_ hbk)
                    have Pk := Lib.hid (Pj.out.to_ hbk)
                    have Qk := Lib.hid (Qj.out.to_ hbk)
                    have Rk := Lib.hid hvk
                    clear hvk
                    clear hbk hBj Zj Yj Uj Sj Pj Qj
                    go_wp2_with fail
                    refine (v_add _ Qk.out Rk.out (lens_join _ _ _) (lens_join _ _ _)).mono ?_
                    rintro e wl ⟨vl, rfl, hvl, hbl⟩
                    have hBl := below_next hBk hbl rfl rfl
                    have Zl := Lib.hid (Zk.out.to_ hbl)
                    have Yl := Lib.hid (Yk.out.to_ hbl)
                    have Ul := Lib.hid (Uk.out.to_ hbl)
                    have Sl := Lib.hid (Sk.out.to_ hbl)
                    have Pl := Lib.hid (Pk.out.to_ hbl)
                    have Ql := Lib.hid (Qk.out.to_ hbl)
                    have Rl := Lib.hid (Rk.out.to_ hbl)
                    have Tl := Lib.hid hvl
                    clear hvl
                    clear hbl hBk Zk Yk Uk Sk Pk Qk Rk
                    rw [← JRk.out] at Tl
                    clear Ql Rl
                    go_wp2_with fail
                    refine (v_sameD _ Pl.out Tl.out (lens_join _ _ _)).mono ?_
                    rintro e wm ⟨rfl, hbm⟩
                    have hBm := below_next hBl hbm rfl rfl
                    have Zm := Lib.hid (Zl.out.to_ hbm)
                    have Ym := Lib.hid (Yl.out.to_ hbm)
                    have Um := Lib.hid (Ul.out.to_ hbm)
                    have Sm := Lib.hid (Sl.out.to_ hbm)
                    have Pm := Lib.hid (Pl.out.to_ hbm)
                    have Tm := Lib.hid (Tl.out.to_ hbm)
                    clear hbm hBl Zl Yl Ul Sl Pl Tl
                    clear Pm Tm
                    go_wp2_with fail
                    go_roundw
                    case rel => exact ⟨k + 1, by omega, by go_num, Lib.hid ⟨Zm.out, Ym.out, Um.out, Sm.out⟩, hBm⟩
                    case measure => simp [intOf]; omega
                  · skip
                    have hi1 : ¬ (k : Int) < 2 := by omega
                    have Z0 := Lib.hid hD.out.1
                    have Y0 := Lib.hid hD.out.2.1
                    have S0 := Lib.hid hD.out.2.2.2
                    have IC0 := Lib.hid (cols_at wr)
                    have hbn : Below wr.heap.size wr (wr.alloc (.cells #[.int .i64 0, .int .i64 0] 2)) := (Below.refl _ _).alloc (Nat.le_refl _) _
                    have Za := Lib.hid (Z0.out.to_ hbn)
                    have Ya := Lib.hid (Y0.out.to_ hbn)
                    have Sa := Lib.hid (S0.out.to_ hbn)
                    have hBa := below_next hB hbn rfl rfl
                    clear hbn hB Z0 Y0 S0 hD
                    go_wp2_with fail
                    generalize hvc : (Value.slice (some ⟨wr.heap.size, 0, none⟩) 2 2) = vc at *
                    generalize wr.alloc (.cells #[.int .i64 0, .int .i64 0] 2) = wa at *
                    clear hvc
                    have Ca := Lib.hid IC0.out
                    clear IC0
                    refine (v_project _ Sa.out Ca.out LS.out (by decide)).mono ?_
                    rintro e wb ⟨vb, rfl, hvb, hbb⟩
                    have hBb := below_next hBa hbb rfl rfl
                    have Zb := Lib.hid (Za.out.to_ hbb)
                    have Yb := Lib.hid (Ya.out.to_ hbb)
                    have Sb := Lib.hid (Sa.out.to_ hbb)
                    have Cb := Lib.hid (Ca.out.to_ hbb)
                    have Pb := Lib.hid hvb
                    clear hvb
                    clear hbb hBa Za Ya Sa Ca
                    obtain ⟨Ap, cp, hvp, _⟩ := Pb.out
                    rw [hvp]
                    clear hvp Pb
                    go_wp2_with fail
                    refine (v_sproject _ Sb.out Cb.out LS.out (by decide)).mono ?_
                    rintro e wc ⟨vc, rfl, hvc, hbc⟩
                    have hBc := below_next hBb hbc rfl rfl
                    have Zc := Lib.hid (Zb.out.to_ hbc)
                    have Yc := Lib.hid (Yb.out.to_ hbc)
                    have Sc := Lib.hid (Sb.out.to_ hbc)
                    have Cc := Lib.hid (Cb.out.to_ hbc)
                    have Pc := Lib.hid hvc
                    clear hvc
                    clear hbc hBb Zb Yb Sb Cb
                    obtain ⟨Aq, cq, hvq, _⟩ := Pc.out
                    rw [hvq]
                    clear hvq Pc
                    have hself : ((((projD s [0, 0]).length : Nat) : Int) == ((projD s [0, 0]).length : Nat)) = true := by simp
                    generalize (projD s [0, 0]).length = m at *
                    go_wp2_with fail
                    refine (v_project _ Sc.out Cc.out LS.out (by decide)).mono ?_
                    rintro e wd ⟨vd, rfl, hvd, hbd⟩
                    have hBd := below_next hBc hbd rfl rfl
                    have Zd := Lib.hid (Zc.out.to_ hbd)
                    have Yd := Lib.hid (Yc.out.to_ hbd)
                    have Sd := Lib.hid (Sc.out.to_ hbd)
                    have Cd := Lib.hid (Cc.out.to_ hbd)
                    have Pd := Lib.hid hvd
                    clear hvd
                    clear hbd hBc Zc Yc Sc Cc
                    go_wp2_with fail
                    refine (v_project _ Zd.out Cd.out LZ.out (by decide)).mono ?_
                    rintro e we ⟨ve, rfl, hve, hbe⟩
                    have hBe := below_next hBd hbe rfl rfl
                    have Ze := Lib.hid (Zd.out.to_ hbe)
                    have Ye := Lib.hid (Yd.out.to_ hbe)
                    have Se := Lib.hid (Sd.out.to_ hbe)
                    have Ce := Lib.hid (Cd.out.to_ hbe)
                    have Pe := Lib.hid (Pd.out.to_ hbe)
                    have Qe := Lib.hid hve
                    clear hve
                    clear hbe hBd Zd Yd Sd Cd Pd
                    go_wp2_with fail
                    refine (v_project _ Ye.out Ce.out LY.out (by decide)).mono ?_
                    rintro e wf ⟨vf, rfl, hvf, hbf⟩
                    have hBf := below_next hBe hbf rfl rfl
                    have Zf := Lib.hid (Ze.out.to_ hbf)
                    have Yf := Lib.hid (Ye.out.to_ hbf)
                    have Sf := Lib.hid (Se.out.to_ hbf)
                    have Cf := Lib.hid (Ce.out.to_ hbf)
                    have Pf := Lib.hid (Pe.out.to_ hbf)
                    have Qf := Lib.hid (Qe.out.to_ hbf)
                    have Rf := Lib.hid hvf
                    clear hvf
                    clear hbf hBe Ze Ye Se Ce Pe Qe
                    go_wp2_with fail
                    refine (v_add _ Qf.out Rf.out (lens_proj _ _) (lens_proj _ _)).mono ?_
                    rintro e wg ⟨vg, rfl, hvg, hbg⟩
                    have hBg := below_next hBf hbg rfl rfl
                    have Zg := Lib.hid (Zf.out.to_ hbg)
                    have Yg := Lib.hid (Yf.out.to_ hbg)
                    have Sg := Lib.hid (Sf.out.to_ hbg)
                    have Cg := Lib.hid (Cf.out.to_ hbg)
                    have Pg := Lib.hid (Pf.out.to_ hbg)
                    have Qg := Lib.hid (Qf.out.to_ hbg)
                    have Rg := Lib.hid (Rf.out.to_ hbg)
                    have Tg := Lib.hid hvg
                    clear hvg
                    clear hbg hBf Zf Yf Sf Cf Pf Qf Rf
                    rw [← JP.out] at Tg
                    go_wp2_with fail
                    refine (v_sameD _ Pg.out Tg.out (lens_proj _ _)).mono ?_
                    rintro e wh ⟨rfl, hbh⟩
                    have hBh := below_next hBg hbh rfl rfl
                    have Zh := Lib.hid (Zg.out.to_ hbh)
                    have Yh := Lib.hid (Yg.out.to_ hbh)
                    have Sh := Lib.hid (Sg.out.to_ hbh)
                    have Ch := Lib.hid (Cg.out.to_ hbh)
                    have Ph := Lib.hid (Pg.out.to_ hbh)
                    have Qh := Lib.hid (Qg.out.to_ hbh)
                    have Rh := Lib.hid (Rg.out.to_ hbh)
                    have Th := Lib.hid (Tg.out.to_ hbh)
                    clear hbh hBg Zg Yg Sg Cg Pg Qg Rg Tg
                    go_wp2_with fail
                    go_ret
                    exact ⟨rfl, hBh⟩
              · skip
                have hmb : ((m1 : Int) != (m2 : Int)) = true := by simp; omega
                clear hmm
                refine wp_region_quiet_below (by kernel_rfl) (by kernel_rfl) ?_
                repeat (go_big_quiet_step (first
                  | (go_at_call 36; (with_reducible show Calls _ _ #[.slice (some ⟨g1, o1, none⟩) zs.length c1] _ _); exact Calls.regrown_of (small_isb true (some ⟨g1, o1, none⟩) c1 zs _ hkz (HZr.out.to_ (below_regrown w4 _ _)) LZ.out.1 (lens_max LZ.out)))
                  | (go_at_call 36; (with_reducible show Calls _ _ #[.slice (some ⟨g2, o2, none⟩) ys.length d1] _ _); exact Calls.regrown_of (small_isb true (some ⟨g2, o2, none⟩) d1 ys _ hky (HYr.out.to_ (below_regrown w4 _ _)) LY.out.1 (lens_max LY.out)))
                  | (go_at_call 36; (with_reducible show Calls _ _ #[.slice C1 us.length e1] _ _); exact Calls.regrown_of (small_isb true C1 e1 us _ hku (HUr.out.to_ (below_regrown w4 _ _)) LU.out.1 (lens_max LU.out)))))
                refine wpQuiet_nil ?_
                intro _ hw'
                obtain ⟨⟨dq, osq⟩, hw''⟩ := hw'
                subst hw''
                have hBx := below_regrown w4 dq osq
                have hB5 := below_next hB4 hBx rfl rfl
                generalize grow (redrawn w4 dq) osq = w5 at *
                clear hBx HZ4 HY4 HU4 HZr HYr HUr hB4 r1 r2 hc1 hc2 qz1 qz2 qz3 qy1 qy2 qy3 qu1 qu2 qu3
                go_wp2_with fail
                go_ret
                exact ⟨rfl, hB5⟩
theorem walk (A : Option Addr) (l c : Nat) (xs : List UInt8) (X : Option Addr) (l2 d : Nat) (ms : List UInt8) (w : World) (ft : FitB w A l xs) (ft2 : FitB w X l2 ms) :
    Calls Try.prog 9 #[.slice A l c, .slice X l2 d] w fun e w' => e = .returned (.bool true) ∧ Below w.heap.size w w' := by
  obtain ⟨rfl, hx⟩ := ft
  obtain ⟨rfl, hm⟩ := ft2
  by_cases h1 : xs.length ≤ 1048576
  · by_cases h2 : ms.length ≤ 1048576
    · exact main A X c d xs ms w hx hm h1 h2
    · go_enter Try.func9, Try.ntmps9
      go_wp2_with fail
      refine (big_at A xs.length c false _ (by simp; omega)).mono ?_
      rintro e w0 ⟨rfl, rfl⟩
      go_wp2_with fail
      refine (big_at X ms.length d true _ (by simp; omega)).mono ?_
      rintro e w0 ⟨rfl, rfl⟩
      go_wp2_with fail
      go_ret
      exact ⟨rfl, Below.refl _ _⟩
  · go_enter Try.func9, Try.ntmps9
    go_wp2_with fail
    refine (big_at A xs.length c true _ (by simp; omega)).mono ?_
    rintro e w0 ⟨rfl, rfl⟩
    go_wp2_with fail
    go_ret
    exact ⟨rfl, Below.refl _ _⟩
end Go.Proofs.Ytemcpdpbikgfcaa.joinSums
namespace Go.Proofs.Ytemcpdpbikgfcaa.joinSums
open Go.ChangeShapes Go.WideShapes Go.ChangeAt Go.RowKit Go.Joins
set_option linter.unusedVariables false

set_option maxRecDepth 100000 in
theorem lifted (os : Os) (started : os.Started) (H : Type) (enc : TypeId × Value → H) :
    ReturnsInHanded {} Try.checked os 9 .any (Rows.fnJoinSumsSpec.pre6 enc Try.prog Try.f9 Rows.fnJoinSumsRow.domain false) (Rows.fnJoinSumsSpec.post enc Try.prog Try.f9 false true false false) := by
  refine returnsInHanded_of_change (C := Try.checked) own started (by kernel_rfl) Try.func9
    (ChangeSpec.witness6 (enc := enc) (C := Try.checked) false ⟨#[], #[.slice none 0 0, .slice none 0 0], []⟩ 8 (by kernel_rfl) (by kernel_rfl) (by kernel_rfl) (by kernel_rfl)) ?_
  intro W base args ds gs before hval0 hW hcnd _
  have hval : ∀ (j : Nat) t v, Try.f9.params[j]? = some t → args[j]? = some v → Value.okWide Try.prog W .any base t v := hval0
  have hW' := hW
  obtain ⟨p, q, hA0, hV, rfl, hfz, hnd⟩ := hW
  have hA : DataW.TrodAll enc Try.prog W 0 (fun _ => true) true Try.f9.params.toList args.toList ds p := hA0
  rw [Try.params9] at hA hval
  obtain ⟨v0, vs0, d0, ds0, p0, q0, hargs, rfl, rfl, h0, r0⟩ := trodAll_cons hA
  obtain ⟨v1, vs1, d1, ds1, p1, q1, rfl, rfl, rfl, h1, r1⟩ := trodAll_cons r0
  obtain ⟨rfl, rfl, rfl⟩ := trodAll_nil r1
  obtain rfl : args = #[v0, v1] := by cases args; simp_all
  obtain ⟨rfl, rfl⟩ := trodVars_none hV
  have z0 := h0
  have lt0 : ∀ x ∈ p0, x.block < W.heap.size := by obtain ⟨m, hm⟩ := z0; exact DataW.trod_lt m _ _ _ hm
  obtain ⟨a0, l0, c0, xs0, rfl, fit0⟩ := open_bytes (hval 0 46 v0 rfl rfl) h0
  have z1 := h1
  have lt1 : ∀ x ∈ p1, x.block < W.heap.size := by obtain ⟨m, hm⟩ := z1; exact DataW.trod_lt m _ _ _ hm
  obtain ⟨a1, l1, c1, xs1, rfl, fit1⟩ := open_bytes (hval 1 46 v1 rfl rfl) h1
  clear hA0 hval0
  refine (walk a0 l0 c0 xs0 a1 l1 c1 xs1 W fit0 fit1).mono fun e W' ⟨he, bel⟩ => ?_
  subst he
  exact ⟨_, rfl, _, _, _, [], _, [], hW', trodAll_mk1 (shut_bool Try.underlying4 _), (trodAll_cons_mk (Below.trod laidOut (by kernel_rfl) (of_decide_eq_true (by kernel_rfl)) z0 bel lt0) (trodAll_cons_mk (Below.trod laidOut (by kernel_rfl) (of_decide_eq_true (by kernel_rfl)) z1 bel lt1) trodAll_mk0)), rfl, bel.frame _, fun h => by cases h⟩

theorem over : Rows.fnJoinSumsRow.holds Try.pinned (OpenSpec.ofChange Rows.fnJoinSumsSpec) :=
  OpenClaim.holds_of_wide 9 Try.f9 rfl rfl rfl rfl rfl rfl rfl ⟨rfl, rfl, rfl, rfl, rfl⟩ rfl rfl rfl rfl rfl (by kernel_rfl) Try.func9 (by kernel_rfl)
    (of_decide_eq_true (by kernel_rfl)) (by unfold Func.isWrapper; first | (rw [if_pos (by decide +kernel)]; kernel_rfl) | (rw [if_neg (by decide +kernel)]; exact ⟨rfl, rfl⟩))
    (fun os started H enc _ => lifted os started H enc)

theorem proved : Rows.FnJoinSumsSaid := over
end Go.Proofs.Ytemcpdpbikgfcaa.joinSums
