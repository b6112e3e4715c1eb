/-
  For every slice of bytes, laws.FnFlips returns true and leaves its argument as it was. No condition.
-/
import Derived.Test.YtggkggaihfcjmaaSumV
import Derived.Test.YtggkggaihfcjmaaOpenBZ
import Derived.Test.YtggkggaihfcjmaaRows
namespace Go.Proofs.Ytggkggaihfcjmaa.flipsLaw
open Go.RowKit Go.Sort
set_option linter.unusedVariables false

set_option maxRecDepth 100000 in
set_option maxHeartbeats 6400000 in
theorem main (A : Option Addr) (c : Nat) (xs : List UInt8) (w : World) (hx : BAt w w.heap.size A xs) (hl : xs.length ≤ 1048576) :
    Calls Try.prog 8 #[.slice A xs.length c] w fun e w' => e = .returned (.bool true) ∧ Below w.heap.size w w' := by
  go_enter Try.func8, Try.ntmps8
  go_wp2_with fail
  refine (big_at A xs.length c false _ (by simp; omega)).mono ?_
  rintro e w0 ⟨rfl, rfl⟩
  go_wp2_with fail
  refine (draw_Flips A c xs _ hx hl).mono ?_
  rintro e w1 ⟨A1, c1, zs, B1, d1, ys, rfl, hz, hy, dz, dy, hb1⟩
  have HZ := Lib.hid (show DV w1 (.slice A1 zs.length c1) zs from ⟨A1, c1, rfl, hz⟩)
  have HY := Lib.hid (show DV w1 (.slice B1 ys.length d1) ys from ⟨B1, d1, rfl, hy⟩)
  have DZ := Lib.hid dz
  have DY := Lib.hid dy
  have hO := one_at w1
  have HO := Lib.hid hO
  clear hz hy dz dy hO hx
  have hBa : Below w.heap.size w ((w1.alloc (.cells #[.int .i64 1, .int .i64 0, .string ByteArray.empty] 52)).alloc (.cells #[.slice (some ⟨w1.heap.size, 0, none⟩) 1 1, .int .i64 1] 55)) := (hb1.alloc hb1.size _).alloc (by have := hb1.size; simp; omega) _
  have hba : Below w1.heap.size w1 ((w1.alloc (.cells #[.int .i64 1, .int .i64 0, .string ByteArray.empty] 52)).alloc (.cells #[.slice (some ⟨w1.heap.size, 0, none⟩) 1 1, .int .i64 1] 55)) := ((Below.refl _ _).alloc (Nat.le_refl _) _).alloc (by simp) _
  have HZa := Lib.hid (HZ.out.to_ hba)
  have HYa := Lib.hid (HY.out.to_ hba)
  clear HZ HY hba
  go_wp2_with fail
  refine (v_distinct _ HO.out one_lens).mono ?_
  rintro e w2 ⟨v2, rfl, ⟨A2, c2, rfl, _⟩, hb2⟩
  have hB2 := below_next hBa hb2 rfl rfl
  have HZ2 := Lib.hid (HZa.out.to_ hb2)
  have HY2 := Lib.hid (HYa.out.to_ hb2)
  rw [one_pos]
  clear hBa hb2 HZa HYa HO hb1
  go_wp2_with fail
  have HZr := Lib.hid (show DiffsAt w2 0 w2.heap.size A1 zs by obtain ⟨A, c, e, h⟩ := HZ2.out; cases e; exact h)
  have HYr := Lib.hid (show DiffsAt w2 0 w2.heap.size B1 ys by obtain ⟨A, c, e, h⟩ := HY2.out; cases e; exact h)
  by_cases hk1 : smallB zs = true
  · by_cases hk2 : smallB ys = true
    · by_cases hz0 : zs.length = 0
      · have hi1 : decide (0 < zs.length) = false := decide_eq_false (by omega)
        have hj1 : ¬ (0 : Int) < (zs.length : Int) := by omega
        have hcc : compatB zs ys = true := by unfold compatB; simp [hz0]
        clear hz0
        refine wp_region_quiet_below (by kernel_rfl) (by kernel_rfl) ?_
        repeat (go_big_quiet_step (first
          | (go_at_call 36; (with_reducible show Calls _ _ #[.slice A1 zs.length c1] _ _); exact Calls.regrown_of (small_isb true A1 c1 zs _ hk1 (HZr.out.to_ (below_regrown w2 _ _)) (lens_drawn DZ.out).1 (lens_max (lens_drawn DZ.out))))
          | (go_at_call 36; (with_reducible show Calls _ _ #[.slice B1 ys.length d1] _ _); exact Calls.regrown_of (small_isb true B1 d1 ys _ hk2 (HYr.out.to_ (below_regrown w2 _ _)) (lens_drawn DY.out).1 (lens_max (lens_drawn DY.out))))))
        refine wpQuiet_nil ?_
        intro _ hw'
        obtain ⟨⟨dq, osq⟩, hw''⟩ := hw'
        subst hw''
        have hBx := below_regrown w2 dq osq
        have HZ3 := Lib.hid (HZ2.out.to_ hBx)
        have HY3 := Lib.hid (HY2.out.to_ hBx)
        have hB3 := below_next hB2 hBx rfl rfl
        generalize grow (redrawn w2 dq) osq = w3 at *
        clear hBx HZ2 HY2 HZr HYr hB2
        go_wp2_with fail
        have hkz := Lib.hid (small_parts hk1)
        have hky := Lib.hid (small_parts hk2)
        have HL := Lib.hid (flips_law hkz.out.1 hky.out.1 hcc DZ.out.1 DY.out.1 hkz.out.2 hky.out.2)
        refine (v_flips _ HZ3.out HY3.out (lens_drawn DZ.out) (lens_drawn DY.out)).mono ?_
        rintro e w4 ⟨v4, rfl, hv4, hb4⟩
        have hB4 := below_next hB3 hb4 rfl rfl
        have HF4 := Lib.hid hv4
        have hbn : Below w4.heap.size w4 (w4.alloc (.cells #[] 53)) := (Below.refl _ _).alloc (Nat.le_refl _) _
        have HZ4 := Lib.hid ((HZ3.out.to_ hb4).to_ hbn)
        have HY4 := Lib.hid ((HY3.out.to_ hb4).to_ hbn)
        have HF5 := Lib.hid (HF4.out.to_ hbn)
        have hB5 := below_next hB4 hbn rfl rfl
        clear hv4 hb4 HF4 hbn HZ3 HY3 hB3
        go_wp2_with fail
        refine (v_distinct _ HZ4.out (lens_drawn DZ.out)).mono ?_
        rintro e w6 ⟨v6, rfl, hv6, hb6⟩
        have HT6 := Lib.hid hv6
        have hB6 := below_next hB5 hb6 rfl rfl
        have HZ6 := Lib.hid (HZ4.out.to_ hb6)
        have HY6 := Lib.hid (HY4.out.to_ hb6)
        have HF6 := Lib.hid (HF5.out.to_ hb6)
        clear hv6 hb6 HZ4 HY4 HF5
        go_wp2_with fail
        refine (v_diffOf (a := []) _ ⟨_, _, rfl, .inl rfl⟩ HT6.out ⟨by simp, fun r hr => by simp at hr⟩ (lensT_pos zs)).mono ?_
        rintro e w7 ⟨v7, rfl, hv7, hb7⟩
        have HA7 := Lib.hid hv7
        have hB7 := below_next hB6 hb7 rfl rfl
        have HZ7 := Lib.hid (HZ6.out.to_ hb7)
        have HY7 := Lib.hid (HY6.out.to_ hb7)
        have HF7 := Lib.hid (HF6.out.to_ hb7)
        clear hv7 hb7 HZ6 HY6 HF6 HT6
        go_wp2_with fail
        refine (v_add _ HA7.out HF7.out (lens_ok (diffOfD_ok _ _)) (lens_ok (flipsD_ok _ _))).mono ?_
        rintro e w8 ⟨v8, rfl, hv8, hb8⟩
        have HS8 := Lib.hid hv8
        have hB8 := below_next hB7 hb8 rfl rfl
        have HZ8 := Lib.hid (HZ7.out.to_ hb8)
        have HY8 := Lib.hid (HY7.out.to_ hb8)
        clear hv8 hb8 HZ7 HY7 HF7 HA7
        go_wp2_with fail
        refine (v_distinct _ HS8.out (lens_ok (addDD_ok _ _))).mono ?_
        rintro e w9 ⟨v9, rfl, hv9, hb9⟩
        have HT9 := Lib.hid hv9
        have hB9 := below_next hB8 hb9 rfl rfl
        have HZ9 := Lib.hid (HZ8.out.to_ hb9)
        have HY9 := Lib.hid (HY8.out.to_ hb9)
        clear hv9 hb9 HZ8 HY8 HS8
        go_wp2_with fail
        refine (v_add _ HZ9.out HY9.out (lens_drawn DZ.out) (lens_drawn DY.out)).mono ?_
        rintro e w10 ⟨v10, rfl, hv10, hb10⟩
        have HS10 := Lib.hid hv10
        have hB10 := below_next hB9 hb10 rfl rfl
        have HT10 := Lib.hid (HT9.out.to_ hb10)
        clear hv10 hb10 HZ9 HY9 HT9
        go_wp2_with fail
        refine (v_distinct _ HS10.out (lens_ok (addDD_ok _ _))).mono ?_
        rintro e w11 ⟨v11, rfl, hv11, hb11⟩
        have HT11 := Lib.hid hv11
        have hB11 := below_next hB10 hb11 rfl rfl
        have HU11 := Lib.hid (show TV w11 v9 (posD (addDD zs ys)) by rw [← HL.out]; exact HT10.out.to_ hb11)
        clear hv11 hb11 HT10
        go_wp2_with fail
        refine (v_sameT _ HU11.out HT11.out (lensT_pos _)).mono ?_
        rintro e w12 ⟨rfl, hb12⟩
        have hB12 := below_next hB11 hb12 rfl rfl
        go_wp2_with fail
        go_ret
        exact ⟨rfl, hB12⟩
      · have hi1 : decide (0 < zs.length) = true := decide_eq_true (by omega)
        have hj1 : (0 : Int) < (zs.length : Int) := by omega
        by_cases hy0 : ys.length = 0
        · have hi2 : decide (0 < ys.length) = false := decide_eq_false (by omega)
          have hj2 : ¬ (0 : Int) < (ys.length : Int) := by omega
          have hcc : compatB zs ys = true := by unfold compatB; simp [hy0]
          clear hz0 hy0
          refine wp_region_quiet_below (by kernel_rfl) (by kernel_rfl) ?_
          repeat (go_big_quiet_step (first
            | (go_at_call 36; (with_reducible show Calls _ _ #[.slice A1 zs.length c1] _ _); exact Calls.regrown_of (small_isb true A1 c1 zs _ hk1 (HZr.out.to_ (below_regrown w2 _ _)) (lens_drawn DZ.out).1 (lens_max (lens_drawn DZ.out))))
            | (go_at_call 36; (with_reducible show Calls _ _ #[.slice B1 ys.length d1] _ _); exact Calls.regrown_of (small_isb true B1 d1 ys _ hk2 (HYr.out.to_ (below_regrown w2 _ _)) (lens_drawn DY.out).1 (lens_max (lens_drawn DY.out))))))
          refine wpQuiet_nil ?_
          intro _ hw'
          obtain ⟨⟨dq, osq⟩, hw''⟩ := hw'
          subst hw''
          have hBx := below_regrown w2 dq osq
          have HZ3 := Lib.hid (HZ2.out.to_ hBx)
          have HY3 := Lib.hid (HY2.out.to_ hBx)
          have hB3 := below_next hB2 hBx rfl rfl
          generalize grow (redrawn w2 dq) osq = w3 at *
          clear hBx HZ2 HY2 HZr HYr hB2
          go_wp2_with fail
          have hkz := Lib.hid (small_parts hk1)
          have hky := Lib.hid (small_parts hk2)
          have HL := Lib.hid (flips_law hkz.out.1 hky.out.1 hcc DZ.out.1 DY.out.1 hkz.out.2 hky.out.2)
          refine (v_flips _ HZ3.out HY3.out (lens_drawn DZ.out) (lens_drawn DY.out)).mono ?_
          rintro e w4 ⟨v4, rfl, hv4, hb4⟩
          have hB4 := below_next hB3 hb4 rfl rfl
          have HF4 := Lib.hid hv4
          have hbn : Below w4.heap.size w4 (w4.alloc (.cells #[] 53)) := (Below.refl _ _).alloc (Nat.le_refl _) _
          have HZ4 := Lib.hid ((HZ3.out.to_ hb4).to_ hbn)
          have HY4 := Lib.hid ((HY3.out.to_ hb4).to_ hbn)
          have HF5 := Lib.hid (HF4.out.to_ hbn)
          have hB5 := below_next hB4 hbn rfl rfl
          clear hv4 hb4 HF4 hbn HZ3 HY3 hB3
          go_wp2_with fail
          refine (v_distinct _ HZ4.out (lens_drawn DZ.out)).mono ?_
          rintro e w6 ⟨v6, rfl, hv6, hb6⟩
          have HT6 := Lib.hid hv6
          have hB6 := below_next hB5 hb6 rfl rfl
          have HZ6 := Lib.hid (HZ4.out.to_ hb6)
          have HY6 := Lib.hid (HY4.out.to_ hb6)
          have HF6 := Lib.hid (HF5.out.to_ hb6)
          clear hv6 hb6 HZ4 HY4 HF5
          go_wp2_with fail
          refine (v_diffOf (a := []) _ ⟨_, _, rfl, .inl rfl⟩ HT6.out ⟨by simp, fun r hr => by simp at hr⟩ (lensT_pos zs)).mono ?_
          rintro e w7 ⟨v7, rfl, hv7, hb7⟩
          have HA7 := Lib.hid hv7
          have hB7 := below_next hB6 hb7 rfl rfl
          have HZ7 := Lib.hid (HZ6.out.to_ hb7)
          have HY7 := Lib.hid (HY6.out.to_ hb7)
          have HF7 := Lib.hid (HF6.out.to_ hb7)
          clear hv7 hb7 HZ6 HY6 HF6 HT6
          go_wp2_with fail
          refine (v_add _ HA7.out HF7.out (lens_ok (diffOfD_ok _ _)) (lens_ok (flipsD_ok _ _))).mono ?_
          rintro e w8 ⟨v8, rfl, hv8, hb8⟩
          have HS8 := Lib.hid hv8
          have hB8 := below_next hB7 hb8 rfl rfl
          have HZ8 := Lib.hid (HZ7.out.to_ hb8)
          have HY8 := Lib.hid (HY7.out.to_ hb8)
          clear hv8 hb8 HZ7 HY7 HF7 HA7
          go_wp2_with fail
          refine (v_distinct _ HS8.out (lens_ok (addDD_ok _ _))).mono ?_
          rintro e w9 ⟨v9, rfl, hv9, hb9⟩
          have HT9 := Lib.hid hv9
          have hB9 := below_next hB8 hb9 rfl rfl
          have HZ9 := Lib.hid (HZ8.out.to_ hb9)
          have HY9 := Lib.hid (HY8.out.to_ hb9)
          clear hv9 hb9 HZ8 HY8 HS8
          go_wp2_with fail
          refine (v_add _ HZ9.out HY9.out (lens_drawn DZ.out) (lens_drawn DY.out)).mono ?_
          rintro e w10 ⟨v10, rfl, hv10, hb10⟩
          have HS10 := Lib.hid hv10
          have hB10 := below_next hB9 hb10 rfl rfl
          have HT10 := Lib.hid (HT9.out.to_ hb10)
          clear hv10 hb10 HZ9 HY9 HT9
          go_wp2_with fail
          refine (v_distinct _ HS10.out (lens_ok (addDD_ok _ _))).mono ?_
          rintro e w11 ⟨v11, rfl, hv11, hb11⟩
          have HT11 := Lib.hid hv11
          have hB11 := below_next hB10 hb11 rfl rfl
          have HU11 := Lib.hid (show TV w11 v9 (posD (addDD zs ys)) by rw [← HL.out]; exact HT10.out.to_ hb11)
          clear hv11 hb11 HT10
          go_wp2_with fail
          refine (v_sameT _ HU11.out HT11.out (lensT_pos _)).mono ?_
          rintro e w12 ⟨rfl, hb12⟩
          have hB12 := below_next hB11 hb12 rfl rfl
          go_wp2_with fail
          go_ret
          exact ⟨rfl, hB12⟩
        · have hi2 : decide (0 < ys.length) = true := decide_eq_true (by omega)
          have hj2 : (0 : Int) < (ys.length : Int) := by omega
          obtain ⟨g, o, A5, c5, rfl, hc5⟩ := first_at HZr.out (by omega)
          obtain ⟨g', o', B5, d5, rfl, hd5⟩ := first_at HYr.out (by omega)
          have q0 := cell_regrown hc5
          have q1 := cell_regrown hd5
          by_cases hw : wid (rowsD zs) = wid (rowsD ys)
          · have hwb : ((wid (rowsD zs) : Int) != (wid (rowsD ys) : Int)) = false := by simp [hw]
            have hcc : compatB zs ys = true := by unfold compatB; simp [hw]
            have HCC := Lib.hid hcc
            clear hz0 hy0 hw hc5 hd5 hcc
            refine wp_region_quiet_below (by kernel_rfl) (by kernel_rfl) ?_
            repeat (go_big_quiet_step (first
              | (go_at_call 36; (with_reducible show Calls _ _ #[.slice (some ⟨g, o, none⟩) zs.length c1] _ _); exact Calls.regrown_of (small_isb true (some ⟨g, o, none⟩) c1 zs _ hk1 (HZr.out.to_ (below_regrown w2 _ _)) (lens_drawn DZ.out).1 (lens_max (lens_drawn DZ.out))))
              | (go_at_call 36; (with_reducible show Calls _ _ #[.slice (some ⟨g', o', none⟩) ys.length d1] _ _); exact Calls.regrown_of (small_isb true (some ⟨g', o', none⟩) d1 ys _ hk2 (HYr.out.to_ (below_regrown w2 _ _)) (lens_drawn DY.out).1 (lens_max (lens_drawn DY.out))))))
            refine wpQuiet_nil ?_
            intro _ hw'
            obtain ⟨⟨dq, osq⟩, hw''⟩ := hw'
            subst hw''
            have hBx := below_regrown w2 dq osq
            have HZ3 := Lib.hid (HZ2.out.to_ hBx)
            have HY3 := Lib.hid (HY2.out.to_ hBx)
            have hB3 := below_next hB2 hBx rfl rfl
            generalize grow (redrawn w2 dq) osq = w3 at *
            clear hBx HZ2 HY2 HZr HYr hB2 q0 q1
            go_wp2_with fail
            have hkz := Lib.hid (small_parts hk1)
            have hky := Lib.hid (small_parts hk2)
            have HL := Lib.hid (flips_law hkz.out.1 hky.out.1 HCC.out DZ.out.1 DY.out.1 hkz.out.2 hky.out.2)
            refine (v_flips _ HZ3.out HY3.out (lens_drawn DZ.out) (lens_drawn DY.out)).mono ?_
            rintro e w4 ⟨v4, rfl, hv4, hb4⟩
            have hB4 := below_next hB3 hb4 rfl rfl
            have HF4 := Lib.hid hv4
            have hbn : Below w4.heap.size w4 (w4.alloc (.cells #[] 53)) := (Below.refl _ _).alloc (Nat.le_refl _) _
            have HZ4 := Lib.hid ((HZ3.out.to_ hb4).to_ hbn)
            have HY4 := Lib.hid ((HY3.out.to_ hb4).to_ hbn)
            have HF5 := Lib.hid (HF4.out.to_ hbn)
            have hB5 := below_next hB4 hbn rfl rfl
            clear hv4 hb4 HF4 hbn HZ3 HY3 hB3
            go_wp2_with fail
            refine (v_distinct _ HZ4.out (lens_drawn DZ.out)).mono ?_
            rintro e w6 ⟨v6, rfl, hv6, hb6⟩
            have HT6 := Lib.hid hv6
            have hB6 := below_next hB5 hb6 rfl rfl
            have HZ6 := Lib.hid (HZ4.out.to_ hb6)
            have HY6 := Lib.hid (HY4.out.to_ hb6)
            have HF6 := Lib.hid (HF5.out.to_ hb6)
            clear hv6 hb6 HZ4 HY4 HF5
            go_wp2_with fail
            refine (v_diffOf (a := []) _ ⟨_, _, rfl, .inl rfl⟩ HT6.out ⟨by simp, fun r hr => by simp at hr⟩ (lensT_pos zs)).mono ?_
            rintro e w7 ⟨v7, rfl, hv7, hb7⟩
            have HA7 := Lib.hid hv7
            have hB7 := below_next hB6 hb7 rfl rfl
            have HZ7 := Lib.hid (HZ6.out.to_ hb7)
            have HY7 := Lib.hid (HY6.out.to_ hb7)
            have HF7 := Lib.hid (HF6.out.to_ hb7)
            clear hv7 hb7 HZ6 HY6 HF6 HT6
            go_wp2_with fail
            refine (v_add _ HA7.out HF7.out (lens_ok (diffOfD_ok _ _)) (lens_ok (flipsD_ok _ _))).mono ?_
            rintro e w8 ⟨v8, rfl, hv8, hb8⟩
            have HS8 := Lib.hid hv8
            have hB8 := below_next hB7 hb8 rfl rfl
            have HZ8 := Lib.hid (HZ7.out.to_ hb8)
            have HY8 := Lib.hid (HY7.out.to_ hb8)
            clear hv8 hb8 HZ7 HY7 HF7 HA7
            go_wp2_with fail
            refine (v_distinct _ HS8.out (lens_ok (addDD_ok _ _))).mono ?_
            rintro e w9 ⟨v9, rfl, hv9, hb9⟩
            have HT9 := Lib.hid hv9
            have hB9 := below_next hB8 hb9 rfl rfl
            have HZ9 := Lib.hid (HZ8.out.to_ hb9)
            have HY9 := Lib.hid (HY8.out.to_ hb9)
            clear hv9 hb9 HZ8 HY8 HS8
            go_wp2_with fail
            refine (v_add _ HZ9.out HY9.out (lens_drawn DZ.out) (lens_drawn DY.out)).mono ?_
            rintro e w10 ⟨v10, rfl, hv10, hb10⟩
            have HS10 := Lib.hid hv10
            have hB10 := below_next hB9 hb10 rfl rfl
            have HT10 := Lib.hid (HT9.out.to_ hb10)
            clear hv10 hb10 HZ9 HY9 HT9
            go_wp2_with fail
            refine (v_distinct _ HS10.out (lens_ok (addDD_ok _ _))).mono ?_
            rintro e w11 ⟨v11, rfl, hv11, hb11⟩
            have HT11 := Lib.hid hv11
            have hB11 := below_next hB10 hb11 rfl rfl
            have HU11 := Lib.hid (show TV w11 v9 (posD (addDD zs ys)) by rw [← HL.out]; exact HT10.out.to_ hb11)
            clear hv11 hb11 HT10
            go_wp2_with fail
            refine (v_sameT _ HU11.out HT11.out (lensT_pos _)).mono ?_
            rintro e w12 ⟨rfl, hb12⟩
            have hB12 := below_next hB11 hb12 rfl rfl
            go_wp2_with fail
            go_ret
            exact ⟨rfl, hB12⟩
          · have hwb : ((wid (rowsD zs) : Int) != (wid (rowsD ys) : Int)) = true := by simp; omega
            clear hz0 hy0 hw hc5 hd5
            refine wp_region_quiet_below (by kernel_rfl) (by kernel_rfl) ?_
            repeat (go_big_quiet_step (first
              | (go_at_call 36; (with_reducible show Calls _ _ #[.slice (some ⟨g, o, none⟩) zs.length c1] _ _); exact Calls.regrown_of (small_isb true (some ⟨g, o, none⟩) c1 zs _ hk1 (HZr.out.to_ (below_regrown w2 _ _)) (lens_drawn DZ.out).1 (lens_max (lens_drawn DZ.out))))
              | (go_at_call 36; (with_reducible show Calls _ _ #[.slice (some ⟨g', o', none⟩) ys.length d1] _ _); exact Calls.regrown_of (small_isb true (some ⟨g', o', none⟩) d1 ys _ hk2 (HYr.out.to_ (below_regrown w2 _ _)) (lens_drawn DY.out).1 (lens_max (lens_drawn DY.out))))))
            refine wpQuiet_nil ?_
            intro _ hw'
            obtain ⟨⟨dq, osq⟩, hw''⟩ := hw'
            subst hw''
            have hBx := below_regrown w2 dq osq
            have HZ3 := Lib.hid (HZ2.out.to_ hBx)
            have HY3 := Lib.hid (HY2.out.to_ hBx)
            have hB3 := below_next hB2 hBx rfl rfl
            generalize grow (redrawn w2 dq) osq = w3 at *
            clear hBx HZ2 HY2 HZr HYr hB2 q0 q1
            go_wp2_with fail
            go_ret
            exact ⟨rfl, hB3⟩
    · rw [Bool.not_eq_true] at hk2
      refine wp_region_quiet_below (by kernel_rfl) (by kernel_rfl) ?_
      repeat (go_big_quiet_step (first
        | (go_at_call 36; (with_reducible show Calls _ _ #[.slice A1 zs.length c1] _ _); exact Calls.regrown_of (small_isb true A1 c1 zs _ hk1 (HZr.out.to_ (below_regrown w2 _ _)) (lens_drawn DZ.out).1 (lens_max (lens_drawn DZ.out))))
        | (go_at_call 36; (with_reducible show Calls _ _ #[.slice B1 ys.length d1] _ _); exact Calls.regrown_of (small_isb false B1 d1 ys _ hk2 (HYr.out.to_ (below_regrown w2 _ _)) (lens_drawn DY.out).1 (lens_max (lens_drawn DY.out))))))
      refine wpQuiet_nil ?_
      intro _ hw'
      obtain ⟨⟨dq, osq⟩, hw''⟩ := hw'
      subst hw''
      have hBx := below_regrown w2 dq osq
      have HZ3 := Lib.hid (HZ2.out.to_ hBx)
      have HY3 := Lib.hid (HY2.out.to_ hBx)
      have hB3 := below_next hB2 hBx rfl rfl
      generalize grow (redrawn w2 dq) osq = w3 at *
      clear hBx HZ2 HY2 HZr HYr hB2
      go_wp2_with fail
      go_ret
      exact ⟨rfl, hB3⟩
  · rw [Bool.not_eq_true] at hk1
    refine wp_region_quiet_below (by kernel_rfl) (by kernel_rfl) ?_
    repeat (go_big_quiet_step (first
      | (go_at_call 36; (with_reducible show Calls _ _ #[.slice A1 zs.length c1] _ _); exact Calls.regrown_of (small_isb false A1 c1 zs _ hk1 (HZr.out.to_ (below_regrown w2 _ _)) (lens_drawn DZ.out).1 (lens_max (lens_drawn DZ.out))))))
    refine wpQuiet_nil ?_
    intro _ hw'
    obtain ⟨⟨dq, osq⟩, hw''⟩ := hw'
    subst hw''
    have hBx := below_regrown w2 dq osq
    have HZ3 := Lib.hid (HZ2.out.to_ hBx)
    have HY3 := Lib.hid (HY2.out.to_ hBx)
    have hB3 := below_next hB2 hBx rfl rfl
    generalize grow (redrawn w2 dq) osq = w3 at *
    clear hBx HZ2 HY2 HZr HYr hB2
    go_wp2_with fail
    go_ret
    exact ⟨rfl, hB3⟩
theorem walk (A : Option Addr) (l c : Nat) (xs : List UInt8) (w : World) (ft : FitB w A l xs) :
    Calls Try.prog 8 #[.slice A l c] w fun e w' => e = .returned (.bool true) ∧ Below w.heap.size w w' := by
  obtain ⟨rfl, hx⟩ := ft
  by_cases h1 : xs.length ≤ 1048576
  · exact main A c xs w hx h1
  · go_enter Try.func8, Try.ntmps8
    go_wp2_with fail
    refine (big_at A xs.length c true _ (by simp; omega)).mono ?_
    rintro e w0 ⟨rfl, rfl⟩
    go_wp2_with fail
    go_ret
    exact ⟨rfl, Below.refl _ _⟩
end Go.Proofs.Ytggkggaihfcjmaa.flipsLaw
namespace Go.Proofs.Ytggkggaihfcjmaa.flipsLaw
open Go.ChangeShapes Go.WideShapes Go.ChangeAt Go.RowKit Go.Joins
set_option linter.unusedVariables false

set_option maxRecDepth 100000 in
theorem lifted (os : Os) (started : os.Started) (H : Type) (enc : TypeId × Value → H) :
    ReturnsInHanded {} Try.checked os 8 .any (Rows.fnFlipsSpec.pre6 enc Try.prog Try.f8 Rows.fnFlipsRow.domain false) (Rows.fnFlipsSpec.post enc Try.prog Try.f8 false true false false) := by
  refine returnsInHanded_of_change (C := Try.checked) own started (by kernel_rfl) Try.func8
    (ChangeSpec.witness6 (enc := enc) (C := Try.checked) false ⟨#[], #[.slice none 0 0], []⟩ 8 (by kernel_rfl) (by kernel_rfl) (by kernel_rfl) (by kernel_rfl)) ?_
  intro W base args ds gs before hval0 hW hcnd _
  have hval : ∀ (j : Nat) t v, Try.f8.params[j]? = some t → args[j]? = some v → Value.okWide Try.prog W .any base t v := hval0
  have hW' := hW
  obtain ⟨p, q, hA0, hV, rfl, hfz, hnd⟩ := hW
  have hA : DataW.TrodAll enc Try.prog W 0 (fun _ => true) true Try.f8.params.toList args.toList ds p := hA0
  rw [Try.params8] at hA hval
  obtain ⟨v0, vs0, d0, ds0, p0, q0, hargs, rfl, rfl, h0, r0⟩ := trodAll_cons hA
  obtain ⟨rfl, rfl, rfl⟩ := trodAll_nil r0
  obtain rfl : args = #[v0] := by cases args; simp_all
  obtain ⟨rfl, rfl⟩ := trodVars_none hV
  have z0 := h0
  have lt0 : ∀ x ∈ p0, x.block < W.heap.size := by obtain ⟨m, hm⟩ := z0; exact DataW.trod_lt m _ _ _ hm
  obtain ⟨a0, l0, c0, xs0, rfl, fit0⟩ := open_bytes (hval 0 46 v0 rfl rfl) h0
  clear hA0 hval0
  refine (walk a0 l0 c0 xs0 W fit0).mono fun e W' ⟨he, bel⟩ => ?_
  subst he
  exact ⟨_, rfl, _, _, _, [], _, [], hW', trodAll_mk1 (shut_bool Try.underlying4 _), (trodAll_cons_mk (Below.trod laidOut (by kernel_rfl) (of_decide_eq_true (by kernel_rfl)) z0 bel lt0) trodAll_mk0), rfl, bel.frame _, fun h => by cases h⟩

theorem over : Rows.fnFlipsRow.holds Try.pinned (OpenSpec.ofChange Rows.fnFlipsSpec) :=
  OpenClaim.holds_of_wide 8 Try.f8 rfl rfl rfl rfl rfl rfl rfl ⟨rfl, rfl, rfl, rfl, rfl⟩ rfl rfl rfl rfl rfl (by kernel_rfl) Try.func8 (by kernel_rfl)
    (of_decide_eq_true (by kernel_rfl)) (by unfold Func.isWrapper; first | (rw [if_pos (by decide +kernel)]; kernel_rfl) | (rw [if_neg (by decide +kernel)]; exact ⟨rfl, rfl⟩))
    (fun os started H enc _ => lifted os started H enc)

theorem proved : Rows.FnFlipsSaid := over
end Go.Proofs.Ytggkggaihfcjmaa.flipsLaw
