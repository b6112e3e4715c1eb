/-
  spec.Flips.
-/
import Derived.Test.YtggkggaihfcjmaaMapEZ
namespace Go.Proofs.Ytggkggaihfcjmaa
open Go.RowKit Go.Sort
set_option linter.unusedVariables false

theorem ofL_small {rows : List (List GV)} {n : Int} (hn : n = 1 ∨ n = -1) (h : ∀ r ∈ rows, r.length ≤ 8 ∧ ∀ v ∈ r, v.t.size ≤ 60) : cntLe 1000000 (ofL rows n) ∧ ∀ z ∈ ofL rows n, z.row.length ≤ 8 ∧ ∀ v ∈ z.row, v.t.size ≤ 60 :=
  ⟨fun z hz => by rw [(ofL_mem hz).2]; omega, fun z hz => h _ (ofL_mem hz).1⟩
set_option maxRecDepth 100000 in
set_option maxHeartbeats 6400000 in
theorem spec_flips {lo lo' : Nat} (A B : Option Addr) (c d : Nat) (a b : List GDiff) (w : World) (ha : DiffsAt w lo w.heap.size A a) (hb : DiffsAt w lo' w.heap.size B b) (hl : a.length ≤ 1048576) (hl' : b.length ≤ 1048576)
    (hla : ∀ z ∈ a, z.row.length ≤ 1048576 ∧ ∀ v ∈ z.row, v.t.size ≤ maxLen) (hlb : ∀ z ∈ b, z.row.length ≤ 1048576 ∧ ∀ v ∈ z.row, v.t.size ≤ maxLen) :
    Calls Try.prog 24 #[.slice A a.length c, .slice B b.length d] w (DPost w (flipsD a b)) := by
  have HA := Lib.hid ha
  have HB := Lib.hid hb
  have HLA := Lib.hid hla
  have HLB := Lib.hid hlb
  clear ha hb hla hlb
  by_cases h1 : diffOkB a = true
  · by_cases h2 : diffOkB b = true
    · by_cases h3 : compatB a b = true
      · obtain ⟨s1, s2, s3⟩ := ok_small h1
        obtain ⟨t1, t2, t3⟩ := ok_small h2
        obtain ⟨p1, p2, p3⟩ := addD_props 1000000 1000000 a b (fun r => r.length ≤ 8 ∧ ∀ v ∈ r, v.t.size ≤ 60) s2 t2 (by omega) (by omega) s3 t3
        have hp1 : (addD a b).length ≤ 4194304 := by omega
        have hp2 : (addD a b).length ≤ 1048576 := by omega
        have HP := Lib.hid (show ∀ z ∈ addD a b, z.row.length ≤ 1048576 ∧ ∀ v ∈ z.row, v.t.size ≤ maxLen from fun z hz => ⟨Nat.le_trans (p3 z hz).1 (by omega), fun v hv => Nat.le_trans ((p3 z hz).2 v hv) (by unfold maxLen; omega)⟩)
        have HS := Lib.hid s2
        have HT := Lib.hid t2
        have q1 := posL_len (addD a b)
        have q2 := posL_len a
        obtain ⟨u1, u2⟩ := ofL_small (n := 1) (.inl rfl) (posL_rows p3)
        obtain ⟨v1, v2⟩ := ofL_small (n := 1) (.inl rfl) (posL_rows s3)
        have e2 := negL_ofL (posL a)
        have E2 := Lib.hid e2
        obtain ⟨x1, x2⟩ := ofL_small (n := -1) (.inr rfl) (posL_rows s3)
        obtain ⟨y1, y2, y3⟩ := addD_props 1000000 1000000 (ofL (posL (addD a b)) 1) (negL (ofL (posL a) 1)) (fun r => r.length ≤ 8 ∧ ∀ v ∈ r, v.t.size ≤ 60) u1 (by rw [e2]; exact x1) (by omega) (by omega) u2 (by rw [e2]; exact x2)
        have hol : (ofL (posL (addD a b)) 1).length ≤ 1048576 := by rw [ofL_len]; omega
        have hml : (ofL (posL a) 1).length ≤ 1048576 := by rw [ofL_len]; omega
        have hnl : (negL (ofL (posL a) 1)).length ≤ 1048576 := by rw [negL_len]; exact hml
        have hyl : (addD (ofL (posL (addD a b)) 1) (negL (ofL (posL a) 1))).length ≤ 4194304 := by omega
        have HU1 := Lib.hid u1
        have HU2 := Lib.hid (show ∀ z ∈ ofL (posL (addD a b)) 1, z.row.length ≤ 1048576 from fun z hz => Nat.le_trans (u2 z hz).1 (by omega))
        have HV1 := Lib.hid v1
        have HX1 := Lib.hid (show cntLe 1000000 (negL (ofL (posL a) 1)) by rw [e2]; exact x1)
        have HX2 := Lib.hid (show ∀ z ∈ negL (ofL (posL a) 1), z.row.length ≤ 1048576 by rw [e2]; exact fun z hz => Nat.le_trans (x2 z hz).1 (by omega))
        have HY := Lib.hid (show ∀ z ∈ addD (ofL (posL (addD a b)) 1) (negL (ofL (posL a) 1)), z.row.length ≤ 1048576 ∧ ∀ v ∈ z.row, v.t.size ≤ maxLen from fun z hz => ⟨Nat.le_trans (y3 z hz).1 (by omega), fun v hv => Nat.le_trans ((y3 z hz).2 v hv) (by unfold maxLen; omega)⟩)
        have hql : (posL (addD a b)).length ≤ 1048576 := by omega
        have hqa : (posL a).length ≤ 1048576 := by omega
        clear s1 s2 s3 t1 t2 t3 p1 p2 p3 q1 q2 u1 u2 v1 v2 e2 x1 x2 y1 y2 y3
        by_cases h4 : diffOkB (addD a b) = true
        · have he : flipsD a b = orD (addD (ofL (posL (addD a b)) 1) (negL (ofL (posL a) 1))) := by unfold flipsD; rw [h1, h2, h3, h4]; rfl
          rw [he]
          clear he
          go_enter Try.func24, Try.ntmps24
          go_wp2_with fail
          refine (spec_diffOk A c a _ HA.out (by omega) HLA.out).mono ?_
          rintro e w1 ⟨rfl, hb1⟩
          rw [h1]
          go_wp2_with fail
          refine (spec_diffOk B d b _ (HB.out.to_ hb1) (by omega) HLB.out).mono ?_
          rintro e w2 ⟨rfl, hb2⟩
          rw [h2]
          have hB2 := below_next hb1 hb2 rfl rfl
          clear hb1 hb2
          go_wp2_with fail
          refine (spec_wide A B c d a b _ (HA.out.to_ hB2) (HB.out.to_ hB2) (by omega) (by omega)).mono ?_
          rintro e w3 ⟨rfl, hb3⟩
          rw [h3]
          have hB3 := below_next hB2 hb3 rfl rfl
          clear hB2 hb3
          go_wp2_with fail
          refine (spec_addD A B c d a b 1000000 1000000 _ (HA.out.to_ hB3) (HB.out.to_ hB3) hl hl' (fun z hz => (HLA.out z hz).1) (fun z hz => (HLB.out z hz).1) HS.out HT.out (by omega)).mono ?_
          rintro e w4 ⟨A4, c4, rfl, hc4, hd4, hb4⟩
          have hB4 := below_next hB3 hb4 rfl rfl
          have HD4 := Lib.hid hd4
          clear hB3 hb4 hd4
          go_wp2_with fail
          refine (spec_diffOk A4 c4 (addD a b) _ HD4.out hp1 HP.out).mono ?_
          rintro e w5 ⟨rfl, hb5⟩
          rw [h4]
          have hB5 := below_next hB4 hb5 rfl rfl
          have HD5 := Lib.hid (HD4.out.to_ hb5)
          clear hB4 hb5 HD4
          go_wp2_with fail
          refine (spec_distLC A4 c4 (addD a b) _ HD5.out hp2).mono ?_
          rintro e w6 ⟨A6, c6, rfl, hc6, hd6, hb6⟩
          have hB6 := below_next hB5 hb6 rfl rfl
          have HD6 := Lib.hid hd6
          clear hB5 hb6 hd6 HD5
          go_wp2_with fail
          refine (spec_ofL A6 c6 (posL (addD a b)) _ HD6.out hql).mono ?_
          rintro e w7 ⟨A7, c7, rfl, hc7, hd7, hb7⟩
          have hB7 := below_next hB6 hb7 rfl rfl
          have HD7 := Lib.hid hd7
          clear hB6 hb7 hd7 HD6
          go_wp2_with fail
          refine (spec_distLC A c a _ (HA.out.to_ hB7) hl).mono ?_
          rintro e w8 ⟨A8, c8, rfl, hc8, hd8, hb8⟩
          have hB8 := below_next hB7 hb8 rfl rfl
          have HD8 := Lib.hid hd8
          have HD7b := Lib.hid (HD7.out.to_ hb8)
          clear hB7 hb8 hd8 HD7
          go_wp2_with fail
          refine (spec_ofL A8 c8 (posL a) _ HD8.out hqa).mono ?_
          rintro e w9 ⟨A9, c9, rfl, hc9, hd9, hb9⟩
          have hB9 := below_next hB8 hb9 rfl rfl
          have HD9 := Lib.hid hd9
          have HD7c := Lib.hid (HD7b.out.to_ hb9)
          clear hB8 hb9 hd9 HD8 HD7b
          go_wp2_with fail
          refine (spec_negL A9 c9 (ofL (posL a) 1) _ HD9.out hml HV1.out).mono ?_
          rintro e w10 ⟨A10, c10, rfl, hc10, hd10, hb10⟩
          have hB10 := below_next hB9 hb10 rfl rfl
          have HD10 := Lib.hid hd10
          have HD7d := Lib.hid (HD7c.out.to_ hb10)
          clear hB9 hb10 hd10 HD9 HD7c
          go_wp2_with fail
          refine (spec_addD A7 A10 c7 c10 (ofL (posL (addD a b)) 1) (negL (ofL (posL a) 1)) 1000000 1000000 _ HD7d.out HD10.out hol hnl HU2.out HX2.out HU1.out HX1.out (by omega)).mono ?_
          rintro e w11 ⟨A11, c11, rfl, hc11, hd11, hb11⟩
          have hB11 := below_next hB10 hb11 rfl rfl
          have HD11 := Lib.hid hd11
          clear hB10 hb11 hd11 HD10 HD7d
          go_wp2_with fail
          refine (spec_orD A11 c11 _ _ HD11.out hyl HY.out).mono ?_
          rintro e w12 ⟨A12, c12, rfl, hc12, hd12, hb12⟩
          have HD12 := Lib.hid hd12
          have HC12 := Lib.hid hc12
          have hB12 := below_next hB11 hb12 rfl rfl
          clear hd12 hc12
          go_wp2_with fail
          go_ret
          exact ⟨A12, c12, rfl, HC12.out, HD12.out, hB12⟩
        · rw [Bool.not_eq_true] at h4
          have he : flipsD a b = [] := by unfold flipsD; rw [h1, h2, h3, h4]; rfl
          rw [he]
          clear he
          go_enter Try.func24, Try.ntmps24
          go_wp2_with fail
          refine (spec_diffOk A c a _ HA.out (by omega) HLA.out).mono ?_
          rintro e w1 ⟨rfl, hb1⟩
          rw [h1]
          go_wp2_with fail
          refine (spec_diffOk B d b _ (HB.out.to_ hb1) (by omega) HLB.out).mono ?_
          rintro e w2 ⟨rfl, hb2⟩
          rw [h2]
          have hB2 := below_next hb1 hb2 rfl rfl
          clear hb1 hb2
          go_wp2_with fail
          refine (spec_wide A B c d a b _ (HA.out.to_ hB2) (HB.out.to_ hB2) (by omega) (by omega)).mono ?_
          rintro e w3 ⟨rfl, hb3⟩
          rw [h3]
          have hB3 := below_next hB2 hb3 rfl rfl
          clear hB2 hb3
          go_wp2_with fail
          refine (spec_addD A B c d a b 1000000 1000000 _ (HA.out.to_ hB3) (HB.out.to_ hB3) hl hl' (fun z hz => (HLA.out z hz).1) (fun z hz => (HLB.out z hz).1) HS.out HT.out (by omega)).mono ?_
          rintro e w4 ⟨A4, c4, rfl, hc4, hd4, hb4⟩
          have hB4 := below_next hB3 hb4 rfl rfl
          have HD4 := Lib.hid hd4
          clear hB3 hb4 hd4
          go_wp2_with fail
          refine (spec_diffOk A4 c4 (addD a b) _ HD4.out hp1 HP.out).mono ?_
          rintro e w5 ⟨rfl, hb5⟩
          rw [h4]
          have hB5 := below_next hB4 hb5 rfl rfl
          clear hB4 hb5 HD4
          go_wp2_with fail
          go_ret
          exact dpost_none hB5 rfl
      · rw [Bool.not_eq_true] at h3
        have he : flipsD a b = [] := by unfold flipsD; rw [h1, h2, h3]; rfl
        rw [he]
        clear he
        go_enter Try.func24, Try.ntmps24
        go_wp2_with fail
        refine (spec_diffOk A c a _ HA.out (by omega) HLA.out).mono ?_
        rintro e w1 ⟨rfl, hb1⟩
        rw [h1]
        go_wp2_with fail
        refine (spec_diffOk B d b _ (HB.out.to_ hb1) (by omega) HLB.out).mono ?_
        rintro e w2 ⟨rfl, hb2⟩
        rw [h2]
        have hB2 := below_next hb1 hb2 rfl rfl
        clear hb1 hb2
        go_wp2_with fail
        refine (spec_wide A B c d a b _ (HA.out.to_ hB2) (HB.out.to_ hB2) (by omega) (by omega)).mono ?_
        rintro e w3 ⟨rfl, hb3⟩
        rw [h3]
        have hB3 := below_next hB2 hb3 rfl rfl
        clear hB2 hb3
        go_wp2_with fail
        go_ret
        exact dpost_none hB3 rfl
    · rw [Bool.not_eq_true] at h2
      have he : flipsD a b = [] := by unfold flipsD; rw [h1, h2]; rfl
      rw [he]
      clear he
      go_enter Try.func24, Try.ntmps24
      go_wp2_with fail
      refine (spec_diffOk A c a _ HA.out (by omega) HLA.out).mono ?_
      rintro e w1 ⟨rfl, hb1⟩
      rw [h1]
      go_wp2_with fail
      refine (spec_diffOk B d b _ (HB.out.to_ hb1) (by omega) HLB.out).mono ?_
      rintro e w2 ⟨rfl, hb2⟩
      rw [h2]
      have hB2 := below_next hb1 hb2 rfl rfl
      clear hb1 hb2
      go_wp2_with fail
      go_ret
      exact dpost_none hB2 rfl
  · rw [Bool.not_eq_true] at h1
    have he : flipsD a b = [] := by unfold flipsD; rw [h1]; rfl
    rw [he]
    clear he
    go_enter Try.func24, Try.ntmps24
    go_wp2_with fail
    refine (spec_diffOk A c a _ HA.out (by omega) HLA.out).mono ?_
    rintro e w1 ⟨rfl, hb1⟩
    rw [h1]
    go_wp2_with fail
    go_ret
    exact dpost_none hb1 rfl
end Go.Proofs.Ytggkggaihfcjmaa
