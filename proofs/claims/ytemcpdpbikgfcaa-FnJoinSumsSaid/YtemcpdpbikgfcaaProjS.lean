/-
  spec.Project.
-/
import Derived.Test.YtemcpdpbikgfcaaJoinMIZ
namespace Go.Proofs.Ytemcpdpbikgfcaa
open Go.RowKit Go.Sort
set_option linter.unusedVariables false

theorem VI.below {w W W' : World} {v : Value} {us : List GV} (h : VI w W v us) (hb : Below W.heap.size W W') : VI w W' v us := by
  refine ⟨⟨h.1.1, ?_⟩, below_next h.2.1 hb rfl rfl, h.2.2⟩
  rcases h.1.2 with h' | ⟨g, cap, cur, e', hg', hc, hr⟩
  · exact .inl h'
  · exact .inr ⟨g, cap, cur, e', hg', (hb.block g (Array.getElem?_eq_some_iff.1 hc).1).trans hc, hr⟩
/-- append of one value, which lies in a block of its own, to a row of the call's own. -/
theorem step_vone {ops : Array Oper} {o : Oper} {a : Act} {W : World} {K : Act → World → Prop} {Q : Exit → Act → World → Prop} {E : Prop}
    (hg : o.guard = none) (s x : Operand) (hop : o.op = Op.call { callee := Callee.builtin Builtin.append, args := #[s, x], argTypes := #[53, 53] })
    (w : World) (v : Value) (us : List GV) (y : GV) (b : Nat) (hs : a.eval s = v) (hI : VI w W v us) (hx : a.eval x = .slice (some ⟨b, 0, none⟩) 1 1)
    (h0 : W.cell? ⟨b, 0, none⟩ = some (.int .i64 y.k)) (h1 : W.cell? ⟨b, 1, none⟩ = some (.int .i64 y.n)) (h2 : W.cell? ⟨b, 2, none⟩ = some (.string y.t)) (hb : us.length ≤ 4194304)
    (hK : ∀ v' W', VI w W' v' (us ++ [y]) → K (a.put o.dst v') W') :
    if Region.wanted o (yielded ops a.tmps) = true then Oper.wp Try.prog o a W K Q else E := by
  have hw : Region.wanted o (yielded ops a.tmps) = true := by simp [Region.wanted, hg]
  rw [if_pos hw]
  obtain ⟨i0, hi, hz0, hz1, hz2⟩ := info_parts infoValue
  have hl := hI.2.1
  refine wp_append_own _ s x _ hop w.heap.size 52 i0 _ 3 32 Try.underlying53 hi hz0 hz1 hz2 rfl (by decide) v us.length (flat us) hs hI.1 ⟨b, 0, none⟩ 1 1 [.int .i64 y.k, .int .i64 y.n, .string y.t] hx rfl (fun j u hj => ?_) (fun u hu => ?_) (by unfold maxLen; omega) (by omega) hl.size (fun v' W' h1 h2 h3 => hK v' W' ⟨?_, hl.grown h2 hl.size (fun k hk => (World.ownsRow.lt hI.1 k hk).1), fun e1 => hI.2.2 (h3.1 e1).1⟩)
  · match j, hj with
    | 0, hj => simp at hj; subst hj; simpa [Addr.add] using h0
    | 1, hj => simp at hj; subst hj; simpa [Addr.add] using h1
    | 2, hj => simp at hj; subst hj; simpa [Addr.add] using h2
  · simp at hu; rcases hu with rfl | rfl | rfl <;> rfl
  · show W'.ownsRow _ _ _ _ _ _
    rw [List.length_append, flat_append]
    simpa [flat] using h1
theorem none_post' {w : World} {D : List GDiff} {C : List Int} (h : projD D C = []) : ∀ w', Below w.heap.size w w' → DPost w (projD D C) (.returned (.slice (some ⟨w.heap.size, 0, none⟩) 0 0)) w' := fun w' hb => by
  rw [h]; exact ⟨_, _, rfl, ⟨Nat.le_refl _, Nat.zero_le _⟩, .inl rfl, hb⟩
set_option maxRecDepth 100000 in
set_option maxHeartbeats 6400000 in
theorem spec_project {lo lo' : Nat} (A B : Option Addr) (c d : Nat) (zs : List GDiff) (cols : List Int) (w : World) (hr : DiffsAt w lo w.heap.size A zs) (hc : IntsAt w lo' w.heap.size B cols) (hl : zs.length ≤ 1048576) (hcl : cols.length ≤ 1048576)
    (hlr : ∀ z ∈ zs, z.row.length ≤ 1048576 ∧ ∀ v ∈ z.row, v.t.size ≤ maxLen) :
    Calls Try.prog 28 #[.slice A zs.length c, .slice B cols.length d] w (DPost w (projD zs cols)) := by
  have HR := Lib.hid hr
  have HC := Lib.hid hc
  have HLR := Lib.hid hlr
  clear hr hc hlr
  have hB0 : Below w.heap.size w (w.alloc (.cells #[] 55)) := (Below.refl _ _).alloc (Nat.le_refl _) _
  by_cases h1 : diffOkB zs = true
  · by_cases h8 : 8 < cols.length
    · have hp : projD zs cols = [] := projD_no (by unfold projB; rw [show decide (cols.length ≤ 8) = false by simpa using h8]; simp)
      rw [hp]
      clear hp
      have h8d : decide ((8 : Int) < (cols.length : Int)) = true := by simp; omega
      go_enter Try.func28, Try.ntmps28
      go_wp2_with fail
      refine (spec_diffOk A c zs _ (HR.out.to_ hB0) (by omega) HLR.out).mono ?_
      rintro e w1 ⟨rfl, hb1⟩
      have hB1 := below_next hB0 hb1 rfl rfl
      rw [h1]
      go_wp2_with fail
      go_ret
      exact ⟨_, _, rfl, ⟨Nat.le_refl _, Nat.zero_le _⟩, .inl rfl, hB1⟩
    · have h8d : decide ((8 : Int) < (cols.length : Int)) = false := by simp; omega
      have hzl0 := (ok_small h1).1
      go_enter Try.func28, Try.ntmps28
      go_wp2_with fail
      refine (spec_diffOk A c zs _ (HR.out.to_ hB0) (by omega) HLR.out).mono ?_
      rintro e w1 ⟨rfl, hb1⟩
      have hB1 := below_next hB0 hb1 rfl rfl
      rw [h1]
      go_wp2_with fail
      go_loopw [6, 7] (fun out i w' => ∃ (k : Nat) (L : List GDiff), k ≤ zs.length ∧ i = .int .i64 k ∧ Hid (L = (zs.take k).map (pick cols)) ∧ Hid (0 < k → ∀ c ∈ cols, inCol (widD zs) c = true) ∧ Hid (DAcc w w' out L)) (fun _ i _ => zs.length - (intOf i).toNat)
      case atStart => exact ⟨0, [], Nat.zero_le _, rfl, Lib.hid rfl, Lib.hid (fun h => by omega), Lib.hid (DAcc.start hB1 rfl)⟩
      case round =>
        obtain ⟨k, L, hk, rfl, hL, hGood, hD⟩ := hrel
        obtain ⟨A6, c6, rfl, hcap6⟩ := hD.out.slice
        have hLl := Lib.hid (show L.length = k by rw [hL.out]; simp; omega)
        by_cases hlt : k < zs.length
        · have hi1 : (k : Int) < (zs.length : Int) := by omega
          have hi0 : (0 : Int) ≤ (k : Int) := by omega
          have hzl : L.length ≤ 4194304 := by have := hLl.out; omega
          obtain ⟨wo, rfl⟩ : ∃ wo : World, wo = wr := ⟨_, rfl⟩
          have HV0 := Lib.hid (VI.start (n := wo.heap.size) (Below.refl wo.heap.size wo) rfl)
          go_wp2_with fail
          go_loopw [8, 9] (fun row i w' => ∃ (m : Nat) (R : List GV), m ≤ cols.length ∧ i = .int .i64 m ∧ Hid (R = pRow (cols.take m) zs[k].row) ∧ Hid (∀ c ∈ cols.take m, inCol zs[k].row.length c = true) ∧ Hid (VI wo w' row R)) (fun _ i _ => cols.length - (intOf i).toNat)
          case atStart => exact ⟨0, [], Nat.zero_le _, rfl, Lib.hid rfl, Lib.hid (fun c hc => by simp at hc), HV0⟩
          case round =>
            obtain ⟨m, R, hm, rfl, hR, hIn, hV⟩ := hrel
            have hRl := Lib.hid (show R.length = m by rw [hR.out]; simp [pRow]; omega)
            have hBw := Lib.hid (below_next hD.out.low hV.out.2.1 rfl rfl)
            obtain ⟨g, o, rfl, _, hg, ⟨A', c', ⟨hcell, hcap⟩, hrow⟩, hcnt⟩ := (HR.out.to_ hBw.out).at_ hlt
            by_cases hml : m < cols.length
            · have hm1 : (m : Int) < (cols.length : Int) := by omega
              have hm0 : (0 : Int) ≤ (m : Int) := by omega
              obtain ⟨g2, o2, rfl, _, hg2, he⟩ := (HC.out.to_ hBw.out).at_ hml
              have he2 : wr.cell? ⟨g2, o2 + m, none⟩ = some (.int .i64 cols[m]) := he
              clear he
              by_cases hin : inCol zs[k].row.length cols[m] = true
              · obtain ⟨i, hci, hil⟩ := inCol_nat hin
                obtain ⟨g3, o3, rfl, hg3, c0, c1, c2⟩ := hrow.row.at_ hil
                have hRs := Lib.hid (show R ++ [zs[k].row[i]] = pRow (cols.take (m + 1)) zs[k].row by rw [pRow_snoc cols _ m hml, hR.out, pV_at hci hil])
                have hIn2 := Lib.hid (show ∀ c ∈ cols.take (m + 1), inCol zs[k].row.length c = true from fun c hc => by
                  rw [List.take_succ_eq_append_getElem hml, List.mem_append, List.mem_singleton] at hc
                  rcases hc with hc | rfl
                  · exact hIn.out c hc
                  · exact hin)
                rw [hci] at he2
                have q0 := cell_regrown he2
                have q1 := cell_regrown hcell
                have ii0 : (0 : Int) ≤ (i : Int) := by omega
                have ii1 : (i : Int) < (zs[k].row.length : Int) := by omega
                have hn0 : decide ((i : Int) < 0) = false := by simp
                have hn1 : decide ((zs[k].row.length : Int) ≤ (i : Int)) = false := by simp; omega
                have hrl : R.length ≤ 4194304 := by have := hRl.out; omega
                obtain ⟨A8, c8, rfl, _, _⟩ := hV.out.st (N := 0)
                clear hrow hin hci
                go_wp2_with fail
                refine wp_region_quiet_below (by kernel_rfl) (by kernel_rfl) ?_
                repeat (go_big_quiet_step (first | fail))
                refine wpQuiet_nil ?_
                intro _ hw'
                obtain ⟨⟨dq, osq⟩, hw''⟩ := hw'
                subst hw''
                have hbx := below_regrown wr dq osq
                have hVx := Lib.hid (hV.out.below hbx)
                have d0 := (hbx.cell (p := ⟨g2, o2 + m, none⟩) (World.block_lt_of_cell? _ _ he2)).trans he2
                have d1 := (hbx.cell (p := ⟨g, o + k * 2, none⟩) (World.block_lt_of_cell? _ _ hcell)).trans hcell
                have d2 := (hbx.cell (p := ⟨g3, o3 + i * 3, none⟩) (World.block_lt_of_cell? _ _ c0)).trans c0
                have d3 := (hbx.cell (p := ⟨g3, o3 + i * 3 + 1, none⟩) (World.block_lt_of_cell? _ _ c1)).trans c1
                have d4 := (hbx.cell (p := ⟨g3, o3 + i * 3 + 2, none⟩) (World.block_lt_of_cell? _ _ c2)).trans c2
                generalize grow (redrawn wr dq) osq = wx at *
                clear q0 q1 he2 hcell c0 c1 c2 hcnt hbx hV
                go_wp2_with fail
                go_region_law (first
                  | (refine step_vone rfl (.tmp 53) (.tmp 65) rfl wo _ R zs[k].row[i] wx.heap.size rfl (hVx.out.below (by first | exact ((Below.refl _ _).alloc (Nat.le_refl _) _).drew | exact ((Below.refl _ _).drew).alloc (Nat.le_refl _) _)) rfl (by simp) (by simp) (by simp) hrl ?_; intro v1 W1 hV1))
                all_goals have HV1 := Lib.hid hV1
                all_goals clear hV1 d0 d1 d2 d3 d4
                all_goals go_wp2_with fail
                all_goals go_roundw
                all_goals first
                  | exact ⟨m + 1, _, by omega, by go_num, hRs, hIn2, HV1⟩
                  | (simp [intOf]; omega)
              · rw [Bool.not_eq_true] at hin
                have hp := Lib.hid (projD_no (proj_bad h1 hlt hml hin))
                have q0 := cell_regrown he2
                have q1 := cell_regrown hcell
                have hbd : cols[m] < 0 ∨ (0 ≤ cols[m] ∧ (zs[k].row.length : Int) ≤ cols[m]) := by
                  unfold inCol at hin
                  simp only [Bool.and_eq_false_iff, decide_eq_false_iff_not] at hin
                  omega
                have HPo := Lib.hid (none_post' (w := w) (D := zs) (C := cols) hp.out)
                clear hrow hin hcnt hp
                generalize cols[m] = y at *
                rcases hbd with hy | ⟨hy, hy2⟩
                · have hn0 : decide (y < 0) = true := by simpa using hy
                  go_wp2_with fail
                  refine wp_region_quiet_below (by kernel_rfl) (by kernel_rfl) ?_
                  repeat (go_big_quiet_step (first | fail))
                  refine wpQuiet_nil ?_
                  intro _ hw'
                  obtain ⟨⟨dq, osq⟩, hw''⟩ := hw'
                  subst hw''
                  have hB2 := below_next hBw.out (below_regrown wr dq osq) rfl rfl
                  generalize grow (redrawn wr dq) osq = wx at *
                  clear q0 q1 he2 hcell
                  go_wp2_with fail
                  go_ret
                  exact HPo.out _ hB2
                · have hn0 : decide (y < 0) = false := by simp; omega
                  have hn1 : decide ((zs[k].row.length : Int) ≤ y) = true := by simpa using hy2
                  go_wp2_with fail
                  refine wp_region_quiet_below (by kernel_rfl) (by kernel_rfl) ?_
                  repeat (go_big_quiet_step (first | fail))
                  refine wpQuiet_nil ?_
                  intro _ hw'
                  obtain ⟨⟨dq, osq⟩, hw''⟩ := hw'
                  subst hw''
                  have hB2 := below_next hBw.out (below_regrown wr dq osq) rfl rfl
                  generalize grow (redrawn wr dq) osq = wx at *
                  clear q0 q1 he2 hcell
                  go_wp2_with fail
                  go_ret
                  exact HPo.out _ hB2
            · have hm1 : ¬ (m : Int) < (cols.length : Int) := by omega
              obtain ⟨A8, c8, rfl, hst8, hcap8⟩ := hV.out.st (N := w.heap.size)
              have hRe : R = pRow cols zs[k].row := by rw [hR.out, List.take_of_length_le (by omega)]
              have hLs := Lib.hid (show L ++ [⟨R, zs[k].count⟩] = (zs.take (k + 1)).map (pick cols) by
                rw [List.take_succ_eq_append_getElem hlt, List.map_append, hL.out, hRe]; rfl)
              have hG2 := Lib.hid (show 0 < k + 1 → ∀ c ∈ cols, inCol (widD zs) c = true from fun _ c hc => by
                have h3 := hIn.out
                rw [List.take_of_length_le (by omega), ((diffOk_all h1).2 zs[k] (List.getElem_mem hlt)).1] at h3
                exact h3 c hc)
              have hDx := Lib.hid (hD.out.below hV.out.2.1)
              have hp := Lib.hid (show DHok wr w.heap.size ((A8, c8), ⟨R, zs[k].count⟩) from ⟨hst8, hcap8⟩)
              clear hrow hst8 hcap8 hV hcell hRe
              go_wp2_with (first | (at_builtin; refine wpList_dapp _ rfl (.tmp 67) (.tmp 75) rfl w _ L ((A8, c8), ⟨R, zs[k].count⟩) rfl hDx.out hp.out rfl hzl ?_; intro v3 w3 hD3; refine Hid.out ?_))
              refine Lib.hid ?_
              have HD3 := Lib.hid hD3
              clear hD3 hcnt
              go_wp2_with fail
              go_roundw
              case rel => exact ⟨k + 1, _, by omega, by go_num, hLs, hG2, HD3⟩
              case measure => simp [intOf]; omega
        · have hi1 : ¬ (k : Int) < (zs.length : Int) := by omega
          have hkz : k = zs.length := by omega
          have hE : L = zs.map (pick cols) := by rw [hL.out, List.take_of_length_le (by omega)]
          have hpb : projB zs cols = true := proj_good h1 (by omega) (by
            by_cases h0 : zs.length = 0
            · exact .inl (List.eq_nil_of_length_eq_zero h0)
            · exact .inr (hGood.out (by omega)))
          have hpd := Lib.hid (show orD (sumD L) = projD zs cols by unfold projD; rw [if_pos hpb, hE])
          have hpg := picks_good hpb
          rw [← hE] at hpg
          obtain ⟨A9, c9, he9, hcp9, hd9⟩ := hD.out.diffs
          cases he9
          have hL3 : L.length ≤ 3000 := by have := hLl.out; omega
          have hcn := Lib.hid (show cntLe 1000000 L from fun z hz => ⟨(hpg z hz).2.1, (hpg z hz).2.2.1⟩)
          have hrw := Lib.hid (show ∀ z ∈ L, z.row.length ≤ 8 ∧ ∀ v ∈ z.row, v.t.size ≤ 60 from fun z hz => by
            have h4 := goodRow_rowOk (hpg z hz).1
            unfold rowOkB at h4
            simp only [Bool.and_eq_true, decide_eq_true_eq, List.all_eq_true] at h4
            exact ⟨h4.2, fun v hv => okG_size (h4.1 v hv)⟩)
          obtain ⟨s1, _, s3⟩ := sumD_props 1000000 (by omega) (fun r => r.length ≤ 8 ∧ ∀ v ∈ r, v.t.size ≤ 60) _ L (Nat.le_refl _) hcn.out hrw.out
          have HS3 := Lib.hid s3
          have HD9 := Lib.hid hd9
          have HB9 := Lib.hid hD.out.low
          clear hpg hE hpb s3 hd9 hD
          go_wp2_with fail
          refine (spec_sumD 1000000 (by omega) (by omega) L.length A6 c6 L _ (Nat.le_refl _) (by omega) HD9.out hcp9 (fun z hz => Nat.le_trans (hrw.out z hz).1 (by omega)) hcn.out).mono ?_
          rintro e w5 ⟨E5, e5, rfl, _, hd5, hb5⟩
          have hB5 := Lib.hid (below_next HB9.out hb5 rfl rfl)
          have HD5 := Lib.hid hd5
          clear hd5 hb5
          go_wp2_with fail
          refine (spec_orD E5 e5 (sumD L) _ HD5.out (by omega) (fun z hz => ⟨Nat.le_trans (HS3.out z hz).1 (by omega), fun v hv => Nat.le_trans ((HS3.out z hz).2 v hv) (by unfold maxLen; omega)⟩)).mono ?_
          rintro e w6 ⟨E6, e6, rfl, hcp6, hd6, hb6⟩
          have hB6 := Lib.hid (below_next hB5.out hb6 rfl rfl)
          have HD6 := Lib.hid hd6
          clear hd6 hb6
          go_wp2_with fail
          go_ret
          rw [← hpd.out]
          exact ⟨_, _, rfl, hcp6, HD6.out, hB6.out⟩
  · rw [Bool.not_eq_true] at h1
    have hp : projD zs cols = [] := projD_no (by unfold projB; rw [h1]; simp)
    rw [hp]
    clear hp
    go_enter Try.func28, Try.ntmps28
    go_wp2_with fail
    refine (spec_diffOk A c zs _ (HR.out.to_ hB0) (by omega) HLR.out).mono ?_
    rintro e w1 ⟨rfl, hb1⟩
    have hB1 := below_next hB0 hb1 rfl rfl
    rw [h1]
    go_wp2_with fail
    go_ret
    exact ⟨_, _, rfl, ⟨Nat.le_refl _, Nat.zero_le _⟩, .inl rfl, hB1⟩
end Go.Proofs.Ytemcpdpbikgfcaa
