/-
  spec.JoinDiffs where there is a join.
-/
import Derived.Test.YtemcpdpbikgfcaaJoinN
import Derived.Test.YtemcpdpbikgfcaaProjS
import Derived.Deep.RegionLaw
namespace Go.Proofs.Ytemcpdpbikgfcaa
open Go.RowKit Go.Sort
set_option linter.unusedVariables false

theorem RowAt.back {w : World} {B : Nat} {A : Option Addr} {r : List GV} (h : RowAt w B A r) {n c : Nat} (hc : r.length ≤ c) : RowAt w B (if c = n then A else A.map (fun x => x.add (n * 3))) (r.drop n) := by
  by_cases hn : c = n
  · rw [if_pos hn]; left; exact List.drop_of_length_le (by omega)
  · rw [if_neg hn]
    rcases h with rfl | ⟨g, o, rfl, hg, hcl⟩
    · exact .inl (by simp)
    · refine .inr ⟨g, o + n * 3, by simp [Addr.add_lit], hg, fun i v hv => ?_⟩
      rw [List.getElem?_drop] at hv
      have := hcl (n + i) v hv
      rwa [show o + (n + i) * 3 = o + n * 3 + i * 3 by omega] at this
theorem RowAt.frontS {w : World} {B : Nat} {A : Option Addr} {r : List GV} (h : RowAt w B A r) (n : Nat) : RowAt w B A (r.take n) := by
  rcases h with rfl | ⟨g, o, hA, hg, hc⟩
  · exact .inl (by simp)
  · refine .inr ⟨g, o, hA, hg, fun i v hv => hc i v ?_⟩
    rw [List.getElem?_take] at hv
    split at hv
    · exact hv
    · cases hv
theorem DHok.below {w w' : World} {N : Nat} {p : DH} (h : DHok w N p) (hb : Below w.heap.size w w') (hN : N ≤ w.heap.size) : DHok w' N p := ⟨h.1.keep (hb.mono hN) (KeepT.below hb), h.2⟩
theorem step_vappL {ops : Array Oper} {o : Oper} {a : Act} {W : World} {K : Act → World → Prop} {Q : Exit → Act → World → Prop} {E : Prop}
    (hg : o.guard = none) (s x : Operand) (hop : o.op = Op.call { callee := Callee.builtin Builtin.append, args := #[s, x], argTypes := #[53, 53] })
    (w : World) (v : Value) (us : List GV) (hs : a.eval s = v) (hI : VI w W v us)
    (A : Option Addr) (c : Nat) (vs : List GV) (ln : Nat) (hln : vs.length = ln) (hx : a.eval x = .slice A ln c) (hr : RowAt w w.heap.size A vs) (hb : us.length + vs.length ≤ 4194304)
    (hK : ∀ v' W', VI w W' v' (us ++ vs) → K (a.put o.dst v') W') :
    if Region.wanted o (yielded ops a.tmps) = true then Oper.wp Try.prog o a W K Q else E := by
  subst hln
  exact step_vapp hg s x hop w v us hs hI A c vs hx hr hb hK
theorem step_dappG {ops : Array Oper} {o : Oper} {a : Act} {W : World} {K : Act → World → Prop} {Q : Exit → Act → World → Prop} {E : Prop}
    (hg : o.guard = none) (s x : Operand) (hop : o.op = Op.call { callee := Callee.builtin Builtin.append, args := #[s, x], argTypes := #[24, 24] })
    (w0 : World) (v : Value) (zs : List GDiff) (p : DH) (b : Nat) (hs : a.eval s = v) (hI : DAcc w0 W v zs) (hp : DHok W w0.heap.size p) (hx : a.eval x = .slice (some ⟨b, 0, none⟩) 1 1)
    (h0 : W.cell? ⟨b, 0, none⟩ = some (.slice p.1.1 p.2.row.length p.1.2)) (h1 : W.cell? ⟨b, 1, none⟩ = some (.int .i64 p.2.count)) (hb : zs.length ≤ 4194304)
    (hK : ∀ v' w', DAcc w0 w' v' (zs ++ [p.2]) → K (a.put o.dst v') w') :
    if Region.wanted o (yielded ops a.tmps) = true then Oper.wp Try.prog o a W K Q else E := by
  have hw : Region.wanted o (yielded ops a.tmps) = true := by simp [Region.wanted, hg]
  rw [if_pos hw]
  obtain ⟨i0, hi, hz0, hz1, hz2⟩ := info_parts infoDiff
  obtain ⟨ps, e, how, hq⟩ := hI.own
  have hcells : ∀ j u, (dhL p)[j]? = some u → W.cell? ((⟨b, 0, none⟩ : Addr).add j) = some u := by
    intro j u hj
    match j, hj with
    | 0, hj => simp [dhL] at hj; subst hj; rw [Addr.add_lit]; exact h0
    | 1, hj => simp [dhL] at hj; subst hj; rw [Addr.add_lit]; exact h1
  refine wp_append_own _ s x _ hop w0.heap.size 55 i0 _ 2 32 Try.underlying24 hi hz0 hz1 hz2 rfl (by decide) v zs.length (flatH ps) hs how ⟨b, 0, none⟩ 1 1 (dhL p) hx rfl hcells (dhL_one p) (by unfold maxLen; omega) (by omega) hI.low.size (fun v' w' h1 h2 h3 => hK v' w' ?_)
  have hbw : Below w0.heap.size W w' := (Below.refl _ _).grown h2 hI.low.size (fun k hk => (World.ownsRow.lt how k hk).1)
  have hk := KeepT.grown how h2
  refine ⟨⟨ps ++ [p], by simp [e], ?_, fun q hm => ?_⟩, fun e1 => hI.ne (h3.1 e1).1, hI.low.trans hbw⟩
  · rw [flatH_append, List.length_append]
    simpa [flatH] using h1
  · rw [List.mem_append, List.mem_singleton] at hm
    rcases hm with hm | rfl
    · exact ⟨(hq q hm).1.keep hbw hk, (hq q hm).2⟩
    · exact ⟨hp.1.keep hbw hk, hp.2⟩
/-- CompareRows at the first n values. -/
theorem spec_front (z : Int) (A A' : Option Addr) (c c' n : Nat) (r s : List GV) (w : World) (hz : cmpR (r.take n) (s.take n) = z) (hr : RowAt w w.heap.size A r) (hs : RowAt w w.heap.size A' s) (hn : n ≤ r.length) (hn' : n ≤ s.length) (h8 : n ≤ 8) :
    Calls Try.prog 61 #[.slice A n c, .slice A' n c'] w fun e w' => e = .returned (.int .i64 z) ∧ Below w.heap.size w w' := by
  have h := spec_rows A A' c c' (r.take n) (s.take n) w (hr.frontS n) (hs.frontS n) (by simp; omega) (by simp; omega)
  rw [show (r.take n).length = n by simp; omega, show (s.take n).length = n by simp; omega, hz] at h
  exact h
theorem pair_yes {n : Nat} {x y : GDiff} (h : cmpR (x.row.take n) (y.row.take n) = 0) : pairD n x y = [⟨x.row ++ y.row.drop n, x.count * y.count⟩] := by unfold pairD; rw [if_pos h]
theorem pair_no {n : Nat} {x y : GDiff} (h : cmpR (x.row.take n) (y.row.take n) ≠ 0) : pairD n x y = [] := by unfold pairD; rw [if_neg h]
theorem join_big {a b : List GDiff} {n k : Nat} (h : 3000 < (pairsD n (a.take k) b).length) : joinD a b (n : Int) = [] := by
  unfold joinD
  rw [if_neg]
  rintro ⟨_, h2⟩
  have := pairsD_take n a b k
  simp only [Int.toNat_natCast] at h2
  omega
theorem mul_range {x y : Int} (hx : -1000000 ≤ x ∧ x ≤ 1000000) (hy : -1000000 ≤ y ∧ y ≤ 1000000) : -1000000000000 ≤ x * y ∧ x * y ≤ 1000000000000 := by
  have h := Int.natAbs_mul x y
  have h1 : x.natAbs ≤ 1000000 := by omega
  have h2 : y.natAbs ≤ 1000000 := by omega
  have h3 := Nat.mul_le_mul h1 h2
  rw [← h] at h3
  omega
theorem pairs_small {a b : List GDiff} {n : Nat} (h1 : diffOkB a = true) (h2 : diffOkB b = true) (h8 : widD a + widD b ≤ 8 + n) (hn : n ≤ widD b) :
    cntLe 1000000000000 (pairsD n a b) ∧ (∀ z ∈ pairsD n a b, goodRow (widD a + widD b - n) z.row = true) ∧ nzD (pairsD n a b) := by
  have key : ∀ z ∈ pairsD n a b, (-1000000000000 ≤ z.count ∧ z.count ≤ 1000000000000) ∧ goodRow (widD a + widD b - n) z.row = true ∧ z.count ≠ 0 := by
    intro z hz
    obtain ⟨x, hx, y, hy, rfl⟩ := pairsD_mem hz
    have ax := (diffOk_all h1).2 x hx
    have ay := (diffOk_all h2).2 y hy
    have bx := diffOk_asc h1
    have by_ := diffOk_asc h2
    refine ⟨mul_range ax.2.2.2 ay.2.2.2, ?_, Int.mul_ne_zero (bx.2.1 x hx) (by_.2.1 y hy)⟩
    have gx := (bx.2.2 x hx).1
    have gy := (by_.2.2 y hy).1
    unfold goodRow at gx gy ⊢
    simp only [Bool.and_eq_true, decide_eq_true_eq] at gx gy ⊢
    have px := okRow_vals gx.1
    have py := okRow_vals gy.1
    refine ⟨?_, by rw [List.length_append, List.length_drop, ax.1, ay.1]; omega⟩
    unfold rowOkB
    simp only [Bool.and_eq_true, decide_eq_true_eq, List.all_eq_true]
    refine ⟨fun v hv => ?_, by rw [List.length_append, List.length_drop, ax.1, ay.1]; omega⟩
    rcases List.mem_append.1 hv with hv | hv
    · exact px v hv
    · exact py v (List.mem_of_mem_drop hv)
  exact ⟨fun z hz => (key z hz).1, fun z hz => (key z hz).2.1, fun z hz => (key z hz).2.2⟩
set_option maxRecDepth 100000 in
set_option maxHeartbeats 12800000 in
theorem spec_join_yes {lo lo' : Nat} (A B : Option Addr) (c d : Nat) (a b : List GDiff) (n : Nat) (w : World) (ha : DiffsAt w lo w.heap.size A a) (hb : DiffsAt w lo' w.heap.size B b) (hla : a.length ≤ 1048576) (hlb : b.length ≤ 1048576)
    (hra : ∀ z ∈ a, z.row.length ≤ 1048576 ∧ ∀ v ∈ z.row, v.t.size ≤ maxLen) (hrb : ∀ z ∈ b, z.row.length ≤ 1048576 ∧ ∀ v ∈ z.row, v.t.size ≤ maxLen) (h1 : diffOkB a = true) (h2 : diffOkB b = true) (ha0 : 0 < a.length) (hb0 : 0 < b.length) (h4 : n ≤ widD a) (h5 : n ≤ widD b) (h6 : widD a + widD b ≤ 8 + n) :
    Calls Try.prog 26 #[.slice A a.length c, .slice B b.length d, .int .i64 n] w (DPost w (joinD a b n)) := by
  have HA := Lib.hid ha
  have HB := Lib.hid hb
  have HRA := Lib.hid hra
  have HRB := Lib.hid hrb
  have hwa : widD a ≤ 8 := by have h := (diffOk_all h1).2 a[0] (List.getElem_mem ha0); omega
  have hwb : widD b ≤ 8 := by have h := (diffOk_all h2).2 b[0] (List.getElem_mem hb0); omega
  have h3000 := (ok_small h1).1
  have h3000b := (ok_small h2).1
  clear ha hb hra hrb
  have hB0 : Below w.heap.size w (w.alloc (.cells #[] 55)) := (Below.refl _ _).alloc (Nat.le_refl _) _
  go_enter Try.func26, Try.ntmps26
  go_wp2_with fail
  refine (spec_diffOk A c a _ (HA.out.to_ hB0) (by first | omega | simp) HRA.out).mono ?_
  rintro e w1 ⟨rfl, hb1⟩
  have hB1 := below_next hB0 hb1 rfl rfl
  rw [h1]
  go_wp2_with fail
  refine (spec_diffOk B d b _ (HB.out.to_ hB1) (by first | omega | simp) HRB.out).mono ?_
  rintro e w2 ⟨rfl, hb2⟩
  have hB2 := below_next hB1 hb2 rfl rfl
  rw [h2]
  have h3d : decide ((n : Int) < 0) = false := by simp
  have h3n : ¬ (n : Int) < 0 := by omega
  have HAx := HA.out
  have HBx := HB.out
  obtain ⟨g, o, A1, c1, rfl, ca⟩ := first_cell (HAx.to_ hB2) ha0
  have pa : (0 : Int) < (a.length : Int) := by omega
  obtain ⟨g', o', B1, d1, rfl, cb⟩ := first_cell (HBx.to_ hB2) hb0
  have pb : (0 : Int) < (b.length : Int) := by omega
  have pad : decide ((0 : Int) < (a.length : Int)) = true := by simpa using pa
  have h4d : decide ((widD a : Int) < (n : Int)) = false := by simp; omega
  have pbd : decide ((0 : Int) < (b.length : Int)) = true := by simpa using pb
  have h5d : decide ((widD b : Int) < (n : Int)) = false := by simp; omega
  have pe : ((a.length : Int) == 0) = false := by rw [beq_eq_false_iff_ne]; omega
  have pf : ((b.length : Int) == 0) = false := by rw [beq_eq_false_iff_ne]; omega
  have q0 := cell_regrown ca
  have q1 := cell_regrown cb
  have h6d : decide (8 < (widD a : Int) + (widD b : Int) - (n : Int)) = false := by simp; omega
  clear HAx HBx
  go_wp2_with fail
  refine wp_region_quiet_below (by kernel_rfl) (by kernel_rfl) ?_
  repeat (go_big_quiet_step (first | fail))
  refine wpQuiet_nil ?_
  intro _ hw'
  obtain ⟨⟨dq, osq⟩, hw''⟩ := hw'
  subst hw''
  have hB3 := below_next hB2 (below_regrown w2 dq osq) rfl rfl
  generalize grow (redrawn w2 dq) osq = w3 at *
  clear ca cb q0 q1 hb1 hb2
  have HD0 := Lib.hid (DAcc.start hB3 rfl)
  go_wp2_with fail
  go_loopw [8, 9] (fun out i w' => ∃ (k : Nat) (L : List GDiff), k ≤ a.length ∧ i = .int .i64 k ∧ L.length ≤ 3000 ∧ Hid (L = pairsD n (a.take k) b) ∧ Hid (DAcc w w' out L)) (fun _ i _ => a.length - (intOf i).toNat)
  case atStart => exact ⟨0, [], Nat.zero_le _, rfl, by simp, Lib.hid rfl, HD0⟩
  case round =>
    obtain ⟨k, L, hk, rfl, hL3, hL, hD⟩ := hrel
    obtain ⟨A6, c6, rfl, hcap6⟩ := hD.out.slice
    by_cases hlt : k < a.length
    · have hi1 : (k : Int) < (a.length : Int) := by omega
      have hi0 : (0 : Int) ≤ (k : Int) := by omega
      obtain ⟨wo, rfl⟩ : ∃ wo : World, wo = wr := ⟨_, rfl⟩
      have HDo := hD
      go_wp2_with fail
      go_loopw [8, 10] (fun out j w' => ∃ (m : Nat) (M : List GDiff), m ≤ b.length ∧ j = .int .i64 m ∧ M.length ≤ 3000 + m ∧ Hid (M = pairsD n (a.take k) b ++ rowJ n a[k] (b.take m)) ∧ Hid (DAcc w w' out M)) (fun _ j _ => b.length - (intOf j).toNat)
      case atStart => exact ⟨0, L, Nat.zero_le _, rfl, by omega, Lib.hid (by rw [hL.out]; simp [rowJ]), HDo⟩
      case round =>
        obtain ⟨m, M, hm, rfl, hM3, hM, hD⟩ := hrel
        obtain ⟨A7, c7, rfl, hcap7⟩ := hD.out.slice
        by_cases hml : m < b.length
        · have hj1 : (m : Int) < (b.length : Int) := by omega
          have hj0 : (0 : Int) ≤ (m : Int) := by omega
          have hn0 : (0 : Int) ≤ (n : Int) := by omega
          obtain ⟨g1, o1, eA, _, hg1, ⟨A', c', ⟨hcell, hcap⟩, hrow⟩, hcnt⟩ := (HA.out.to_ hD.out.low).at_ hlt
          simp only [Option.some.injEq, Addr.mk.injEq] at eA
          obtain ⟨rfl, rfl, _⟩ := eA
          obtain ⟨g2, o2, eB, _, hg2, ⟨B', d', ⟨hcell', hcap'⟩, hrow'⟩, hcnt'⟩ := (HB.out.to_ hD.out.low).at_ hml
          simp only [Option.some.injEq, Addr.mk.injEq] at eB
          obtain ⟨rfl, rfl, _⟩ := eB
          have pa := (diffOk_all h1).2 a[k] (List.getElem_mem hlt)
          have pb := (diffOk_all h2).2 b[m] (List.getElem_mem hml)
          have hnc : (n : Int) ≤ (c' : Int) := by have := hcap.1; have := pa.1; omega
          have hnd : (n : Int) ≤ (d' : Int) := by have := hcap'.1; have := pb.1; omega
          have hnl : (n : Int) ≤ (b[m].row.length : Int) := by have := pb.1; omega
          have hna : n ≤ a[k].row.length := by have := pa.1; omega
          have hnb : n ≤ b[m].row.length := by have := pb.1; omega
          have hla8 : a[k].row.length ≤ 8 := pa.2.1
          have hlb8 : b[m].row.length ≤ 8 := pb.2.1
          have HRo := Lib.hid hrow.row
          have HRo' := Lib.hid hrow'.row
          have q0 := cell_regrown hcell
          have q1 := cell_regrown hcell'
          have hmul := Lib.hid (mul_range pa.2.2.2 pb.2.2.2)
          have hst := Lib.hid (show M ++ pairD n a[k] b[m] = pairsD n (a.take k) b ++ rowJ n a[k] (b.take (m + 1)) by rw [rowJ_snoc n _ _ _ hml, hM.out, List.append_assoc])
          obtain ⟨z, hz⟩ : ∃ z, cmpR (a[k].row.take n) (b[m].row.take n) = z := ⟨_, rfl⟩
          have HZ := Lib.hid hz
          clear pa pb hrow hrow' hz
          by_cases hz0 : z = 0
          · have hzb : (z == 0) = true := by simp [hz0]
            have HP := Lib.hid (show M ++ [⟨a[k].row ++ b[m].row.drop n, a[k].count * b[m].count⟩] = pairsD n (a.take k) b ++ rowJ n a[k] (b.take (m + 1)) by rw [← hst.out, pair_yes (by rw [HZ.out, hz0])])
            clear hz0 hst
            go_wp2_with fail
            refine wp_region_quiet_below (by kernel_rfl) (by kernel_rfl) ?_
            repeat (go_big_quiet_step (first
              | (go_at_call 61; exact Calls.regrown_of (spec_front z A' B' c' d' n a[k].row b[m].row _ HZ.out (HRo.out.to_ (below_regrown wr _ _)) (HRo'.out.to_ (below_regrown wr _ _)) hna hnb (by omega)))))
            refine wpQuiet_nil ?_
            intro _ hw'
            obtain ⟨⟨dq, osq⟩, hw''⟩ := hw'
            subst hw''
            have hbx := below_regrown wr dq osq
            have hDx := Lib.hid (hD.out.below hbx)
            have d0 := (hbx.cell (World.block_lt_of_cell? _ _ hcell)).trans hcell
            have d1 := (hbx.cell (World.block_lt_of_cell? _ _ hcell')).trans hcell'
            have d2 := (hbx.cell (World.block_lt_of_cell? _ _ hcnt)).trans hcnt
            have d3 := (hbx.cell (World.block_lt_of_cell? _ _ hcnt')).trans hcnt'
            have HRx := Lib.hid (HRo.out.to_ hbx)
            have HRx' := Lib.hid (HRo'.out.to_ hbx)
            generalize grow (redrawn wr dq) osq = wx at *
            clear q0 q1 hcell hcell' hcnt hcnt' hbx hD HRo HRo'
            obtain ⟨A2, hA2⟩ : ∃ A2, (if d' = n then B' else Option.map (fun x => x.add (n * 3)) B') = A2 := ⟨_, rfl⟩
            have HR2 := Lib.hid (show RowAt wx wx.heap.size A2 (b[m].row.drop n) by rw [← hA2]; exact HRx'.out.back hcap'.1)
            have hdl := Lib.hid (show (b[m].row.drop n).length = b[m].row.length - n from List.length_drop)
            have hgx : g < wx.heap.size := World.block_lt_of_cell? _ _ d0
            have hgx' : g' < wx.heap.size := World.block_lt_of_cell? _ _ d1
            obtain ⟨R, hR⟩ : ∃ R, a[k].row ++ b[m].row.drop n = R := ⟨_, rfl⟩
            have HRR := Lib.hid hR
            have hR16 : a[k].row.length + (b[m].row.drop n).length ≤ 4194304 := by rw [hdl.out]; omega
            have hml4 : M.length ≤ 4194304 := by omega
            have HP2 := Lib.hid (show M ++ [⟨R, a[k].count * b[m].count⟩] = pairsD n (a.take k) b ++ rowJ n a[k] (b.take (m + 1)) by rw [← hR]; exact HP.out)
            have hwr : IntKind.i64.wrap (a[k].count * b[m].count) = a[k].count * b[m].count := by rw [IntKind.wrap_i64]; have := hmul.out; omega
            clear hR HRx' HP
            go_wp2_with fail
            go_region_law (first
              | (refine step_vapp rfl (.tmp 108) (.tmp 113) rfl wx _ [] rfl (by first | exact VI.start ((Below.refl _ _).drew) rfl | exact VI.start (Below.refl _ _) rfl | exact (VI.start (Below.refl _ _) rfl).below ((Below.refl _ _).drew)) A' c' a[k].row rfl HRx.out (by simp; omega) ?_; intro v1 W1 hV1; have d1a := (hV1.2.1.cell (p := ⟨g', o' + m * 2, none⟩) hgx').trans d1)
              | (refine step_vappL rfl (.tmp 114) (.tmp 121) rfl wx _ a[k].row rfl hV1 A2 (d' - n) (b[m].row.drop n) _ hdl.out rfl HR2.out hR16 ?_; intro v2 W2 hV2; rw [HRR.out] at hV2; obtain ⟨A8, c8, rfl, hst8, hcap8⟩ := hV2.st (N := w.heap.size); have d2a := (hV2.2.1.cell (p := ⟨g, o + k * 2 + 1, none⟩) hgx).trans d2; have d3a := (hV2.2.1.cell (p := ⟨g', o' + m * 2 + 1, none⟩) hgx').trans d3))
            all_goals have hD2 := Lib.hid (hDx.out.below hV2.2.1)
            all_goals have hp2 := Lib.hid (show DHok W2 w.heap.size ((A8, c8), ⟨R, a[k].count * b[m].count⟩) from ⟨hst8, hcap8⟩)
            all_goals have hz2w : w.heap.size ≤ W2.heap.size := hD2.out.low.size
            all_goals clear hV1 hV2 hst8 hcap8 d1a
            all_goals go_wp2_with fail
            all_goals go_region_law (first
              | (refine step_dappG rfl (.tmp 123) (.tmp 137) rfl w _ M ((A8, c8), ⟨R, a[k].count * b[m].count⟩) W2.heap.size rfl (hD2.out.below (by first | exact ((Below.refl _ _).alloc (Nat.le_refl _) _).drew | exact ((Below.refl _ _).drew).alloc (Nat.le_refl _) _)) (hp2.out.below (by first | exact ((Below.refl _ _).alloc (Nat.le_refl _) _).drew | exact ((Below.refl _ _).drew).alloc (Nat.le_refl _) _) hz2w) rfl (by simp) (by simp) hml4 ?_; intro v3 W3 hD3))
            all_goals have HD3 := Lib.hid hD3
            all_goals clear hD3 d2a d3a d0 d1 d2 d3
            all_goals go_wp2_with fail
            all_goals go_roundw
            all_goals first
              | exact ⟨m + 1, by omega, (by first | omega | go_num | rfl), M ++ [⟨R, a[k].count * b[m].count⟩], (by rw [List.length_append, List.length_singleton]; omega), HP2, HD3⟩
              | exact ⟨m + 1, M ++ [⟨R, a[k].count * b[m].count⟩], by omega, by go_num, by rw [List.length_append, List.length_singleton]; omega, HP2, HD3⟩
              | (simp [intOf]; omega)
          · have hzb : (z == 0) = false := by simp [hz0]
            have HP := Lib.hid (show M = pairsD n (a.take k) b ++ rowJ n a[k] (b.take (m + 1)) by rw [← hst.out, pair_no (by rw [HZ.out]; exact hz0), List.append_nil])
            clear hz0 hst
            go_wp2_with fail
            refine wp_region_quiet_below (by kernel_rfl) (by kernel_rfl) ?_
            repeat (go_big_quiet_step (first
              | (go_at_call 61; exact Calls.regrown_of (spec_front z A' B' c' d' n a[k].row b[m].row _ HZ.out (HRo.out.to_ (below_regrown wr _ _)) (HRo'.out.to_ (below_regrown wr _ _)) hna hnb (by omega)))))
            refine wpQuiet_nil ?_
            intro _ hw'
            obtain ⟨⟨dq, osq⟩, hw''⟩ := hw'
            subst hw''
            have hbx := below_regrown wr dq osq
            have hDx := Lib.hid (hD.out.below hbx)
            generalize grow (redrawn wr dq) osq = wx at *
            clear q0 q1 hcell hcell' hcnt hcnt' hbx hD
            go_wp2_with fail
            go_roundw
            case rel => exact ⟨m + 1, M, by omega, by go_num, by omega, HP, hDx⟩
            case measure => simp [intOf]; omega
        · have hj1 : ¬ (m : Int) < (b.length : Int) := by omega
          have hMe := Lib.hid (show M = pairsD n (a.take (k + 1)) b by rw [hM.out, pairsD_snoc n a b k hlt, show b.take m = b from List.take_of_length_le (by omega)])
          by_cases hbig : 3000 < M.length
          · have hbi : (3000 : Int) < (M.length : Int) := by omega
            have HJ := Lib.hid (join_big (a := a) (b := b) (n := n) (k := k + 1) (by rw [← hMe.out]; exact hbig))
            go_wp2_with fail
            go_ret
            rw [HJ.out]
            exact ⟨_, _, rfl, ⟨Nat.le_refl _, Nat.zero_le _⟩, .inl rfl, hD.out.low⟩
          · have hbi : ¬ (3000 : Int) < (M.length : Int) := by omega
            go_wp2_with fail
            go_roundw
            case rel => exact ⟨k + 1, M, by omega, by go_num, by omega, hMe, hD⟩
            case measure => simp [intOf]; omega
    · have hi1 : ¬ (k : Int) < (a.length : Int) := by omega
      have hE : L = pairsD n a b := by rw [hL.out, List.take_of_length_le (by omega)]
      have hjb : joinB a b (n : Int) = true := by
        unfold joinB
        have e1 : a.isEmpty = false := by cases a with | nil => simp at ha0 | cons _ _ => rfl
        have e2 : b.isEmpty = false := by cases b with | nil => simp at hb0 | cons _ _ => rfl
        rw [h1, h2, e1, e2]
        simp; omega
      have hpd := Lib.hid (show orD (sumD L) = joinD a b (n : Int) by unfold joinD; simp only [Int.toNat_natCast]; rw [if_pos ⟨hjb, by rw [← hE]; exact hL3⟩, hE])
      obtain ⟨p1, p2, _⟩ := pairs_small h1 h2 h6 h5
      rw [← hE] at p1 p2
      obtain ⟨A9, c9, he9, hcp9, hd9⟩ := hD.out.diffs
      cases he9
      have hcn := Lib.hid p1
      have hrw := Lib.hid (show ∀ z ∈ L, z.row.length ≤ 8 ∧ ∀ v ∈ z.row, v.t.size ≤ 60 from fun z hz => by
        have h4 := goodRow_rowOk (p2 z hz)
        unfold rowOkB at h4
        simp only [Bool.and_eq_true, decide_eq_true_eq, List.all_eq_true] at h4
        exact ⟨h4.2, fun v hv => okG_size (h4.1 v hv)⟩)
      obtain ⟨s1, _, s3⟩ := sumD_props 1000000000000 (by omega) (fun r => r.length ≤ 8 ∧ ∀ v ∈ r, v.t.size ≤ 60) _ L (Nat.le_refl _) hcn.out hrw.out
      have HS3 := Lib.hid s3
      have HD9 := Lib.hid hd9
      have HB9 := Lib.hid hD.out.low
      clear p1 p2 hE hjb s3 hd9 hD
      go_wp2_with fail
      refine (spec_sumD 1000000000000 (by omega) (by omega) L.length A6 c6 L _ (Nat.le_refl _) (by omega) HD9.out hcp9 (fun z hz => Nat.le_trans (hrw.out z hz).1 (by omega)) hcn.out).mono ?_
      rintro e w5 ⟨E5, e5, rfl, _, hd5, hb5⟩
      have hB5 := Lib.hid (below_next HB9.out hb5 rfl rfl)
      have HD5 := Lib.hid hd5
      clear hd5 hb5
      go_wp2_with fail
      refine (spec_orD E5 e5 (sumD L) _ HD5.out (by omega) (fun z hz => ⟨Nat.le_trans (HS3.out z hz).1 (by omega), fun v hv => Nat.le_trans ((HS3.out z hz).2 v hv) (by unfold maxLen; omega)⟩)).mono ?_
      rintro e w6 ⟨E6, e6, rfl, hcp6, hd6, hb6⟩
      have hB6 := Lib.hid (below_next hB5.out hb6 rfl rfl)
      have HD6 := Lib.hid hd6
      clear hd6 hb6
      go_wp2_with fail
      go_ret
      rw [← hpd.out]
      exact ⟨_, _, rfl, hcp6, HD6.out, hB6.out⟩
end Go.Proofs.Ytemcpdpbikgfcaa
