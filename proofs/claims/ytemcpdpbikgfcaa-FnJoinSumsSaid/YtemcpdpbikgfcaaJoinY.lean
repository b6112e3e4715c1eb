/-
  impl.JoinDiffs.
-/
import Derived.Test.YtemcpdpbikgfcaaJoinIZ
namespace Go.Proofs.Ytemcpdpbikgfcaa
open Go.RowKit Go.Sort
set_option linter.unusedVariables false

theorem wpList_look {P : Program} {ops : Array Oper} {rest : List Oper} {o : Oper} {a : Act} {W : World} {Q : Exit → Act → World → Prop}
    (hg : o.guard = none) (m x : Operand) (t : TypeId) (hop : o.op = .lookup t m x false) (mv key v : Value) (hm : a.eval m = mv) (hx : a.eval x = key) (hrun : (Instr.lookup t mv key false).run P W = .ok v W) (hK : wpList P ops Q rest (a.put o.dst v) W) : wpList P ops Q (o :: rest) a W := by
  refine wpList_plain hg fun K' hK' => ?_
  unfold Oper.wp
  simp [execOp, hop, hm, hx, hrun, Result.andThen]
  exact hK' _ _ hK
theorem row_srcAt {w : World} {B : Nat} {A : Option Addr} {r : List GV} (h : RowAt w B A r) : SrcAt w A (flat r) := by
  obtain ⟨h1, h2⟩ := row_src h
  exact ⟨fun e => by rw [List.eq_nil_of_length_eq_zero (h1 e)]; rfl, h2⟩
theorem cc_row {W : World} {base n : Nat} {v : Value} {r s R : List GV} (h : W.ownsRow base 52 3 v n (flat r ++ flat s)) (hR : r ++ s = R) (hn : n = r.length + s.length) : ∃ A c, v = .slice A R.length c ∧ RowAt W W.heap.size A R := by
  subst hR
  have h2 : VRow base W v (r ++ s) := by
    unfold VRow
    rw [flat_append, List.length_append, ← hn]
    exact h
  exact h2.row
theorem RowAt.backI {w : World} {B : Nat} {A : Option Addr} {r : List GV} (h : RowAt w B A r) {n c : Nat} (hc : r.length ≤ c) : RowAt w B (if c = n then A else A.map (fun x => x.add (n * 3))) (r.drop n) := by
  by_cases hn : c = n
  · rw [if_pos hn]; left; exact List.drop_of_length_le (by omega)
  · rw [if_neg hn]
    rcases h with rfl | ⟨g, o, rfl, hg, hcl⟩
    · exact .inl (by simp)
    · refine .inr ⟨g, o + n * 3, by simp [Addr.add_lit], hg, fun i v hv => ?_⟩
      rw [List.getElem?_drop] at hv
      have := hcl (n + i) v hv
      rwa [show o + (n + i) * 3 = o + n * 3 + i * 3 by omega] at this
/-- While the pairs are added. -/
structure JSt (w wr : World) (mb mb2 n : Nat) (b zs : List GDiff) : Prop where
  grp : GrpV wr mb b.length n b
  ms : Ms wr mb2 zs.length zs
  low : Below w.heap.size w wr
  ne : mb ≠ mb2
  big : w.heap.size ≤ mb2
  cnt : cntLe 1000000000000 zs
theorem JSt.below {w wr w' : World} {mb mb2 n : Nat} {b zs : List GDiff} (h : JSt w wr mb mb2 n b zs) (hb : Below wr.heap.size wr w') : JSt w w' mb mb2 n b zs :=
  ⟨h.grp.below hb, h.ms.below hb, below_next h.low hb rfl rfl, h.ne, h.big, h.cnt⟩
theorem JSt.add {w wr w' : World} {mb mb2 n : Nat} {b zs : List GDiff} {z : GDiff} (h : JSt w wr mb mb2 n b zs) (hM : Ms w' mb2 (zs.length + 1) (zs ++ [z])) (hg : wr.grownBy w' (some mb2)) (hz : -1000000000000 ≤ z.count ∧ z.count ≤ 1000000000000) : JSt w w' mb mb2 n b (zs ++ [z]) := by
  obtain ⟨es, cl, hm⟩ := h.ms.map
  refine ⟨h.grp.grown hm hg h.ne, ?_, h.low.trans ((Below.refl _ _).grown hg h.low.size (fun k hk => by injection hk with hk; rw [← hk]; exact h.big)), h.ne, h.big, fun y hy => by rw [List.mem_append, List.mem_singleton] at hy; rcases hy with hy | rfl; exact h.cnt y hy; exact hz⟩
  rw [List.length_append, List.length_singleton]
  exact hM
theorem join_post {w w1 w2 : World} {a b : List GDiff} {n : Nat} {e : Ending} (h1 : diffOkB a = true) (h2 : diffOkB b = true) (h4 : n ≤ widD a) (h5 : n ≤ widD b) (h6 : widD a + widD b ≤ 8 + n) (h3 : (pairsD n a b).length ≤ 3000) (h : DOPost w1 (pairsD n a b) e w2) (hB : Below w.heap.size w w1) : Below w.heap.size w w2 ∧
    ((∃ A c ps, e = .returned (.tuple #[.slice A ps.length c, .bool true]) ∧ ps.map (·.2) = joinD a b n ∧ DGA w.heap.size w2 A ps) ∨ (e = .returned (.tuple #[.slice none 0 0, .bool false]) ∧ joinD a b n = [])) := by
  obtain ⟨hb2, h⟩ := h
  obtain ⟨p1, p2, p3⟩ := pairs_smallI h1 h2 h6 h5
  have hcan : Canon (sumD (pairsD n a b)) (pairsD n a b) := canon_sumD _ _ (Nat.le_refl _) p3
  have hpd := joinD_eq h1 h2 h4 h5 h6 h3
  refine ⟨below_next hB hb2 rfl rfl, ?_⟩
  rcases h with ⟨A, c, ps, rfl, hG, hC, hl, hn⟩ | ⟨rfl, h⟩
  · left
    refine ⟨A, c, ps, rfl, ?_, DGA.low hG hB.size⟩
    rw [hpd]
    exact (or_ok hcan hC p2 (by simpa using hl) (fun z hz => by obtain ⟨p, hp, rfl⟩ := List.mem_map.1 hz; exact hn p hp)).symm
  · right
    refine ⟨rfl, ?_⟩
    rw [hpd]
    rcases h with ⟨r, h1, h2⟩ | ⟨rs, h1, h2, h3⟩
    · exact or_cnt hcan h1 h2
    · exact or_big hcan h1 h3 h2
theorem joinD_not {a b : List GDiff} {on : Int} (h : (diffOkB a && diffOkB b && jableB a b on) = false) : joinD a b on = [] := by
  unfold joinD
  rw [if_neg]
  rintro ⟨h2, _⟩
  unfold joinB at h2
  simp only [Bool.and_eq_true, decide_eq_true_eq] at h2
  unfold jableB at h
  unfold widD at h2
  obtain ⟨⟨⟨⟨⟨⟨⟨g1, g2⟩, g3⟩, _⟩, _⟩, g4⟩, g5⟩, g6⟩ := h2
  rw [g1, g2] at h
  simp only [decide_eq_true g3, decide_eq_true g4, decide_eq_true g5, decide_eq_true g6] at h
  cases h
set_option maxRecDepth 100000 in
set_option maxHeartbeats 12800000 in
theorem impl_join_yes {lo lo' : Nat} (A B : Option Addr) (c d : Nat) (a b : List GDiff) (n : Nat) (w : World) (ha : DiffsAt w lo w.heap.size A a) (hb : DiffsAt w lo' w.heap.size B b) (hl : a.length ≤ 1048576) (hl' : b.length ≤ 1048576)
    (hra : ∀ z ∈ a, z.row.length ≤ 1048576 ∧ ∀ v ∈ z.row, v.t.size ≤ maxLen) (hrb : ∀ z ∈ b, z.row.length ≤ 1048576 ∧ ∀ v ∈ z.row, v.t.size ≤ maxLen) (h1 : diffOkB a = true) (h2 : diffOkB b = true) (hj : jableB a b n = true) :
    Calls Try.prog 27 #[.slice A a.length c, .slice B b.length d, .int .i64 n] w (IPost w (joinD a b n)) := by
  have HA := Lib.hid ha
  have HB := Lib.hid hb
  have HRA := Lib.hid hra
  have HRB := Lib.hid hrb
  clear ha hb hra hrb
  have h456 : n ≤ widD a ∧ n ≤ widD b ∧ widD a + widD b ≤ 8 + n := by
    unfold jableB at hj
    unfold widD
    simp only [Bool.and_eq_true, decide_eq_true_eq] at hj
    omega
  obtain ⟨h4, h5, h6⟩ := h456
  have h3000 := (ok_small h1).1
  have h3000b := (ok_small h2).1
  have hwa : wid (rowsD a) ≤ 8 := by
    by_cases h : a.length = 0
    · rw [List.eq_nil_of_length_eq_zero h]; decide
    · rw [widD_eq (by omega)]; exact ((diffOk_all h1).2 _ (List.getElem_mem _)).2.1
  have hwb : wid (rowsD b) ≤ 8 := by
    by_cases h : b.length = 0
    · rw [List.eq_nil_of_length_eq_zero h]; decide
    · rw [widD_eq (by omega)]; exact ((diffOk_all h2).2 _ (List.getElem_mem _)).2.1
  have HOKB := Lib.hid (show ∀ z ∈ b, rowOkB z.row = true ∧ n ≤ z.row.length from fun z hz => ⟨goodRow_rowOk ((diffOk_asc h2).2.2 z hz).1, by rw [((diffOk_all h2).2 z hz).1]; exact h5⟩)
  have hmm := @run_makeMap Try.prog
  go_enter Try.func27, Try.ntmps27
  go_wp2_with fail
  refine (impl_diffOk A c a _ HA.out hl HRA.out).mono ?_
  rintro e w1 ⟨rfl, hb1⟩
  rw [h1]
  go_wp2_with fail
  refine (impl_diffOk B d b _ (HB.out.to_ hb1) hl' HRB.out).mono ?_
  rintro e w2 ⟨rfl, hb2⟩
  rw [h2]
  have hB2 := below_next hb1 hb2 rfl rfl
  clear hb1 hb2
  go_wp2_with fail
  refine (impl_joinable A B c d a b n _ (HA.out.to_ hB2) (HB.out.to_ hB2) (by omega) (by omega) hwa hwb (by omega)).mono ?_
  rintro e w2' ⟨rfl, rfl⟩
  rw [hj]
  go_wp2_with fail
  refine (by_prefix B d b n _ (HB.out.to_ hB2) hl' HOKB.out).mono ?_
  rintro e w3 ⟨mb, rfl, hgv, hb3, hmb⟩
  have hB3 := below_next hB2 hb3 rfl rfl
  have hbm : Below w3.heap.size w3 (w3.alloc (.map #[] 0)) := (Below.refl _ _).alloc (Nat.le_refl _) _
  have hmlt : mb < w3.heap.size := by obtain ⟨D, ho, _⟩ := hgv; exact ho.lt
  have HJ0 := Lib.hid (show JSt w (w3.alloc (.map #[] 0)) mb w3.heap.size n b [] from ⟨hgv.below hbm, ms_made w3, below_next hB3 hbm rfl rfl, by omega, hB3.size, fun z hz => by simp at hz⟩)
  obtain ⟨mb2, hmb2⟩ : ∃ m, m = w3.heap.size := ⟨_, rfl⟩
  clear hgv hb3 hmb hbm hmlt
  go_wp2_with fail
  clear hmm
  rw [← hmb2] at HJ0 ⊢
  clear hmb2
  go_loopw [9, 38] (fun p i wr => ∃ (k : Nat) (zs : List GDiff), k ≤ a.length ∧ p = .int .i64 zs.length ∧ i = .int .i64 k ∧ zs.length ≤ 3000 ∧ Hid (zs = pairsD n (a.take k) b) ∧ Hid (JSt w wr mb mb2 n b zs)) (fun _ i _ => a.length - (intOf i).toNat)
  case atStart => exact ⟨0, [], Nat.zero_le _, rfl, rfl, by simp, Lib.hid rfl, HJ0⟩
  case round =>
    obtain ⟨k, zs, hk, rfl, rfl, hz3, hZ, hJ⟩ := hrel
    by_cases hlt : k < a.length
    · obtain ⟨g, o, rfl, _, hg, ⟨A', c', ⟨hcell, hcap⟩, hrow⟩, hcnt⟩ := (HA.out.to_ hJ.out.low).at_ hlt
      have hi1 : (k : Int) < (a.length : Int) := by omega
      have hi0 : (0 : Int) ≤ (k : Int) := by omega
      have pa := (diffOk_all h1).2 a[k] (List.getElem_mem hlt)
      have hrk := goodRow_rowOk ((diffOk_asc h1).2.2 a[k] (List.getElem_mem hlt)).1
      have hnk : n ≤ a[k].row.length := by have := pa.1; omega
      have HPA := Lib.hid pa
      have HRK := Lib.hid hrk
      have hn0 : (0 : Int) ≤ (n : Int) := by omega
      have hn1 : (n : Int) ≤ (c' : Int) := by have := hcap.1; omega
      obtain ⟨wo, rfl⟩ : ∃ wo : World, wo = wr := ⟨_, rfl⟩
      have hB1 : Below wo.heap.size wo (wo.alloc (.cells #[.slice A' a[k].row.length c', .int .i64 a[k].count] 55)) := (Below.refl _ _).alloc (Nat.le_refl _) _
      have HK := Lib.hid (key_front A' c' a[k].row n (wo.alloc (.cells #[.slice A' a[k].row.length c', .int .i64 a[k].count] 55)) (hrow.row.to_ hB1) hrk hnk)
      have HRo := Lib.hid (hrow.row.to_ hB1)
      have HJ1 := Lib.hid (hJ.out.below hB1)
      have c0 : (wo.alloc (.cells #[.slice A' a[k].row.length c', .int .i64 a[k].count] 55)).cell? ⟨wo.heap.size, 0, none⟩ = some (.slice A' a[k].row.length c') := by simp
      have c1 : (wo.alloc (.cells #[.slice A' a[k].row.length c', .int .i64 a[k].count] 55)).cell? ⟨wo.heap.size, 1, none⟩ = some (.int .i64 a[k].count) := by simp
      clear hrow pa hrk hJ
      go_wp2_with fail
      clear hcell hcnt hB1
      generalize wo.alloc (.cells #[.slice A' a[k].row.length c', .int .i64 a[k].count] 55) = W1 at *
      refine HK.out.mono ?_
      rintro e w5 ⟨rfl, hb5⟩
      have HJ5 := Lib.hid (HJ1.out.below hb5)
      obtain ⟨Ap, cp, hs, hrun, his, hH, hcp⟩ := HJ5.out.grp.look (rowOk_take HRK.out n)
      have HRUN := Lib.hid hrun
      have HIS := Lib.hid his
      have HH5 := Lib.hid hH
      have HCP := Lib.hid hcp
      have d0 := (hb5.cell (World.block_lt_of_cell? _ _ c0)).trans c0
      have d1 := (hb5.cell (World.block_lt_of_cell? _ _ c1)).trans c1
      have HR5 := Lib.hid (HRo.out.to_ hb5)
      have hsl : hs.length ≤ 3000 := by
        have h := congrArg List.length his
        rw [List.length_map] at h
        rw [h]; unfold grpB
        exact Nat.le_trans (List.length_filter_le _ _) h3000b
      clear hrun his hH hcp c0 c1 hb5 HJ1 HRo HK
      go_wp2_with (first | (refine wpList_look rfl (.tmp 42) (.tmp 47) _ rfl (.map (some mb)) (keyV (a[k].row.take n)) _ rfl rfl HRUN.out ?_))
      go_loopw [51] (fun i w' => ∃ (m : Nat) (ZS : List GDiff), m ≤ hs.length ∧ i = .int .i64 m ∧ ZS.length ≤ 3000 + m ∧ Hid (ZS = zs ++ (hs.take m).map (fun p => joinZ n a[k] p.2)) ∧ Hid (JSt w w' mb mb2 n b ZS) ∧ Hid (HeadsAt w' Ap hs) ∧ w'.cell? ⟨wo.heap.size, 0, none⟩ = some (.slice A' a[k].row.length c') ∧ w'.cell? ⟨wo.heap.size, 1, none⟩ = some (.int .i64 a[k].count) ∧ Hid (RowAt w' w'.heap.size A' a[k].row)) (fun i _ => hs.length - (intOf i).toNat)
      case atStart => exact ⟨0, zs, Nat.zero_le _, rfl, by omega, Lib.hid (by simp), HJ5, HH5, d0, d1, HR5⟩
      case round =>
        obtain ⟨m, ZS, hm, rfl, hZl, hZS, hJ, hH, c0, c1, hRx⟩ := hrel
        by_cases hml : m < hs.length
        · have hj1 : (m : Int) < (hs.length : Int) := by omega
          have hj0 : (0 : Int) ≤ (m : Int) := by omega
          obtain ⟨p, hpk⟩ : ∃ p, hs[m]? = some p := ⟨_, List.getElem?_eq_getElem hml⟩
          obtain ⟨g2, o2, rfl, q0, q1, hrow2⟩ := hH.out.at_ m p hpk
          have hcap2 := HCP.out p (List.mem_of_getElem? hpk)
          have hmem : p.2 ∈ b := by
            have h : p.2 ∈ hs.map (·.2) := List.mem_map.2 ⟨p, List.mem_of_getElem? hpk, rfl⟩
            rw [HIS.out] at h
            unfold grpB at h
            exact (List.mem_filter.1 h).1
          have hZn := Lib.hid (show ZS ++ [joinZ n a[k] p.2] = zs ++ (hs.take (m + 1)).map (fun p => joinZ n a[k] p.2) by
            obtain ⟨h4, h5⟩ := List.getElem?_eq_some_iff.1 hpk
            rw [hZS.out, List.take_succ_eq_append_getElem h4, List.map_append, h5, List.append_assoc]; rfl)
          obtain ⟨⟨A5, c5⟩, y⟩ := p
          dsimp only at q0 q1 hrow2 hcap2 hmem hZn
          have py := (diffOk_all h2).2 y hmem
          have hoy := goodRow_rowOk ((diffOk_asc h2).2.2 y hmem).1
          have hny : (n : Int) ≤ (y.row.length : Int) := by have := py.1; omega
          have hmul := mul_rangeI HPA.out.2.2.2 py.2.2.2
          have hdl0 : (y.row.drop n).length = y.row.length - n := List.length_drop
          obtain ⟨R, hR⟩ : ∃ R, a[k].row ++ y.row.drop n = R := ⟨_, rfl⟩
          have hRok : rowOkB R = true ∧ R.length ≤ 8 := by
            have e : R.length ≤ 8 := by rw [← hR, List.length_append, hdl0, HPA.out.1, py.1]; omega
            refine ⟨?_, e⟩
            unfold rowOkB
            simp only [Bool.and_eq_true, decide_eq_true_eq, List.all_eq_true]
            refine ⟨fun v hv => ?_, e⟩
            rw [← hR] at hv
            rcases List.mem_append.1 hv with hv | hv
            · exact okRow_vals HRK.out v hv
            · exact okRow_vals hoy v (List.mem_of_mem_drop hv)
          have HRR := Lib.hid hR
          have hjz : joinZ n a[k] y = ⟨R, a[k].count * y.count⟩ := by unfold joinZ; rw [hR]
          rw [hjz] at hZn
          have hwr : IntKind.i64.wrap (a[k].count * y.count) = a[k].count * y.count := by rw [IntKind.wrap_i64]; omega
          have hcf := coef_le (M := 1000000000000) (by omega) R ZS hJ.out.cnt
          have hZ6 : (ZS.length : Int) * 1000000000000 ≤ 6000 * 1000000000000 := by omega
          have HADD := Lib.hid (show ∀ W, Ms W mb2 ZS.length ZS → Calls Try.prog 66 #[.map (some mb2), keyV R, .int .i64 (a[k].count * y.count)] W (AddPost W mb2 (ZS.length + 1) (ZS ++ [⟨R, a[k].count * y.count⟩])) from fun W h => add_any mb2 ZS.length ZS ⟨R, a[k].count * y.count⟩ W h (by unfold maxLen; omega) hRok.1 (by show -4611686018427387904 ≤ coef ZS R + a[k].count * y.count; omega) (by show coef ZS R + a[k].count * y.count ≤ 4611686018427387904; omega))
          have HMUL := Lib.hid hmul
          have hR8 := hRok.2
          have hBa : Below wr.heap.size wr (wr.alloc (.cells #[.slice A5 y.row.length c5, .int .i64 y.count] 55)) := (Below.refl _ _).alloc (Nat.le_refl _) _
          have HJx := Lib.hid (hJ.out.below hBa)
          have HHx := Lib.hid (hH.out.below hBa)
          have HRx := Lib.hid (hRx.out.to_ hBa)
          have HRy := Lib.hid (hrow2.to_ hBa)
          have f0 := (hBa.cell (World.block_lt_of_cell? _ _ c0)).trans c0
          have f1 := (hBa.cell (World.block_lt_of_cell? _ _ c1)).trans c1
          have e0 : (wr.alloc (.cells #[.slice A5 y.row.length c5, .int .i64 y.count] 55)).cell? ⟨wr.heap.size, 0, none⟩ = some (.slice A5 y.row.length c5) := by simp
          have e1 : (wr.alloc (.cells #[.slice A5 y.row.length c5, .int .i64 y.count] 55)).cell? ⟨wr.heap.size, 1, none⟩ = some (.int .i64 y.count) := by simp
          clear hcf hZ6 hmul hRok hrow2 hmem hpk py hR hjz hJ hH hRx
          go_wp2_with fail
          clear q0 q1 c0 c1 hBa
          generalize wr.alloc (.cells #[.slice A5 y.row.length c5, .int .i64 y.count] 55) = W2 at *
          have l0 : wo.heap.size < W2.heap.size := World.block_lt_of_cell? _ _ f0
          have l1 : wr.heap.size < W2.heap.size := World.block_lt_of_cell? _ _ e0
          obtain ⟨A2, hA2⟩ : ∃ A2, (if c5 = n then A5 else Option.map (fun x => x.add (n * 3)) A5) = A2 := ⟨_, rfl⟩
          have HS1 := Lib.hid (row_srcAt HRx.out)
          have HS2 := Lib.hid (show SrcAt W2 A2 (flat (y.row.drop n)) by rw [← hA2]; exact row_srcAt (HRy.out.backI hcap2.1))
          have hx8 : a[k].row.length ≤ 1048576 := by have := HPA.out.2.1; omega
          have hy8 : y.row.length - n ≤ 1048576 := by have := hoy; have := (rowOk_parts hoy).1; omega
          have HF1 := Lib.hid (flat_length a[k].row)
          have HF2 := Lib.hid (show (flat (y.row.drop n)).length = (y.row.length - n) * 3 by rw [flat_length, hdl0])
          have HDL := Lib.hid hdl0
          clear hdl0 hoy
          go_region_law (first
            | (go_simp; go_at_call 66; go_must (refine (HADD.out _ hM4).mono ?_; rintro e W5 ⟨rfl, hM5, hg5⟩))
            | (go_simp; go_at_call 65; go_must (refine (key_of A3 c3 R _ (by first | exact hr3 | exact (show RowAt W3.drew _ _ _ from hr3)) hR8).mono ?_; rintro e W4 ⟨rfl, hb4⟩; have hB4 : Below W2.heap.size W2 W4 := (by first | exact below_next hB3 hb4 rfl rfl | exact below_next (hB3.drew) hb4 rfl rfl); have hM4 := HJx.out.ms.below hB4; have f1b := (hB4.cell (p := ⟨wo.heap.size, 1, none⟩) l0).trans f1; have e1b := (hB4.cell (p := ⟨wr.heap.size, 1, none⟩) l1).trans e1))
            | (go_simp; go_at_call 67; go_must (refine (concatV W2.heap.size A' A2 a[k].row.length c' (y.row.length - n) (c5 - n) (flat a[k].row) (flat (y.row.drop n)) _ (by simp) (by simp) HF1.out HF2.out (HS1.out.below (by first | exact ((Below.refl _ _).alloc (Nat.le_refl _) _).drew | exact ((Below.refl _ _).drew).alloc (Nat.le_refl _) _ | exact (Below.refl _ _).alloc (Nat.le_refl _) _)) (HS2.out.below (by first | exact ((Below.refl _ _).alloc (Nat.le_refl _) _).drew | exact ((Below.refl _ _).drew).alloc (Nat.le_refl _) _ | exact (Below.refl _ _).alloc (Nat.le_refl _) _)) (flat_one _) (flat_one _) hx8 hy8).mono ?_; rintro e W3 ⟨v3, rfl, ho3, hb3⟩; obtain ⟨A3, c3, rfl, hr3⟩ := cc_row ho3 HRR.out (by rw [HDL.out]); have hB3 : Below W2.heap.size W2 W3 := (by first | exact below_next (((Below.refl _ _).alloc (Nat.le_refl _) _).drew) hb3 rfl rfl | exact below_next (((Below.refl _ _).drew).alloc (Nat.le_refl _) _) hb3 rfl rfl | exact below_next ((Below.refl _ _).alloc (Nat.le_refl _) _) hb3 rfl rfl); have f1a := (hB3.cell (p := ⟨wo.heap.size, 1, none⟩) l0).trans f1; have e1a := (hB3.cell (p := ⟨wr.heap.size, 1, none⟩) l1).trans e1)))
          all_goals have HJn := Lib.hid ((HJx.out.below hB4).add hM5 hg5 HMUL.out)
          all_goals obtain ⟨es4, cl4, hm4⟩ := hM4.map
          all_goals have HHn := Lib.hid ((HHx.out.below hB4).grown hm4 hg5)
          all_goals have HRn := Lib.hid ((HRx.out.to_ hB4).grown hm4 hg5)
          all_goals have f0n := (cell_grown hm4 hg5 ((hB4.cell (p := ⟨wo.heap.size, 0, none⟩) l0).trans f0)).1
          all_goals have f1n := (cell_grown hm4 hg5 f1b).1
          all_goals clear hM5 hg5 hM4 hB4 hb4 hm4 f0 f1 e0 e1 f1b e1b f1a e1a hB3 hb3 ho3 hr3
          all_goals go_wp2_with fail
          all_goals go_roundw
          all_goals first
            | exact ⟨m + 1, by omega, (by first | omega | go_num | rfl), ZS ++ [⟨R, a[k].count * y.count⟩], (by rw [List.length_append, List.length_singleton]; omega), hZn, HJn, HHn, f0n, f1n, HRn⟩
            | exact ⟨m + 1, ZS ++ [⟨R, a[k].count * y.count⟩], by omega, by go_num, by rw [List.length_append, List.length_singleton]; omega, hZn, HJn, HHn, f0n, f1n, HRn⟩
            | (simp [intOf]; omega)
        · have hj1 : ¬ (m : Int) < (hs.length : Int) := by omega
          have hE : ZS = pairsD n (a.take (k + 1)) b := by
            rw [hZS.out, List.take_of_length_le (by omega), pairsD_snoc n a b k hlt, rowJ_grp, ← HIS.out, hZ.out, List.map_map]
            rfl
          have HE := Lib.hid hE
          have hZl2 : ZS.length = zs.length + hs.length := by rw [hZS.out, List.take_of_length_le (by omega), List.length_append, List.length_map]
          have HZL := Lib.hid hZl2
          by_cases hbig : 3000 < ZS.length
          · have hbi : (3000 : Int) < (zs.length : Int) + (hs.length : Int) := by omega
            have HJB := Lib.hid (join_bigI (a := a) (b := b) (n := n) (k := k + 1) (by rw [← hE]; exact hbig))
            clear hE hZl2
            go_wp2_with fail
            go_ret
            exact ⟨none, 0, [], rfl, HJB.out.symm, .inl rfl, hJ.out.low⟩
          · have hbi : ¬ (3000 : Int) < (zs.length : Int) + (hs.length : Int) := by omega
            clear hE hZl2
            go_wp2_with fail
            go_roundw
            case rel => exact ⟨k + 1, ZS, by omega, by rw [HZL.out]; go_num, by go_num, by omega, HE, hJ⟩
            case measure => simp [intOf]; omega
    · have hi1 : ¬ (k : Int) < (a.length : Int) := by omega
      have hE : zs = pairsD n a b := by rw [hZ.out, List.take_of_length_le (by omega)]
      have HMz := Lib.hid (show Ms wr mb2 zs.length (pairsD n a b) by rw [← hE]; exact hJ.out.ms)
      have hp3 : (pairsD n a b).length ≤ 3000 := by rw [← hE]; exact hz3
      have HB9 := Lib.hid hJ.out.low
      clear hE
      go_wp2_with fail
      refine (diffs_of mb2 zs.length (pairsD n a b) wr HMz.out (fun z hz => goodRow_rowOk ((pairs_smallI h1 h2 h6 h5).2.1 z hz))).mono ?_
      intro e w5 hD
      obtain ⟨hBe, hS⟩ := join_post h1 h2 h4 h5 h6 hp3 hD HB9.out
      have HBe := Lib.hid hBe
      clear hD hBe
      rcases hS with ⟨A5, c5, ps, rfl, he5, hG5⟩ | ⟨rfl, he5⟩
      · have HE := Lib.hid he5
        have HG := Lib.hid hG5
        clear he5 hG5
        go_wp2_with fail
        go_ret
        exact ⟨A5, c5, ps, rfl, HE.out, HG.out, HBe.out⟩
      · have HE := Lib.hid he5
        clear he5
        go_wp2_with fail
        go_ret
        exact ⟨none, 0, [], rfl, HE.out.symm, .inl rfl, HBe.out⟩
theorem joinB_able {a b : List GDiff} {on : Int} (h : (diffOkB a && diffOkB b && jableB a b on) = false) : joinD a b on = [] := joinD_not h
set_option maxRecDepth 100000 in
set_option maxHeartbeats 1600000 in
theorem impl_joinDiffs {lo lo' : Nat} (A B : Option Addr) (c d : Nat) (a b : List GDiff) (on : Int) (w : World) (ha : DiffsAt w lo w.heap.size A a) (hb : DiffsAt w lo' w.heap.size B b) (hl : a.length ≤ 1048576) (hl' : b.length ≤ 1048576)
    (hra : ∀ z ∈ a, z.row.length ≤ 1048576 ∧ ∀ v ∈ z.row, v.t.size ≤ maxLen) (hrb : ∀ z ∈ b, z.row.length ≤ 1048576 ∧ ∀ v ∈ z.row, v.t.size ≤ maxLen) (hon : (Lit.int .i64 on).wf = true) :
    Calls Try.prog 27 #[.slice A a.length c, .slice B b.length d, .int .i64 on] w (IPost w (joinD a b on)) := by
  have hon' : -9223372036854775808 ≤ on ∧ on ≤ 9223372036854775807 := by
    have : IntKind.i64.min ≤ on ∧ on ≤ IntKind.i64.max := by simpa [Lit.wf] using hon
    exact this
  by_cases h1 : diffOkB a = true
  · by_cases h2 : diffOkB b = true
    · by_cases hj : jableB a b on = true
      · obtain ⟨n, rfl⟩ : ∃ n : Nat, on = (n : Int) := ⟨on.toNat, by unfold jableB at hj; simp only [Bool.and_eq_true, decide_eq_true_eq] at hj; omega⟩
        exact impl_join_yes A B c d a b n w ha hb hl hl' hra hrb h1 h2 hj
      · rw [Bool.not_eq_true] at hj
        have HP := Lib.hid (joinD_not (a := a) (b := b) (on := on) (by rw [hj]; simp))
        have hwa : wid (rowsD a) ≤ 8 := by
          by_cases h : a.length = 0
          · rw [List.eq_nil_of_length_eq_zero h]; decide
          · rw [widD_eq (by omega)]; exact ((diffOk_all h1).2 _ (List.getElem_mem _)).2.1
        have hwb : wid (rowsD b) ≤ 8 := by
          by_cases h : b.length = 0
          · rw [List.eq_nil_of_length_eq_zero h]; decide
          · rw [widD_eq (by omega)]; exact ((diffOk_all h2).2 _ (List.getElem_mem _)).2.1
        have HA := Lib.hid ha
        have HB := Lib.hid hb
        have HRA := Lib.hid hra
        have HRB := Lib.hid hrb
        clear ha hb hra hrb
        go_enter Try.func27, Try.ntmps27
        go_wp2_with fail
        refine (impl_diffOk A c a _ HA.out hl HRA.out).mono ?_
        rintro e w1 ⟨rfl, hb1⟩
        rw [h1]
        go_wp2_with fail
        refine (impl_diffOk B d b _ (HB.out.to_ hb1) hl' HRB.out).mono ?_
        rintro e w2 ⟨rfl, hb2⟩
        rw [h2]
        have hB2 := below_next hb1 hb2 rfl rfl
        go_wp2_with fail
        refine (impl_joinable A B c d a b on _ (HA.out.to_ hB2) (HB.out.to_ hB2) (by omega) (by omega) hwa hwb hon').mono ?_
        rintro e w2' ⟨rfl, rfl⟩
        rw [hj]
        go_wp2_with fail
        go_ret
        exact ⟨none, 0, [], rfl, HP.out.symm, .inl rfl, hB2⟩
    · rw [Bool.not_eq_true] at h2
      have HP := Lib.hid (joinD_not (a := a) (b := b) (on := on) (by rw [h2]; simp))
      go_enter Try.func27, Try.ntmps27
      go_wp2_with fail
      refine (impl_diffOk A c a _ ha hl hra).mono ?_
      rintro e w1 ⟨rfl, hb1⟩
      rw [h1]
      go_wp2_with fail
      refine (impl_diffOk B d b _ (hb.to_ hb1) hl' hrb).mono ?_
      rintro e w2 ⟨rfl, hb2⟩
      rw [h2]
      have hB2 := below_next hb1 hb2 rfl rfl
      go_wp2_with fail
      go_ret
      exact ⟨none, 0, [], rfl, HP.out.symm, .inl rfl, hB2⟩
  · rw [Bool.not_eq_true] at h1
    have HP := Lib.hid (joinD_not (a := a) (b := b) (on := on) (by rw [h1]; simp))
    go_enter Try.func27, Try.ntmps27
    go_wp2_with fail
    refine (impl_diffOk A c a _ ha hl hra).mono ?_
    rintro e w1 ⟨rfl, hb1⟩
    rw [h1]
    go_wp2_with fail
    go_ret
    exact ⟨none, 0, [], rfl, HP.out.symm, .inl rfl, hb1⟩
end Go.Proofs.Ytemcpdpbikgfcaa
