/-
  impl.answers, its closure, slices.IndexFunc at it.
-/
import Derived.Test.YteoepnadjkjlmaaGreatDbOkMZ
import Derived.Test.YteoepnadjkjlmaaGreatExprOkZ
import Derived.Test.YteoepnadjkjlmaaGreatDagZ
import Derived.Test.YteoepnadjkjlmaaGreatMatchZ
import Derived.Deep.RegionHeld3
namespace Go.Proofs.YteoepnadjkjlmaaGreat
open Go.RowKit Go.Sort
set_option linter.unusedVariables false

theorem eqlN (x y : GNode) (w : World) : (binOp .eql 81 (.agg #[.int .i64 x.k, .string x.name, .int .i64 x.v.k, .int .i64 x.v.n, .string x.v.t, .int .i64 x.size]) (.agg #[.int .i64 y.k, .string y.name, .int .i64 y.v.k, .int .i64 y.v.n, .string y.v.t, .int .i64 y.size])).run Tryz.prog w = .ok (.bool (eqNB x y)) w := by
  rw [run_eql_struct, eqN]; rfl
/-- The node of a leaf. -/
def nodeT : Tr → GNode
  | .var s => ⟨1, s, zV, 0⟩
  | .con v => ⟨2, ByteArray.empty, v, 0⟩
  | _ => ⟨6, ByteArray.empty, zV, 0⟩
theorem treeN_leaf {t : Tr} (h : leafT t = true) : treeN t = [nodeT t] := by cases t <;> first | rfl | cases h
theorem isVar_eq {t : Tr} (s : ByteArray) (h : leafT t = true) : eqNB (nodeT t) (nodeT (.var s)) = isVar s t := by
  cases t with
  | op _ _ _ => cases h
  | var n => simp [eqNB, nodeT, isVar]
  | con v => simp [eqNB, nodeT, isVar]
  | any => simp [eqNB, nodeT, isVar]
def nodeC (x : GNode) : List Value := [.int .i64 x.k, .string x.name, .int .i64 x.v.k, .int .i64 x.v.n, .string x.v.t, .int .i64 x.size]
theorem fst_at2 (ts : List Tr) (s : ByteArray) (k : Nat) (h : k < ts.length) (hk : k ≤ fstV ts s) : (isVar s ts[k] = true → fstV ts s = k) ∧ (isVar s ts[k] = false → k + 1 ≤ fstV ts s) := by
  unfold fstV at hk ⊢
  constructor
  · intro hb
    rcases Nat.lt_or_ge k (ts.findIdx (isVar s)) with h' | h'
    · have := List.not_of_lt_findIdx h'
      simp only [hb] at this
      cases this
    · omega
  · intro hb
    rcases Nat.lt_or_ge k (ts.findIdx (isVar s)) with h' | h'
    · exact h'
    · have e : ts.findIdx (isVar s) = k := by omega
      have h2 : ts.findIdx (isVar s) < ts.length := by omega
      have := List.findIdx_getElem (w := h2)
      simp only [e] at this
      rw [hb] at this
      cases this
set_option maxRecDepth 100000 in
set_option maxHeartbeats 1600000 in
theorem answers_clo {lo : Nat} (t : Tr) (s : ByteArray) (A' : Option Addr) (c' g : Nat) (b : Bool) (w : World) (hb : isVar s t = b) (hf : leafT t = true) (s0 : NodesAt w lo w.heap.size A' (treeN t)) (hg : Whole w g 81 (nodeC (nodeT (.var s)))) :
    Calls Tryz.prog 58 #[.slice A' (treeN t).length c', .pointer (some ⟨g, 0, none⟩)] w fun e w' => e = .returned (.bool b) ∧ Below w.heap.size w w' := by
  rw [treeN_leaf hf] at s0 ⊢
  obtain ⟨g3, o3, rfl, hg3, hg4, d0, d1, d2, d3, d4, d5⟩ := s0.at_ (i := 0) (by simp)
  simp only [List.getElem_cons_zero, Nat.zero_mul, Nat.add_zero] at d0 d1 d2 d3 d4 d5
  have q0 := cell_regrown d0
  have q1 := cell_regrown d1
  have q2 := cell_regrown d2
  have q3 := cell_regrown d3
  have q4 := cell_regrown d4
  have q5 := cell_regrown d5
  have e0 := cell_regrown (show w.cell? ⟨g, 0, none⟩ = some (.int .i64 (nodeT (.var s)).k) from hg.cell 0)
  have e1 := cell_regrown (show w.cell? ⟨g, 1, none⟩ = some (.string (nodeT (.var s)).name) from hg.cell 1)
  have e2 := cell_regrown (show w.cell? ⟨g, 2, none⟩ = some (.int .i64 (nodeT (.var s)).v.k) from hg.cell 2)
  have e3 := cell_regrown (show w.cell? ⟨g, 3, none⟩ = some (.int .i64 (nodeT (.var s)).v.n) from hg.cell 3)
  have e4 := cell_regrown (show w.cell? ⟨g, 4, none⟩ = some (.string (nodeT (.var s)).v.t) from hg.cell 4)
  have e5 := cell_regrown (show w.cell? ⟨g, 5, none⟩ = some (.int .i64 (nodeT (.var s)).size) from hg.cell 5)
  have hgd := guardN
  have hnq := fun W => eqlN (nodeT t) (nodeT (.var s)) W
  have HB := Lib.hid (show eqNB (nodeT t) (nodeT (.var s)) = b by rw [isVar_eq s hf, hb])
  generalize nodeT t = x at *
  generalize nodeT (.var s) = y at *
  clear d0 d1 d2 d3 d4 d5 hb hf s0 hg
  show Calls Tryz.prog 58 #[.slice (some ⟨g3, o3, none⟩) 1 c', .pointer (some ⟨g, 0, none⟩)] w fun e w' => e = .returned (.bool b) ∧ Below w.heap.size w w'
  go_enter Tryz.func58, Tryz.ntmps58
  go_wp2_with fail
  refine wp_region_quiet_below (by kernel_rfl) (by kernel_rfl) ?_
  repeat (go_big_quiet_step (fail))
  refine wpQuiet_nil ?_
  intro _ hw'
  obtain ⟨⟨dq, osq⟩, hw''⟩ := hw'
  subst hw''
  go_wp2_with fail
  go_ret
  exact ⟨ret_bool HB.out, below_regrown w dq osq⟩
set_option maxRecDepth 100000 in
set_option maxHeartbeats 1600000 in
theorem answers_idx {lo : Nat} (xs : List (List GNode)) (ts : List Tr) (s : ByteArray) (A : Option Addr) (c g k0 : Nat) (w : World) (he : xs = ts.map treeN) (hf : ∀ t ∈ ts, leafT t = true) (hl : ts.length ≤ 8) (hk0 : k0 < ts.length) (h0 : ts[k0] = .var s) (hr : NodeSsAt w lo w.heap.size A xs) (hg : Whole w g 81 (nodeC (nodeT (.var s)))) :
    Calls Tryz.prog 57 #[.slice A ts.length c, .func (.func 58) #[] #[.pointer (some ⟨g, 0, none⟩)]] w fun e w' => e = .returned (.int .i64 (fstV ts s)) ∧ Below w.heap.size w w' := by
  have HE := Lib.hid he
  have HF := Lib.hid hf
  have HR := Lib.hid hr
  have HG := Lib.hid hg
  have HK := Lib.hid (fst_at hk0 h0)
  clear he hf hr hg h0
  go_enter Tryz.func57, Tryz.ntmps57
  go_wp2_with fail
  go_loopw [8] (fun i w' => ∃ k : Nat, k ≤ ts.length ∧ i = .int .i64 k ∧ Hid (k ≤ fstV ts s) ∧ Below w.heap.size w w') (fun i _ => ts.length - (intOf i).toNat)
  case atStart => exact ⟨0, Nat.zero_le _, rfl, Lib.hid (Nat.zero_le _), Below.refl _ _⟩
  case round =>
    obtain ⟨k, hk, rfl, hT, hB⟩ := hrel
    have hlt : k < ts.length := by have h1 := hT.out; have h2 := HK.out; omega
    obtain ⟨g1, o1, A', c', rfl, hg0, hg1, h0y, q0, s0⟩ := nodes_one HE.out (HR.out.to_ hB) hlt
    have hi0 : (0 : Int) ≤ (k : Int) := by omega
    have hi1 : (k : Int) < (ts.length : Int) := by omega
    have hst := Lib.hid (fst_at2 ts s k hlt hT.out)
    obtain ⟨b, hbx⟩ : ∃ b, isVar s ts[k] = b := ⟨_, rfl⟩
    have HB := Lib.hid hbx
    have S0 := Lib.hid s0
    clear hbx s0
    go_wp2_with fail
    refine (answers_clo ts[k] s A' c' g b _ HB.out (HF.out _ (List.getElem_mem hlt)) S0.out (HG.out.below hB HG.out.lt)).mono ?_
    rintro e w2 ⟨rfl, hb2⟩
    have hB2 := below_next hB hb2 rfl rfl
    clear h0y
    cases b with
    | true =>
      have HX := Lib.hid (hst.out.1 HB.out)
      go_wp2_with fail
      go_ret
      exact ⟨ret_int (by rw [HX.out]), hB2⟩
    | false =>
      have HX := Lib.hid (hst.out.2 HB.out)
      go_wp2_with fail
      go_roundw
      case rel => exact ⟨k + 1, by omega, by go_num, HX, hB2⟩
      case measure => simp [intOf]; omega
set_option maxRecDepth 100000 in
set_option maxHeartbeats 8000000 in
theorem impl_answers {lo : Nat} (xs : List (List GNode)) (ts : List Tr) (row : List GV) (A A2 : Option Addr) (c c2 : Nat) (w : World) (he : xs = ts.map treeN) (hf : ∀ t ∈ ts, leafT t = true) (hl : ts.length ≤ 8) (hrl : ts.length = row.length) (hr : NodeSsAt w lo w.heap.size A xs) (s2 : RowAt w w.heap.size A2 row) :
    Calls Tryz.prog 32 #[.slice A2 row.length c2, .slice A ts.length c] w fun e w' => e = .returned (.bool (ansB ts row)) ∧ Below w.heap.size w w' := by
  have HE := Lib.hid he
  have HF := Lib.hid hf
  have HS1 := Lib.hid hr
  have HS2 := Lib.hid s2
  have HRL := Lib.hid hrl
  clear he hf hr s2 hrl
  go_enter Tryz.func32, Tryz.ntmps32
  go_wp2_with fail
  go_loopw [12] (fun i w' => ∃ k : Nat, k ≤ ts.length ∧ i = .int .i64 k ∧ Hid ((List.range k).all (okA ts row) = true) ∧ Below w.heap.size w w') (fun i _ => ts.length - (intOf i).toNat)
  case atStart => exact ⟨0, Nat.zero_le _, rfl, Lib.hid rfl, Below.refl _ _⟩
  case round =>
    obtain ⟨k, hk, rfl, hal, hB⟩ := hrel
    by_cases hlt : k < ts.length
    · have hlr : k < row.length := by have := HRL.out; omega
      obtain ⟨g, o, A', c', rfl, hg0, hg1, h0y, q0, s0⟩ := nodes_one HE.out (HS1.out.to_ hB) hlt
      obtain ⟨g2, o2, rfl, hg2, v0, v1, v2⟩ := (HS2.out.to_ hB).at_ hlr
      have hi0 : (0 : Int) ≤ (k : Int) := by omega
      have hi1 : (k : Int) < (ts.length : Int) := by omega
      have hi2 : (k : Int) < (row.length : Int) := by omega
      have hFk := HF.out _ (List.getElem_mem hlt)
      rw [treeN_leaf hFk] at h0y q0 s0
      obtain ⟨g3, o3, rfl, hg3, hg4, d0, d1, d2, d3, d4, d5⟩ := s0.at_ (i := 0) (by simp)
      simp only [List.getElem_cons_zero, Nat.zero_mul, Nat.add_zero, List.length_cons, List.length_nil] at d0 d1 d2 d3 d4 d5 h0y
      obtain ⟨x, hx⟩ : ∃ x, nodeT ts[k] = x := ⟨_, rfl⟩
      have HX := Lib.hid hx
      rw [hx] at d0 d1 d2 d3 d4 d5
      clear hx s0
      go_wp2_with fail
      go_region_held3 (fun W => W.cell? ⟨g3, o3, none⟩ = some (.int .i64 x.k) ∧ W.cell? ⟨g3, o3 + 1, none⟩ = some (.string x.name) ∧ W.cell? ⟨g3, o3 + 2, none⟩ = some (.int .i64 x.v.k) ∧ W.cell? ⟨g3, o3 + 3, none⟩ = some (.int .i64 x.v.n) ∧ W.cell? ⟨g3, o3 + 4, none⟩ = some (.string x.v.t) ∧ W.cell? ⟨g3, o3 + 5, none⟩ = some (.int .i64 x.size) ∧ W.cell? ⟨g2, o2 + k * 3, none⟩ = some (.int .i64 row[k].k) ∧ W.cell? ⟨g2, o2 + k * 3 + 1, none⟩ = some (.int .i64 row[k].n) ∧ W.cell? ⟨g2, o2 + k * 3 + 2, none⟩ = some (.string row[k].t)) (go_keep) (fail)
      · have HN := Lib.hid (show Whole ((wr.alloc (.cells #[.int .i64 x.k, .string x.name, .int .i64 x.v.k, .int .i64 x.v.n, .string x.v.t, .int .i64 x.size] 81)).alloc (.cells #[.int .i64 row[k].k, .int .i64 row[k].n, .string row[k].t] 79)).drew wr.heap.size 81 (nodeC x) from (whole_alloc (whole_new' rfl)).drew)
        have HV := Lib.hid (show Whole ((wr.alloc (.cells #[.int .i64 x.k, .string x.name, .int .i64 x.v.k, .int .i64 x.v.n, .string x.v.t, .int .i64 x.size] 81)).alloc (.cells #[.int .i64 row[k].k, .int .i64 row[k].n, .string row[k].t] 79)).drew (wr.heap.size + 1) 79 [.int .i64 row[k].k, .int .i64 row[k].n, .string row[k].t] from (whole_new' (by simp) : Whole _ _ _ _).drew)
        have hb5 : Below wr.heap.size wr ((wr.alloc (.cells #[.int .i64 x.k, .string x.name, .int .i64 x.v.k, .int .i64 x.v.n, .string x.v.t, .int .i64 x.size] 81)).alloc (.cells #[.int .i64 row[k].k, .int .i64 row[k].n, .string row[k].t] 79)).drew := ((Below.refl _ _).alloc (Nat.le_refl _) _).alloc (by simp) _ |>.drew
        have hB5 := below_next hB hb5 rfl rfl
        generalize ((wr.alloc (.cells #[.int .i64 x.k, .string x.name, .int .i64 x.v.k, .int .i64 x.v.n, .string x.v.t, .int .i64 x.size] 81)).alloc (.cells #[.int .i64 row[k].k, .int .i64 row[k].n, .string row[k].t] 79)).drew = w5 at *
        clear h0y d0 d1 d2 d3 d4 d5 v0 v1 v2 hb5
        have HX' := HX.out
        clear HX
        obtain ⟨t, ht⟩ : ∃ t, ts[k] = t := ⟨_, rfl⟩
        rw [ht] at HX' hFk
        have HT := Lib.hid ht
        clear ht
        cases t with
        | op a b c => cases hFk
        | any =>
          subst HX'
          have k0 : w5.cell? ⟨wr.heap.size, 0, none⟩ = some (.int .i64 6) := HN.out.cell 0
          have HAL := Lib.hid (show (List.range (k + 1)).all (okA ts row) = true by rw [rng_snoc, hal.out, okA_any hlt HT.out]; rfl)
          go_wp2_with fail
          go_roundw
          case rel => exact ⟨k + 1, by omega, by go_num, HAL, hB5⟩
          case measure => simp [intOf]; omega
        | con cv =>
          subst HX'
          have k0 : w5.cell? ⟨wr.heap.size, 0, none⟩ = some (.int .i64 2) := HN.out.cell 0
          have k2 : w5.cell? ⟨wr.heap.size, 2, none⟩ = some (.int .i64 cv.k) := HN.out.cell 2
          have k3 : w5.cell? ⟨wr.heap.size, 3, none⟩ = some (.int .i64 cv.n) := HN.out.cell 3
          have k4 : w5.cell? ⟨wr.heap.size, 4, none⟩ = some (.string cv.t) := HN.out.cell 4
          obtain ⟨u0, u1, u2⟩ := cells3_ HV.out
          have HOK := Lib.hid (okA_con hlt hlr HT.out)
          have hnq := fun W => neqV cv.k cv.n row[k].k row[k].n cv.t row[k].t W
          have heq := eqG_is cv row[k]
          cases hcb : eqG cv row[k] with
          | true =>
            rw [hcb] at heq
            have HAL := Lib.hid (show (List.range (k + 1)).all (okA ts row) = true by rw [rng_snoc, hal.out, HOK.out, hcb]; rfl)
            have hne : (!(cv.k == row[k].k && cv.n == row[k].n && cv.t.toList == row[k].t.toList)) = !eqG cv row[k] := rfl
            rw [hcb] at hne
            simp only [hne] at hnq
            go_wp2_with fail
            go_roundw
            case rel => exact ⟨k + 1, by omega, by go_num, HAL, hB5⟩
            case measure => simp [intOf]; omega
          | false =>
            rw [hcb] at heq
            have HNO := Lib.hid (show ansB ts row = false from rng_bad _ _ k hlt (by rw [HOK.out, hcb]))
            have hne : (!(cv.k == row[k].k && cv.n == row[k].n && cv.t.toList == row[k].t.toList)) = !eqG cv row[k] := rfl
            rw [hcb] at hne
            simp only [hne] at hnq
            go_wp2_with fail
            go_ret
            exact ⟨ret_bool (by rw [HNO.out]), hB5⟩
        | var vn =>
          subst HX'
          have k0 : w5.cell? ⟨wr.heap.size, 0, none⟩ = some (.int .i64 1) := HN.out.cell 0
          have hfk := fst_at hlt HT.out
          have hfl : fstV ts vn < row.length := by omega
          have HOK := Lib.hid (okA_var hlt hlr HT.out hfl)
          go_wp2_with fail
          refine (answers_idx xs ts vn (some ⟨g, o, none⟩) c _ k w5 HE.out HF.out hl hlt HT.out (HS1.out.to_ hB5) HN.out).mono ?_
          rintro e w6 ⟨rfl, hb6⟩
          have hB6 := below_next hB5 hb6 rfl rfl
          have HV6 := Lib.hid (HV.out.below hb6 HV.out.lt)
          clear k0 HN HV
          obtain ⟨u0, u1, u2⟩ := cells3_ HV6.out
          obtain ⟨g4, o4, e4, hg4', x0, x1, x2⟩ := (HS2.out.to_ hB6).at_ hfl
          cases e4
          generalize hu : row[fstV ts vn] = uv at *
          have hj0 : (0 : Int) ≤ (fstV ts vn : Int) := by omega
          have hj1 : (fstV ts vn : Int) < (row.length : Int) := by omega
          generalize fstV ts vn = jf at *
          have qa := cell_regrown u0
          have qb := cell_regrown u1
          have qc := cell_regrown u2
          have qd := cell_regrown x0
          have qe := cell_regrown x1
          have qf := cell_regrown x2
          have hgd := guardV
          have hnq := fun W => neqV uv.k uv.n row[k].k row[k].n uv.t row[k].t W
          go_wp2_with fail
          refine wp_region_quiet_below (by kernel_rfl) (by kernel_rfl) ?_
          repeat (go_big_quiet_step (fail))
          refine wpQuiet_nil ?_
          intro _ hw'
          obtain ⟨⟨dq, osq⟩, hw''⟩ := hw'
          subst hw''
          have hBx := below_regrown w6 dq osq
          generalize grow (redrawn w6 dq) osq = w7 at *
          have hB7 := below_next hB6 hBx rfl rfl
          clear qa qb qc qd qe qf u0 u1 u2 x0 x1 x2 hgd hnq
          have heq := eqG_is uv row[k]
          cases hcb : eqG uv row[k] with
          | true =>
            rw [hcb] at heq
            have HAL := Lib.hid (show (List.range (k + 1)).all (okA ts row) = true by rw [rng_snoc, hal.out, HOK.out, hcb]; rfl)
            generalize (!uv.k == row[k].k || !uv.n == row[k].n || !uv.t.toList == row[k].t.toList) = B at *
            subst heq
            go_wp2_with fail
            go_roundw
            case rel => exact ⟨k + 1, by omega, by go_num, HAL, hB7⟩
            case measure => simp [intOf]; omega
          | false =>
            rw [hcb] at heq
            have HNO := Lib.hid (show ansB ts row = false from rng_bad _ _ k hlt (by rw [HOK.out, hcb]))
            generalize (!uv.k == row[k].k || !uv.n == row[k].n || !uv.t.toList == row[k].t.toList) = B at *
            subst heq
            go_wp2_with fail
            go_ret
            exact ⟨ret_bool (by rw [HNO.out]), hB7⟩
      · have HN := Lib.hid (show Whole ((wr.alloc (.cells #[.int .i64 row[k].k, .int .i64 row[k].n, .string row[k].t] 79)).alloc (.cells #[.int .i64 x.k, .string x.name, .int .i64 x.v.k, .int .i64 x.v.n, .string x.v.t, .int .i64 x.size] 81)).drew (wr.heap.size + 1) 81 (nodeC x) from (whole_new' (by simp) : Whole _ _ _ _).drew)
        have HV := Lib.hid (show Whole ((wr.alloc (.cells #[.int .i64 row[k].k, .int .i64 row[k].n, .string row[k].t] 79)).alloc (.cells #[.int .i64 x.k, .string x.name, .int .i64 x.v.k, .int .i64 x.v.n, .string x.v.t, .int .i64 x.size] 81)).drew wr.heap.size 79 [.int .i64 row[k].k, .int .i64 row[k].n, .string row[k].t] from (whole_alloc (whole_new' rfl)).drew)
        have hb5 : Below wr.heap.size wr ((wr.alloc (.cells #[.int .i64 row[k].k, .int .i64 row[k].n, .string row[k].t] 79)).alloc (.cells #[.int .i64 x.k, .string x.name, .int .i64 x.v.k, .int .i64 x.v.n, .string x.v.t, .int .i64 x.size] 81)).drew := ((Below.refl _ _).alloc (Nat.le_refl _) _).alloc (by simp) _ |>.drew
        have hB5 := below_next hB hb5 rfl rfl
        generalize ((wr.alloc (.cells #[.int .i64 row[k].k, .int .i64 row[k].n, .string row[k].t] 79)).alloc (.cells #[.int .i64 x.k, .string x.name, .int .i64 x.v.k, .int .i64 x.v.n, .string x.v.t, .int .i64 x.size] 81)).drew = w5 at *
        clear h0y d0 d1 d2 d3 d4 d5 v0 v1 v2 hb5
        have HX' := HX.out
        clear HX
        obtain ⟨t, ht⟩ : ∃ t, ts[k] = t := ⟨_, rfl⟩
        rw [ht] at HX' hFk
        have HT := Lib.hid ht
        clear ht
        cases t with
        | op a b c => cases hFk
        | any =>
          subst HX'
          have k0 : w5.cell? ⟨(wr.heap.size + 1), 0, none⟩ = some (.int .i64 6) := HN.out.cell 0
          have HAL := Lib.hid (show (List.range (k + 1)).all (okA ts row) = true by rw [rng_snoc, hal.out, okA_any hlt HT.out]; rfl)
          go_wp2_with fail
          go_roundw
          case rel => exact ⟨k + 1, by omega, by go_num, HAL, hB5⟩
          case measure => simp [intOf]; omega
        | con cv =>
          subst HX'
          have k0 : w5.cell? ⟨(wr.heap.size + 1), 0, none⟩ = some (.int .i64 2) := HN.out.cell 0
          have k2 : w5.cell? ⟨(wr.heap.size + 1), 2, none⟩ = some (.int .i64 cv.k) := HN.out.cell 2
          have k3 : w5.cell? ⟨(wr.heap.size + 1), 3, none⟩ = some (.int .i64 cv.n) := HN.out.cell 3
          have k4 : w5.cell? ⟨(wr.heap.size + 1), 4, none⟩ = some (.string cv.t) := HN.out.cell 4
          obtain ⟨u0, u1, u2⟩ := cells3_ HV.out
          have HOK := Lib.hid (okA_con hlt hlr HT.out)
          have hnq := fun W => neqV cv.k cv.n row[k].k row[k].n cv.t row[k].t W
          have heq := eqG_is cv row[k]
          cases hcb : eqG cv row[k] with
          | true =>
            rw [hcb] at heq
            have HAL := Lib.hid (show (List.range (k + 1)).all (okA ts row) = true by rw [rng_snoc, hal.out, HOK.out, hcb]; rfl)
            have hne : (!(cv.k == row[k].k && cv.n == row[k].n && cv.t.toList == row[k].t.toList)) = !eqG cv row[k] := rfl
            rw [hcb] at hne
            simp only [hne] at hnq
            go_wp2_with fail
            go_roundw
            case rel => exact ⟨k + 1, by omega, by go_num, HAL, hB5⟩
            case measure => simp [intOf]; omega
          | false =>
            rw [hcb] at heq
            have HNO := Lib.hid (show ansB ts row = false from rng_bad _ _ k hlt (by rw [HOK.out, hcb]))
            have hne : (!(cv.k == row[k].k && cv.n == row[k].n && cv.t.toList == row[k].t.toList)) = !eqG cv row[k] := rfl
            rw [hcb] at hne
            simp only [hne] at hnq
            go_wp2_with fail
            go_ret
            exact ⟨ret_bool (by rw [HNO.out]), hB5⟩
        | var vn =>
          subst HX'
          have k0 : w5.cell? ⟨(wr.heap.size + 1), 0, none⟩ = some (.int .i64 1) := HN.out.cell 0
          have hfk := fst_at hlt HT.out
          have hfl : fstV ts vn < row.length := by omega
          have HOK := Lib.hid (okA_var hlt hlr HT.out hfl)
          go_wp2_with fail
          refine (answers_idx xs ts vn (some ⟨g, o, none⟩) c _ k w5 HE.out HF.out hl hlt HT.out (HS1.out.to_ hB5) HN.out).mono ?_
          rintro e w6 ⟨rfl, hb6⟩
          have hB6 := below_next hB5 hb6 rfl rfl
          have HV6 := Lib.hid (HV.out.below hb6 HV.out.lt)
          clear k0 HN HV
          obtain ⟨u0, u1, u2⟩ := cells3_ HV6.out
          obtain ⟨g4, o4, e4, hg4', x0, x1, x2⟩ := (HS2.out.to_ hB6).at_ hfl
          cases e4
          generalize hu : row[fstV ts vn] = uv at *
          have hj0 : (0 : Int) ≤ (fstV ts vn : Int) := by omega
          have hj1 : (fstV ts vn : Int) < (row.length : Int) := by omega
          generalize fstV ts vn = jf at *
          have qa := cell_regrown u0
          have qb := cell_regrown u1
          have qc := cell_regrown u2
          have qd := cell_regrown x0
          have qe := cell_regrown x1
          have qf := cell_regrown x2
          have hgd := guardV
          have hnq := fun W => neqV uv.k uv.n row[k].k row[k].n uv.t row[k].t W
          go_wp2_with fail
          refine wp_region_quiet_below (by kernel_rfl) (by kernel_rfl) ?_
          repeat (go_big_quiet_step (fail))
          refine wpQuiet_nil ?_
          intro _ hw'
          obtain ⟨⟨dq, osq⟩, hw''⟩ := hw'
          subst hw''
          have hBx := below_regrown w6 dq osq
          generalize grow (redrawn w6 dq) osq = w7 at *
          have hB7 := below_next hB6 hBx rfl rfl
          clear qa qb qc qd qe qf u0 u1 u2 x0 x1 x2 hgd hnq
          have heq := eqG_is uv row[k]
          cases hcb : eqG uv row[k] with
          | true =>
            rw [hcb] at heq
            have HAL := Lib.hid (show (List.range (k + 1)).all (okA ts row) = true by rw [rng_snoc, hal.out, HOK.out, hcb]; rfl)
            generalize (!uv.k == row[k].k || !uv.n == row[k].n || !uv.t.toList == row[k].t.toList) = B at *
            subst heq
            go_wp2_with fail
            go_roundw
            case rel => exact ⟨k + 1, by omega, by go_num, HAL, hB7⟩
            case measure => simp [intOf]; omega
          | false =>
            rw [hcb] at heq
            have HNO := Lib.hid (show ansB ts row = false from rng_bad _ _ k hlt (by rw [HOK.out, hcb]))
            generalize (!uv.k == row[k].k || !uv.n == row[k].n || !uv.t.toList == row[k].t.toList) = B at *
            subst heq
            go_wp2_with fail
            go_ret
            exact ⟨ret_bool (by rw [HNO.out]), hB7⟩
    · have hi1 : ¬ (k : Int) < (ts.length : Int) := by omega
      have HX := Lib.hid (show ansB ts row = true by unfold ansB; have h := hal.out; rwa [show k = ts.length by omega] at h)
      go_wp2_with fail
      go_ret
      exact ⟨ret_bool (by rw [HX.out]), hB⟩
end Go.Proofs.YteoepnadjkjlmaaGreat
