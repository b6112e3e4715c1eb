/-
  Arguments without parts in memory. spec.l5Match, at an atom whose arguments have no parts, from the empty environment.
-/
import Derived.Test.YteoepnadjkjlmaaGreatDbOkMZ
import Derived.Test.YteoepnadjkjlmaaGreatSzAtomZ
import Derived.Test.YteoepnadjkjlmaaGreatWith
import Derived.Test.YteoepnadjkjlmaaGreatReckS
import Derived.Test.YteoepnadjkjlmaaGreatExprOkZ
import Derived.StillTailTactics
namespace Go.Proofs.YteoepnadjkjlmaaGreat
open Go.RowKit Go.Sort
set_option linter.unusedVariables false

theorem nodes_one {w : World} {lo B : Nat} {A : Option Addr} {xs : List (List GNode)} {ts : List Tr} (he : xs = ts.map treeN) (h : NodeSsAt w lo B A xs) {k : Nat} (hk : k < ts.length) : ∃ g o A' c', A = some ⟨g, o, none⟩ ∧ lo ≤ g ∧ g < B ∧ w.cell? ⟨g, o + k, none⟩ = some (.slice A' (treeN ts[k]).length c') ∧ CapOk (treeN ts[k]).length c' ∧ NodesAt w lo B A' (treeN ts[k]) := by
  subst he
  obtain ⟨g, o, hA, h1, h2, A', c', ⟨h3, h4⟩, h5⟩ := h.at_ (i := k) (by simpa using hk)
  rw [List.getElem_map] at h3 h4 h5
  exact ⟨g, o, A', c', hA, h1, h2, h3, h4, h5⟩
end Go.Proofs.YteoepnadjkjlmaaGreat
namespace Go.Proofs.YteoepnadjkjlmaaGreat
open Go.RowKit Go.Sort
set_option linter.unusedVariables false

def MatchPost (w : World) (b : Bool) (e : Ending) (w' : World) : Prop := ∃ D1 d1 n1 D2 d2 n2, e = .returned (.tuple #[.agg #[.slice D1 n1 d1, .slice D2 n2 d2], .bool b]) ∧ Below w.heap.size w w'
/-- What the loop knows: the environment's block, the answer's. -/
structure MSt (w : World) (ts : List Tr) (row : List GV) (k : Nat) (w' : World) : Prop where
  env : ∃ (ns : List ByteArray) (vs : List GV) (B1 B2 : Option Addr) (d1 d2 : Nat), EnvOk ts row k ns vs ∧ ns.length ≤ k ∧ (∀ v ∈ vs, v ∈ row) ∧ Whole w' (w.heap.size + 1) 55 [.slice B1 ns.length d1, .slice B2 vs.length d2] ∧ StrsAt w' (w.heap.size + 3) w'.heap.size B1 ns ∧ ValuesAt w' (w.heap.size + 3) w'.heap.size B2 vs
  res : Whole w' (w.heap.size + 1 + 1) 55 [.slice none 0 0, .slice none 0 0]
  low : Below w.heap.size w w'
  big : w.heap.size + 3 ≤ w'.heap.size
theorem MSt.next {w w1 w2 : World} {ts : List Tr} {row : List GV} {k : Nat} (h : MSt w ts row k w1) (hb : Below w1.heap.size w1 w2) : MSt w ts row k w2 := by
  obtain ⟨⟨ns, vs, B1, B2, e1, e2, m1, m2, m3, m4, m5, m6⟩, m7, m8, m9⟩ := h
  exact ⟨⟨ns, vs, B1, B2, e1, e2, m1, m2, m3, m4.below hb m4.lt, m5.to_ hb, (m6.keep (fun b _ h => hb.block b h)).mono (Nat.le_refl _) hb.size⟩, m7.below hb m7.lt, m8.trans (hb.mono m8.size), Nat.le_trans m9 hb.size⟩
theorem MSt.done {w w1 : World} {ts : List Tr} {row : List GV} {k n1 n2 e1 e2 : Nat} {B1 B2 : Option Addr} (h : MSt w ts row k w1) : ∀ r, r = (w1.setCell ⟨w.heap.size + 1 + 1, 0, none⟩ (.slice B1 n1 e1)).setCell ⟨w.heap.size + 1 + 1, 1, none⟩ (.slice B2 n2 e2) →
    r.cell? ⟨w.heap.size + 1 + 1, 0, none⟩ = some (.slice B1 n1 e1) ∧ r.cell? ⟨w.heap.size + 1 + 1, 1, none⟩ = some (.slice B2 n2 e2) ∧ Below w.heap.size w r := by
  intro r hr
  subst hr
  have hX := (h.res.set_ 0 (.slice B1 n1 e1)).set_ 1 (.slice B2 n2 e2)
  exact ⟨hX.cell 0, hX.cell 1, (h.low.setCell (show w.heap.size ≤ w.heap.size + 1 + 1 by omega) _).setCell (show w.heap.size ≤ w.heap.size + 1 + 1 by omega) _⟩
theorem MSt.with_ {w w1 : World} {ts : List Tr} {row : List GV} {k k' : Nat} {x0 x1 : Value} {l : List Value} {ns : List ByteArray} {vs : List GV} {B1 B2 : Option Addr} {e1 e2 : Nat} (h : MSt w ts row k w1) (hE : Whole w1 (w.heap.size + 1) 55 [x0, x1]) (hP : Whole w1 w.heap.size 34 l) (henv : EnvOk ts row k' ns vs) (hk : ns.length ≤ k') (hm : ∀ v ∈ vs, v ∈ row)
    (hs : StrsAt w1 (w.heap.size + 3) w1.heap.size B1 ns) (hv : ValuesAt w1 (w.heap.size + 3) w1.heap.size B2 vs) : ∀ r, r = (w1.setCell ⟨w.heap.size + 1, 0, none⟩ (.slice B1 ns.length e1)).setCell ⟨w.heap.size + 1, 1, none⟩ (.slice B2 vs.length e2) →
    MSt w ts row k' r ∧ Whole r w.heap.size 34 l := by
  intro r hr
  subst hr
  have hX := (hE.set_ 0 (.slice B1 ns.length e1)).set_ 1 (.slice B2 vs.length e2)
  have hk2 : ∀ b, b ≠ w.heap.size + 1 → ((w1.setCell ⟨w.heap.size + 1, 0, none⟩ (.slice B1 ns.length e1)).setCell ⟨w.heap.size + 1, 1, none⟩ (.slice B2 vs.length e2)).heap[b]? = w1.heap[b]? := fun b hb => by
    rw [Below.heap_setCell _ _ _ _ hb, Below.heap_setCell _ _ _ _ hb]
  refine ⟨⟨⟨ns, vs, B1, B2, e1, e2, henv, hk, hm, hX, ?_, ?_⟩, (hk2 _ (by omega)).trans h.res, (h.low.setCell (show w.heap.size ≤ w.heap.size + 1 by omega) _).setCell (show w.heap.size ≤ w.heap.size + 1 by omega) _, by simpa using h.big⟩, (hk2 _ (by omega)).trans hP⟩
  · exact (hs.keep (fun b h1 _ => hk2 b (by omega))).mono (Nat.le_refl _) (by simp)
  · exact (hv.keep (fun b h1 _ => hk2 b (by omega))).mono (Nat.le_refl _) (by simp)
set_option maxRecDepth 100000 in
set_option maxHeartbeats 8000000 in
theorem spec_match {lo lo2 : Nat} (x : GAtom) (ts : List Tr) (row : List GV) (A1 A2 : Option Addr) (c1 c2 : Nat) (w : World) (he : x.args = ts.map treeN) (hw : ∀ t ∈ ts, Wf t) (hf : ∀ t ∈ ts, leafT t = true) (hl : ts.length ≤ 8) (hrl : ts.length = row.length) (hg : ∀ v ∈ row, GoodV v)
    (s1 : NodeSsAt w lo w.heap.size A1 x.args) (s2 : RowAt w w.heap.size A2 row) :
    Calls Tryz.prog 22 #[.agg #[.string x.name, .slice A1 x.args.length c1], .slice A2 row.length c2, .agg #[.slice none 0 0, .slice none 0 0]] w (MatchPost w (ansB ts row)) := by
  have hxl : x.args.length = ts.length := by rw [he]; simp
  rw [hxl]
  obtain ⟨hP, hE, hR, hBw, hZ⟩ := new3k w [.string x.name, .slice A1 ts.length c1] [.slice none 0 0, .slice none 0 0] [.slice none 0 0, .slice none 0 0] 34 55 55
  have HS1 := Lib.hid s1
  have HS2 := Lib.hid s2
  have HE := Lib.hid he
  have HW := Lib.hid hw
  have HF := Lib.hid hf
  have HG := Lib.hid hg
  have HRL := Lib.hid hrl
  have M0 := Lib.hid (show MSt w ts row 0 (((w.alloc (.cells [.string x.name, .slice A1 ts.length c1].toArray 34)).alloc (.cells [.slice none 0 0, .slice none 0 0].toArray 55)).alloc (.cells [.slice none 0 0, .slice none 0 0].toArray 55)) from ⟨⟨[], [], none, none, 0, 0, env_zero ts row, Nat.le_refl _, by simp, hE, .inl rfl, .inl rfl⟩, hR, hBw, by omega⟩)
  have HP := Lib.hid hP
  clear s1 s2 he hw hf hg hrl hP hE hR hxl
  go_enter Tryz.func22, Tryz.ntmps22
  go_wp2_with fail
  generalize (((w.alloc _).alloc _).alloc _) = w0 at *
  go_loopw [8] (fun i w' => ∃ k : Nat, k ≤ ts.length ∧ i = .int .i64 k ∧ Hid ((List.range k).all (okA ts row) = true) ∧ Hid (MSt w ts row k w') ∧ Hid (Whole w' w.heap.size 34 [.string x.name, .slice A1 ts.length c1])) (fun i _ => ts.length - (intOf i).toNat)
  case atStart => exact ⟨0, Nat.zero_le _, rfl, Lib.hid rfl, M0, HP⟩
  case round =>
    obtain ⟨k, hk, rfl, hal, hM, hPr⟩ := hrel
    have p1 : wr.cell? ⟨w.heap.size, 1, none⟩ = some (.slice A1 ts.length c1) := hPr.out.cell 1
    by_cases hlt : k < ts.length
    · have hlr : k < row.length := by have := HRL.out; omega
      obtain ⟨g, o, A', c', rfl, hg0, hg1, h0y, q0, s0⟩ := nodes_one HE.out (HS1.out.to_ hM.out.low) hlt
      obtain ⟨g2, o2, rfl, hg2, v0, v1, v2⟩ := (HS2.out.to_ hM.out.low).at_ hlr
      have hi0 : (0 : Int) ≤ (k : Int) := by omega
      have hi1 : (k : Int) < (ts.length : Int) := by omega
      have hi2 : (k : Int) < (row.length : Int) := by omega
      have hWk := HW.out _ (List.getElem_mem hlt)
      have hFk := HF.out _ (List.getElem_mem hlt)
      obtain ⟨t, ht⟩ : ∃ t, ts[k] = t := ⟨_, rfl⟩
      rw [ht] at h0y q0 s0 hWk hFk
      have HT := Lib.hid ht
      clear ht
      cases t with
      | op a b c => cases hFk
      | any =>
        obtain ⟨g3, o3, rfl, hg3, hg4, d0, d1, d2, d3, d4, d5⟩ := s0.at_ (i := 0) (by simp [treeN])
        simp only [treeN, List.getElem_cons_zero, Nat.zero_mul, Nat.add_zero, List.length_cons, List.length_nil] at d0 h0y
        have HX := Lib.hid (show (List.range (k + 1)).all (okA ts row) = true by rw [rng_snoc, hal.out, okA_any hlt HT.out]; rfl)
        have hMM := hM.out
        have hMN := Lib.hid (show MSt w ts row (k + 1) wr from by
          obtain ⟨⟨ns, vs, B1, B2, e1, e2, m1, m2, m3, m4, m5, m6⟩, m7, m8, m9⟩ := hMM
          exact ⟨⟨ns, vs, B1, B2, e1, e2, env_leaf m1 hlt (fun s e => by rw [HT.out] at e; cases e), by omega, m3, m4, m5, m6⟩, m7, m8, m9⟩)
        clear d1 d2 d3 d4 d5 s0 hMM
        go_wp2_with fail
        go_roundw
        case rel => exact ⟨k + 1, by omega, by go_num, HX, hMN, hPr⟩
        case measure => simp [intOf]; omega
      | con cv =>
        have S0 := Lib.hid s0
        have HVA := Lib.hid (show VAt wr g2 (o2 + k * 3) row[k] from ⟨v0, v1, v2⟩)
        obtain ⟨g3, o3, rfl, hg3, hg4, d0, d1, d2, d3, d4, d5⟩ := s0.at_ (i := 0) (by simp [treeN])
        simp only [treeN, List.getElem_cons_zero, Nat.zero_mul, Nat.add_zero] at d0 d1
        rw [show (treeN (.con cv)).length = 1 from rfl] at h0y q0
        obtain ⟨⟨ns, vs, B1, B2, e1, e2, m1, m2, m3, m4, m5, m6⟩, m7, m8, m9⟩ := hM.out
        have E4 := Lib.hid m4
        have S5 := Lib.hid m5
        have S6 := Lib.hid m6
        have HM1 := Lib.hid m1
        have HM3 := Lib.hid m3
        have hnl : ns.length ≤ 1048576 := by omega
        have HOK := Lib.hid (okA_con hlt hlr HT.out)
        have HEV := Lib.hid (show evalT ns vs (.con cv) = some cv from rfl)
        have HNX := Lib.hid (env_leaf m1 hlt (fun s e => by rw [HT.out] at e; cases e))
        have qk := cell_regrown d0
        clear m1 m3 m4 m5 m6 m7 m8 m9 d1 d2 d3 d4 d5
        go_wp2_with fail
        refine wp_region_quiet_below (by kernel_rfl) (by kernel_rfl) ?_
        repeat (go_big_quiet_step (fail))
        refine wpQuiet_nil ?_
        intro _ hw'
        obtain ⟨⟨dq, osq⟩, hw''⟩ := hw'
        subst hw''
        have hBx := below_regrown wr dq osq
        generalize grow (redrawn wr dq) osq = wx at *
        clear qk d0 s0
        have S5x := Lib.hid (S5.out.to_ hBx)
        have S6x := Lib.hid ((S6.out.keep (fun b _ h => hBx.block b h)).mono (Nat.le_refl _) hBx.size)
        have E4x := Lib.hid (E4.out.below hBx E4.out.lt)
        have y0 : wx.cell? ⟨w.heap.size + 1, 0, none⟩ = some (.slice B1 ns.length e1) := E4x.out.cell 0
        have y1 : wx.cell? ⟨w.heap.size + 1, 1, none⟩ = some (.slice B2 vs.length e2) := E4x.out.cell 1
        have HRK := Lib.hid (spec_reckon ns vs HM1.out.1 hnl (fun v hv => HG.out v (HM3.out v hv)) B1 B2 e1 e2 (w.heap.size + 3) (w.heap.size + 3) (.con cv) hWk (some ⟨g3, o3, none⟩) c' wx (by rw [show (treeN (.con cv)).length = 1 from rfl]; omega) q0 (S0.out.to_ hBx) (S5.out.to_ hBx) ((S6.out.keep (fun b _ h => hBx.block b h)).mono (Nat.le_refl _) hBx.size))
        have MX := Lib.hid (hM.out.next hBx)
        have PX := Lib.hid (hPr.out.below hBx hPr.out.lt)
        have VX := Lib.hid (HVA.out.below hBx hg2)
        have hg2x : g2 < wx.heap.size := Nat.lt_of_lt_of_le hg2 hBx.size
        clear p1 h0y v0 v1 v2 hBx
        go_wp2_with fail
        refine HRK.out.mono ?_
        rintro e w2 ⟨rfl, hb2⟩
        rw [HEV.out, show resV (some cv) = .tuple #[.agg #[.int .i64 cv.k, .int .i64 cv.n, .string cv.t], .bool true] from rfl]
        have hAl : Below w2.heap.size w2 (w2.alloc (.cells #[.int .i64 cv.k, .int .i64 cv.n, .string cv.t] 79)) := (Below.refl _ _).alloc (Nat.le_refl _) _
        have hb3 := below_next hb2 hAl rfl rfl
        have M3 := Lib.hid (MX.out.next hb3)
        have P3 := Lib.hid (PX.out.below hb3 PX.out.lt)
        have E3 := Lib.hid (E4x.out.below hb3 E4x.out.lt)
        have S53 := Lib.hid ((S5x.out.to_ hb3))
        have S63 := Lib.hid ((S6x.out.keep (fun b _ h => hb3.block b h)).mono (Nat.le_refl _) hb3.size)
        have W3 := Lib.hid (show Whole (w2.alloc (.cells #[.int .i64 cv.k, .int .i64 cv.n, .string cv.t] 79)) w2.heap.size 79 [.int .i64 cv.k, .int .i64 cv.n, .string cv.t] from whole_new' rfl)
        obtain ⟨v0, v1, v2⟩ := VX.out.below hb3 hg2x
        clear y0 y1 hb2 hb3 hAl VX HRK
        go_wp2_with fail
        generalize (w2.alloc _) = w3 at *
        obtain ⟨u0, u1, u2⟩ := cells3_ W3.out
        have qa := cell_regrown u0
        have qb := cell_regrown u1
        have qc := cell_regrown u2
        have qd := cell_regrown v0
        have qe := cell_regrown v1
        have qf := cell_regrown v2
        have hgd := guardV
        have hnq := fun W => neqV cv.k cv.n row[k].k row[k].n cv.t row[k].t W
        refine wp_region_quiet_below (by kernel_rfl) (by kernel_rfl) ?_
        repeat (go_big_quiet_step (fail))
        refine wpQuiet_nil ?_
        intro _ hw'
        obtain ⟨⟨dq, osq⟩, hw''⟩ := hw'
        subst hw''
        have hBx := below_regrown w3 dq osq
        generalize grow (redrawn w3 dq) osq = w4 at *
        have M4 := Lib.hid (M3.out.next hBx)
        have P4 := Lib.hid (P3.out.below hBx P3.out.lt)
        have E5 := Lib.hid (E3.out.below hBx E3.out.lt)
        have S54 := Lib.hid (S53.out.to_ hBx)
        have S64 := Lib.hid ((S63.out.keep (fun b _ h => hBx.block b h)).mono (Nat.le_refl _) hBx.size)
        clear qa qb qc qd qe qf u0 u1 u2 v0 v1 v2 hgd hnq hBx S53 S63 E3
        have heq := eqG_is cv row[k]
        generalize (!cv.k == row[k].k || !cv.n == row[k].n || !cv.t.toList == row[k].t.toList) = B at *
        cases hcb : eqG cv row[k] with
        | true =>
          have HX := Lib.hid (show (List.range (k + 1)).all (okA ts row) = true by rw [rng_snoc, hal.out, HOK.out, hcb]; rfl)
          rw [hcb] at heq
          subst heq
          have hMN := Lib.hid (show MSt w ts row (k + 1) w4 from ⟨⟨ns, vs, B1, B2, e1, e2, HNX.out, by omega, HM3.out, E5.out, S54.out, S64.out⟩, M4.out.res, M4.out.low, M4.out.big⟩)
          go_wp2_with fail
          go_roundw
          case rel => exact ⟨k + 1, by omega, by go_num, HX, hMN, P4⟩
          case measure => simp [intOf]; omega
        | false =>
          have HX := Lib.hid (show ansB ts row = false from rng_bad _ _ k hlt (by rw [HOK.out, hcb]))
          rw [hcb] at heq
          subst heq
          have y0 : w4.cell? ⟨w.heap.size + 1, 0, none⟩ = some (.slice B1 ns.length e1) := E5.out.cell 0
          have y1 : w4.cell? ⟨w.heap.size + 1, 1, none⟩ = some (.slice B2 vs.length e2) := E5.out.cell 1
          have z0 : w4.cell? ⟨w.heap.size + 1 + 1, 0, none⟩ = some (.slice none 0 0) := M4.out.res.cell 0
          have z1 : w4.cell? ⟨w.heap.size + 1 + 1, 1, none⟩ = some (.slice none 0 0) := M4.out.res.cell 1
          have f0 := M4.out.res.frozen 0
          have f1 := M4.out.res.frozen 1
          have HDN := Lib.hid (MSt.done (n1 := ns.length) (n2 := vs.length) (e1 := e1) (e2 := e2) (B1 := B1) (B2 := B2) M4.out)
          clear M4 E5 S54 S64 P4 M3 P3
          go_wp2_with fail
          generalize hr : World.setCell _ _ _ = r
          obtain ⟨c0, c1, hb⟩ := HDN.out r hr.symm
          exact bodyPost_ret (v := .tuple #[.agg #[.slice B1 ns.length e1, .slice B2 vs.length e2], .bool false]) (by simp [results, Tryz.results22, go_sem, c0, c1]) rfl ⟨_, _, _, _, _, _, by rw [HX.out], hb⟩
      | var vn =>
        have S0 := Lib.hid s0
        have HVA := Lib.hid (show VAt wr g2 (o2 + k * 3) row[k] from ⟨v0, v1, v2⟩)
        obtain ⟨g3, o3, rfl, hg3, hg4, d0, d1, d2, d3, d4, d5⟩ := s0.at_ (i := 0) (by simp [treeN])
        simp only [treeN, List.getElem_cons_zero, Nat.zero_mul, Nat.add_zero] at d0 d1
        rw [show (treeN (.var vn)).length = 1 from rfl] at h0y q0
        obtain ⟨⟨ns, vs, B1, B2, e1, e2, m1, m2, m3, m4, m5, m6⟩, m7, m8, m9⟩ := hM.out
        have E4 := Lib.hid m4
        have S5 := Lib.hid m5
        have S6 := Lib.hid m6
        have HM1 := Lib.hid m1
        have HM3 := Lib.hid m3
        have hnl : ns.length ≤ 1048576 := by omega
        have qk := cell_regrown d0
        have ql := cell_regrown d1
        have y0 : wr.cell? ⟨w.heap.size + 1, 0, none⟩ = some (.slice B1 ns.length e1) := m4.cell 0
        have y1 : wr.cell? ⟨w.heap.size + 1, 1, none⟩ = some (.slice B2 vs.length e2) := m4.cell 1
        have qy := cell_regrown y0
        have qz := cell_regrown y1
        by_cases hi : idxN ns vn < ns.length
        · have hiv : idxN ns vn < vs.length := by rw [← m1.1]; exact hi
          obtain ⟨h8, h9⟩ := env_old m1 hlt HRL.out HT.out hi
          have HOK := Lib.hid (h9 hiv hlr)
          have HEV := Lib.hid (show evalT ns vs (.var vn) = some vs[idxN ns vn] from look_hit rfl hiv)
          have HNX := Lib.hid h8
          have hFI := findI_hit (names := ns) (s := vn) rfl hi
          have hneg : decide ((idxN ns vn : Int) < 0) = false := by simp
          have HFI := Lib.hid hFI
          clear m1 m3 m4 m5 m6 m7 m8 m9 d2 d3 d4 d5 h8 h9 hFI
          go_wp2_with fail
          refine wp_region_quiet_below (by kernel_rfl) (by kernel_rfl) ?_
          repeat (go_big_quiet_step (first
            | (go_at_call 45; exact Calls.regrown_of (spec_find_is _ B1 B2 e1 e2 vs.length ns vn _ HFI.out hnl (S5.out.to_ (below_regrown wr _ _))))))
          refine wpQuiet_nil ?_
          intro _ hw'
          obtain ⟨⟨dq, osq⟩, hw''⟩ := hw'
          subst hw''
          have hBx := below_regrown wr dq osq
          generalize grow (redrawn wr dq) osq = wx at *
          clear qk ql qy qz d0 d1 s0 y0 y1 hneg
          generalize hvu : vs[idxN ns vn] = uv at *
          have S5x := Lib.hid (S5.out.to_ hBx)
          have S6x := Lib.hid ((S6.out.keep (fun b _ h => hBx.block b h)).mono (Nat.le_refl _) hBx.size)
          have E4x := Lib.hid (E4.out.below hBx E4.out.lt)
          have y0 : wx.cell? ⟨w.heap.size + 1, 0, none⟩ = some (.slice B1 ns.length e1) := E4x.out.cell 0
          have y1 : wx.cell? ⟨w.heap.size + 1, 1, none⟩ = some (.slice B2 vs.length e2) := E4x.out.cell 1
          have HRK := Lib.hid (spec_reckon ns vs HM1.out.1 hnl (fun v hv => HG.out v (HM3.out v hv)) B1 B2 e1 e2 (w.heap.size + 3) (w.heap.size + 3) (.var vn) hWk (some ⟨g3, o3, none⟩) c' wx (by rw [show (treeN (.var vn)).length = 1 from rfl]; omega) q0 (S0.out.to_ hBx) (S5.out.to_ hBx) ((S6.out.keep (fun b _ h => hBx.block b h)).mono (Nat.le_refl _) hBx.size))
          have MX := Lib.hid (hM.out.next hBx)
          have PX := Lib.hid (hPr.out.below hBx hPr.out.lt)
          have VX := Lib.hid (HVA.out.below hBx hg2)
          have hg2x : g2 < wx.heap.size := Nat.lt_of_lt_of_le hg2 hBx.size
          clear p1 h0y v0 v1 v2 hBx
          go_wp2_with fail
          refine HRK.out.mono ?_
          rintro e w2 ⟨rfl, hb2⟩
          rw [HEV.out, show resV (some uv) = .tuple #[.agg #[.int .i64 uv.k, .int .i64 uv.n, .string uv.t], .bool true] from rfl]
          have hAl : Below w2.heap.size w2 (w2.alloc (.cells #[.int .i64 uv.k, .int .i64 uv.n, .string uv.t] 79)) := (Below.refl _ _).alloc (Nat.le_refl _) _
          have hb3 := below_next hb2 hAl rfl rfl
          have M3 := Lib.hid (MX.out.next hb3)
          have P3 := Lib.hid (PX.out.below hb3 PX.out.lt)
          have E3 := Lib.hid (E4x.out.below hb3 E4x.out.lt)
          have S53 := Lib.hid ((S5x.out.to_ hb3))
          have S63 := Lib.hid ((S6x.out.keep (fun b _ h => hb3.block b h)).mono (Nat.le_refl _) hb3.size)
          have W3 := Lib.hid (show Whole (w2.alloc (.cells #[.int .i64 uv.k, .int .i64 uv.n, .string uv.t] 79)) w2.heap.size 79 [.int .i64 uv.k, .int .i64 uv.n, .string uv.t] from whole_new' rfl)
          obtain ⟨v0, v1, v2⟩ := VX.out.below hb3 hg2x
          clear y0 y1 hb2 hb3 hAl VX HRK
          go_wp2_with fail
          generalize (w2.alloc _) = w3 at *
          obtain ⟨u0, u1, u2⟩ := cells3_ W3.out
          have qa := cell_regrown u0
          have qb := cell_regrown u1
          have qc := cell_regrown u2
          have qd := cell_regrown v0
          have qe := cell_regrown v1
          have qf := cell_regrown v2
          have hgd := guardV
          have hnq := fun W => neqV uv.k uv.n row[k].k row[k].n uv.t row[k].t W
          refine wp_region_quiet_below (by kernel_rfl) (by kernel_rfl) ?_
          repeat (go_big_quiet_step (fail))
          refine wpQuiet_nil ?_
          intro _ hw'
          obtain ⟨⟨dq, osq⟩, hw''⟩ := hw'
          subst hw''
          have hBx := below_regrown w3 dq osq
          generalize grow (redrawn w3 dq) osq = w4 at *
          have M4 := Lib.hid (M3.out.next hBx)
          have P4 := Lib.hid (P3.out.below hBx P3.out.lt)
          have E5 := Lib.hid (E3.out.below hBx E3.out.lt)
          have S54 := Lib.hid (S53.out.to_ hBx)
          have S64 := Lib.hid ((S63.out.keep (fun b _ h => hBx.block b h)).mono (Nat.le_refl _) hBx.size)
          clear qa qb qc qd qe qf u0 u1 u2 v0 v1 v2 hgd hnq hBx S53 S63 E3
          have heq := eqG_is uv row[k]
          generalize (!uv.k == row[k].k || !uv.n == row[k].n || !uv.t.toList == row[k].t.toList) = B at *
          cases hcb : eqG uv row[k] with
          | true =>
            have HX := Lib.hid (show (List.range (k + 1)).all (okA ts row) = true by rw [rng_snoc, hal.out, HOK.out, hcb]; rfl)
            rw [hcb] at heq
            subst heq
            have hMN := Lib.hid (show MSt w ts row (k + 1) w4 from ⟨⟨ns, vs, B1, B2, e1, e2, HNX.out, by omega, HM3.out, E5.out, S54.out, S64.out⟩, M4.out.res, M4.out.low, M4.out.big⟩)
            go_wp2_with fail
            go_roundw
            case rel => exact ⟨k + 1, by omega, by go_num, HX, hMN, P4⟩
            case measure => simp [intOf]; omega
          | false =>
            have HX := Lib.hid (show ansB ts row = false from rng_bad _ _ k hlt (by rw [HOK.out, hcb]))
            rw [hcb] at heq
            subst heq
            have y0 : w4.cell? ⟨w.heap.size + 1, 0, none⟩ = some (.slice B1 ns.length e1) := E5.out.cell 0
            have y1 : w4.cell? ⟨w.heap.size + 1, 1, none⟩ = some (.slice B2 vs.length e2) := E5.out.cell 1
            have z0 : w4.cell? ⟨w.heap.size + 1 + 1, 0, none⟩ = some (.slice none 0 0) := M4.out.res.cell 0
            have z1 : w4.cell? ⟨w.heap.size + 1 + 1, 1, none⟩ = some (.slice none 0 0) := M4.out.res.cell 1
            have f0 := M4.out.res.frozen 0
            have f1 := M4.out.res.frozen 1
            have HDN := Lib.hid (MSt.done (n1 := ns.length) (n2 := vs.length) (e1 := e1) (e2 := e2) (B1 := B1) (B2 := B2) M4.out)
            clear M4 E5 S54 S64 P4 M3 P3
            go_wp2_with fail
            generalize hr : World.setCell _ _ _ = r
            obtain ⟨c0, c1, hb⟩ := HDN.out r hr.symm
            exact bodyPost_ret (v := .tuple #[.agg #[.slice B1 ns.length e1, .slice B2 vs.length e2], .bool false]) (by simp [results, Tryz.results22, go_sem, c0, c1]) rfl ⟨_, _, _, _, _, _, by rw [HX.out], hb⟩
        · have hFI := findI_none (names := ns) (s := vn) (by omega)
          have HFI := Lib.hid hFI
          obtain ⟨h8, h9⟩ := env_new m1 hlt hlr HT.out hi
          have HNX := Lib.hid h8
          have HX := Lib.hid (show (List.range (k + 1)).all (okA ts row) = true by rw [rng_snoc, hal.out, h9]; rfl)
          have hM2 := m2
          clear m1 m3 m4 m5 m6 m7 m8 m9 d2 d3 d4 d5 h8 h9 hFI
          go_wp2_with fail
          refine wp_region_quiet_below (by kernel_rfl) (by kernel_rfl) ?_
          repeat (go_big_quiet_step (first
            | (go_at_call 45; exact Calls.regrown_of (spec_find_is _ B1 B2 e1 e2 vs.length ns vn _ HFI.out hnl (S5.out.to_ (below_regrown wr _ _))))))
          refine wpQuiet_nil ?_
          intro _ hw'
          obtain ⟨⟨dq, osq⟩, hw''⟩ := hw'
          subst hw''
          have hBx := below_regrown wr dq osq
          generalize grow (redrawn wr dq) osq = wx at *
          clear qk ql qy qz y0 y1
          have E4x := Lib.hid (E4.out.below hBx E4.out.lt)
          have y0 : wx.cell? ⟨w.heap.size + 1, 0, none⟩ = some (.slice B1 ns.length e1) := E4x.out.cell 0
          have y1 : wx.cell? ⟨w.heap.size + 1, 1, none⟩ = some (.slice B2 vs.length e2) := E4x.out.cell 1
          have hd1 : wx.cell? ⟨g3, o3 + 1, none⟩ = some (.string vn) := (hBx.cell (p := ⟨g3, o3 + 1, none⟩) hg4).trans d1
          obtain ⟨w0', w1', w2'⟩ := HVA.out.below hBx hg2
          have MX := Lib.hid (hM.out.next hBx)
          have PX := Lib.hid (hPr.out.below hBx hPr.out.lt)
          have S5x := Lib.hid (S5.out.to_ hBx)
          have S6x := Lib.hid ((S6.out.keep (fun b _ h => hBx.block b h)).mono (Nat.le_refl _) hBx.size)
          clear d0 d1 v0 v1 v2 s0 h0y p1 hBx
          go_wp2_with fail
          go_still_tail 9, (by kernel_rfl)
          change wpList _ _ _ _ _ wx.drew
          have hBd : Below wx.heap.size wx wx.drew := (Below.refl _ _).drew
          have MD := Lib.hid (MX.out.next hBd)
          have PD := Lib.hid (PX.out.below hBd PX.out.lt)
          have ED := Lib.hid (E4x.out.below hBd E4x.out.lt)
          have S5d := Lib.hid (S5x.out.to_ hBd)
          have S6d := Lib.hid ((S6x.out.keep (fun b _ h => hBd.block b h)).mono (Nat.le_refl _) hBd.size)
          have hbg : w.heap.size + 3 ≤ wx.drew.heap.size := MD.out.big
          clear hd1 w0' w1' w2' y0 y1 hBd
          generalize wx.drew = wd at *
          have hvl : vs.length ≤ 1048576 := by rw [← HM1.out.1]; exact hnl
          go_wp2_with fail
          refine (spec_with B1 B2 e1 e2 ns vs vn row[k] wd hnl hvl S5d.out S6d.out).mono ?_
          rintro e w2 ⟨D1, q1, D2, q2, rfl, hs2, hv2, hb2⟩
          have E2 := ED.out.below hb2 ED.out.lt
          have P2 := PD.out.below hb2 PD.out.lt
          have y0 : w2.cell? ⟨w.heap.size + 1, 0, none⟩ = some (.slice B1 ns.length e1) := E2.cell 0
          have y1 : w2.cell? ⟨w.heap.size + 1, 1, none⟩ = some (.slice B2 vs.length e2) := E2.cell 1
          have f0 := E2.frozen 0
          have f1 := E2.frozen 1
          have HMW := Lib.hid (MSt.with_ (MD.out.next hb2) E2 P2 HNX.out (by simp; omega) (fun v hv => by
            rcases List.mem_append.1 hv with h | h
            · exact HM3.out v h
            · rw [List.mem_singleton.1 h]; exact List.getElem_mem hlr) (hs2.mono hbg (Nat.le_refl _)) (hv2.mono hbg (Nat.le_refl _)) (e1 := q1) (e2 := q2))
          clear hs2 hv2 E2 P2 hb2 MD PD ED S5d S6d MX PX E4x S5x S6x
          go_wp2_with fail
          generalize hr : World.setCell _ _ _ = r
          obtain ⟨MR, PR⟩ := HMW.out r (by rw [← hr]; simp)
          have MR := Lib.hid MR
          have PR := Lib.hid PR
          go_roundw
          case rel => exact ⟨k + 1, by omega, by go_num, HX, MR, PR⟩
          case measure => simp [intOf]; omega
    · have hi1 : ¬ (k : Int) < (ts.length : Int) := by omega
      have HX := Lib.hid (show ansB ts row = true by unfold ansB; have h := hal.out; rwa [show k = ts.length by omega] at h)
      obtain ⟨⟨ns, vs, B1, B2, e1, e2, m1, m2, m3, m4, m5, m6⟩, m7, m8, m9⟩ := hM.out
      have y0 : wr.cell? ⟨w.heap.size + 1, 0, none⟩ = some (.slice B1 ns.length e1) := m4.cell 0
      have y1 : wr.cell? ⟨w.heap.size + 1, 1, none⟩ = some (.slice B2 vs.length e2) := m4.cell 1
      have z0 : wr.cell? ⟨w.heap.size + 1 + 1, 0, none⟩ = some (.slice none 0 0) := m7.cell 0
      have z1 : wr.cell? ⟨w.heap.size + 1 + 1, 1, none⟩ = some (.slice none 0 0) := m7.cell 1
      have f0 := m7.frozen 0
      have f1 := m7.frozen 1
      clear m1 m2 m3 m4 m5 m6 m7 m8
      have HDN := Lib.hid (MSt.done (n1 := ns.length) (n2 := vs.length) (e1 := e1) (e2 := e2) (B1 := B1) (B2 := B2) hM.out)
      clear hM
      go_wp2_with fail
      generalize hr : World.setCell _ _ _ = r
      obtain ⟨c0, c1, hb⟩ := HDN.out r hr.symm
      exact bodyPost_ret (v := .tuple #[.agg #[.slice B1 ns.length e1, .slice B2 vs.length e2], .bool true]) (by simp [results, Tryz.results22, go_sem, c0, c1]) rfl ⟨_, _, _, _, _, _, by rw [HX.out], hb⟩
theorem spec_match_is {lo lo2 : Nat} (b : Bool) (x : GAtom) (ts : List Tr) (row : List GV) (A1 A2 : Option Addr) (c1 c2 : Nat) (w : World) (hb : ansB ts row = b) (he : x.args = ts.map treeN) (hw : ∀ t ∈ ts, Wf t) (hf : ∀ t ∈ ts, leafT t = true) (hl : ts.length ≤ 8) (hrl : ts.length = row.length) (hg : ∀ v ∈ row, GoodV v)
    (s1 : NodeSsAt w lo w.heap.size A1 x.args) (s2 : RowAt w w.heap.size A2 row) :
    Calls Tryz.prog 22 #[.agg #[.string x.name, .slice A1 x.args.length c1], .slice A2 row.length c2, .agg #[.slice none 0 0, .slice none 0 0]] w (MatchPost w b) := by
  subst hb; exact spec_match (lo := lo) (lo2 := lo2) x ts row A1 A2 c1 c2 w he hw hf hl hrl hg s1 s2
end Go.Proofs.YteoepnadjkjlmaaGreat
