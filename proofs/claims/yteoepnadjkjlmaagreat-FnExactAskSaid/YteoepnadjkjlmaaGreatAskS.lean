/-
  spec.Ask.
-/
import Derived.Test.YteoepnadjkjlmaaGreatVIZ
import Derived.Test.YteoepnadjkjlmaaGreatMatchZ
import Derived.Test.YteoepnadjkjlmaaGreatDbOkSZ
import Derived.Test.YteoepnadjkjlmaaGreatRowsBZ
import Derived.Deep.RegionHeld3
namespace Go.Proofs.YteoepnadjkjlmaaGreat
open Go.RowKit Go.Sort
set_option linter.unusedVariables false

theorem spec_dbOk_is {lo : Nat} (b : Bool) (A : Option Addr) (c : Nat) (xs : List GRel) (w : World) (h : dbOkB xs = b) (hf : fitRels xs) (hk : costRels xs ≤ 1048576) (hr : RelsAt w lo w.heap.size A xs) :
    Calls Tryz.prog 19 #[.slice A xs.length c] w fun e w' => e = .returned (.bool b) ∧ Below w.heap.size w w' := by subst h; exact spec_dbOk A c xs w hf hk hr
theorem tpost_nil {w w' : World} {n : Nat} (h : Below w.heap.size w w') : TPost w [] (.returned (.slice (some ⟨n, 0, none⟩) 0 0)) w' := ⟨_, _, rfl, ⟨Nat.le_refl _, Nat.zero_le _⟩, .inl rfl, h⟩
theorem wpList_tapp2 {ops : Array Oper} {rest : List Oper} {o : Oper} {a : Act} {Q : Exit → Act → World → Prop} (W : World) (hgd : o.guard = none) (s x : Operand)
    (ho : o.op = .call { callee := .builtin .append, args := #[s, x], argTypes := #[28, 28] })
    (w0 : World) (v : Value) (rows : List (List GV)) (p : TH) (hs : a.eval s = v) (hI : TAcc w0 W v rows) (hp : THok W w0.heap.size p) (hx : a.eval x = .slice (some ⟨W.heap.size, 0, none⟩) 1 1) (hb : rows.length ≤ 4194304)
    (h : ∀ v' w', TAcc w0 w' v' (rows ++ [p.2]) → (∀ g t l, t ≠ 52 → Whole W g t l → Whole w' g t l) → wpList Tryz.prog ops Q rest (a.put o.dst v') w') : wpList Tryz.prog ops Q (o :: rest) a (W.alloc (.cells #[.slice p.1.1 p.2.length p.1.2] 52)) := by
  obtain ⟨i0, hi, hz0, hz1, hz2⟩ := info_parts infoVs
  have hB : Below W.heap.size W (W.alloc (.cells #[thV p] 52)) := (Below.refl _ _).alloc (Nat.le_refl _) _
  have hI2 := hI.below hB
  have hp2 : THok (W.alloc (.cells #[thV p] 52)) w0.heap.size p := ⟨hp.1.keepV (hB.mono hI.low.size) (KeepT.below hB), hp.2⟩
  obtain ⟨ps, e, how, hq⟩ := hI2.own
  refine wpList_append_own _ hgd s x _ ho w0.heap.size 52 i0 _ 1 24 Tryz.underlying28 hi hz0 hz1 hz2 rfl (by decide) v rows.length (ps.map thV) hs how ⟨W.heap.size, 0, none⟩ 1 1 [thV p] hx rfl (thV_cells W p _) (by intro u hu; simp at hu; subst hu; rfl) (by unfold maxLen; omega) (by omega) hI2.low.size (fun v' w' h1 h2 h3 => h v' w' ?_ (fun g t l ht hw => whole_keep (KeepT.grown how h2) ht (whole_alloc hw)))
  have hbw : Below w0.heap.size (W.alloc (.cells #[thV p] 52)) w' := (Below.refl _ _).grown h2 hI2.low.size (fun k hk => (World.ownsRow.lt how k hk).1)
  have hk := KeepT.grown how h2
  refine ⟨⟨ps ++ [p], by simp [e], ?_, fun q hm => ?_⟩, fun e1 => hI2.ne (h3.1 e1).1, hI2.low.trans hbw⟩
  · rw [List.map_append, List.length_append]
    simpa using h1
  · rw [List.mem_append, List.mem_singleton] at hm
    rcases hm with hm | rfl
    · exact ⟨(hq q hm).1.keepV hbw hk, (hq q hm).2⟩
    · exact ⟨hp2.1.keepV hbw hk, hp2.2⟩
theorem TabC.same {w1 w2 : World} {B : Nat} {A : Option Addr} {rows : List (List GV)} (h : TabC w1 B A rows) (hs : ∀ b, b < B → w2.heap[b]? = w1.heap[b]?) : TabC w2 B A rows := by
  rcases h with h | ⟨g, o, hA, hg, hc⟩
  · exact .inl h
  · refine .inr ⟨g, o, hA, hg, fun i r hr => ?_⟩
    obtain ⟨A', c', h1, h2, h3⟩ := hc i r hr
    refine ⟨A', c', (World.cell?_of_block (w := w1) (w' := w2) (a := ⟨g, o + i, none⟩) (hs g hg)).trans h1, h2, ?_⟩
    rcases h3 with h4 | ⟨g', o', hA', hg', hc'⟩
    · exact .inl h4
    · exact .inr ⟨g', o', hA', hg', fun i v hv => (hc' i v hv).blk (hs g' hg')⟩
theorem filter_snoc (p : List GV → Bool) (rows : List (List GV)) (k : Nat) (h : k < rows.length) : (rows.take (k + 1)).filter p = (rows.take k).filter p ++ (if p rows[k] = true then [rows[k]] else []) := by
  rw [List.take_succ_eq_append_getElem h, List.filter_append]
  congr 1
  by_cases hp : p rows[k] = true
  · rw [if_pos hp, List.filter_cons_of_pos hp]; rfl
  · rw [if_neg hp, List.filter_cons_of_neg hp]; rfl
set_option maxRecDepth 100000 in
set_option maxHeartbeats 8000000 in
theorem spec_ask {lo lo2 : Nat} (A A1 : Option Addr) (c c1 : Nat) (xs : List GRel) (x : GAtom) (w : World) (hf : fitRels xs) (hk : costRels xs ≤ 1048576) (hr : RelsAt w lo w.heap.size A xs) (hfa : fitAtom x) (hka : costAtom x ≤ 1048576) (s1 : NodeSsAt w lo2 w.heap.size A1 x.args) :
    Calls Tryz.prog 6 #[.slice A xs.length c, .agg #[.string x.name, .slice A1 x.args.length c1]] w (TPost w (askR xs x)) := by
  have hl : xs.length ≤ 1048576 := by unfold costRels at hk; omega
  have hP := Lib.hid (whole_alloc (o := .cells #[] 52) (Whole.new w 34 [.string x.name, .slice A1 x.args.length c1]))
  have hB0 : Below w.heap.size w ((w.alloc (.cells #[.string x.name, .slice A1 x.args.length c1] 34)).alloc (.cells #[] 52)) := ((Below.refl _ _).alloc (Nat.le_refl _) _).alloc (by simp) _
  have hD0 := Lib.hid (TAcc.start (n := w.heap.size + 1) (w0 := w) (w := w.alloc (.cells #[.string x.name, .slice A1 x.args.length c1] 34)) ((Below.refl _ _).alloc (Nat.le_refl _) _) (by simp))
  have HFT := Lib.hid (rowsR_fit (db_fit hk) x.name)
  have HR := Lib.hid hr
  have HS := Lib.hid s1
  have HF := Lib.hid hf
  have HFA := Lib.hid hfa
  clear hr s1 hf hfa
  cases hd : dbOkB xs with
  | false =>
    have hE := Lib.hid (askR_no (xs := xs) (a := x) (by unfold askOk; rw [hd]; rfl))
    go_enter Tryz.func6, Tryz.ntmps6
    go_wp2_with fail
    generalize ((w.alloc _).alloc _) = w1 at *
    refine (spec_dbOk_is false A c xs _ hd HF.out hk (HR.out.to_ hB0)).mono ?_
    rintro e w2 ⟨rfl, hb2⟩
    have hB2 := below_next hB0 hb2 rfl rfl
    go_wp2_with fail
    go_ret
    rw [hE.out]
    exact tpost_nil hB2
  | true =>
    cases ha : atomB x with
    | false =>
      have hE := Lib.hid (askR_no (xs := xs) (a := x) (by unfold askOk; rw [ha]; simp))
      go_enter Tryz.func6, Tryz.ntmps6
      go_wp2_with fail
      generalize ((w.alloc _).alloc _) = w1 at *
      refine (spec_dbOk_is true A c xs _ hd HF.out hk (HR.out.to_ hB0)).mono ?_
      rintro e w2 ⟨rfl, hb2⟩
      have hB2 := below_next hB0 hb2 rfl rfl
      have hP2 := Lib.hid (hP.out.below hb2 hP.out.lt)
      have p0 : w2.cell? ⟨w.heap.size, 0, none⟩ = some (.string x.name) := hP2.out.cell 0
      have p1 : w2.cell? ⟨w.heap.size, 1, none⟩ = some (.slice A1 x.args.length c1) := hP2.out.cell 1
      go_wp2_with fail
      refine (sp_atom_is false x A1 c1 _ ha HFA.out hka (HS.out.to_ hB2)).mono ?_
      rintro e w3 ⟨rfl, hb3⟩
      have hB3 := below_next hB2 hb3 rfl rfl
      clear p0 p1
      go_wp2_with fail
      go_ret
      rw [hE.out]
      exact tpost_nil hB3
    | true =>
      have hxl : x.args.length ≤ 8 := by unfold atomB at ha; simp only [Bool.and_eq_true, decide_eq_true_eq] at ha; exact ha.1.2
      have HAT := Lib.hid ha
      have HDB := Lib.hid hd
      go_enter Tryz.func6, Tryz.ntmps6
      go_wp2_with fail
      generalize ((w.alloc _).alloc _) = w1 at *
      refine (spec_dbOk_is true A c xs _ hd HF.out hk (HR.out.to_ hB0)).mono ?_
      rintro e w2 ⟨rfl, hb2⟩
      have hB2 := below_next hB0 hb2 rfl rfl
      have hP2 := Lib.hid (hP.out.below hb2 hP.out.lt)
      have hD2 := Lib.hid (hD0.out.below hb2)
      have p0 : w2.cell? ⟨w.heap.size, 0, none⟩ = some (.string x.name) := hP2.out.cell 0
      have p1 : w2.cell? ⟨w.heap.size, 1, none⟩ = some (.slice A1 x.args.length c1) := hP2.out.cell 1
      go_wp2_with fail
      refine (sp_atom_is true x A1 c1 _ ha HFA.out hka (HS.out.to_ hB2)).mono ?_
      rintro e w3 ⟨rfl, hb3⟩
      have hB3 := below_next hB2 hb3 rfl rfl
      have hP3 := Lib.hid (hP2.out.below hb3 hP2.out.lt)
      have hD3 := Lib.hid (hD2.out.below hb3)
      clear p0 p1 hd ha hP hD0 hB0 hP2 hD2 hB2
      go_wp2_with fail
      go_loopw [6] (fun i w' => ∃ k : Nat, k ≤ x.args.length ∧ i = .int .i64 k ∧ Hid ((x.args.take k).all oneB = true) ∧ Hid (Whole w' w.heap.size 34 [.string x.name, .slice A1 x.args.length c1]) ∧ Hid (TAcc w w' (.slice (some ⟨w.heap.size + 1, 0, none⟩) 0 0) [])) (fun i _ => x.args.length - (intOf i).toNat)
      case atStart => exact ⟨0, Nat.zero_le _, rfl, Lib.hid rfl, hP3, hD3⟩
      case round =>
        obtain ⟨k, hk, rfl, hal, hPr, hDr⟩ := hrel
        have p1 : wr.cell? ⟨w.heap.size, 1, none⟩ = some (.slice A1 x.args.length c1) := hPr.out.cell 1
        by_cases hlt : k < x.args.length
        · obtain ⟨g, o, rfl, hg0, hg1, A', c', ⟨h0y, q0⟩, s0⟩ := (HS.out.to_ hDr.out.low).at_ hlt
          have hi0 : (0 : Int) ≤ (k : Int) := by omega
          have hi1 : (k : Int) < (x.args.length : Int) := by omega
          have hex : exprB x.args[k] = true := by
            have h := HAT.out
            unfold atomB at h
            simp only [Bool.and_eq_true, List.all_eq_true] at h
            exact h.2 _ (List.getElem_mem hlt)
          have hge : 1 ≤ x.args[k].length := by
            unfold exprB at hex
            simp only [Bool.and_eq_true, decide_eq_true_eq] at hex
            obtain ⟨t, _, he⟩ := (treeB_iff _).1 hex.2
            obtain ⟨y, m, hy, _⟩ := treeN_first t
            rw [← he, hy]; simp
          clear hex
          by_cases h1 : (1 : Int) < (x.args[k].length : Int)
          · have hE := Lib.hid (askR_no (xs := xs) (a := x) (by
              unfold askOk
              rw [show x.args.all oneB = false from by rw [List.all_eq_false]; exact ⟨_, List.getElem_mem hlt, by unfold oneB; simp; omega⟩]
              simp))
            go_wp2_with fail
            go_ret
            rw [hE.out]
            exact tpost_nil hDr.out.low
          · have h1d : decide ((1 : Int) < (x.args[k].length : Int)) = false := by simpa using h1
            have HX := Lib.hid (show (x.args.take (k + 1)).all oneB = true by
              rw [List.take_succ_eq_append_getElem hlt, List.all_append, hal.out]
              simp [oneB]; omega)
            go_wp2_with fail
            go_roundw
            case rel => exact ⟨k + 1, by omega, by go_num, HX, hPr, hDr⟩
            case measure => simp [intOf]; omega
        · have hi1 : ¬ (k : Int) < (x.args.length : Int) := by omega
          have hone : x.args.all oneB = true := by have h := hal.out; rwa [List.take_of_length_le (by omega)] at h
          have hok : askOk xs x = true := by unfold askOk; rw [HDB.out, HAT.out, hone]; rfl
          obtain ⟨_, _, ts, hts, hwf, hlf⟩ := ask_leaves hok
          have HOK := Lib.hid hok
          have HTS := Lib.hid hts
          have HWF := Lib.hid hwf
          have HLF := Lib.hid hlf
          have HRO := Lib.hid (rowsR_ok HDB.out x.name)
          have p0 : wr.cell? ⟨w.heap.size, 0, none⟩ = some (.string x.name) := hPr.out.cell 0
          clear hone hok hts hwf hlf hal hP3 hD3
          go_wp2_with fail
          refine (spec_relRowsB (B := w.heap.size) A c xs x.name _ hl hDr.out.low.size (HR.out.keep (fun b _ h => hDr.out.low.block b h))).mono ?_
          rintro e w4 ⟨A2, c2, rfl, hc2, ht2, hb4⟩
          have HT := Lib.hid ht2
          have hD4 := Lib.hid (hDr.out.below hb4)
          have hP4 := Lib.hid (hPr.out.below hb4 hPr.out.lt)
          have hrn : (rowsR xs x.name).length ≤ 1048576 := HFT.out.1
          clear p0 p1 hb4 hDr hPr ht2
          go_wp2_with fail
          go_loopw [5, 8] (fun out i w' => ∃ (j : Nat) (L : List (List GV)), j ≤ (rowsR xs x.name).length ∧ i = .int .i64 j ∧ Hid (L = ((rowsR xs x.name).take j).filter (ansB ts)) ∧ Hid (j = 0 ∨ wid (rowsR xs x.name) = x.args.length) ∧ Hid (Whole w' w.heap.size 34 [.string x.name, .slice A1 x.args.length c1]) ∧ Hid (TAcc w w' out L) ∧ Hid (TabC w' w.heap.size A2 (rowsR xs x.name))) (fun _ i _ => (rowsR xs x.name).length - (intOf i).toNat)
          case atStart => exact ⟨0, [], Nat.zero_le _, rfl, Lib.hid rfl, Lib.hid (.inl rfl), hP4, hD4, HT⟩
          case round =>
            obtain ⟨j, L, hj, rfl, hL, hjw, hPj, hDj, hTj⟩ := hrel
            obtain ⟨A6, c6, rfl, _⟩ := hDj.out.slice
            have p1 : wr.cell? ⟨w.heap.size, 1, none⟩ = some (.slice A1 x.args.length c1) := hPj.out.cell 1
            have p0 : wr.cell? ⟨w.heap.size, 0, none⟩ = some (.string x.name) := hPj.out.cell 0
            by_cases hlt : j < (rowsR xs x.name).length
            · obtain ⟨g, o, A', c', rfl, hg, hcell, hcap, hrow⟩ := hTj.out.at_ hlt
              have hi1 : (j : Int) < ((rowsR xs x.name).length : Int) := by omega
              have hi0 : (0 : Int) ≤ (j : Int) := by omega
              obtain ⟨hrw1, hrw2, hrw3⟩ := HRO.out _ (List.getElem_mem hlt)
              have HROW := Lib.hid hrow
              have HG3 := Lib.hid hrw3
              have HW1 := Lib.hid hrw1
              have qc := cell_regrown hcell
              have qp := cell_regrown p1
              clear hrow hrw1 hrw3
              by_cases hlen : (rowsR xs x.name)[j].length = x.args.length
              · have hlb : (((rowsR xs x.name)[j].length : Int) != (x.args.length : Int)) = false := by simp [hlen]
                have HLEN := Lib.hid hlen
                clear hlen
                go_wp2_with fail
                refine wp_region_quiet_below (by kernel_rfl) (by kernel_rfl) ?_
                repeat (go_big_quiet_step (fail))
                refine wpQuiet_nil ?_
                intro _ hw'
                obtain ⟨⟨dq, osq⟩, hw''⟩ := hw'
                subst hw''
                have hBx := below_regrown wr dq osq
                generalize grow (redrawn wr dq) osq = wx at *
                clear qc qp
                have hxl2 : ts.length ≤ 8 := by rw [HTS.out] at hxl; simpa using hxl
                have hz0 : w.heap.size ≤ wr.heap.size := hDj.out.low.size
                have HRL := Lib.hid (show ts.length = (rowsR xs x.name)[j].length by have h := HLEN.out; rw [HTS.out] at h; simp at h; omega)
                have HDX := Lib.hid (fun W (hb : Below wx.heap.size wx W) => (hDj.out.below hBx).below hb)
                have HPX := Lib.hid (fun W (hb : Below wx.heap.size wx W) => (hPj.out.below hBx hPj.out.lt).below hb (hPj.out.below hBx hPj.out.lt).lt)
                have HTX := Lib.hid (fun W (hb : Below wx.heap.size wx W) => (hTj.out.below hBx hz0).below hb (Nat.le_trans hz0 hBx.size))
                have HSX := Lib.hid (fun W (hb : Below wx.heap.size wx W) => HS.out.to_ (hDj.out.low.trans (below_next hBx hb rfl rfl |>.mono hz0)))
                have HRX := Lib.hid (fun W (hb : Below wx.heap.size wx W) => (((HROW.out.below hBx hz0).below hb (Nat.le_trans hz0 hBx.size)).mono (Nat.le_trans (Nat.le_trans hz0 hBx.size) hb.size) : RowAt W W.heap.size A' (rowsR xs x.name)[j]))
                have hcx : wx.cell? ⟨g, o + j, none⟩ = some (.slice A' (rowsR xs x.name)[j].length c') := (hBx.cell (p := ⟨g, o + j, none⟩) (Nat.lt_of_lt_of_le hg hz0)).trans hcell
                have hgx : g < wx.heap.size := Nat.lt_of_lt_of_le (Nat.lt_of_lt_of_le hg hz0) hBx.size
                have hSx : ∀ W, Below wx.heap.size wx W → W.cell? ⟨w.heap.size, 0, none⟩ = some (.string x.name) ∧ W.cell? ⟨w.heap.size, 1, none⟩ = some (.slice A1 x.args.length c1) ∧ W.cell? ⟨g, o + j, none⟩ = some (.slice A' (rowsR xs x.name)[j].length c') := fun W hb =>
                  ⟨(HPX.out W hb).cell 0, (HPX.out W hb).cell 1, (hb.cell (p := ⟨g, o + j, none⟩) hgx).trans hcx⟩
                have HCX := Lib.hid hcx
                have hst := Lib.hid (filter_snoc (ansB ts) (rowsR xs x.name) j hlt)
                have hwd := Lib.hid (show wid (rowsR xs x.name) = x.args.length by rw [← HW1.out, HLEN.out])
                have hml : (rowsR xs x.name)[j].length ≤ 4194304 := by omega
                have hzl : L.length ≤ 4194304 := by
                  have h1 := congrArg List.length hL.out
                  have h2 := List.length_filter_le (ansB ts) ((rowsR xs x.name).take j)
                  rw [List.length_take] at h2
                  omega
                clear p0 p1 hcell hBx hcx
                cases hab : ansB ts (rowsR xs x.name)[j] with
                | true =>
                  have HAB := Lib.hid hab
                  clear hab
                  go_wp2_with fail
                  go_region_held3 (fun W => W.cell? ⟨w.heap.size, 0, none⟩ = some (.string x.name) ∧ W.cell? ⟨w.heap.size, 1, none⟩ = some (.slice A1 x.args.length c1) ∧ W.cell? ⟨g, o + j, none⟩ = some (.slice A' (rowsR xs x.name)[j].length c')) (first
                      | assumption
                      | exact hSx _ (by repeat (first | (with_reducible exact hbm) | (with_reducible exact Below.refl _ _) | (with_reducible refine Below.drew ?_) | (with_reducible refine Below.alloc ?_ ?hsz _; case hsz => (first | exact hbm.size | (simp; done) | (simp; omega) | omega)) | (with_reducible refine Below.setCell ?_ ?hsz _; case hsz => (first | exact hbm.size | (simp; done) | (simp; omega) | omega)))))
                    (first
                      | (go_at_call 22; refine (spec_match_is (lo := lo2) (lo2 := 0) _ x ts (rowsR xs x.name)[j] A1 A' c1 c' _ HAB.out HTS.out HWF.out HLF.out hxl2 HRL.out HG3.out (HSX.out _ (by repeat (first | (with_reducible exact hbm) | (with_reducible exact Below.refl _ _) | (with_reducible refine Below.drew ?_) | (with_reducible refine Below.alloc ?_ ?hsz _; case hsz => (first | exact hbm.size | (simp; done) | (simp; omega) | omega)) | (with_reducible refine Below.setCell ?_ ?hsz _; case hsz => (first | exact hbm.size | (simp; done) | (simp; omega) | omega))))) (HRX.out _ (by repeat (first | (with_reducible exact hbm) | (with_reducible exact Below.refl _ _) | (with_reducible refine Below.drew ?_) | (with_reducible refine Below.alloc ?_ ?hsz _; case hsz => (first | exact hbm.size | (simp; done) | (simp; omega) | omega)) | (with_reducible refine Below.setCell ?_ ?hsz _; case hsz => (first | exact hbm.size | (simp; done) | (simp; omega) | omega)))))).mono ?_; rintro e w5 ⟨D1, d1, n1, D2, d2, n2, rfl, hb5⟩; have hbm : Below wx.heap.size wx w5 := below_next (by repeat (first | (with_reducible exact hbm) | (with_reducible exact Below.refl _ _) | (with_reducible refine Below.drew ?_) | (with_reducible refine Below.alloc ?_ ?hsz _; case hsz => (first | exact hbm.size | (simp; done) | (simp; omega) | omega)) | (with_reducible refine Below.setCell ?_ ?hsz _; case hsz => (first | exact hbm.size | (simp; done) | (simp; omega) | omega)))) hb5 rfl rfl; (try (have hW9 : Whole w5 wx.heap.size 55 [.slice none 0 0, .slice none 0 0] := Whole.below (Whole.drew (whole_new' rfl)) hb5 (by simp); have r0 := hW9.cell 0; have r1 := hW9.cell 1; have f0 := hW9.frozen 0; have f1 := hW9.frozen 1)); clear hb5))
                  all_goals first
                    | (clear hW9; generalize hW6 : ((w5.setCell ⟨wx.heap.size, 0, none⟩ (.slice D1 n1 d1)).setCell ⟨wx.heap.size, 1, none⟩ (.slice D2 n2 d2)) = w6)
                    | generalize hW6 : w5.alloc (.cells #[.slice D1 n1 d1, .slice D2 n2 d2] 55) = w6
                  all_goals (have hb6 : Below wx.heap.size wx w6 := (by rw [← hW6]; exact (by repeat (first | (with_reducible exact hbm) | (with_reducible exact Below.refl _ _) | (with_reducible refine Below.drew ?_) | (with_reducible refine Below.alloc ?_ ?hsz _; case hsz => (first | exact hbm.size | (simp; done) | (simp; omega) | omega)) | (with_reducible refine Below.setCell ?_ ?hsz _; case hsz => (first | exact hbm.size | (simp; done) | (simp; omega) | omega))))))
                  all_goals clear hW6
                  all_goals have HD6 := Lib.hid (HDX.out w6 hb6)
                  all_goals have HP6 := Lib.hid (HPX.out w6 hb6)
                  all_goals have HT6 := Lib.hid (HTX.out w6 hb6)
                  all_goals have HR6 := Lib.hid (HRX.out w6 hb6)
                  all_goals have hc6 : w6.cell? ⟨g, o + j, none⟩ = some (.slice A' (rowsR xs x.name)[j].length c') := (hb6.cell (p := ⟨g, o + j, none⟩) hgx).trans HCX.out
                  all_goals have hg6 : g < w6.heap.size := Nat.lt_of_lt_of_le hgx hb6.size
                  all_goals have hnx := Lib.hid (show L ++ [(rowsR xs x.name)[j]] = ((rowsR xs x.name).take (j + 1)).filter (ansB ts) by rw [hst.out, if_pos HAB.out, hL.out])
                  all_goals have hV0 := Lib.hid (VI.start (n := w6.heap.size) (Below.refl w6.heap.size w6) rfl)
                  all_goals clear hb6 HDX HPX HTX HSX HRX hSx
                  all_goals (try clear hbm)
                  all_goals go_wp2_with (first | (at_builtin; refine wpList_vnew _ rfl (.tmp 68) (.tmp 72) rfl w6 (.slice (some ⟨w6.heap.size, 0, none⟩) 0 0) rfl hV0.out A' c' (rowsR xs x.name)[j] rfl HR6.out hml ?_; intro v1 W1 hV1; refine Hid.out ?_))
                  all_goals refine Lib.hid ?_
                  all_goals obtain ⟨A7, c7, rfl, hst7, hcap7⟩ := hV1.st (N := w.heap.size)
                  all_goals have hDx := Lib.hid (HD6.out.below hV1.2.1)
                  all_goals have HP7 := Lib.hid (HP6.out.below hV1.2.1 HP6.out.lt)
                  all_goals have HT7 := Lib.hid (HT6.out.below hV1.2.1 HD6.out.low.size)
                  all_goals have hp := Lib.hid (show THok W1 w.heap.size ((A7, c7), (rowsR xs x.name)[j]) from ⟨hst7, hcap7⟩)
                  all_goals clear hst7 hcap7 hV1 hV0 hc6 HR6 HD6
                  all_goals go_wp2_with (first | (at_builtin; refine wpList_tapp2 _ rfl (.tmp 67) (.tmp 74) rfl w _ L ((A7, c7), (rowsR xs x.name)[j]) rfl hDx.out hp.out rfl hzl ?_; intro v3 w3 hD3 hk3; refine Hid.out ?_))
                  all_goals refine Lib.hid ?_
                  all_goals have HD3 := Lib.hid hD3
                  all_goals have HP8 := Lib.hid (hk3 w.heap.size _ _ (by decide) HP7.out)
                  all_goals have HT8 := Lib.hid (HT7.out.same (fun b hb => (HD3.out.low.block b hb).trans (hDx.out.low.block b hb).symm))
                  all_goals clear hk3 hD3 HP7 HT7 HP6 HT6 hDx
                  all_goals go_wp2_with fail
                  all_goals go_roundw
                  all_goals first
                    | exact ⟨j + 1, _, by omega, by go_num, hnx, Lib.hid (.inr hwd.out), HP8, HD3, HT8⟩
                    | (simp [intOf]; omega)
                | false =>
                  have HAB := Lib.hid hab
                  clear hab
                  go_wp2_with fail
                  go_region_held3 (fun W => W.cell? ⟨w.heap.size, 0, none⟩ = some (.string x.name) ∧ W.cell? ⟨w.heap.size, 1, none⟩ = some (.slice A1 x.args.length c1) ∧ W.cell? ⟨g, o + j, none⟩ = some (.slice A' (rowsR xs x.name)[j].length c')) (first
                      | assumption
                      | exact hSx _ (by repeat (first | (with_reducible exact hbm) | (with_reducible exact Below.refl _ _) | (with_reducible refine Below.drew ?_) | (with_reducible refine Below.alloc ?_ ?hsz _; case hsz => (first | exact hbm.size | (simp; done) | (simp; omega) | omega)) | (with_reducible refine Below.setCell ?_ ?hsz _; case hsz => (first | exact hbm.size | (simp; done) | (simp; omega) | omega)))))
                    (first
                      | (go_at_call 22; refine (spec_match_is (lo := lo2) (lo2 := 0) _ x ts (rowsR xs x.name)[j] A1 A' c1 c' _ HAB.out HTS.out HWF.out HLF.out hxl2 HRL.out HG3.out (HSX.out _ (by repeat (first | (with_reducible exact hbm) | (with_reducible exact Below.refl _ _) | (with_reducible refine Below.drew ?_) | (with_reducible refine Below.alloc ?_ ?hsz _; case hsz => (first | exact hbm.size | (simp; done) | (simp; omega) | omega)) | (with_reducible refine Below.setCell ?_ ?hsz _; case hsz => (first | exact hbm.size | (simp; done) | (simp; omega) | omega))))) (HRX.out _ (by repeat (first | (with_reducible exact hbm) | (with_reducible exact Below.refl _ _) | (with_reducible refine Below.drew ?_) | (with_reducible refine Below.alloc ?_ ?hsz _; case hsz => (first | exact hbm.size | (simp; done) | (simp; omega) | omega)) | (with_reducible refine Below.setCell ?_ ?hsz _; case hsz => (first | exact hbm.size | (simp; done) | (simp; omega) | omega)))))).mono ?_; rintro e w5 ⟨D1, d1, n1, D2, d2, n2, rfl, hb5⟩; have hbm : Below wx.heap.size wx w5 := below_next (by repeat (first | (with_reducible exact hbm) | (with_reducible exact Below.refl _ _) | (with_reducible refine Below.drew ?_) | (with_reducible refine Below.alloc ?_ ?hsz _; case hsz => (first | exact hbm.size | (simp; done) | (simp; omega) | omega)) | (with_reducible refine Below.setCell ?_ ?hsz _; case hsz => (first | exact hbm.size | (simp; done) | (simp; omega) | omega)))) hb5 rfl rfl; (try (have hW9 : Whole w5 wx.heap.size 55 [.slice none 0 0, .slice none 0 0] := Whole.below (Whole.drew (whole_new' rfl)) hb5 (by simp); have r0 := hW9.cell 0; have r1 := hW9.cell 1; have f0 := hW9.frozen 0; have f1 := hW9.frozen 1)); clear hb5))
                  all_goals first
                    | (clear hW9; generalize hW6 : ((w5.setCell ⟨wx.heap.size, 0, none⟩ (.slice D1 n1 d1)).setCell ⟨wx.heap.size, 1, none⟩ (.slice D2 n2 d2)) = w6)
                    | generalize hW6 : w5.alloc (.cells #[.slice D1 n1 d1, .slice D2 n2 d2] 55) = w6
                  all_goals (have hb6 : Below wx.heap.size wx w6 := (by rw [← hW6]; exact (by repeat (first | (with_reducible exact hbm) | (with_reducible exact Below.refl _ _) | (with_reducible refine Below.drew ?_) | (with_reducible refine Below.alloc ?_ ?hsz _; case hsz => (first | exact hbm.size | (simp; done) | (simp; omega) | omega)) | (with_reducible refine Below.setCell ?_ ?hsz _; case hsz => (first | exact hbm.size | (simp; done) | (simp; omega) | omega))))))
                  all_goals clear hW6
                  all_goals have HD6 := Lib.hid (HDX.out w6 hb6)
                  all_goals have HP6 := Lib.hid (HPX.out w6 hb6)
                  all_goals have HT6 := Lib.hid (HTX.out w6 hb6)
                  all_goals have hnx := Lib.hid (show L = ((rowsR xs x.name).take (j + 1)).filter (ansB ts) by rw [hst.out, if_neg (by rw [HAB.out]; decide), List.append_nil, hL.out])
                  all_goals clear hb6 HDX HPX HTX HSX HRX hSx
                  all_goals (try clear hbm)
                  all_goals go_wp2_with fail
                  all_goals go_roundw
                  all_goals first
                    | exact ⟨j + 1, L, by omega, by go_num, hnx, Lib.hid (.inr hwd.out), HP6, HD6, HT6⟩
                    | (simp [intOf]; omega)
              · have hlb : (((rowsR xs x.name)[j].length : Int) != (x.args.length : Int)) = true := by simp; omega
                have hE := Lib.hid (askR_wid (xs := xs) (a := x) (by have := HW1.out; omega))
                have hL0 := Lib.hid (show L = [] by
                  rcases hjw.out with h | h
                  · rw [hL.out, h]; rfl
                  · exact absurd (HW1.out.trans h) hlen)
                clear hlen
                go_wp2_with fail
                refine wp_region_quiet_below (by kernel_rfl) (by kernel_rfl) ?_
                repeat (go_big_quiet_step (fail))
                refine wpQuiet_nil ?_
                intro _ hw'
                obtain ⟨⟨dq, osq⟩, hw''⟩ := hw'
                subst hw''
                have hBx := below_regrown wr dq osq
                generalize grow (redrawn wr dq) osq = wx at *
                have hPo := Lib.hid (hDj.out.below hBx).post
                go_wp2_with fail
                go_ret
                rw [hE.out, ← hL0.out]
                exact hPo.out
            · have hi1 : ¬ (j : Int) < ((rowsR xs x.name).length : Int) := by omega
              have hE := Lib.hid (show L = askR xs x by
                rw [hL.out, List.take_of_length_le (by omega)]
                by_cases hwd : wid (rowsR xs x.name) = x.args.length
                · rw [askR_yes HOK.out HTS.out HLF.out hwd]
                · rw [askR_wid hwd]
                  rcases hjw.out with h | h
                  · have : (rowsR xs x.name) = [] := List.eq_nil_of_length_eq_zero (by omega)
                    rw [this]; rfl
                  · exact absurd h hwd)
              have hPo := Lib.hid hDj.out.post
              go_wp2_with fail
              go_ret
              rw [← hE.out]
              exact hPo.out
end Go.Proofs.YteoepnadjkjlmaaGreat
