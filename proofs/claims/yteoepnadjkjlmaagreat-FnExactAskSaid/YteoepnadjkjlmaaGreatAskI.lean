/-
  impl.askable, slices.Clone at a table, impl.Ask.
-/
import Derived.Test.YteoepnadjkjlmaaGreatRowOkZ
import Derived.Test.YteoepnadjkjlmaaGreatVIZ
import Derived.Test.YteoepnadjkjlmaaGreatRowsOfIZ
import Derived.Test.YteoepnadjkjlmaaGreatCopyRsZ
namespace Go.Proofs.YteoepnadjkjlmaaGreat
open Go.RowKit Go.Sort
set_option linter.unusedVariables false

theorem impl_dbOk_is {lo : Nat} (b : Bool) (A : Option Addr) (c : Nat) (xs : List GRel) (w : World) (h : dbOkB xs = b) (hf : fitRels xs) (hk : costRels xs ≤ 1048576) (hr : RelsAt w lo w.heap.size A xs) :
    Calls Tryz.prog 25 #[.slice A xs.length c] w fun e w' => e = .returned (.bool b) ∧ Below w.heap.size w w' := by subst h; exact impl_dbOk A c xs w hf hk hr
theorem ok_atom_is {lo : Nat} (b : Bool) (x : GAtom) (A1 : Option Addr) (c1 : Nat) (w : World) (h : atomB x = b) (hf : fitAtom x) (hk : costAtom x ≤ 1048576) (s1 : NodeSsAt w lo w.heap.size A1 x.args) :
    Calls Tryz.prog 52 #[.agg #[.string x.name, .slice A1 x.args.length c1]] w fun e w' => e = .returned (.bool b) ∧ Below w.heap.size w w' := by subst h; exact ok_atom x A1 c1 w hf hk s1
set_option maxRecDepth 100000 in
set_option maxHeartbeats 1600000 in
theorem impl_askable {lo : Nat} (b : Bool) (x : GAtom) (A1 : Option Addr) (c1 : Nat) (w : World) (h : (atomB x && x.args.all oneB) = b) (hf : fitAtom x) (hk : costAtom x ≤ 1048576) (s1 : NodeSsAt w lo w.heap.size A1 x.args) :
    Calls Tryz.prog 26 #[.agg #[.string x.name, .slice A1 x.args.length c1]] w fun e w' => e = .returned (.bool b) ∧ Below w.heap.size w w' := by
  have hB0 : Below w.heap.size w (w.alloc (.cells #[.string x.name, .slice A1 x.args.length c1] 34)) := (Below.refl _ _).alloc (Nat.le_refl _) _
  have hP := Lib.hid (Whole.new w 34 [.string x.name, .slice A1 x.args.length c1])
  have hkt : costNodeSs x.args ≤ 1048576 := by unfold costAtom at hk; omega
  have HS := Lib.hid s1
  have HF := Lib.hid hf
  clear s1 hf
  cases ha : atomB x with
  | false =>
    have HB := Lib.hid (show false = b by rw [← h, ha]; rfl)
    clear h
    go_enter Tryz.func26, Tryz.ntmps26
    go_wp2_with fail
    refine (ok_atom_is false x A1 c1 _ ha HF.out hk (HS.out.to_ hB0)).mono ?_
    rintro e w1 ⟨rfl, hb1⟩
    have hB1 := below_next hB0 hb1 rfl rfl
    go_wp2_with fail
    go_ret
    exact ⟨ret_bool HB.out, hB1⟩
  | true =>
    have HB := Lib.hid (show x.args.all oneB = b by rw [← h, ha]; rfl)
    clear h
    go_enter Tryz.func26, Tryz.ntmps26
    go_wp2_with fail
    refine (ok_atom_is true x A1 c1 _ ha HF.out hk (HS.out.to_ hB0)).mono ?_
    rintro e w1 ⟨rfl, hb1⟩
    have hB1 := below_next hB0 hb1 rfl rfl
    have p1 : w1.cell? ⟨w.heap.size, 1, none⟩ = some (.slice A1 x.args.length c1) := (hP.out.below hb1 hP.out.lt).cell 1
    go_wp2_with fail
    refine (all_one_is b A1 c1 x.args _ HB.out HF.out.2 hkt (HS.out.to_ hB1)).mono ?_
    rintro e w2 ⟨rfl, hb2⟩
    have hB2 := below_next hB1 hb2 rfl rfl
    clear p1
    go_wp2_with fail
    go_ret
    exact ⟨rfl, hB2⟩
/-- What slices.Clone leaves of a table. -/
def ClonePost (w : World) (B : Nat) (rows : List (List GV)) (e : Ending) (w' : World) : Prop :=
  Below w.heap.size w w' ∧ ((rows = [] ∧ e = .returned (.slice none 0 0)) ∨
    ∃ g zs ex, e = .returned (.slice (some ⟨g, 0, none⟩) zs.length (zs.length + ex.length)) ∧ zs.map (·.2) = rows ∧ HB w' g zs ex ∧ (∀ z ∈ zs, ∃ A c, z.1 = .slice A z.2.length c ∧ RowAt w' B A z.2) ∧ w.heap.size ≤ g ∧ g < w'.heap.size ∧ zs.length + ex.length ≤ 9223372036854775807)
set_option maxRecDepth 100000 in
set_option maxHeartbeats 1600000 in
theorem clone_tab {B : Nat} (A : Option Addr) (c : Nat) (rows : List (List GV)) (w : World) (hl : rows.length ≤ 1048576) (hr : TabAt w B A rows) (hB : B ≤ w.heap.size) :
    Calls Tryz.prog 30 #[.slice A rows.length c] w (ClonePost w B rows) := by
  obtain ⟨i0, hi, hz0, hz1, hz2⟩ := info_parts infoVs
  obtain ⟨zs, hm, hh, hA, hc⟩ := heads_ofT hr
  have hzl : zs.length = rows.length := by rw [← hm]; simp
  have q : ∀ (w : World) (a : Option Addr) (n c n' c' : Nat), (binOp .eql 28 (.slice a n c) (.slice none n' c')).run Tryz.prog w = .ok (.bool a.isNone) w := fun w a n c n' c' => Lib.run_eql_slice_nil w _ _ a n c n' c' Tryz.underlying28
  cases A with
  | none =>
    have hx : rows = [] := List.eq_nil_of_length_eq_zero (hA rfl)
    subst hx
    clear hzl
    go_enter Tryz.func30, Tryz.ntmps30
    go_wp2_with fail
    go_ret
    exact ⟨Below.refl _ _, .inl ⟨rfl, rfl⟩⟩
  | some ad =>
    have HC := Lib.hid (hc ad rfl)
    have HH := Lib.hid hh
    have HM := Lib.hid hm
    have HZ := Lib.hid hzl
    have HO := Lib.hid (show ∀ u ∈ zs.map (·.1), u.oneCell' = true from fun u hu => by
      obtain ⟨z, hz, rfl⟩ := List.mem_map.1 hu
      obtain ⟨A, c, e, _⟩ := hh z hz
      rw [e]; rfl)
    clear hc hh hr hm hzl
    go_enter Tryz.func30, Tryz.ntmps30
    go_wp2_with (first | (at_builtin; refine wpList_append_own _ rfl (.tmp 5) (.tmp 6) _ rfl w.heap.size 52 i0 _ 1 24 Tryz.underlying28 hi hz0 hz1 hz2 rfl (by decide) _ _ _ rfl (World.ownsRow_made w #[] 0 (Nat.le_refl _) (Nat.zero_le _) (by simp)) ad rows.length c (zs.map (·.1)) rfl (by rw [List.length_map, HZ.out]; omega) (fun j u hu => Lib.cell?_alloc_some _ (HC.out j u hu)) HO.out (by unfold maxLen; omega) (by omega) (by simp) ?_; intro v2 w4 ho2 hg2 _; refine Hid.out ?_))
    refine Lib.hid ?_
    have hB0 : Below w.heap.size w (w.alloc (.cells #[] 52)) := (Below.refl _ w).alloc (Nat.le_refl _) _
    have hB4 := hB0.grown hg2 (by simp) (fun k hk => (World.ownsRow.lt (World.ownsRow_made (base := w.heap.size) (e := 52) (size := 1) w #[] 0 (Nat.le_refl _) (Nat.zero_le _) (by simp)) k hk).1)
    have hE := Lib.hid (show ClonePost w B rows (.returned v2) w4 from by
      refine ⟨hB4, ?_⟩
      have ho := ho2
      simp only [Nat.zero_add, List.nil_append] at ho
      rcases ho.2 with ⟨rfl, h0⟩ | ⟨g, cap, cur, rfl, hg, hcur, hc1, hc2, hc3, hc4⟩
      · exact .inl ⟨List.eq_nil_of_length_eq_zero h0, rfl⟩
      · right
        have hzl := HZ.out
        have hcs : cur.toList.length = cap := by simpa using hc3
        have e1 : zs.map (·.1) ++ cur.toList.drop rows.length = cur.toList := by
          conv => rhs; rw [← List.take_append_drop rows.length cur.toList]
          rw [← hc4]; simp
        have e2 : zs.length + (cur.toList.drop rows.length).length = cap := by rw [List.length_drop, hcs]; omega
        refine ⟨g, zs, cur.toList.drop rows.length, by rw [e2, hzl], HM.out, ?_, fun z hz => ?_, hg, (Array.getElem?_eq_some_iff.1 hcur).1, by rw [e2]; exact hc2⟩
        · show Whole w4 g _ _
          rw [e1]
          unfold Whole
          rw [hcur, Array.toArray_toList]
        · obtain ⟨A, c, e, hrow⟩ := HH.out z hz
          exact ⟨A, c, e, hrow.same (fun b hb => hB4.block b (by omega))⟩)
    clear ho2 hg2
    go_wp2_with fail
    go_ret
    exact hE.out
theorem filt_map (ts : List Tr) (zs : List PH) : (zs.filter (keepZ ts)).map (·.2) = (zs.map (·.2)).filter (ansB ts) := by
  induction zs with
  | nil => rfl
  | cons z r ih =>
    rw [List.map_cons]
    by_cases h : ansB ts z.2 = true
    · rw [List.filter_cons_of_pos (show keepZ ts z = true from h), List.filter_cons_of_pos h, List.map_cons, ih]
    · rw [List.filter_cons_of_neg (show ¬ keepZ ts z = true from h), List.filter_cons_of_neg h, ih]
set_option maxRecDepth 100000 in
set_option maxHeartbeats 8000000 in
theorem impl_ask {lo lo2 : Nat} (A A1 : Option Addr) (c c1 : Nat) (xs : List GRel) (x : GAtom) (w : World) (hf : fitRels xs) (hk : costRels xs ≤ 1048576) (hr : RelsAt w lo w.heap.size A xs) (hfa : fitAtom x) (hka : costAtom x ≤ 1048576) (s1 : NodeSsAt w lo2 w.heap.size A1 x.args) :
    Calls Tryz.prog 9 #[.slice A xs.length c, .agg #[.string x.name, .slice A1 x.args.length c1]] w (ITPost w (askR xs x)) := by
  have hl : xs.length ≤ 1048576 := by unfold costRels at hk; omega
  have hP := Lib.hid (Whole.new w 34 [.string x.name, .slice A1 x.args.length c1])
  have hB0 : Below w.heap.size w (w.alloc (.cells #[.string x.name, .slice A1 x.args.length c1] 34)) := (Below.refl _ _).alloc (Nat.le_refl _) _
  have HFT := Lib.hid (rowsR_fit (db_fit hk) x.name)
  have HR := Lib.hid hr
  have HS := Lib.hid s1
  have HF := Lib.hid hf
  have HFA := Lib.hid hfa
  clear hr s1 hf hfa
  cases hd : dbOkB xs with
  | false =>
    have hE := Lib.hid (askR_no (xs := xs) (a := x) (by unfold askOk; rw [hd]; rfl))
    go_enter Tryz.func9, Tryz.ntmps9
    go_wp2_with fail
    refine (impl_dbOk_is false A c xs _ hd HF.out hk (HR.out.to_ hB0)).mono ?_
    rintro e w2 ⟨rfl, hb2⟩
    have hB2 := below_next hB0 hb2 rfl rfl
    go_wp2_with fail
    go_ret
    rw [hE.out]
    exact itpost_none hB2
  | true =>
    cases ha : (atomB x && x.args.all oneB) with
    | false =>
      have hE := Lib.hid (askR_no (xs := xs) (a := x) (by unfold askOk; rw [ha]; simp))
      go_enter Tryz.func9, Tryz.ntmps9
      go_wp2_with fail
      generalize (w.alloc _) = w1 at *
      refine (impl_dbOk_is true A c xs _ hd HF.out hk (HR.out.to_ hB0)).mono ?_
      rintro e w2 ⟨rfl, hb2⟩
      have hB2 := below_next hB0 hb2 rfl rfl
      have hP2 := Lib.hid (hP.out.below hb2 hP.out.lt)
      have p0 : w2.cell? ⟨w.heap.size, 0, none⟩ = some (.string x.name) := hP2.out.cell 0
      have p1 : w2.cell? ⟨w.heap.size, 1, none⟩ = some (.slice A1 x.args.length c1) := hP2.out.cell 1
      go_wp2_with fail
      refine (impl_askable false x A1 c1 _ ha HFA.out hka (HS.out.to_ hB2)).mono ?_
      rintro e w3 ⟨rfl, hb3⟩
      have hB3 := below_next hB2 hb3 rfl rfl
      clear p0 p1
      go_wp2_with fail
      go_ret
      rw [hE.out]
      exact itpost_none hB3
    | true =>
      have hok : askOk xs x = true := by unfold askOk; rw [hd, ha]; rfl
      obtain ⟨_, hal8, ts, hts, hwf, hlf⟩ := ask_leaves hok
      have hxl : x.args.length = ts.length := by rw [hts]; simp
      have HOK := Lib.hid hok
      have HTS := Lib.hid hts
      have HLF := Lib.hid hlf
      have HRO := Lib.hid (rowsR_ok hd x.name)
      have HXL := Lib.hid hxl
      have hts8 : ts.length ≤ 8 := by omega
      clear hok hts hlf hwf hxl
      go_enter Tryz.func9, Tryz.ntmps9
      go_wp2_with fail
      generalize (w.alloc _) = w1 at *
      refine (impl_dbOk_is true A c xs _ hd HF.out hk (HR.out.to_ hB0)).mono ?_
      rintro e w2 ⟨rfl, hb2⟩
      have hB2 := below_next hB0 hb2 rfl rfl
      have hP2 := Lib.hid (hP.out.below hb2 hP.out.lt)
      have p0 : w2.cell? ⟨w.heap.size, 0, none⟩ = some (.string x.name) := hP2.out.cell 0
      have p1 : w2.cell? ⟨w.heap.size, 1, none⟩ = some (.slice A1 x.args.length c1) := hP2.out.cell 1
      go_wp2_with fail
      refine (impl_askable true x A1 c1 _ ha HFA.out hka (HS.out.to_ hB2)).mono ?_
      rintro e w3 ⟨rfl, hb3⟩
      have hB3 := below_next hB2 hb3 rfl rfl
      have hP3 := Lib.hid (hP2.out.below hb3 hP2.out.lt)
      clear p0 p1 hP hP2 hB0 hB2 hb2 hb3
      have p0 : w3.cell? ⟨w.heap.size, 0, none⟩ = some (.string x.name) := hP3.out.cell 0
      go_wp2_with fail
      refine (impl_relRows A c xs x.name _ hl (HR.out.to_ hB3)).mono ?_
      rintro e w4 ⟨A2, c2, rfl, hc2, ht2, hb4⟩
      have hB4 := below_next hB3 hb4 rfl rfl
      have hP4 := Lib.hid (hP3.out.below hb4 hP3.out.lt)
      have HT := Lib.hid ht2
      have hrn : (rowsR xs x.name).length ≤ 1048576 := HFT.out.1
      have p1 : w4.cell? ⟨w.heap.size, 1, none⟩ = some (.slice A1 x.args.length c1) := hP4.out.cell 1
      have q1 := cell_regrown p1
      clear p0 hb4 ht2 hP3 hB3
      by_cases hz : (rowsR xs x.name).length = 0
      · have hzz : (rowsR xs x.name) = [] := List.eq_nil_of_length_eq_zero hz
        have hE := Lib.hid (show askR xs x = (rowsR xs x.name).filter (ansB ts) by
          rw [hzz]
          unfold askR
          rw [hzz]
          split
          · split <;> rfl
          · rfl)
        have HWA := Lib.hid (show ∀ r ∈ rowsR xs x.name, ts.length = r.length by rw [hzz]; simp)
        have hpos : decide ((0 : Int) < ((rowsR xs x.name).length : Int)) = false := by simp [hz]
        have hposN : decide (0 < (rowsR xs x.name).length) = false := by simp [hz]
        clear hz hzz
        go_wp2_with fail
        refine wp_region_quiet_below (by kernel_rfl) (by kernel_rfl) ?_
        repeat (go_big_quiet_step (fail))
        refine wpQuiet_nil ?_
        intro _ hw'
        obtain ⟨⟨dq, osq⟩, hw''⟩ := hw'
        subst hw''
        have hBx := below_regrown w4 dq osq
        generalize grow (redrawn w4 dq) osq = wx at *
        clear q1 p1 hpos hposN
        have hBX := below_next hB4 hBx rfl rfl
        have HPX := Lib.hid (hP4.out.below hBx hP4.out.lt)
        have HTX := Lib.hid (HT.out.to_ hBx)
        have hga : w.heap.size < wx.heap.size := HPX.out.lt
        clear hBx hP4 HT
        go_wp2_with fail
        refine (clone_tab (B := wx.heap.size) _ c2 (rowsR xs x.name) wx hrn HTX.out.tab (Nat.le_refl _)).mono ?_
        rintro e w5 ⟨hb5, ⟨hrz, rfl⟩ | ⟨g5, zs, ex, rfl, hzm, hhb, hzr, hg5, hg5b, hcap⟩⟩
        · have hB5 := below_next hBX hb5 rfl rfl
          have HE0 := Lib.hid (show askR xs x = [] by rw [hE.out, hrz]; rfl)
          clear hrz
          go_wp2_with fail
          refine (del_nil w.heap.size 0 w5).mono ?_
          rintro e w6 ⟨rfl, rfl⟩
          go_wp2_with fail
          refine (copy_rows none 0 [] w5 (.inl rfl) (by simp) (by simp)).mono ?_
          rintro e w7 ⟨A7, c7, ps, rfl, hps, hG, hb7⟩
          have hB7 := below_next hB5 hb7 rfl rfl
          have HG := Lib.hid hG
          clear hG
          go_wp2_with fail
          go_ret
          exact ⟨A7, c7, ps, rfl, by rw [HE0.out, hps], HG.out.up hB5.size, hB7⟩
        · have hB5 := below_next hBX hb5 rfl rfl
          have HDE := Lib.hid (show DE x.name x.args ts A1 c1 w.heap.size lo2 wx.heap.size g5 zs w5 from ⟨by have h := HPX.out.below hb5 hga; rwa [HXL.out] at h, (HS.out.to_ hBX).keep (fun b _ h => hb5.block b h), hzr, hga, hg5, hg5b⟩)
          have hzl : zs.length = (rowsR xs x.name).length := by rw [← hzm]; simp
          have hzn : zs.length ≤ 1048576 := by omega
          have HZW := Lib.hid (show ∀ z ∈ zs, ts.length = z.2.length from fun z hz => HWA.out z.2 (by rw [← hzm]; exact List.mem_map_of_mem hz))
          have HFM := Lib.hid (show ((zs.filter (keepZ ts)).map (·.2)) = askR xs x by rw [filt_map, hzm, hE.out])
          have HHB := Lib.hid hhb
          have HFZ := Lib.hid (show ∀ r ∈ (zs.filter (keepZ ts)).map (·.2), r.length ≤ 1048576 ∧ ∀ v ∈ r, v.t.size ≤ 1048576 from fun r hr => by
            obtain ⟨z, hz, rfl⟩ := List.mem_map.1 hr
            exact HFT.out.2 _ (by rw [← hzm]; exact List.mem_map_of_mem (List.mem_filter.1 hz).1))
          have hfn : ((zs.filter (keepZ ts)).map (·.2)).length ≤ 1048576 := by have := List.length_filter_le (keepZ ts) zs; simp; omega
          have HFL := Lib.hid (show (zs.filter (keepZ ts)).length = ((zs.filter (keepZ ts)).map (·.2)).length by simp)
          clear hzl hzm hhb hzr
          go_wp2_with fail
          refine (del_rows (zs.length + ex.length) HDE.out HHB.out rfl hcap HTS.out HLF.out hts8 HZW.out hzn).mono ?_
          rintro e w6 ⟨rfl, ⟨cur, hcw, hct⟩, hg6⟩
          have HD6 := HDE.out.next hg6
          have HT6 := Lib.hid (heads_tab HD6 (fun z hz => (List.mem_filter.1 hz).1) hcw hct)
          have hB6 : Below w.heap.size w w6 := hB5.grown hg6 hB5.size (fun k hk => by cases hk; omega)
          clear hcw hct hg6 HD6 HDE HHB HZW
          rw [HFL.out]
          generalize hrr : (zs.filter (keepZ ts)).map (·.2) = rr at *
          go_wp2_with fail
          refine (copy_rows (some ⟨g5, 0, none⟩) (zs.length + ex.length) rr w6 HT6.out hfn HFZ.out).mono ?_
          rintro e w7 ⟨A7, c7, ps, rfl, hps, hG, hb7⟩
          have hB7 := below_next hB6 hb7 rfl rfl
          have HG := Lib.hid hG
          clear hG
          go_wp2_with fail
          go_ret
          exact ⟨A7, c7, ps, rfl, by rw [← HFM.out, hps], HG.out.up hB6.size, hB7⟩
      · have hz0 : 0 < (rowsR xs x.name).length := by omega
        have hpos : decide ((0 : Int) < ((rowsR xs x.name).length : Int)) = true := by simp; omega
        have hposN : decide (0 < (rowsR xs x.name).length) = true := by simp; omega
        obtain ⟨g0, o0, A0, c0, hA2, hg0, hcell, hcap0, hrow0⟩ := HT.out.at_ hz0
        subst hA2
        rw [Nat.add_zero] at hcell
        have qr := cell_regrown hcell
        have hi1 : (0 : Int) < ((rowsR xs x.name).length : Int) := by omega
        have hw0 := (HRO.out _ (List.getElem_mem hz0)).1
        by_cases hlen : (rowsR xs x.name)[0].length = x.args.length
        · have hlb : (((rowsR xs x.name)[0].length : Int) != (x.args.length : Int)) = false := by simp [hlen]
          have hE := Lib.hid (show askR xs x = (rowsR xs x.name).filter (ansB ts) from askR_yes HOK.out HTS.out HLF.out (by rw [← hw0, hlen]))
          have HWA := Lib.hid (show ∀ r ∈ rowsR xs x.name, ts.length = r.length from fun r hr => by rw [(HRO.out r hr).1, ← hw0, hlen, HXL.out])
          clear hlen hw0 hz hrow0
          go_wp2_with fail
          refine wp_region_quiet_below (by kernel_rfl) (by kernel_rfl) ?_
          repeat (go_big_quiet_step (fail))
          refine wpQuiet_nil ?_
          intro _ hw'
          obtain ⟨⟨dq, osq⟩, hw''⟩ := hw'
          subst hw''
          have hBx := below_regrown w4 dq osq
          generalize grow (redrawn w4 dq) osq = wx at *
          clear q1 p1 hpos hposN qr hcell hlb
          have hBX := below_next hB4 hBx rfl rfl
          have HPX := Lib.hid (hP4.out.below hBx hP4.out.lt)
          have HTX := Lib.hid (HT.out.to_ hBx)
          have hga : w.heap.size < wx.heap.size := HPX.out.lt
          clear hBx hP4 HT
          go_wp2_with fail
          refine (clone_tab (B := wx.heap.size) _ c2 (rowsR xs x.name) wx hrn HTX.out.tab (Nat.le_refl _)).mono ?_
          rintro e w5 ⟨hb5, ⟨hrz, rfl⟩ | ⟨g5, zs, ex, rfl, hzm, hhb, hzr, hg5, hg5b, hcap⟩⟩
          · have hB5 := below_next hBX hb5 rfl rfl
            have HE0 := Lib.hid (show askR xs x = [] by rw [hE.out, hrz]; rfl)
            clear hrz
            go_wp2_with fail
            refine (del_nil w.heap.size 0 w5).mono ?_
            rintro e w6 ⟨rfl, rfl⟩
            go_wp2_with fail
            refine (copy_rows none 0 [] w5 (.inl rfl) (by simp) (by simp)).mono ?_
            rintro e w7 ⟨A7, c7, ps, rfl, hps, hG, hb7⟩
            have hB7 := below_next hB5 hb7 rfl rfl
            have HG := Lib.hid hG
            clear hG
            go_wp2_with fail
            go_ret
            exact ⟨A7, c7, ps, rfl, by rw [HE0.out, hps], HG.out.up hB5.size, hB7⟩
          · have hB5 := below_next hBX hb5 rfl rfl
            have HDE := Lib.hid (show DE x.name x.args ts A1 c1 w.heap.size lo2 wx.heap.size g5 zs w5 from ⟨by have h := HPX.out.below hb5 hga; rwa [HXL.out] at h, (HS.out.to_ hBX).keep (fun b _ h => hb5.block b h), hzr, hga, hg5, hg5b⟩)
            have hzl : zs.length = (rowsR xs x.name).length := by rw [← hzm]; simp
            have hzn : zs.length ≤ 1048576 := by omega
            have HZW := Lib.hid (show ∀ z ∈ zs, ts.length = z.2.length from fun z hz => HWA.out z.2 (by rw [← hzm]; exact List.mem_map_of_mem hz))
            have HFM := Lib.hid (show ((zs.filter (keepZ ts)).map (·.2)) = askR xs x by rw [filt_map, hzm, hE.out])
            have HHB := Lib.hid hhb
            have HFZ := Lib.hid (show ∀ r ∈ (zs.filter (keepZ ts)).map (·.2), r.length ≤ 1048576 ∧ ∀ v ∈ r, v.t.size ≤ 1048576 from fun r hr => by
              obtain ⟨z, hz, rfl⟩ := List.mem_map.1 hr
              exact HFT.out.2 _ (by rw [← hzm]; exact List.mem_map_of_mem (List.mem_filter.1 hz).1))
            have hfn : ((zs.filter (keepZ ts)).map (·.2)).length ≤ 1048576 := by have := List.length_filter_le (keepZ ts) zs; simp; omega
            have HFL := Lib.hid (show (zs.filter (keepZ ts)).length = ((zs.filter (keepZ ts)).map (·.2)).length by simp)
            clear hzl hzm hhb hzr
            go_wp2_with fail
            refine (del_rows (zs.length + ex.length) HDE.out HHB.out rfl hcap HTS.out HLF.out hts8 HZW.out hzn).mono ?_
            rintro e w6 ⟨rfl, ⟨cur, hcw, hct⟩, hg6⟩
            have HD6 := HDE.out.next hg6
            have HT6 := Lib.hid (heads_tab HD6 (fun z hz => (List.mem_filter.1 hz).1) hcw hct)
            have hB6 : Below w.heap.size w w6 := hB5.grown hg6 hB5.size (fun k hk => by cases hk; omega)
            clear hcw hct hg6 HD6 HDE HHB HZW
            rw [HFL.out]
            generalize hrr : (zs.filter (keepZ ts)).map (·.2) = rr at *
            go_wp2_with fail
            refine (copy_rows (some ⟨g5, 0, none⟩) (zs.length + ex.length) rr w6 HT6.out hfn HFZ.out).mono ?_
            rintro e w7 ⟨A7, c7, ps, rfl, hps, hG, hb7⟩
            have hB7 := below_next hB6 hb7 rfl rfl
            have HG := Lib.hid hG
            clear hG
            go_wp2_with fail
            go_ret
            exact ⟨A7, c7, ps, rfl, by rw [← HFM.out, hps], HG.out.up hB6.size, hB7⟩
        · have hlb : (((rowsR xs x.name)[0].length : Int) != (x.args.length : Int)) = true := by simp; omega
          have hE := Lib.hid (askR_wid (xs := xs) (a := x) (by rw [← hw0]; exact hlen))
          clear hlen hw0 hz hrow0
          go_wp2_with fail
          refine wp_region_quiet_below (by kernel_rfl) (by kernel_rfl) ?_
          repeat (go_big_quiet_step (fail))
          refine wpQuiet_nil ?_
          intro _ hw'
          obtain ⟨⟨dq, osq⟩, hw''⟩ := hw'
          subst hw''
          have hBx := below_regrown w4 dq osq
          generalize grow (redrawn w4 dq) osq = wx at *
          have hBX := below_next hB4 hBx rfl rfl
          go_wp2_with fail
          go_ret
          rw [hE.out]
          exact itpost_none hBX
end Go.Proofs.YteoepnadjkjlmaaGreat
