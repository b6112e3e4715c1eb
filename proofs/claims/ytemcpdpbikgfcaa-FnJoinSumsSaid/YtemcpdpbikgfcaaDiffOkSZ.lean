/-
  append of one difference to a list of the call's own. What a difference must be; spec.DiffOk.
-/
import Derived.Test.YtemcpdpbikgfcaaToVsZ
import Derived.Test.YtemcpdpbikgfcaaDraw4Z
import Derived.Test.YtemcpdpbikgfcaaTabOkMZ
import Derived.Test.YtemcpdpbikgfcaaTyDiffZ
import Derived.Test.YtemcpdpbikgfcaaRowCmpSZ
import Derived.Lib.QuietBelow
import Derived.BigQuiet
namespace Go.Proofs.Ytemcpdpbikgfcaa
open Go.RowKit Go.Sort
set_option linter.unusedVariables false

theorem wpList_dapp {ops : Array Oper} {rest : List Oper} {o : Oper} {a : Act} {Q : Exit → Act → World → Prop} (W : World) (hgd : o.guard = none) (s x : Operand)
    (ho : o.op = .call { callee := .builtin .append, args := #[s, x], argTypes := #[24, 24] })
    (w0 : World) (v : Value) (zs : List GDiff) (p : DH) (hs : a.eval s = v) (hI : DAcc w0 W v zs) (hp : DHok W w0.heap.size p) (hx : a.eval x = .slice (some ⟨W.heap.size, 0, none⟩) 1 1) (hb : zs.length ≤ 4194304)
    (h : ∀ v' w', DAcc w0 w' v' (zs ++ [p.2]) → wpList Try.prog ops Q rest (a.put o.dst v') w') : wpList Try.prog ops Q (o :: rest) a (W.alloc (.cells #[.slice p.1.1 p.2.row.length p.1.2, .int .i64 p.2.count] 55)) := by
  obtain ⟨i0, hi, hz0, hz1, hz2⟩ := info_parts infoDiff
  have hB : Below W.heap.size W (W.alloc (.cells #[.slice p.1.1 p.2.row.length p.1.2, .int .i64 p.2.count] 55)) := (Below.refl _ _).alloc (Nat.le_refl _) _
  have hI2 := hI.below hB
  obtain ⟨ps, e, how, hq⟩ := hI2.own
  refine wpList_append_own _ hgd s x _ ho w0.heap.size 55 i0 _ 2 32 Try.underlying24 hi hz0 hz1 hz2 rfl (by decide) v zs.length (flatH ps) hs how ⟨W.heap.size, 0, none⟩ 1 1 (dhL p) hx rfl (dhL_cells W p _) (dhL_one p) (by unfold maxLen; omega) (by omega) hI2.low.size (fun v' w' h1 h2 h3 => h v' w' ?_)
  obtain ⟨ps', e', how', hq'⟩ := hI2.own
  have hbw : Below w0.heap.size (W.alloc (.cells #[.slice p.1.1 p.2.row.length p.1.2, .int .i64 p.2.count] 55)) w' := (Below.refl _ _).grown h2 hI2.low.size (fun k hk => (World.ownsRow.lt how k hk).1)
  have hk := KeepT.grown how h2
  have hp2 : DHok (W.alloc (.cells #[.slice p.1.1 p.2.row.length p.1.2, .int .i64 p.2.count] 55)) w0.heap.size p := ⟨hp.1.keep (hB.mono hI.low.size) (KeepT.below hB), hp.2⟩
  refine ⟨⟨ps ++ [p], by simp [e], ?_, fun q hm => ?_⟩, fun e1 => hI2.ne (h3.1 e1).1, hI2.low.trans hbw⟩
  · rw [flatH_append, List.length_append]
    simpa [flatH] using h1
  · rw [List.mem_append, List.mem_singleton] at hm
    rcases hm with hm | rfl
    · exact ⟨(hq q hm).1.keep hbw hk, (hq q hm).2⟩
    · exact ⟨hp2.1.keep hbw hk, hp2.2⟩
end Go.Proofs.Ytemcpdpbikgfcaa
namespace Go.Proofs.Ytemcpdpbikgfcaa
open Go.RowKit Go.Sort
set_option linter.unusedVariables false

def rowsD (zs : List GDiff) : List (List GV) := zs.map (·.row)
def cntB (n : Int) : Bool := (n != 0) && decide (-1000000 ≤ n) && decide (n ≤ 1000000)
def goodD (n : Nat) (z : GDiff) : Bool := goodRow n z.row && cntB z.count
def diffOkB (zs : List GDiff) : Bool := decide (zs.length ≤ 3000) && zs.all (goodD (wid (rowsD zs))) && ascB (rowsD zs)
theorem widD_eq {zs : List GDiff} (h : 0 < zs.length) : wid (rowsD zs) = zs[0].row.length := by
  rw [wid_eq (rows := rowsD zs) (by simpa [rowsD] using h)]; simp [rowsD]
theorem alld_snoc (n : Nat) (r : List GDiff) (k : Nat) (h : k < r.length) : (r.take (k + 1)).all (goodD n) = ((r.take k).all (goodD n) && goodD n r[k]) := by
  rw [List.take_succ_eq_append_getElem h, List.all_append]; simp only [List.all_cons, List.all_nil, Bool.and_true]
theorem diff_bad {zs : List GDiff} {k : Nat} (h : k < zs.length) (hb : goodD (wid (rowsD zs)) zs[k] = false) : diffOkB zs = false := by
  have : zs.all (goodD (wid (rowsD zs))) = false := by rw [List.all_eq_false]; exact ⟨zs[k], List.getElem_mem h, by simp [hb]⟩
  unfold diffOkB; rw [this]; simp
theorem diff_asc {zs : List GDiff} {k : Nat} (h : k + 1 < zs.length) (hc : ¬ cmpR zs[k].row zs[k + 1].row < 0) : diffOkB zs = false := by
  have : ascB (rowsD zs) = false := asc_bad (rowsD zs) k (by simpa [rowsD] using h) (by simpa [rowsD] using hc)
  unfold diffOkB; rw [this]; simp
theorem ascD_snoc (zs : List GDiff) (k : Nat) (h : k + 1 < zs.length) : ascB (rowsD (zs.take (k + 2))) = (ascB (rowsD (zs.take (k + 1))) && decide (cmpR zs[k].row zs[k + 1].row < 0)) := by
  have := asc_snoc (rowsD zs) k (by simpa [rowsD] using h)
  simpa [rowsD, List.map_take] using this
theorem ascD_one (zs : List GDiff) : ascB (rowsD (zs.take 1)) = true := by
  have := asc_one (rowsD zs)
  simpa [rowsD, List.map_take] using this

set_option maxRecDepth 100000 in
set_option maxHeartbeats 6400000 in
theorem spec_diffOk {lo : Nat} (A : Option Addr) (c : Nat) (zs : List GDiff) (w : World) (hr : DiffsAt w lo w.heap.size A zs) (hl : zs.length ≤ 4194304) (hlr : ∀ z ∈ zs, z.row.length ≤ 1048576 ∧ ∀ v ∈ z.row, v.t.size ≤ maxLen) :
    Calls Try.prog 45 #[.slice A zs.length c] w fun e w' => e = .returned (.bool (diffOkB zs)) ∧ Below w.heap.size w w' := by
  by_cases h8 : (3000 : Int) < zs.length
  · have H := Lib.hid (show diffOkB zs = false by unfold diffOkB; simp; omega)
    go_enter Try.func45, Try.ntmps45
    go_wp2
    go_ret
    exact ⟨ret_bool (by rw [H.out]), Below.refl _ _⟩
  have HR := Lib.hid hr
  have HLR := Lib.hid hlr
  clear hr hlr
  go_enter Try.func45, Try.ntmps45
  go_wp2
  go_loopw [3] (fun i w' => ∃ k : Nat, k ≤ zs.length ∧ i = .int .i64 k ∧ Hid ((zs.take k).all (goodD (wid (rowsD zs))) = true) ∧ Hid (ascB (rowsD (zs.take k)) = true) ∧ Below w.heap.size w w') (fun i _ => zs.length - (intOf i).toNat)
  case atStart => exact ⟨0, Nat.zero_le _, rfl, Lib.hid rfl, Lib.hid rfl, Below.refl _ _⟩
  case round =>
    obtain ⟨k, hk, rfl, hal, has, hB⟩ := hrel
    by_cases hlt : k < zs.length
    · obtain ⟨g0, o0, hA0, _, hg0, ⟨A0, c0, ⟨hcell0, _⟩, hrow0⟩, _⟩ := (HR.out.to_ hB).at_ (i := 0) (by omega)
      obtain ⟨g, o, rfl, _, hg, ⟨A', c', ⟨hcell, _⟩, hrow⟩, hcnt⟩ := (HR.out.to_ hB).at_ hlt
      simp at hA0
      obtain ⟨rfl, rfl⟩ := hA0
      simp only [Nat.zero_mul, Nat.add_zero] at hcell0
      have hm := HLR.out _ (List.getElem_mem hlt)
      have hm1 := hm.1
      have HM2 := Lib.hid hm.2
      clear hm
      have hrow2 := Lib.hid hrow.row
      have hw0 := Lib.hid (widD_eq (zs := zs) (by omega))
      have hsn := Lib.hid (alld_snoc (wid (rowsD zs)) zs k hlt)
      have hi0 : (0 : Int) < (zs.length : Int) := by omega
      have hi2 : (0 : Int) ≤ (k : Int) := by omega
      have hi3 : (k : Int) < (zs.length : Int) := by omega
      have q0 := cell_regrown hcell0
      have q1 := cell_regrown hcell
      clear hrow hrow0
      by_cases hok : rowOkB zs[k].row = true
      · by_cases hln : zs[k].row.length = zs[0].row.length
        · have hb : ((zs[k].row.length : Int) != (zs[0].row.length : Int)) = false := by simp [hln]
          have hgr := Lib.hid (show goodRow (wid (rowsD zs)) zs[k].row = true by rw [goodRow, hok, hw0.out, hln]; simp)
          have HLN := Lib.hid hln
          clear hln
          by_cases hk0 : k = 0
          · have hd : decide ((0 : Int) < (k : Int)) = false := by simp; omega
            have hdn : decide (0 < k) = false := by simp; omega
            have HK0 := Lib.hid hk0
            clear hk0
            by_cases hz : zs[k].count = 0
            · have hz1 : (zs[k].count == 0) = true := by simp [hz]
              have H := Lib.hid (diff_bad hlt (by rw [goodD, show cntB zs[k].count = false by rw [hz]; rfl]; simp))
              clear hz
              go_wp2_with fail
              refine wp_region_quiet_below (by kernel_rfl) (by kernel_rfl) ?_
              repeat (go_big_quiet_step (first
                | (go_at_call 77; exact Calls.regrown_of (spec_row_is _ A' c' zs[k].row _ hok (hrow2.out.to_ (below_regrown wr _ _)) hm1 HM2.out))))
              refine wpQuiet_nil ?_
              intro _ hw'
              obtain ⟨⟨dq, osq⟩, hw''⟩ := hw'
              subst hw''
              have hB2 := below_next hB (below_regrown wr dq osq) rfl rfl
              generalize grow (redrawn wr dq) osq = wx at *
              clear q0 q1
              go_wp2_with fail
              go_ret
              exact ⟨ret_bool (by rw [H.out]), hB2⟩
            · have hz1 : (zs[k].count == 0) = false := by simp [hz]
              by_cases hy : zs[k].count < -1000000
              · have hy1 : decide (zs[k].count < -1000000) = true := by simp; omega
                have H := Lib.hid (diff_bad hlt (by rw [goodD, show cntB zs[k].count = false by unfold cntB; rw [show decide (-1000000 ≤ zs[k].count) = false by simp; omega]; simp]; simp))
                clear hz
                go_wp2_with fail
                refine wp_region_quiet_below (by kernel_rfl) (by kernel_rfl) ?_
                repeat (go_big_quiet_step (first
                  | (go_at_call 77; exact Calls.regrown_of (spec_row_is _ A' c' zs[k].row _ hok (hrow2.out.to_ (below_regrown wr _ _)) hm1 HM2.out))))
                refine wpQuiet_nil ?_
                intro _ hw'
                obtain ⟨⟨dq, osq⟩, hw''⟩ := hw'
                subst hw''
                have hB2 := below_next hB (below_regrown wr dq osq) rfl rfl
                generalize grow (redrawn wr dq) osq = wx at *
                clear q0 q1
                go_wp2_with fail
                go_ret
                exact ⟨ret_bool (by rw [H.out]), hB2⟩
              · have hy1 : decide (zs[k].count < -1000000) = false := by simp; omega
                by_cases hx : 1000000 < zs[k].count
                · have hx1 : decide (1000000 < zs[k].count) = true := by simp; omega
                  have H := Lib.hid (diff_bad hlt (by rw [goodD, show cntB zs[k].count = false by unfold cntB; rw [show decide (zs[k].count ≤ 1000000) = false by simp; omega]; simp]; simp))
                  clear hz
                  go_wp2_with fail
                  refine wp_region_quiet_below (by kernel_rfl) (by kernel_rfl) ?_
                  repeat (go_big_quiet_step (first
                    | (go_at_call 77; exact Calls.regrown_of (spec_row_is _ A' c' zs[k].row _ hok (hrow2.out.to_ (below_regrown wr _ _)) hm1 HM2.out))))
                  refine wpQuiet_nil ?_
                  intro _ hw'
                  obtain ⟨⟨dq, osq⟩, hw''⟩ := hw'
                  subst hw''
                  have hB2 := below_next hB (below_regrown wr dq osq) rfl rfl
                  generalize grow (redrawn wr dq) osq = wx at *
                  clear q0 q1
                  go_wp2_with fail
                  go_ret
                  exact ⟨ret_bool (by rw [H.out]), hB2⟩
                · have hx1 : decide (1000000 < zs[k].count) = false := by simp; omega
                  have hgood := Lib.hid (show (zs.take (k + 1)).all (goodD (wid (rowsD zs))) = true by rw [hsn.out, hal.out, goodD, hgr.out, show cntB zs[k].count = true by unfold cntB; simp [hz]; omega]; rfl)
                  have H := Lib.hid (show ascB (rowsD (zs.take (k + 1))) = true by rw [HK0.out]; exact ascD_one zs)
                  clear hz
                  go_wp2_with fail
                  refine wp_region_quiet_below (by kernel_rfl) (by kernel_rfl) ?_
                  repeat (go_big_quiet_step (first
                    | (go_at_call 77; exact Calls.regrown_of (spec_row_is _ A' c' zs[k].row _ hok (hrow2.out.to_ (below_regrown wr _ _)) hm1 HM2.out))))
                  refine wpQuiet_nil ?_
                  intro _ hw'
                  obtain ⟨⟨dq, osq⟩, hw''⟩ := hw'
                  subst hw''
                  have hB2 := below_next hB (below_regrown wr dq osq) rfl rfl
                  generalize grow (redrawn wr dq) osq = wx at *
                  clear q0 q1
                  go_wp2_with fail
                  go_roundw
                  case rel => exact ⟨k + 1, by omega, by go_num, hgood, H, hB2⟩
                  case measure => simp [intOf]; omega
          · have hd : decide ((0 : Int) < (k : Int)) = true := by simp; omega
            have hdn : 0 < k := by omega
            obtain ⟨j, hkj⟩ : ∃ j, k = j + 1 := ⟨k - 1, by omega⟩
            have hj : j < zs.length := by omega
            obtain ⟨g1, o1, hA1, _, hg1, ⟨A1, c1, ⟨hcell1, _⟩, hrow1v⟩, _⟩ := (HR.out.to_ hB).at_ hj
            simp at hA1
            obtain ⟨rfl, rfl⟩ := hA1
            have hrow1 := Lib.hid hrow1v.row
            have hmj := (HLR.out _ (List.getElem_mem hj)).1
            have q2 := cell_regrown hcell1
            clear hrow1v
            have hsn2 := Lib.hid (show ascB (rowsD (zs.take (k + 1))) = (ascB (rowsD (zs.take k)) && decide (cmpR zs[j].row zs[k].row < 0)) by subst hkj; exact ascD_snoc zs j hlt)
            have hbd := Lib.hid (show 0 ≤ cmpR zs[j].row zs[k].row → diffOkB zs = false by subst hkj; exact fun h => diff_asc hlt (by omega))
            have hi4 : (0 : Int) ≤ (j : Int) := Int.natCast_nonneg _
            have hi5 : (j : Int) < (zs.length : Int) := by omega
            have hi6 : (1 : Int) ≤ (k : Int) := by omega
            have e1 : (k : Int) - 1 = (j : Int) := by omega
            have HKJ := Lib.hid hkj
            clear hkj hk0
            by_cases hc : cmpR zs[j].row zs[k].row < 0
            · have hcb : decide (0 ≤ cmpR zs[j].row zs[k].row) = false := by simp; omega
              by_cases hz : zs[k].count = 0
              · have hz1 : (zs[k].count == 0) = true := by simp [hz]
                have H := Lib.hid (diff_bad hlt (by rw [goodD, show cntB zs[k].count = false by rw [hz]; rfl]; simp))
                clear hz
                go_wp2_with fail
                refine wp_region_quiet_below (by kernel_rfl) (by kernel_rfl) ?_
                repeat (go_big_quiet_step (first
                  | (go_at_call 77; exact Calls.regrown_of (spec_row_is _ A' c' zs[k].row _ hok (hrow2.out.to_ (below_regrown wr _ _)) hm1 HM2.out))
                  | (go_at_call 61; exact Calls.regrown_of (spec_rows A1 A' c1 c' zs[j].row zs[k].row _ (hrow1.out.to_ (below_regrown wr _ _)) (hrow2.out.to_ (below_regrown wr _ _)) hmj hm1))))
                refine wpQuiet_nil ?_
                intro _ hw'
                obtain ⟨⟨dq, osq⟩, hw''⟩ := hw'
                subst hw''
                have hB2 := below_next hB (below_regrown wr dq osq) rfl rfl
                generalize grow (redrawn wr dq) osq = wx at *
                clear q0 q1 q2 e1
                go_wp2_with fail
                go_ret
                exact ⟨ret_bool (by rw [H.out]), hB2⟩
              · have hz1 : (zs[k].count == 0) = false := by simp [hz]
                by_cases hy : zs[k].count < -1000000
                · have hy1 : decide (zs[k].count < -1000000) = true := by simp; omega
                  have H := Lib.hid (diff_bad hlt (by rw [goodD, show cntB zs[k].count = false by unfold cntB; rw [show decide (-1000000 ≤ zs[k].count) = false by simp; omega]; simp]; simp))
                  clear hz
                  go_wp2_with fail
                  refine wp_region_quiet_below (by kernel_rfl) (by kernel_rfl) ?_
                  repeat (go_big_quiet_step (first
                    | (go_at_call 77; exact Calls.regrown_of (spec_row_is _ A' c' zs[k].row _ hok (hrow2.out.to_ (below_regrown wr _ _)) hm1 HM2.out))
                    | (go_at_call 61; exact Calls.regrown_of (spec_rows A1 A' c1 c' zs[j].row zs[k].row _ (hrow1.out.to_ (below_regrown wr _ _)) (hrow2.out.to_ (below_regrown wr _ _)) hmj hm1))))
                  refine wpQuiet_nil ?_
                  intro _ hw'
                  obtain ⟨⟨dq, osq⟩, hw''⟩ := hw'
                  subst hw''
                  have hB2 := below_next hB (below_regrown wr dq osq) rfl rfl
                  generalize grow (redrawn wr dq) osq = wx at *
                  clear q0 q1 q2 e1
                  go_wp2_with fail
                  go_ret
                  exact ⟨ret_bool (by rw [H.out]), hB2⟩
                · have hy1 : decide (zs[k].count < -1000000) = false := by simp; omega
                  by_cases hx : 1000000 < zs[k].count
                  · have hx1 : decide (1000000 < zs[k].count) = true := by simp; omega
                    have H := Lib.hid (diff_bad hlt (by rw [goodD, show cntB zs[k].count = false by unfold cntB; rw [show decide (zs[k].count ≤ 1000000) = false by simp; omega]; simp]; simp))
                    clear hz
                    go_wp2_with fail
                    refine wp_region_quiet_below (by kernel_rfl) (by kernel_rfl) ?_
                    repeat (go_big_quiet_step (first
                      | (go_at_call 77; exact Calls.regrown_of (spec_row_is _ A' c' zs[k].row _ hok (hrow2.out.to_ (below_regrown wr _ _)) hm1 HM2.out))
                      | (go_at_call 61; exact Calls.regrown_of (spec_rows A1 A' c1 c' zs[j].row zs[k].row _ (hrow1.out.to_ (below_regrown wr _ _)) (hrow2.out.to_ (below_regrown wr _ _)) hmj hm1))))
                    refine wpQuiet_nil ?_
                    intro _ hw'
                    obtain ⟨⟨dq, osq⟩, hw''⟩ := hw'
                    subst hw''
                    have hB2 := below_next hB (below_regrown wr dq osq) rfl rfl
                    generalize grow (redrawn wr dq) osq = wx at *
                    clear q0 q1 q2 e1
                    go_wp2_with fail
                    go_ret
                    exact ⟨ret_bool (by rw [H.out]), hB2⟩
                  · have hx1 : decide (1000000 < zs[k].count) = false := by simp; omega
                    have hgood := Lib.hid (show (zs.take (k + 1)).all (goodD (wid (rowsD zs))) = true by rw [hsn.out, hal.out, goodD, hgr.out, show cntB zs[k].count = true by unfold cntB; simp [hz]; omega]; rfl)
                    have H := Lib.hid (show ascB (rowsD (zs.take (k + 1))) = true by have h := hsn2.out; rw [has.out] at h; rw [h]; simp [hc])
                    clear hz
                    go_wp2_with fail
                    refine wp_region_quiet_below (by kernel_rfl) (by kernel_rfl) ?_
                    repeat (go_big_quiet_step (first
                      | (go_at_call 77; exact Calls.regrown_of (spec_row_is _ A' c' zs[k].row _ hok (hrow2.out.to_ (below_regrown wr _ _)) hm1 HM2.out))
                      | (go_at_call 61; exact Calls.regrown_of (spec_rows A1 A' c1 c' zs[j].row zs[k].row _ (hrow1.out.to_ (below_regrown wr _ _)) (hrow2.out.to_ (below_regrown wr _ _)) hmj hm1))))
                    refine wpQuiet_nil ?_
                    intro _ hw'
                    obtain ⟨⟨dq, osq⟩, hw''⟩ := hw'
                    subst hw''
                    have hB2 := below_next hB (below_regrown wr dq osq) rfl rfl
                    generalize grow (redrawn wr dq) osq = wx at *
                    clear q0 q1 q2 e1
                    go_wp2_with fail
                    go_roundw
                    case rel => exact ⟨k + 1, by omega, by go_num, hgood, H, hB2⟩
                    case measure => simp [intOf]; omega
            · have hcb : decide (0 ≤ cmpR zs[j].row zs[k].row) = true := by simp; omega
              have H := Lib.hid (hbd.out (by omega))
              go_wp2_with fail
              refine wp_region_quiet_below (by kernel_rfl) (by kernel_rfl) ?_
              repeat (go_big_quiet_step (first
                | (go_at_call 77; exact Calls.regrown_of (spec_row_is _ A' c' zs[k].row _ hok (hrow2.out.to_ (below_regrown wr _ _)) hm1 HM2.out))
                | (go_at_call 61; exact Calls.regrown_of (spec_rows A1 A' c1 c' zs[j].row zs[k].row _ (hrow1.out.to_ (below_regrown wr _ _)) (hrow2.out.to_ (below_regrown wr _ _)) hmj hm1))))
              refine wpQuiet_nil ?_
              intro _ hw'
              obtain ⟨⟨dq, osq⟩, hw''⟩ := hw'
              subst hw''
              have hB2 := below_next hB (below_regrown wr dq osq) rfl rfl
              generalize grow (redrawn wr dq) osq = wx at *
              clear q0 q1 q2 e1
              go_wp2_with fail
              go_ret
              exact ⟨ret_bool (by rw [H.out]), hB2⟩
        · have hb : ((zs[k].row.length : Int) != (zs[0].row.length : Int)) = true := by simp; omega
          have H := Lib.hid (diff_bad hlt (by rw [goodD, goodRow, hok, hw0.out]; simp [hln]))
          clear hln
          go_wp2_with fail
          refine wp_region_quiet_below (by kernel_rfl) (by kernel_rfl) ?_
          repeat (go_big_quiet_step (first
            | (go_at_call 77; exact Calls.regrown_of (spec_row_is _ A' c' zs[k].row _ hok (hrow2.out.to_ (below_regrown wr _ _)) hm1 HM2.out))))
          refine wpQuiet_nil ?_
          intro _ hw'
          obtain ⟨⟨dq, osq⟩, hw''⟩ := hw'
          subst hw''
          have hB2 := below_next hB (below_regrown wr dq osq) rfl rfl
          generalize grow (redrawn wr dq) osq = wx at *
          clear q0 q1
          go_wp2_with fail
          go_ret
          exact ⟨ret_bool (by rw [H.out]), hB2⟩
      · rw [Bool.not_eq_true] at hok
        have H := Lib.hid (diff_bad hlt (by rw [goodD, goodRow, hok]; rfl))
        go_wp2_with fail
        refine wp_region_quiet_below (by kernel_rfl) (by kernel_rfl) ?_
        repeat (go_big_quiet_step (first
          | (go_at_call 77; exact Calls.regrown_of (spec_row_is _ A' c' zs[k].row _ hok (hrow2.out.to_ (below_regrown wr _ _)) hm1 HM2.out))))
        refine wpQuiet_nil ?_
        intro _ hw'
        obtain ⟨⟨dq, osq⟩, hw''⟩ := hw'
        subst hw''
        have hB2 := below_next hB (below_regrown wr dq osq) rfl rfl
        generalize grow (redrawn wr dq) osq = wx at *
        clear q0 q1
        go_wp2_with fail
        go_ret
        exact ⟨ret_bool (by rw [H.out]), hB2⟩
    · have H := Lib.hid (show diffOkB zs = true by
        have h := hal.out
        have h2 := has.out
        rw [List.take_of_length_le (by omega)] at h h2
        unfold diffOkB; rw [h, h2]; simp; omega)
      go_wp2_with fail
      go_ret
      exact ⟨ret_bool (by rw [H.out]), hB⟩
end Go.Proofs.Ytemcpdpbikgfcaa
