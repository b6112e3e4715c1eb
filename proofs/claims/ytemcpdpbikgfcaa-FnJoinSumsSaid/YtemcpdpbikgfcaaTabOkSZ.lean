/-
  Contracts of strings.Clone and impl.copyRow. Contract of spec.TableOk.
-/
import Derived.Test.YtemcpdpbikgfcaaVRowZ
import Derived.Test.YtemcpdpbikgfcaaShelf
import Derived.Laws.CopyOwn
import Derived.Test.YtemcpdpbikgfcaaTabOkMZ
import Derived.Test.YtemcpdpbikgfcaaTabMZ
import Derived.Test.YtemcpdpbikgfcaaRowCmpSZ
import Derived.Lib.QuietBelow
import Derived.BigQuiet
namespace Go.Proofs.Ytemcpdpbikgfcaa
open Go.RowKit
set_option linter.unusedVariables false

theorem strings_clone (s : ByteArray) (w : World) (hs : s.size ≤ 1048576) :
    Calls Try.prog 97 #[.string s] w fun e w' => e = .returned (.string s) ∧ Below w.heap.size w w' := by

  go_enter Try.func97, Try.ntmps97
  go_wp2_with fail
  refine (Try.stringslite_Clone s _ (by omega)).mono ?_
  rintro e w1 ⟨rfl, hb1⟩
  go_wp2_with fail
  go_ret
  exact ⟨rfl, hb1⟩

/-- copy at elements of k cells. -/
theorem run_copy_k (P : Program) (w : World) (dT sT ty elem : TypeId) (k g o dLen dCap : Nat) (a : Addr) (sLen sCap : Nat) (cur : Array Value) (t : TypeId) (cs : List Value)
    (hu : P.underlying dT = some (.slice elem)) (hs : (P.info? elem).map (·.size) = some k)
    (hg : w.heap[g]? = some (.cells cur t (0, 0))) (hn : cs.length = Nat.min sLen dLen * k)
    (hsrc : ∀ j v, cs[j]? = some v → w.cell? (a.add j) = some v) (hfit : o + cs.length ≤ cur.size) (h1 : ∀ v ∈ cs, v.oneCell' = true) :
    (Builtin.copy_ #[dT, sT] ty #[.slice (some ⟨g, o, none⟩) dLen dCap, .slice (some a) sLen sCap]).run P w =
      .ok (goInt (Nat.min sLen dLen)) (w.setRow g (cur.toList.take o ++ cs ++ cur.toList.drop (o + cs.length)).toArray) := by
  have hl := run_loadCells_list (P := P) w a cs hsrc
  have hst := run_storeCells_at P g o t cs 0 cur w hg (by simpa using hfit) h1
  cases hq : P.info? elem with
  | none => simp [hq] at hs
  | some i =>
    have hi : i.size = k := by simpa [hq] using hs
    simp [Builtin.copy_, run_underlying hu, Builtin.lenOf, Builtin.firstCells, sizeOf, typeInfo, hq, hi, ← hn, hl, hst]
theorem run_copy_k0 (P : Program) (w : World) (dT sT ty elem : TypeId) (k : Nat) (d a : Option Addr) (dLen dCap sLen sCap : Nat) (hu : P.underlying dT = some (.slice elem)) (hs : (P.info? elem).map (·.size) = some k) (hn : Nat.min sLen dLen = 0) :
    (Builtin.copy_ #[dT, sT] ty #[.slice d dLen dCap, .slice a sLen sCap]).run P w = .ok (goInt 0) w := by
  cases hq : P.info? elem with
  | none => simp [hq] at hs
  | some i =>
    have hl : ∀ (x : Addr), (loadCells x 0).run P w = .ok #[] w := fun x => by simpa using run_loadCells_list (P := P) w x [] (by simp)
    cases d <;> cases a <;> simp [Builtin.copy_, run_underlying hu, Builtin.lenOf, Builtin.firstCells, sizeOf, typeInfo, hq, hn, storeCells, hl]
theorem sizeV : (Try.prog.info? 52).map (·.size) = some 3 := by kernel_rfl

theorem row_cells {w : World} {g o : Nat} {vs : List GV} (h : ∀ i v, vs[i]? = some v → VAt w g (o + i * 3) v) : ∀ j u, (flat vs)[j]? = some u → w.cell? ((⟨g, o, none⟩ : Addr).add j) = some u := by
  intro j u hu
  obtain ⟨i, v, hv, h'⟩ := flat_get vs j u hu
  obtain ⟨c0, c1, c2⟩ := h i v hv
  have ha : (⟨g, o, none⟩ : Addr).add j = ⟨g, o + j, none⟩ := by unfold Addr.add; split <;> simp_all
  rw [ha]
  rcases h' with ⟨rfl, rfl⟩ | ⟨rfl, rfl⟩ | ⟨rfl, rfl⟩
  · exact c0
  · exact c1
  · exact c2
theorem flat_same (vs : List GV) (i : Nat) (h : i < vs.length) : (flat vs).set (i * 3 + 2) (.string vs[i].t) = flat vs := by
  have h3 := (flat_at vs i vs[i] (List.getElem?_eq_getElem h)).2.2
  obtain ⟨hl, e⟩ := List.getElem?_eq_some_iff.1 h3
  rw [← e]
  exact List.set_getElem_self hl

/-- What impl.copyRow leaves. -/
def CopyPost (w : World) (vs : List GV) (e : Ending) (w' : World) : Prop :=
  e = .returned (.slice (some ⟨w.heap.size, 0, none⟩) vs.length vs.length) ∧ Whole w' w.heap.size 52 (flat vs) ∧ Below w.heap.size w w'

set_option maxHeartbeats 1600000 in
theorem copy_row (A : Option Addr) (c : Nat) (vs : List GV) (w : World) (hr : RowAt w w.heap.size A vs) (hl : vs.length ≤ 1048576) (hv : ∀ v ∈ vs, v.t.size ≤ 1048576) :
    Calls Try.prog 72 #[.slice A vs.length c] w (CopyPost w vs) := by
  obtain ⟨i0, hi0, hz0, hz1, hz2⟩ := info_parts infoV
  have hmk := fun W => run_make (P := Try.prog) W 53 52 i0 _ Try.underlying53 hi0 hz0 .i64 .i64 vs.length vs.length (by omega) (by omega) (by rw [hz2]; omega) (by omega)
  have HC := Lib.hid (show ∃ W1 : World, (Builtin.copy_ #[53, 53] 3 #[.slice (some ⟨w.heap.size, 0, none⟩) vs.length vs.length, .slice A vs.length c]).run Try.prog (w.alloc (.cells (madeCells #[.int .i64 0, .int .i64 0, .string ByteArray.empty] (vs.length * 3)) 52)) = .ok (goInt vs.length) W1 ∧ Whole W1 w.heap.size 52 (flat vs) ∧ Below w.heap.size w W1 by
    have hW := Whole.new w 52 (madeCells #[.int .i64 0, .int .i64 0, .string ByteArray.empty] (vs.length * 3)).toList
    rw [Array.toArray_toList] at hW
    have hB0 : Below w.heap.size w (w.alloc (.cells (madeCells #[.int .i64 0, .int .i64 0, .string ByteArray.empty] (vs.length * 3)) 52)) := (Below.refl _ _).alloc (Nat.le_refl _) _
    rcases hr with rfl | ⟨g, o, rfl, hg, hc⟩
    · refine ⟨_, run_copy_k0 _ _ _ _ _ _ 3 _ _ _ _ _ _ Try.underlying53 sizeV (by simp), ?_, hB0⟩
      simpa [flat, madeCells] using hW
    · have h := run_copy_k Try.prog _ 53 53 3 52 3 w.heap.size 0 vs.length vs.length ⟨g, o, none⟩ vs.length c _ _ (flat vs) Try.underlying53 sizeV hW (by rw [flat_length]; simp) (row_cells fun i v h => (hc i v h).below hB0 hg) (by rw [flat_length]; simp [size_madeCells]) (flat_one vs)
      rw [show Nat.min vs.length vs.length = vs.length from Nat.min_self _] at h
      refine ⟨_, h, ?_, below_setRow hB0 (Nat.le_refl _) _⟩
      have h2 := setRow_heap _ w.heap.size _ (((madeCells #[.int .i64 0, .int .i64 0, .string ByteArray.empty] (vs.length * 3)).toList.take 0 ++ flat vs ++ (madeCells #[.int .i64 0, .int .i64 0, .string ByteArray.empty] (vs.length * 3)).toList.drop (0 + (flat vs).length)).toArray) _ _ hW
      unfold Whole
      rw [h2, List.take_zero, List.nil_append, List.drop_eq_nil_of_le (by rw [flat_length]; simp [size_madeCells]), List.append_nil])
  obtain ⟨W1, hcp, hW1, hB1⟩ := HC.out
  have HW1 := Lib.hid hW1
  clear HC hW1
  go_enter Try.func72, Try.ntmps72
  go_wp2_with fail
  clear hcp hmk
  go_loopw [13] (fun i w' => ∃ k : Nat, k ≤ vs.length ∧ i = .int .i64 k ∧ Hid (Whole w' w.heap.size 52 (flat vs)) ∧ Below w.heap.size w w') (fun i _ => vs.length - (intOf i).toNat)
  case atStart => exact ⟨0, Nat.zero_le _, rfl, HW1, hB1⟩
  case round =>
    obtain ⟨k, hk, rfl, hW, hB⟩ := hrel
    by_cases hlt : k < vs.length
    · have hm : vs[k].t.size ≤ 1048576 := hv _ (List.getElem_mem hlt)
      have q0 := hW.out.cell (k * 3 + 2)
      rw [(flat_at vs k vs[k] (List.getElem?_eq_getElem hlt)).2.2] at q0
      have hws : w.heap.size < wr.heap.size := hW.out.lt
      go_wp2_with fail
      refine (strings_clone _ _ hm).mono ?_
      rintro e w2 ⟨rfl, hb2⟩
      have hB2 := below_next hB hb2 rfl rfl
      have hW2 := hW.out.below hb2 hws
      have q1 := hW2.cell (k * 3 + 2)
      rw [(flat_at vs k vs[k] (List.getElem?_eq_getElem hlt)).2.2] at q1
      have r1 := hW2.frozen (k * 3 + 2)
      have hW3 := hW2.set_ (k * 3 + 2) (.string vs[k].t)
      rw [flat_same vs k hlt] at hW3
      have HW3 := Lib.hid hW3
      have hB3 := hB2.setCell (p := ⟨w.heap.size, k * 3 + 2, none⟩) (Nat.le_refl _) (.string vs[k].t)
      clear q0 hW2 hW3
      go_wp2_with fail
      go_roundw
      case rel => exact ⟨k + 1, by omega, by go_num, HW3, hB3⟩
      case measure => simp [intOf]; omega
    · go_wp2_with fail
      go_ret
      exact ⟨rfl, hW.out, hB⟩
end Go.Proofs.Ytemcpdpbikgfcaa
namespace Go.Proofs.Ytemcpdpbikgfcaa
open Go.RowKit Go.Sort
set_option linter.unusedVariables false

set_option maxHeartbeats 1600000 in
theorem spec_tableOk (A : Option Addr) (c : Nat) (rows : List (List GV)) (w : World) (hr : TabAt w w.heap.size A rows) (hl : rows.length ≤ 1048576) (hlr : ∀ r ∈ rows, r.length ≤ 1048576 ∧ ∀ v ∈ r, v.t.size ≤ maxLen) :
    Calls Try.prog 43 #[.slice A rows.length c] w fun e w' => e = .returned (.bool (tableOkB rows)) ∧ Below w.heap.size w w' := by
  by_cases h8 : (3000 : Int) < rows.length
  · have H := Lib.hid (show tableOkB rows = false by unfold tableOkB rowsOkB; simp; omega)
    go_enter Try.func43, Try.ntmps43
    go_wp2
    go_ret
    exact ⟨ret_bool (by rw [H.out]), Below.refl _ _⟩
  go_enter Try.func43, Try.ntmps43
  go_wp2
  go_loopw [3] (fun i w' => ∃ k : Nat, k ≤ rows.length ∧ i = .int .i64 k ∧ Hid ((rows.take k).all (goodRow (wid rows)) = true) ∧ Hid (ascB (rows.take k) = true) ∧ Below w.heap.size w w') (fun i _ => rows.length - (intOf i).toNat)
  case atStart => exact ⟨0, Nat.zero_le _, rfl, Lib.hid rfl, Lib.hid rfl, Below.refl _ _⟩
  case round =>
    obtain ⟨k, hk, rfl, hal, has, hB⟩ := hrel
    by_cases hlt : k < rows.length
    · obtain ⟨g0, o0, A0, c0, hA0, hg0, hcell0, hrow0⟩ := (hr.to_ hB).at_ (i := 0) (by omega)
      obtain ⟨g, o, A', c', rfl, hg, hcell, hrow⟩ := (hr.to_ hB).at_ hlt
      simp at hA0
      obtain ⟨rfl, rfl⟩ := hA0
      simp only [Nat.add_zero] at hcell0
      have hm := hlr _ (List.getElem_mem hlt)
      have hw0 := Lib.hid (wid_eq (rows := rows) (by omega))
      have hsn := Lib.hid (allr_snoc (wid rows) rows k hlt)
      have hi0 : (0 : Int) < (rows.length : Int) := by omega
      have hi2 : (0 : Int) ≤ (k : Int) := by omega
      have hi3 : (k : Int) < (rows.length : Int) := by omega
      have q0 := cell_regrown hcell0
      have q1 := cell_regrown hcell
      by_cases hok : rowOkB rows[k] = true
      · by_cases hln : rows[k].length = rows[0].length
        · have hb : ((rows[k].length : Int) != (rows[0].length : Int)) = false := by simp [hln]
          have hgood := Lib.hid (show (rows.take (k + 1)).all (goodRow (wid rows)) = true by rw [hsn.out, hal.out, goodRow, hok, hw0.out, hln]; simp)
          have HLN := Lib.hid hln
          clear hln
          by_cases hk0 : k = 0
          · have hd : decide ((0 : Int) < (k : Int)) = false := by simp; omega
            have hdn : decide (0 < k) = false := by simp; omega
            have H := Lib.hid (show ascB (rows.take (k + 1)) = true by subst hk0; exact asc_one rows)
            have HK0 := Lib.hid hk0
            clear hk0
            go_wp2_with fail
            refine wp_region_quiet_below (by kernel_rfl) (by kernel_rfl) ?_
            repeat (go_big_quiet_step (first
              | (go_at_call 77; exact Calls.regrown_of (spec_row_is _ A' c' rows[k] _ hok (hrow.to_ (below_regrown wr _ _)) hm.1 hm.2))))
            refine wpQuiet_nil ?_
            intro _ hw'
            obtain ⟨⟨dq, osq⟩, hw''⟩ := hw'
            subst hw''
            have hB2 := below_next hB (below_regrown wr dq osq) rfl rfl
            generalize grow (redrawn wr dq) osq = wx at *
            clear q0 q1
            go_wp2_with fail
            go_roundw
            case rel => exact ⟨k + 1, by omega, by go_num, hgood, H, hB2⟩
            case measure => simp [intOf]; omega
          · have hd : decide ((0 : Int) < (k : Int)) = true := by simp; omega
            have hdn : 0 < k := by omega
            obtain ⟨j, hkj⟩ : ∃ j, k = j + 1 := ⟨k - 1, by omega⟩
            have hj : j < rows.length := by omega
            obtain ⟨g1, o1, A1, c1, hA1, hg1, hcell1, hrow1⟩ := (hr.to_ hB).at_ hj
            simp at hA1
            obtain ⟨rfl, rfl⟩ := hA1
            have hm1 := hlr _ (List.getElem_mem hj)
            have q2 := cell_regrown hcell1
            have hsn2 := Lib.hid (show ascB (rows.take (k + 1)) = (ascB (rows.take k) && decide (cmpR rows[j] rows[k] < 0)) by subst hkj; exact asc_snoc rows j hlt)
            have hbd := Lib.hid (show 0 ≤ cmpR rows[j] rows[k] → ascB rows = false by subst hkj; exact fun h => asc_bad rows j hlt (by omega))
            have hi4 : (0 : Int) ≤ (j : Int) := Int.natCast_nonneg _
            have hi5 : (j : Int) < (rows.length : Int) := by omega
            have hi6 : (1 : Int) ≤ (k : Int) := by omega
            have e1 : (k : Int) - 1 = (j : Int) := by omega
            have HKJ := Lib.hid hkj
            clear hkj hk0
            by_cases hc : cmpR rows[j] rows[k] < 0
            · have hcb : decide (0 ≤ cmpR rows[j] rows[k]) = false := by simp; omega
              have H := Lib.hid (show ascB (rows.take (k + 1)) = true by have h := hsn2.out; rw [has.out] at h; rw [h]; simp [hc])
              go_wp2_with fail
              refine wp_region_quiet_below (by kernel_rfl) (by kernel_rfl) ?_
              repeat (go_big_quiet_step (first
                | (go_at_call 77; exact Calls.regrown_of (spec_row_is _ A' c' rows[k] _ hok (hrow.to_ (below_regrown wr _ _)) hm.1 hm.2))
                | (go_at_call 61; exact Calls.regrown_of (spec_rows A1 A' c1 c' rows[j] rows[k] _ (hrow1.to_ (below_regrown wr _ _)) (hrow.to_ (below_regrown wr _ _)) hm1.1 hm.1))))
              refine wpQuiet_nil ?_
              intro _ hw'
              obtain ⟨⟨dq, osq⟩, hw''⟩ := hw'
              subst hw''
              have hB2 := below_next hB (below_regrown wr dq osq) rfl rfl
              generalize grow (redrawn wr dq) osq = wx at *
              clear q0 q1 q2 e1
              go_wp2_with fail
              go_roundw
              case rel => exact ⟨k + 1, by omega, by go_num, hgood, H, hB2⟩
              case measure => simp [intOf]; omega
            · have hcb : decide (0 ≤ cmpR rows[j] rows[k]) = true := by simp; omega
              have H := Lib.hid (table_asc (hbd.out (by omega)))
              go_wp2_with fail
              refine wp_region_quiet_below (by kernel_rfl) (by kernel_rfl) ?_
              repeat (go_big_quiet_step (first
                | (go_at_call 77; exact Calls.regrown_of (spec_row_is _ A' c' rows[k] _ hok (hrow.to_ (below_regrown wr _ _)) hm.1 hm.2))
                | (go_at_call 61; exact Calls.regrown_of (spec_rows A1 A' c1 c' rows[j] rows[k] _ (hrow1.to_ (below_regrown wr _ _)) (hrow.to_ (below_regrown wr _ _)) hm1.1 hm.1))))
              refine wpQuiet_nil ?_
              intro _ hw'
              obtain ⟨⟨dq, osq⟩, hw''⟩ := hw'
              subst hw''
              have hB2 := below_next hB (below_regrown wr dq osq) rfl rfl
              generalize grow (redrawn wr dq) osq = wx at *
              clear q0 q1 q2 e1
              go_wp2_with fail
              go_ret
              exact ⟨ret_bool (by rw [H.out]), hB2⟩
        · have hb : ((rows[k].length : Int) != (rows[0].length : Int)) = true := by simp; omega
          have H := Lib.hid (table_bad (allr_bad _ rows k hlt (by rw [goodRow, hok, hw0.out]; simp [hln])))
          clear hln
          go_wp2_with fail
          refine wp_region_quiet_below (by kernel_rfl) (by kernel_rfl) ?_
          repeat (go_big_quiet_step (first
            | (go_at_call 77; exact Calls.regrown_of (spec_row_is _ A' c' rows[k] _ hok (hrow.to_ (below_regrown wr _ _)) hm.1 hm.2))))
          refine wpQuiet_nil ?_
          intro _ hw'
          obtain ⟨⟨dq, osq⟩, hw''⟩ := hw'
          subst hw''
          have hB2 := below_next hB (below_regrown wr dq osq) rfl rfl
          generalize grow (redrawn wr dq) osq = wx at *
          clear q0 q1
          go_wp2_with fail
          go_ret
          exact ⟨ret_bool (by rw [H.out]), hB2⟩
      · rw [Bool.not_eq_true] at hok
        have H := Lib.hid (table_bad (allr_bad _ rows k hlt (by rw [goodRow, hok]; rfl)))
        go_wp2_with fail
        refine wp_region_quiet_below (by kernel_rfl) (by kernel_rfl) ?_
        repeat (go_big_quiet_step (first
          | (go_at_call 77; exact Calls.regrown_of (spec_row_is _ A' c' rows[k] _ hok (hrow.to_ (below_regrown wr _ _)) hm.1 hm.2))))
        refine wpQuiet_nil ?_
        intro _ hw'
        obtain ⟨⟨dq, osq⟩, hw''⟩ := hw'
        subst hw''
        have hB2 := below_next hB (below_regrown wr dq osq) rfl rfl
        generalize grow (redrawn wr dq) osq = wx at *
        clear q0 q1
        go_wp2_with fail
        go_ret
        exact ⟨ret_bool (by rw [H.out]), hB2⟩
    · have H := Lib.hid (show tableOkB rows = true by
        have h := hal.out
        have h2 := has.out
        rw [List.take_of_length_le (by omega)] at h h2
        unfold tableOkB rowsOkB; rw [h, h2]; simp; omega)
      go_wp2_with fail
      go_ret
      exact ⟨ret_bool (by rw [H.out]), hB⟩
end Go.Proofs.Ytemcpdpbikgfcaa
