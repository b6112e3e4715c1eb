/-
  Contracts of impl.rowsOk, impl.TableOk and spec.TableOk. impl.countOk and impl.DiffOk.
-/
import Derived.Test.YtemcpdpbikgfcaaRowOkZ
import Derived.Test.YtemcpdpbikgfcaaCmpGZ
import Derived.Test.YtemcpdpbikgfcaaTabMZ
import Derived.Test.YtemcpdpbikgfcaaTabOkMZ
import Derived.Test.YtemcpdpbikgfcaaDistSZ
import Derived.Test.YtemcpdpbikgfcaaDiffOkSZ
namespace Go.Proofs.Ytemcpdpbikgfcaa
open Go.RowKit
set_option linter.unusedVariables false

set_option maxHeartbeats 800000 in
theorem impl_rowsOk (A : Option Addr) (c : Nat) (rows : List (List GV)) (w : World) (hr : TabAt w w.heap.size A rows) (hl : rows.length ≤ 1048576) (hlr : ∀ r ∈ rows, r.length ≤ 1048576 ∧ ∀ v ∈ r, v.t.size ≤ maxLen) :
    Calls Try.prog 98 #[.slice A rows.length c] w fun e w' => e = .returned (.bool (rowsOkB rows)) ∧ Below w.heap.size w w' := by
  by_cases h8 : (3000 : Int) < rows.length
  · have H := Lib.hid (show rowsOkB rows = false by unfold rowsOkB; simp; omega)
    go_enter Try.func98, Try.ntmps98
    go_wp2
    go_ret
    exact ⟨ret_bool (by rw [H.out]), Below.refl _ _⟩
  go_enter Try.func98, Try.ntmps98
  go_wp2
  go_loopw [10] (fun i w' => ∃ k : Nat, k ≤ rows.length ∧ i = .int .i64 k ∧ Hid ((rows.take k).all (goodRow (wid rows)) = true) ∧ Below w.heap.size w w') (fun i _ => rows.length - (intOf i).toNat)
  case atStart => exact ⟨0, Nat.zero_le _, rfl, Lib.hid rfl, Below.refl _ _⟩
  case round =>
    obtain ⟨k, hk, rfl, hal, hB⟩ := hrel
    by_cases hlt : k < rows.length
    · obtain ⟨g0, o0, A0, c0, hA0, hg0, hcell0, hrow0⟩ := (hr.to_ hB).at_ (i := 0) (by omega)
      obtain ⟨g, o, A', c', rfl, hg, hcell, hrow⟩ := (hr.to_ hB).at_ hlt
      simp at hA0
      obtain ⟨rfl, rfl⟩ := hA0
      simp only [Nat.add_zero] at hcell0
      have hm := hlr _ (List.getElem_mem hlt)
      have hw0 := Lib.hid (wid_eq (rows := rows) (by omega))
      have hsn := Lib.hid (allr_snoc (wid rows) rows k hlt)
      have hi0 : (0 : Int) < (rows.length : Int) := by omega
      go_wp2_with fail
      refine (impl_row A' c' rows[k] _ hrow hm.1 hm.2).mono ?_
      rintro e w2 ⟨rfl, hb2⟩
      have hB2 := below_next hB hb2 rfl rfl
      have hcell2 : w2.cell? ⟨g, o, none⟩ = some (.slice A0 rows[0].length c0) := (hb2.cell (p := ⟨g, o, none⟩) hg).trans hcell0
      clear hcell hcell0
      by_cases hok : rowOkB rows[k] = true
      · by_cases hln : rows[k].length = rows[0].length
        · have hb : ((rows[k].length : Int) != (rows[0].length : Int)) = false := by simp [hln]
          have H := Lib.hid (show (rows.take (k + 1)).all (goodRow (wid rows)) = true by rw [hsn.out, hal.out, goodRow, hok, hw0.out, hln]; simp)
          have HLN := Lib.hid hln
          clear hln
          go_wp2_with fail
          go_roundw
          case rel => exact ⟨k + 1, by omega, by go_num, H, hB2⟩
          case measure => simp [intOf]; omega
        · have hb : ((rows[k].length : Int) != (rows[0].length : Int)) = true := by simp; omega
          have H := Lib.hid (show rowsOkB rows = false by unfold rowsOkB; rw [allr_bad _ rows k hlt (by rw [goodRow, hok, hw0.out]; simp [hln])]; rfl)
          clear hln
          go_wp2_with fail
          go_ret
          exact ⟨ret_bool (by rw [H.out]), hB2⟩
      · rw [Bool.not_eq_true] at hok
        have H := Lib.hid (show rowsOkB rows = false by unfold rowsOkB; rw [allr_bad _ rows k hlt (by rw [goodRow, hok]; rfl)]; rfl)
        go_wp2_with fail
        go_ret
        exact ⟨ret_bool (by rw [H.out]), hB2⟩
    · have H := Lib.hid (show rowsOkB rows = true by
        have h := hal.out
        rw [List.take_of_length_le (by omega)] at h
        unfold rowsOkB; rw [h]; simp; omega)
      go_wp2_with fail
      go_ret
      exact ⟨ret_bool (by rw [H.out]), hB⟩

set_option maxHeartbeats 800000 in
theorem impl_tableOk (A : Option Addr) (c : Nat) (rows : List (List GV)) (w : World) (hr : TabAt w w.heap.size A rows) (hl : rows.length ≤ 1048576) (hlr : ∀ r ∈ rows, r.length ≤ 1048576 ∧ ∀ v ∈ r, v.t.size ≤ maxLen) :
    Calls Try.prog 75 #[.slice A rows.length c] w fun e w' => e = .returned (.bool (tableOkB rows)) ∧ Below w.heap.size w w' := by
  go_enter Try.func75, Try.ntmps75
  go_wp2_with fail
  refine (impl_rowsOk A c rows _ hr hl hlr).mono ?_
  rintro e w1 ⟨rfl, hb1⟩
  by_cases hok : rowsOkB rows = true
  · go_wp2_with fail
    go_loopw [3] (fun i w' => ∃ k : Nat, 1 ≤ k ∧ k ≤ rows.length + 1 ∧ i = .int .i64 k ∧ Hid (ascB (rows.take k) = true) ∧ Below w.heap.size w w') (fun i _ => rows.length + 1 - (intOf i).toNat)
    case atStart => exact ⟨1, Nat.le_refl _, by omega, rfl, Lib.hid (asc_one rows), hb1⟩
    case round =>
      obtain ⟨k, hk1, hk, rfl, hal, hB⟩ := hrel
      by_cases hlt : k < rows.length
      · obtain ⟨j, hkj⟩ : ∃ j, k = j + 1 := ⟨k - 1, by omega⟩
        have hj : j < rows.length := by omega
        obtain ⟨g0, o0, A0, c0, hA0, hg0, hcell0, hrow0⟩ := (hr.to_ hB).at_ hj
        obtain ⟨g, o, A', c', rfl, hg, hcell, hrow⟩ := (hr.to_ hB).at_ hlt
        simp at hA0
        obtain ⟨rfl, rfl⟩ := hA0
        have hm0 := hlr _ (List.getElem_mem hj)
        have hm := hlr _ (List.getElem_mem hlt)
        have hsn := Lib.hid (show ascB (rows.take (k + 1)) = (ascB (rows.take k) && decide (cmpR rows[j] rows[k] < 0)) by subst hkj; exact asc_snoc rows j hlt)
        have hbd := Lib.hid (show 0 ≤ cmpR rows[j] rows[k] → ascB rows = false by subst hkj; exact fun h => asc_bad rows j hlt (by omega))
        have hi0 : (0 : Int) ≤ (j : Int) := Int.natCast_nonneg _
        have hi1 : (j : Int) < (rows.length : Int) := by omega
        have hi2 : (0 : Int) ≤ (k : Int) := by omega
        have hi3 : (k : Int) < (rows.length : Int) := by omega
        go_wp2_with fail
        have e1 : IntKind.i64.wrap ((k : Int) - 1) = (j : Int) := by rw [IntKind.wrap_i64]; omega
        have e5 : IntKind.i64.wrap (j : Int) = (j : Int) := by rw [IntKind.wrap_i64]; omega
        have e2 : ((j : Int) + 1).toNat = k := by omega
        have e3 : (0 : Int) ≤ (j : Int) + 1 := by omega
        have e4 : (j : Int) + 1 < (rows.length : Int) := by omega
        have HKJ := Lib.hid hkj
        clear hkj
        go_region_held3 (fun w' => w'.cell? ⟨g, o + j, none⟩ = some (.slice A0 rows[j].length c0) ∧ w'.cell? ⟨g, o + k, none⟩ = some (.slice A' rows[k].length c') ∧ RowAt w' w'.heap.size A0 rows[j] ∧ RowAt w' w'.heap.size A' rows[k] ∧ wr.heap.size ≤ w'.heap.size ∧ Below w.heap.size w w')
          (first | (go_split_ands; exact ⟨by assumption, by assumption, by assumption, by assumption, Nat.le_refl _, hB.drew⟩)
                 | (go_split_ands; refine ⟨?_, ?_, ?_, ?_, ?_, ?_⟩; all_goals first | (have := hbx.size; omega) | (rw [hcx _ _ (by omega)]; assumption) | exact RowAt.to_ (by assumption) hbx | exact below_next (by assumption) hbx rfl rfl))
          (first
            | (go_at_call 92; refine (impl_rows A0 A' c0 c' rows[j] rows[k] _ (by go_split_ands; assumption) (by go_split_ands; assumption) hm0.1 hm.1).mono ?_; rintro e wx ⟨rfl, hbx⟩; obtain ⟨hcx, hfx⟩ := bcell hbx))
        have hB2 : Below w.heap.size w wx := by go_split_ands; assumption
        clear hcx hfx hbx hcell hcell0 e1 e2 e3 e4 e5
        by_cases hc : cmpR rows[j] rows[k] < 0
        · have hcb : decide (0 ≤ cmpR rows[j] rows[k]) = false := by simp; omega
          have H := Lib.hid (show ascB (rows.take (k + 1)) = true by have h := hsn.out; rw [hal.out] at h; rw [h]; simp [hc])
          go_wp2_with fail
          go_roundw
          case rel => exact ⟨k + 1, by omega, by omega, by (have h := HKJ.out; subst h; go_num), H, hB2⟩
          case measure => have h := HKJ.out; simp [intOf]; omega
        · have hcb : decide (0 ≤ cmpR rows[j] rows[k]) = true := by simp; omega
          have H := Lib.hid (show tableOkB rows = false by unfold tableOkB; rw [hbd.out (by omega)]; simp)
          go_wp2_with fail
          go_ret
          exact ⟨ret_bool (by rw [H.out]), hB2⟩
      · have H := Lib.hid (show tableOkB rows = true by
          have h := hal.out
          rw [List.take_of_length_le (by omega)] at h
          unfold tableOkB; rw [h, hok]; rfl)
        go_wp2_with fail
        go_ret
        exact ⟨ret_bool (by rw [H.out]), hB⟩
  · rw [Bool.not_eq_true] at hok
    have H := Lib.hid (show tableOkB rows = false by unfold tableOkB; rw [hok]; rfl)
    go_wp2_with fail
    go_ret
    exact ⟨ret_bool (by rw [H.out]), hb1⟩
end Go.Proofs.Ytemcpdpbikgfcaa
namespace Go.Proofs.Ytemcpdpbikgfcaa
open Go.RowKit Go.Sort
set_option linter.unusedVariables false

theorem impl_countOk (n : Int) (w : World) :
    Calls Try.prog 74 #[.int .i64 n] w fun e w' => e = .returned (.bool (cntB n)) ∧ w = w' := by
  by_cases h0 : n = 0
  · subst h0
    go_enter Try.func74, Try.ntmps74
    go_wp2
    go_ret
    exact ⟨ret_bool (by decide), rfl⟩
  · have h1 : (n != 0) = true := by simp [h0]
    have H := Lib.hid (show cntB n = (decide (-1000000 ≤ n) && decide (n ≤ 1000000)) by unfold cntB; rw [h1]; simp)
    by_cases h2 : -1000000 ≤ n
    · have H2 := Lib.hid (show cntB n = decide (n ≤ 1000000) by rw [H.out]; simp [h2])
      clear H
      go_enter Try.func74, Try.ntmps74
      go_wp2
      go_ret
      exact ⟨ret_bool (by rw [H2.out]), rfl⟩
    · have H2 := Lib.hid (show cntB n = false by rw [H.out]; simp; omega)
      clear H
      go_enter Try.func74, Try.ntmps74
      go_wp2
      go_ret
      exact ⟨ret_bool (by rw [H2.out]), rfl⟩
theorem dok_split (zs : List GDiff) : diffOkB zs = (zs.all (fun z => cntB z.count) && tableOkB (rowsD zs)) := by
  unfold diffOkB tableOkB rowsOkB
  have h1 : zs.all (goodD (wid (rowsD zs))) = (zs.all (fun z => cntB z.count) && (rowsD zs).all (goodRow (wid (rowsD zs)))) := by
    generalize wid (rowsD zs) = n
    unfold rowsD
    rw [List.all_map]
    induction zs with
    | nil => rfl
    | cons z zs ih => simp only [List.all_cons, ih, goodD, Function.comp]; cases cntB z.count <;> cases goodRow n z.row <;> simp
  rw [h1, show (rowsD zs).length = zs.length by simp [rowsD]]
  cases zs.all (fun z => cntB z.count) <;> cases (rowsD zs).all (goodRow (wid (rowsD zs))) <;> cases decide (zs.length ≤ 3000) <;> cases ascB (rowsD zs) <;> rfl
theorem allc_snoc (r : List GDiff) (k : Nat) (h : k < r.length) : (r.take (k + 1)).all (fun z => cntB z.count) = ((r.take k).all (fun z => cntB z.count) && cntB r[k].count) := by
  rw [List.take_succ_eq_append_getElem h, List.all_append]; simp only [List.all_cons, List.all_nil, Bool.and_true]

set_option maxRecDepth 100000 in
set_option maxHeartbeats 3200000 in
theorem impl_diffOk {lo : Nat} (A : Option Addr) (c : Nat) (zs : List GDiff) (w : World) (hr : DiffsAt w lo w.heap.size A zs) (hl : zs.length ≤ 1048576) (hlr : ∀ z ∈ zs, z.row.length ≤ 1048576 ∧ ∀ v ∈ z.row, v.t.size ≤ maxLen) :
    Calls Try.prog 40 #[.slice A zs.length c] w fun e w' => e = .returned (.bool (diffOkB zs)) ∧ Below w.heap.size w w' := by
  obtain ⟨i0, hi0, hz0, hz1, hz2⟩ := info_parts infoVs
  have HR := Lib.hid hr
  have HLR := Lib.hid hlr
  clear hr hlr
  have hmk := fun W => run_make (P := Try.prog) W 33 53 i0 _ Try.underlying33 hi0 hz0 .i64 .i64 0 zs.length (by omega) (by omega) (by rw [hz2]; omega) (by omega)
  go_enter Try.func40, Try.ntmps40
  go_wp2_with fail
  clear hmk
  go_loopw [3, 11] (fun out i w' => ∃ (k : Nat) (L : List (List GV)), k ≤ zs.length ∧ i = .int .i64 k ∧ Hid (L = rowsD (zs.take k)) ∧ Hid ((zs.take k).all (fun z => cntB z.count) = true) ∧ Hid (TAcc w w' out L)) (fun _ i _ => zs.length - (intOf i).toNat)
  case atStart => exact ⟨0, [], Nat.zero_le _, rfl, Lib.hid rfl, Lib.hid rfl, Lib.hid (TAcc.made (Below.refl _ _) rfl (by unfold maxLen; omega))⟩
  case round =>
    obtain ⟨k, L, hk, rfl, hL, hal, hD⟩ := hrel
    obtain ⟨A6, c6, rfl, _⟩ := hD.out.slice
    have hLl := Lib.hid (show L.length = k by rw [hL.out]; simp [rowsD]; omega)
    by_cases hlt : k < zs.length
    · obtain ⟨g, o, rfl, _, hg, ⟨A', c', ⟨hcell, hcap⟩, hrow⟩, hcnt⟩ := (HR.out.to_ hD.out.low).at_ hlt
      have hi1 : (k : Int) < (zs.length : Int) := by omega
      have hi0 : (0 : Int) ≤ (k : Int) := by omega
      have hst := Lib.hid (show L ++ [zs[k].row] = rowsD (zs.take (k + 1)) by rw [hL.out]; unfold rowsD; rw [List.take_succ_eq_append_getElem hlt, List.map_append]; rfl)
      have hsn := Lib.hid (allc_snoc zs k hlt)
      have hzl : L.length ≤ 4194304 := by rw [hLl.out]; omega
      have hBa : Below wr.heap.size wr (wr.alloc (.cells #[.slice A' zs[k].row.length c', .int .i64 zs[k].count] 55)) := (Below.refl _ _).alloc (Nat.le_refl _) _
      have hDx := Lib.hid (hD.out.below hBa)
      have hp := Lib.hid (show THok (wr.alloc (.cells #[.slice A' zs[k].row.length c', .int .i64 zs[k].count] 55)) w.heap.size ((A', c'), zs[k].row) from by
        obtain ⟨_, _, he, _, _, ⟨A2, c2, ⟨hcell2, hcap2⟩, hrow2⟩, _⟩ := (HR.out.keep (fun b _ h => hD.out.low.block b h)).at_ hlt
        cases he
        rw [hcell] at hcell2
        cases hcell2
        exact ⟨(hrow2.st hD.out.low.size).keepV (hBa.mono hD.out.low.size) (KeepT.below hBa), hcap⟩)
      have hlo := hDx.out.low
      clear hrow
      by_cases hc : cntB zs[k].count = true
      · have H := Lib.hid (show (zs.take (k + 1)).all (fun z => cntB z.count) = true by rw [hsn.out, hal.out, hc]; rfl)
        go_wp2_with fail
        refine (impl_countOk _ _).mono ?_
        rintro e w2 ⟨rfl, rfl⟩
        rw [hc]
        clear hcell hcnt hlo
        have c5 : (wr.alloc (.cells #[.slice A' zs[k].row.length c', .int .i64 zs[k].count] 55)).cell? ⟨wr.heap.size, 0, none⟩ = some (.slice A' zs[k].row.length c') := by simp
        generalize wr.alloc (.cells #[.slice A' zs[k].row.length c', .int .i64 zs[k].count] 55) = W1 at *
        clear hBa
        go_wp2_with (first | (at_builtin; refine wpList_tapp _ rfl (.tmp 19) (.tmp 22) rfl w _ L ((A', c'), zs[k].row) rfl hDx.out hp.out rfl hzl ?_; intro v3 w3 hD3; refine Hid.out ?_))
        refine Lib.hid ?_
        have HD3 := Lib.hid hD3
        clear hD3
        go_wp2_with fail
        go_roundw
        case rel => exact ⟨k + 1, _, by omega, by go_num, hst, H, HD3⟩
        case measure => simp [intOf]; omega
      · rw [Bool.not_eq_true] at hc
        have H := Lib.hid (show diffOkB zs = false by
          rw [dok_split, show zs.all (fun z => cntB z.count) = false by rw [List.all_eq_false]; exact ⟨zs[k], List.getElem_mem hlt, by simp [hc]⟩]; rfl)
        go_wp2_with fail
        refine (impl_countOk _ _).mono ?_
        rintro e w2 ⟨rfl, rfl⟩
        rw [hc]
        go_wp2_with fail
        go_ret
        exact ⟨ret_bool (by rw [H.out]), hlo⟩
    · have hi1 : ¬ (k : Int) < (zs.length : Int) := by omega
      have hE := Lib.hid (show L = rowsD zs by rw [hL.out, List.take_of_length_le (by omega)])
      have hA := Lib.hid (show diffOkB zs = tableOkB L by
        have h := hal.out
        rw [List.take_of_length_le (by omega)] at h
        rw [dok_split, h, hE.out]; rfl)
      obtain ⟨A7, c7, e7, _, hT⟩ := hD.out.tab
      injection e7 with e71 e72 e73
      subst e71 e73
      have hlr2 : ∀ r ∈ L, r.length ≤ 1048576 ∧ ∀ v ∈ r, v.t.size ≤ maxLen := by
        rw [hE.out]; intro r hr; simp only [rowsD, List.mem_map] at hr; obtain ⟨z, hz, rfl⟩ := hr; exact HLR.out z hz
      have hll : L.length ≤ 1048576 := by rw [hLl.out]; omega
      have hTO := Lib.hid (impl_tableOk A6 c6 L wr hT hll hlr2)
      have hlow := hD.out.low
      clear hT hlr2
      go_wp2_with fail
      refine hTO.out.mono ?_
      rintro e w2 ⟨rfl, hb2⟩
      have hB2 := below_next hlow hb2 rfl rfl
      go_wp2_with fail
      go_ret
      exact ⟨ret_bool (by rw [hA.out]), hB2⟩
end Go.Proofs.Ytemcpdpbikgfcaa
