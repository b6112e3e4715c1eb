/-
  laws.within, laws.sameTable, laws.mixed.
-/
import Derived.Test.YteoepnadjkjlmaaShowMathZ
import Derived.Test.YteoepnadjkjlmaaTabMath
import Derived.Test.YteoepnadjkjlmaaTabZ
import Derived.Test.YteoepnadjkjlmaaShowRowS
import Derived.Lib.QuietBelow
import Derived.BigQuiet
namespace Go.Proofs.Yteoepnadjkjlmaa
open Go.RowKit Go.Sort
set_option linter.unusedVariables false

/-- The inner loop of within: so far no row of bs is a. -/
def NotIn (a : Row) (bs : List Row) (b : Bool) (k : Nat) : Prop := b = false → ∀ j (h : j < bs.length), j < k → bs[j] ≠ a

set_option maxRecDepth 100000 in
set_option maxHeartbeats 1600000 in
theorem within_all (A A' : Option Addr) (c c' : Nat) (aa bs : List Row) (w : World) (hr : TabAt w w.heap.size A aa) (hr' : TabAt w w.heap.size A' bs) (hl : aa.length ≤ 1048576) (hl' : bs.length ≤ 1048576) (hla : ∀ r ∈ aa, r.length ≤ 1048576) (hlb : ∀ r ∈ bs, r.length ≤ 1048576) (hm : ∀ r ∈ aa, r ∈ bs) :
    Calls Try.prog 17 #[.slice A aa.length c, .slice A' bs.length c'] w fun e w' => e = .returned (.bool true) ∧ Below w.heap.size w w' := by
  have HA := Lib.hid hr
  have HB := Lib.hid hr'
  have HLA := Lib.hid hla
  have HLB := Lib.hid hlb
  have HM := Lib.hid hm
  clear hr hr' hla hlb hm
  go_enter Try.func17, Try.ntmps17
  go_wp2_with fail
  go_loopw [5] (fun i w' => ∃ k : Nat, k ≤ aa.length ∧ i = .int .i64 k ∧ Below w.heap.size w w') (fun i _ => aa.length - (intOf i).toNat)
  case atStart => exact ⟨0, Nat.zero_le _, rfl, Below.refl _ _⟩
  case round =>
    obtain ⟨i, hi, rfl, hB⟩ := hrel
    by_cases hlt : i < aa.length
    · have hii : (i : Int) < (aa.length : Int) := by omega
      have hi0 : (0 : Int) ≤ (i : Int) := by omega
      go_wp2_with fail
      go_loopw [6, 7] (fun s6 s7 w' => ∃ (b : Bool) (k : Nat), k ≤ bs.length ∧ s6 = .bool b ∧ s7 = .int .i64 k ∧ Hid (NotIn aa[i] bs b k) ∧ Below w.heap.size w w') (fun _ s7 _ => bs.length - (intOf s7).toNat)
      case atStart => exact ⟨false, 0, Nat.zero_le _, rfl, rfl, Lib.hid (fun _ j h h' => by omega), hB⟩
      case round =>
        obtain ⟨b, k, hk, rfl, rfl, hN, hB2⟩ := hrel
        cases b with
        | true =>
          by_cases hkl : (k : Int) < (bs.length : Int)
          · go_wp2_with fail
            go_roundw
            case rel => exact ⟨i + 1, by omega, by go_num, hB2⟩
            case measure => simp [intOf]; omega
          · have hkd : decide ((k : Int) < (bs.length : Int)) = false := by simpa using hkl
            go_wp2_with fail
            go_roundw
            case rel => exact ⟨i + 1, by omega, by go_num, hB2⟩
            case measure => simp [intOf]; omega
        | false =>
          by_cases hkl : k < bs.length
          · have hki : (k : Int) < (bs.length : Int) := by omega
            have hk0 : (0 : Int) ≤ (k : Int) := by omega
            obtain ⟨g, o, A1, c1, rfl, hg, hcell, hrow⟩ := (HA.out.to_ hB2).at_ hlt
            obtain ⟨g', o', A2, c2, rfl, hg', hcell', hrow'⟩ := (HB.out.to_ hB2).at_ hkl
            have hm1 := HLA.out _ (List.getElem_mem hlt)
            have hm2 := HLB.out _ (List.getElem_mem hkl)
            have q0 := cell_regrown hcell
            have q1 := cell_regrown hcell'
            obtain ⟨b, hb⟩ : ∃ b : Bool, b = true ↔ aa[i] = bs[k] := by
              by_cases h : aa[i] = bs[k]
              · exact ⟨true, by simp [h]⟩
              · exact ⟨false, by simp [h]⟩
            have Hb := Lib.hid hb
            have HN2 := Lib.hid (show NotIn aa[i] bs b (k + 1) from fun hb2 j h h' => by
              by_cases e : j = k
              · subst e; intro h3; have := hb.2 h3.symm; rw [hb2] at this; cases this
              · exact hN.out rfl j h (by omega))
            clear hcell hcell' hb
            go_wp2_with fail
            refine wp_region_quiet_below (by kernel_rfl) (by kernel_rfl) ?_
            repeat (go_big_quiet_step (first
              | (go_at_call 36; exact Calls.regrown_of (same_is_row b A1 A2 c1 c2 aa[i] bs[k] _ Hb.out (hrow.to_ (below_regrown wr _ _)) (hrow'.to_ (below_regrown wr _ _)) hm1 hm2))))
            refine wpQuiet_nil ?_
            intro _ hw'
            obtain ⟨⟨dq, osq⟩, hw''⟩ := hw'
            subst hw''
            have hB3 := below_next hB2 (below_regrown wr dq osq) rfl rfl
            generalize grow (redrawn wr dq) osq = wx at *
            clear q0 q1
            go_wp2_with fail
            go_roundw
            case rel => exact ⟨b, k + 1, by omega, rfl, by go_num, HN2, hB3⟩
            case measure => simp [intOf]; omega
          · exfalso
            have h1 := HM.out _ (List.getElem_mem hlt)
            obtain ⟨j, hj, e⟩ := List.getElem_of_mem h1
            exact hN.out rfl j hj (by omega) e
    · have hii : ¬ (i : Int) < (aa.length : Int) := by omega
      go_wp2_with fail
      go_ret
      exact ⟨rfl, hB⟩

theorem show_empty {r : Row} {b : Bool} (h : rowOkB r = b) : (showR r).toList.isEmpty = !b := by
  subst h
  unfold showR
  by_cases h : rowOkB r = true
  · rw [if_pos h, h, Lib.toList_data]; simp [showRowL]
  · rw [if_neg h, Lib.toList_data]; simp at h; rw [h]; rfl
theorem spec_showRow_is (T : ByteArray) (A : Option Addr) (c : Nat) (r : Row) (w : World) (hT : showR r = T) (hr : RowAt w w.heap.size A r) (hl : r.length ≤ 1048576) (hv : ∀ v ∈ r, v.t.size ≤ maxLen) :
    Calls Try.prog 34 #[.slice A r.length c] w fun e w' => e = .returned (.string T) ∧ Below w.heap.size w w' := by
  subst hT; exact spec_showRow A c r w hr hl hv

set_option maxRecDepth 100000 in
set_option maxHeartbeats 1600000 in
theorem mixed_yes (A : Option Addr) (c : Nat) (rows : List Row) (w : World) (hr : TabAt w w.heap.size A rows) (hl : rows.length ≤ 3000) (hlr : ∀ r ∈ rows, r.length ≤ 1048576 ∧ ∀ v ∈ r, v.t.size ≤ maxLen) (hbad : rowsOkB rows = false) :
    Calls Try.prog 15 #[.slice A rows.length c] w fun e w' => e = .returned (.bool true) ∧ Below w.heap.size w w' := by
  have HBAD := Lib.hid hbad
  clear hbad
  go_enter Try.func15, Try.ntmps15
  go_wp2
  go_loopw [3] (fun i w' => ∃ k : Nat, k ≤ rows.length ∧ i = .int .i64 k ∧ Hid ((rows.take k).all (goodRow (wid rows)) = true) ∧ Below w.heap.size w w') (fun i _ => rows.length - (intOf i).toNat)
  case atStart => exact ⟨0, Nat.zero_le _, rfl, Lib.hid rfl, Below.refl _ _⟩
  case round =>
    obtain ⟨k, hk, rfl, hal, hB⟩ := hrel
    by_cases hlt : k < rows.length
    · obtain ⟨g0, o0, A0, c0, hA0, hg0, hcell0, hrow0⟩ := (hr.to_ hB).at_ (i := 0) (by omega)
      obtain ⟨g, o, A', c', rfl, hg, hcell, hrow⟩ := (hr.to_ hB).at_ hlt
      simp at hA0
      obtain ⟨rfl, rfl⟩ := hA0
      simp only [Nat.add_zero] at hcell0
      have hm := hlr _ (List.getElem_mem hlt)
      have hw0 := Lib.hid (wid_eq (rows := rows) (by omega))
      have hsn := Lib.hid (allr_snoc (wid rows) rows k hlt)
      have hi0 : (0 : Int) < (rows.length : Int) := by omega
      have hi2 : (0 : Int) ≤ (k : Int) := by omega
      have hi3 : (k : Int) < (rows.length : Int) := by omega
      have q0 := cell_regrown hcell0
      have q1 := cell_regrown hcell
      clear hcell hcell0
      by_cases hln : rows[k].length = rows[0].length
      · have hb : ((rows[k].length : Int) != (rows[0].length : Int)) = false := by simp [hln]
        have HLN := Lib.hid hln
        clear hln
        obtain ⟨T, hT⟩ : ∃ T, showR rows[k] = T := ⟨_, rfl⟩
        have HT := Lib.hid hT
        by_cases hok : rowOkB rows[k] = true
        · have hte : T.toList.isEmpty = false := by rw [← hT]; exact show_empty hok
          have hgood := Lib.hid (show (rows.take (k + 1)).all (goodRow (wid rows)) = true by rw [hsn.out, hal.out, goodRow, hok, hw0.out, HLN.out]; simp)
          clear hT
          go_wp2_with fail
          refine wp_region_quiet_below (by kernel_rfl) (by kernel_rfl) ?_
          repeat (go_big_quiet_step (first
            | (go_at_call 34; exact Calls.regrown_of (spec_showRow_is T A' c' rows[k] _ HT.out (hrow.to_ (below_regrown wr _ _)) hm.1 hm.2))))
          refine wpQuiet_nil ?_
          intro _ hw'
          obtain ⟨⟨dq, osq⟩, hw''⟩ := hw'
          subst hw''
          have hB2 := below_next hB (below_regrown wr dq osq) rfl rfl
          generalize grow (redrawn wr dq) osq = wx at *
          clear q0 q1
          go_wp2_with fail
          go_roundw
          case rel => exact ⟨k + 1, by omega, by go_num, hgood, hB2⟩
          case measure => simp [intOf]; omega
        · rw [Bool.not_eq_true] at hok
          have hte : T.toList.isEmpty = true := by rw [← hT]; exact show_empty hok
          clear hT
          go_wp2_with fail
          refine wp_region_quiet_below (by kernel_rfl) (by kernel_rfl) ?_
          repeat (go_big_quiet_step (first
            | (go_at_call 34; exact Calls.regrown_of (spec_showRow_is T A' c' rows[k] _ HT.out (hrow.to_ (below_regrown wr _ _)) hm.1 hm.2))))
          refine wpQuiet_nil ?_
          intro _ hw'
          obtain ⟨⟨dq, osq⟩, hw''⟩ := hw'
          subst hw''
          have hB2 := below_next hB (below_regrown wr dq osq) rfl rfl
          generalize grow (redrawn wr dq) osq = wx at *
          clear q0 q1
          go_wp2_with fail
          go_ret
          exact ⟨rfl, hB2⟩
      · have hb : ((rows[k].length : Int) != (rows[0].length : Int)) = true := by simp; omega
        clear hln
        go_wp2_with fail
        refine wp_region_quiet_below (by kernel_rfl) (by kernel_rfl) ?_
        repeat (go_big_quiet_step (first
          | (go_at_call 34; exact Calls.regrown_of (spec_showRow_is _ A' c' rows[k] _ rfl (hrow.to_ (below_regrown wr _ _)) hm.1 hm.2))))
        refine wpQuiet_nil ?_
        intro _ hw'
        obtain ⟨⟨dq, osq⟩, hw''⟩ := hw'
        subst hw''
        have hB2 := below_next hB (below_regrown wr dq osq) rfl rfl
        generalize grow (redrawn wr dq) osq = wx at *
        clear q0 q1
        go_wp2_with fail
        go_ret
        exact ⟨rfl, hB2⟩
    · exfalso
      have h := hal.out
      rw [List.take_of_length_le (by omega)] at h
      have h2 := HBAD.out
      unfold rowsOkB at h2
      rw [h] at h2
      simp at h2
      omega
end Go.Proofs.Yteoepnadjkjlmaa
