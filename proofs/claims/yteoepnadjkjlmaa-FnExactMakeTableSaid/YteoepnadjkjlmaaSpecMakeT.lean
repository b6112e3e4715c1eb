/-
  Contract of spec.MakeTable.
-/
import Derived.Test.YteoepnadjkjlmaaSpecMake
namespace Go.Proofs.Yteoepnadjkjlmaa
open Go.RowKit Go.Sort
set_option linter.unusedVariables false

/-- The table of the rows; empty where there is none. -/
def TabIs (rows out : List Row) : Prop := (rowsOkB rows = false ∧ out = []) ∨ (rowsOkB rows = true ∧ AscP out ∧ ∀ r, r ∈ out ↔ r ∈ rows)
theorem tab_unique {rows a b : List Row} (h : TabIs rows a) (k : TabIs rows b) : a = b := by
  rcases h with ⟨h1, rfl⟩ | ⟨h1, h2, h3⟩
  · rcases k with ⟨_, rfl⟩ | ⟨k1, _⟩
    · rfl
    · rw [h1] at k1; cases k1
  · rcases k with ⟨k1, _⟩ | ⟨_, k2, k3⟩
    · rw [h1] at k1; cases k1
    · exact asc_unique a b h2 k2 fun r => (h3 r).trans (k3 r).symm
def SpecMade (w : World) (rows : List Row) (e : Ending) (w' : World) : Prop := ∃ (A : Option Addr) (c : Nat) (out : List Row), e = .returned (.slice A out.length c) ∧ TabAt w' w'.heap.size A out ∧ TabIs rows out ∧ out.length ≤ rows.length ∧ Below w.heap.size w w'
/-- The same, its rows told. -/
def SpecMadeF (w : World) (rows : List Row) (e : Ending) (w' : World) : Prop := ∃ (v : Value) (us : List Value) (out : List Row), e = .returned v ∧ us.length = out.length ∧ CopSt w.heap.size out v us w' ∧ TabIs rows out ∧ out.length ≤ rows.length ∧ Below w.heap.size w w'
theorem cop_none {w w' : World} {n : Nat} (hn : w'.heap.size = n) (hb : Below w.heap.size w w') : CopSt w.heap.size [] (.slice (some ⟨n, 0, none⟩) 0 0) [] (w'.alloc (.cells #[] 35)) := by
  subst hn
  exact ⟨World.ownsRow_made (base := w.heap.size) (size := 1) w' #[] 0 hb.size (Nat.zero_le _) rfl, by simp⟩
theorem cop_up {base base' : Nat} {rows : List Row} {v : Value} {us : List Value} {w : World} (h : CopSt base rows v us w) (hb : base' ≤ base) : CopSt base' rows v us w := by
  refine ⟨⟨h.1.1, ?_⟩, fun i u r hu hr => ⟨(h.2 i u r hu hr).1, (h.2 i u r hu hr).2.mono hb⟩⟩
  rcases h.1.2 with h' | ⟨g, cap, cur, e, hg, hr⟩
  · exact .inl h'
  · exact .inr ⟨g, cap, cur, e, Nat.le_trans hb hg, hr⟩
theorem rows_bad {rows : List Row} (h : rows.all (goodRow (wid rows)) = false) : rowsOkB rows = false := by unfold rowsOkB; rw [h]; rfl

set_option maxRecDepth 100000 in
set_option maxHeartbeats 1600000 in
theorem spec_makeF (g o c : Nat) (rows : List Row) (w : World) (hT : TabB w w.heap.size g o rows) (hl : rows.length ≤ c) (hc : c ≤ 9223372036854775807) (hlr : ∀ r ∈ rows, r.length ≤ 1048576 ∧ ∀ v ∈ r, v.t.size ≤ maxLen) :
    Calls Try.prog 6 #[.slice (some ⟨g, o, none⟩) rows.length c] w (SpecMadeF w rows) := by
  have HT := Lib.hid hT
  clear hT
  go_enter Try.func6, Try.ntmps6
  go_wp2
  go_loopw [3] (fun i w' => ∃ k : Nat, k ≤ rows.length ∧ i = .int .i64 k ∧ Hid ((rows.take k).all (goodRow (wid rows)) = true) ∧ Below w.heap.size w w') (fun i _ => rows.length - (intOf i).toNat)
  case atStart => exact ⟨0, Nat.zero_le _, rfl, Lib.hid rfl, Below.refl _ _⟩
  case round =>
    obtain ⟨k, hk, rfl, hal, hB⟩ := hrel
    have hwz := hB.size
    by_cases h8 : rows.length ≤ 3000
    · have h8i : (rows.length : Int) ≤ 3000 := by omega
      by_cases hlt : k < rows.length
      · have hTw := HT.out.low hB HT.out.1 (Nat.le_refl _)
        obtain ⟨A0, c0, hcell0, hrow0⟩ := hTw.at_ (i := 0) (by omega)
        obtain ⟨A', c', hcell, hrow⟩ := hTw.at_ hlt
        simp only [Nat.add_zero] at hcell0
        have hm := hlr _ (List.getElem_mem hlt)
        have hw0 := Lib.hid (wid_eq (rows := rows) (by omega))
        have hsn := Lib.hid (allr_snoc (wid rows) rows k hlt)
        have hi0 : (0 : Int) < (rows.length : Int) := by omega
        have hi2 : (0 : Int) ≤ (k : Int) := by omega
        have hi3 : (k : Int) < (rows.length : Int) := by omega
        have q0 := cell_regrown hcell0
        have q1 := cell_regrown hcell
        clear hTw hcell hcell0
        by_cases hok : rowOkB rows[k] = true
        · by_cases hln : rows[k].length = rows[0].length
          · have hb : ((rows[k].length : Int) != (rows[0].length : Int)) = false := by simp [hln]
            have hgood := Lib.hid (show (rows.take (k + 1)).all (goodRow (wid rows)) = true by rw [hsn.out, hal.out, goodRow, hok, hw0.out, hln]; simp)
            clear hln
            go_wp2_with fail
            refine wp_region_quiet_below (by kernel_rfl) (by kernel_rfl) ?_
            repeat (go_big_quiet_step (first
              | (go_at_call 21; exact Calls.regrown_of (spec_row_is _ A' c' rows[k] _ hok ((hrow.1.mono (by omega)).to_ (below_regrown wr _ _)) hm.1 hm.2))))
            refine wpQuiet_nil ?_
            intro _ hw'
            obtain ⟨⟨dq, osq⟩, hw''⟩ := hw'
            subst hw''
            have hB2 := below_next hB (below_regrown wr dq osq) rfl rfl
            generalize grow (redrawn wr dq) osq = wx at *
            clear q0 q1
            go_wp2_with fail
            go_roundw
            case rel => exact ⟨k + 1, by omega, by go_num, hgood, hB2⟩
            case measure => simp [intOf]; omega
          · have hb : ((rows[k].length : Int) != (rows[0].length : Int)) = true := by simp; omega
            have H := Lib.hid (rows_bad (allr_bad _ rows k hlt (by rw [goodRow, hok, hw0.out]; simp [hln])))
            clear hln
            go_wp2_with fail
            refine wp_region_quiet_below (by kernel_rfl) (by kernel_rfl) ?_
            repeat (go_big_quiet_step (first
              | (go_at_call 21; exact Calls.regrown_of (spec_row_is _ A' c' rows[k] _ hok ((hrow.1.mono (by omega)).to_ (below_regrown wr _ _)) hm.1 hm.2))))
            refine wpQuiet_nil ?_
            intro _ hw'
            obtain ⟨⟨dq, osq⟩, hw''⟩ := hw'
            subst hw''
            have hB2 := below_next hB (below_regrown wr dq osq) rfl rfl
            generalize grow (redrawn wr dq) osq = wx at *
            clear q0 q1
            go_wp2_with fail
            go_ret
            exact ⟨_, [], [], rfl, rfl, cop_none rfl hB2, .inl ⟨H.out, rfl⟩, Nat.zero_le _, hB2.alloc hB2.size _⟩
        · rw [Bool.not_eq_true] at hok
          have H := Lib.hid (rows_bad (allr_bad _ rows k hlt (by rw [goodRow, hok]; rfl)))
          go_wp2_with fail
          refine wp_region_quiet_below (by kernel_rfl) (by kernel_rfl) ?_
          repeat (go_big_quiet_step (first
            | (go_at_call 21; exact Calls.regrown_of (spec_row_is _ A' c' rows[k] _ hok ((hrow.1.mono (by omega)).to_ (below_regrown wr _ _)) hm.1 hm.2))))
          refine wpQuiet_nil ?_
          intro _ hw'
          obtain ⟨⟨dq, osq⟩, hw''⟩ := hw'
          subst hw''
          have hB2 := below_next hB (below_regrown wr dq osq) rfl rfl
          generalize grow (redrawn wr dq) osq = wx at *
          clear q0 q1
          go_wp2_with fail
          go_ret
          exact ⟨_, [], [], rfl, rfl, cop_none rfl hB2, .inl ⟨H.out, rfl⟩, Nat.zero_le _, hB2.alloc hB2.size _⟩
      · have H := Lib.hid (show rowsOkB rows = true by
          have h := hal.out
          rw [List.take_of_length_le (by omega)] at h
          unfold rowsOkB; rw [h]; simp; omega)
        have hi3 : ¬ (k : Int) < (rows.length : Int) := by omega
        have hTw := Lib.hid (HT.out.low hB HT.out.1 (Nat.le_refl _))
        have HLR := Lib.hid (fun r (hr : r ∈ rows) => (hlr r hr).1)
        clear hlr
        go_wp2_with fail
        refine (spec_sort rows.length rows g o c w.heap.size _ (Nat.le_refl _) hTw.out hwz hl hc h8 HLR.out).mono ?_
        rintro e w2 ⟨g2, c2, out, rfl, hc2, hT2, ha2, hm2, hl2, hb2⟩
        have hB2 := below_next hB hb2 rfl rfl
        have hTI := Lib.hid (show TabIs rows out from .inr ⟨H.out, ha2, hm2⟩)
        have hLO := Lib.hid (show ∀ r ∈ out, r.length ≤ 1048576 from fun r hr => HLR.out r ((hm2 r).1 hr))
        have HT2 := Lib.hid hT2
        clear ha2 hm2 hT2 hTw
        go_wp2_with fail
        refine (spec_copyF g2 0 c2 w.heap.size out _ HT2.out (by have := hB2.size; omega) (by omega) hLO.out).mono ?_
        rintro e w3 ⟨v3, us3, rfl, hu3, hC3, hb3⟩
        have hB3 := below_next hB2 hb3 rfl rfl
        have HC3 := Lib.hid (cop_up hC3 hB2.size)
        clear hC3
        go_wp2_with fail
        go_ret
        exact ⟨v3, us3, out, rfl, hu3, HC3.out, hTI.out, hl2, hB3⟩
    · have H := Lib.hid (show rowsOkB rows = false by unfold rowsOkB; simp; omega)
      have h8i : ¬ (rows.length : Int) ≤ 3000 := by omega
      have h8j : decide ((rows.length : Int) ≤ 3000) = false := by simpa using h8i
      have h8k : (3000 : Int) < rows.length := by omega
      clear hlr
      by_cases hlt : (k : Int) < (rows.length : Int)
      · go_wp2_with fail
        go_ret
        exact ⟨_, [], [], rfl, rfl, cop_none rfl hB, .inl ⟨H.out, rfl⟩, Nat.zero_le _, hB.alloc hB.size _⟩
      · go_wp2_with fail
        go_ret
        exact ⟨_, [], [], rfl, rfl, cop_none rfl hB, .inl ⟨H.out, rfl⟩, Nat.zero_le _, hB.alloc hB.size _⟩
theorem spec_make (g o c : Nat) (rows : List Row) (w : World) (hT : TabB w w.heap.size g o rows) (hl : rows.length ≤ c) (hc : c ≤ 9223372036854775807) (hlr : ∀ r ∈ rows, r.length ≤ 1048576 ∧ ∀ v ∈ r, v.t.size ≤ maxLen) :
    Calls Try.prog 6 #[.slice (some ⟨g, o, none⟩) rows.length c] w (SpecMade w rows) :=
  (spec_makeF g o c rows w hT hl hc hlr).mono fun e w' ⟨v, us, out, he, hu, hS, hT, hl, hb⟩ => by
    obtain ⟨A, c5, e5, hT5⟩ := cop_end hS hu
    subst e5
    exact ⟨A, c5, out, he, hT5, hT, hl, hb⟩
end Go.Proofs.Yteoepnadjkjlmaa
