/-
  The sum of two ascending lists of differences; spec.l4Add. Sums by halves; spec.l4Sum.
-/
import Derived.Test.YtemcpdpbikgfcaaDiffOkSZ
import Derived.Test.YtemcpdpbikgfcaaNegSZ
import Derived.Test.YtemcpdpbikgfcaaOrDZ
import Derived.Deep.RegionWith
namespace Go.Proofs.Ytemcpdpbikgfcaa
open Go.RowKit Go.Sort
set_option linter.unusedVariables false

def oneD (r : List GV) (n : Int) : List GDiff := if n = 0 then [] else [⟨r, n⟩]
def addD : List GDiff → List GDiff → List GDiff
  | [], b => b
  | x :: a, [] => x :: a
  | x :: a, y :: b => if cmpR x.row y.row < 0 then x :: addD a (y :: b) else if 0 < cmpR x.row y.row then y :: addD (x :: a) b else oneD x.row (x.count + y.count) ++ addD a b
termination_by a b => a.length + b.length
theorem addD_nil (a : List GDiff) : addD a [] = a := by cases a <;> simp [addD]
theorem drop_cons {α : Type} {l : List α} {i : Nat} (h : i < l.length) : l.drop i = l[i] :: l.drop (i + 1) := List.drop_eq_getElem_cons h
theorem addD_left {a b : List GDiff} {i k : Nat} (hi : i < a.length) (hk : k < b.length) (hc : cmpR a[i].row b[k].row < 0) : addD (a.drop i) (b.drop k) = a[i] :: addD (a.drop (i + 1)) (b.drop k) := by
  rw [drop_cons hi, drop_cons hk, addD, if_pos hc]
theorem addD_right {a b : List GDiff} {i k : Nat} (hi : i < a.length) (hk : k < b.length) (hc : 0 < cmpR a[i].row b[k].row) : addD (a.drop i) (b.drop k) = b[k] :: addD (a.drop i) (b.drop (k + 1)) := by
  rw [drop_cons hi, drop_cons hk, addD, if_neg (by omega), if_pos hc]
theorem addD_both {a b : List GDiff} {i k : Nat} (hi : i < a.length) (hk : k < b.length) (hc : cmpR a[i].row b[k].row = 0) : addD (a.drop i) (b.drop k) = oneD a[i].row (a[i].count + b[k].count) ++ addD (a.drop (i + 1)) (b.drop (k + 1)) := by
  rw [drop_cons hi, drop_cons hk, addD, if_neg (by omega), if_neg (by omega)]
theorem addD_aend {a b : List GDiff} {i k : Nat} (hi : a.length ≤ i) (hk : k < b.length) : addD (a.drop i) (b.drop k) = b[k] :: addD (a.drop i) (b.drop (k + 1)) := by
  rw [List.drop_of_length_le hi, drop_cons hk]; simp [addD]
theorem addD_bend {a b : List GDiff} {i k : Nat} (hi : i < a.length) (hk : b.length ≤ k) : addD (a.drop i) (b.drop k) = a[i] :: addD (a.drop (i + 1)) (b.drop k) := by
  rw [List.drop_of_length_le hk, addD_nil, addD_nil, drop_cons hi]
/-- While two lists are added: i of a and k of b are done. -/
def AddI (a b out : List GDiff) (i k : Nat) : Prop := out ++ addD (a.drop i) (b.drop k) = addD a b ∧ out.length ≤ i + k
theorem AddI.next {a b out new : List GDiff} {i k i' k' : Nat} (h : AddI a b out i k) (he : addD (a.drop i) (b.drop k) = new ++ addD (a.drop i') (b.drop k')) (hl : new.length + i + k ≤ i' + k') : AddI a b (out ++ new) i' k' :=
  ⟨by rw [List.append_assoc, ← he]; exact h.1, by rw [List.length_append]; have := h.2; omega⟩

set_option maxRecDepth 100000 in
set_option maxHeartbeats 6400000 in
theorem spec_addD {lo lo' : Nat} (A B : Option Addr) (c d : Nat) (a b : List GDiff) (Ma Mb : Int) (w : World) (ha : DiffsAt w lo w.heap.size A a) (hb : DiffsAt w lo' w.heap.size B b) (hl : a.length ≤ 1048576) (hl' : b.length ≤ 1048576)
    (hla : ∀ z ∈ a, z.row.length ≤ 1048576) (hlb : ∀ z ∈ b, z.row.length ≤ 1048576) (hca : cntLe Ma a) (hcb : cntLe Mb b) (hM : Ma + Mb ≤ 9000000000000000000) :
    Calls Try.prog 48 #[.slice A a.length c, .slice B b.length d] w (DPost w (addD a b)) := by
  have HA := Lib.hid ha
  have HB := Lib.hid hb
  have HLA := Lib.hid hla
  have HLB := Lib.hid hlb
  have HCA := Lib.hid hca
  have HCB := Lib.hid hcb
  have HM := Lib.hid hM
  clear ha hb hla hlb hca hcb hM
  go_enter Try.func48, Try.ntmps48
  go_wp2_with fail
  go_loopw [5, 6, 7] (fun out ii kk w' => ∃ (i k : Nat) (zs : List GDiff), i ≤ a.length ∧ k ≤ b.length ∧ ii = .int .i64 i ∧ kk = .int .i64 k ∧ Hid (AddI a b zs i k) ∧ Hid (DAcc w w' out zs)) (fun _ ii kk _ => (a.length - (intOf ii).toNat) + (b.length - (intOf kk).toNat))
  case atStart => exact ⟨0, 0, [], Nat.zero_le _, Nat.zero_le _, rfl, rfl, Lib.hid ⟨by simp, by simp⟩, Lib.hid (DAcc.start (Below.refl _ _) rfl)⟩
  case round =>
    obtain ⟨i, k, zs, hi, hk, rfl, rfl, hI, hD⟩ := hrel
    obtain ⟨A6, c6, rfl, _⟩ := hD.out.slice
    have hzl : zs.length ≤ 4194304 := by have := hI.out.2; omega
    have hws : w.heap.size ≤ wr.heap.size := hD.out.low.size
    by_cases hia : i < a.length
    · have hi1 : (i : Int) < (a.length : Int) := by omega
      have hi0 : (0 : Int) ≤ (i : Int) := by omega
      have hi2 : ((i : Int) == (a.length : Int)) = false := by simp; omega
      by_cases hkb : k < b.length
      · have hk1 : (k : Int) < (b.length : Int) := by omega
        have hk0 : (0 : Int) ≤ (k : Int) := by omega
        have hk2 : ((k : Int) == (b.length : Int)) = false := by simp; omega
        obtain ⟨g, o, rfl, _, hg, ⟨A', c', ⟨hcell, _⟩, hrow⟩, _⟩ := (HA.out.to_ hD.out.low).at_ hia
        obtain ⟨g', o', rfl, _, hg', ⟨B', d', ⟨hcell', _⟩, hrow'⟩, _⟩ := (HB.out.to_ hD.out.low).at_ hkb
        have q0 := cell_regrown hcell
        have q1 := cell_regrown hcell'
        have hra := Lib.hid hrow.row
        have hrb := Lib.hid hrow'.row
        have hma := HLA.out _ (List.getElem_mem hia)
        have hmb := HLB.out _ (List.getElem_mem hkb)
        have hI1 := Lib.hid (fun h => hI.out.next (new := [a[i]]) (i' := i + 1) (k' := k) (addD_left hia hkb h) (by simp; omega))
        have hI2 := Lib.hid (fun h => hI.out.next (new := [b[k]]) (i' := i) (k' := k + 1) (addD_right hia hkb h) (by simp; omega))
        have hI3 := Lib.hid (fun h => hI.out.next (i' := i + 1) (k' := k + 1) (addD_both hia hkb h) (by unfold oneD; split <;> simp <;> omega))
        clear hrow hrow' hI
        generalize hcm : cmpR a[i].row b[k].row = cm at *
        have hcmp := fun (W : World) (h1 : RowAt W W.heap.size A' a[i].row) (h2 : RowAt W W.heap.size B' b[k].row) => spec_rows A' B' c' d' a[i].row b[k].row W h1 h2 hma hmb
        rw [hcm] at hcmp
        go_wp2_with fail
        refine wp_region_quiet_below (by kernel_rfl) (by kernel_rfl) ?_
        repeat (go_big_quiet_step (first
          | (go_at_call 61; exact Calls.regrown_of (hcmp _ (hra.out.to_ (below_regrown wr _ _)) (hrb.out.to_ (below_regrown wr _ _))))))
        refine wpQuiet_nil ?_
        intro _ hw'
        obtain ⟨⟨dq, osq⟩, hw''⟩ := hw'
        subst hw''
        have hDx := Lib.hid (hD.out.below (below_regrown wr dq osq))
        generalize grow (redrawn wr dq) osq = wx at *
        have hwx : w.heap.size ≤ wx.heap.size := hDx.out.low.size
        clear q0 q1 hcell hcell' hra hrb hcmp hcm hD hws
        by_cases hc : cm < 0
        · have hN := Lib.hid (hI1.out hc)
          clear hI1 hI2 hI3
          obtain ⟨_, _, he, _, hg, ⟨A', c', ⟨hcell, hcap⟩, hrow⟩, hcnt⟩ := (HA.out.keep (fun b _ h => hDx.out.low.block b h)).at_ hia
          cases he
          have hp := Lib.hid (show DHok wx w.heap.size ((A', c'), a[i]) from ⟨hrow.st hwx, hcap⟩)
          clear hrow
          go_wp2_with (first | (at_builtin; refine wpList_dapp _ rfl (.tmp 72) (.tmp 77) rfl w _ zs ((A', c'), a[i]) rfl hDx.out hp.out rfl hzl ?_; intro v3 w3 hD3; refine Hid.out ?_))
          refine Lib.hid ?_
          have HD3 := Lib.hid hD3
          clear hD3 hcell hcnt
          go_wp2_with fail
          go_roundw
          case rel => exact ⟨i + 1, k, _, by omega, by omega, by go_num, rfl, hN, HD3⟩
          case measure => simp [intOf]; omega
        · by_cases hc2 : 0 < cm
          · have hN := Lib.hid (hI2.out hc2)
            clear hI1 hI2 hI3
            obtain ⟨_, _, he, _, hg, ⟨A'', c'', ⟨hcell, hcap⟩, hrow⟩, hcnt⟩ := (HB.out.keep (fun b _ h => hDx.out.low.block b h)).at_ hkb
            cases he
            have hp := Lib.hid (show DHok wx w.heap.size ((A'', c''), b[k]) from ⟨hrow.st hwx, hcap⟩)
            clear hrow
            go_wp2_with (first | (at_builtin; refine wpList_dapp _ rfl (.tmp 84) (.tmp 89) rfl w _ zs ((A'', c''), b[k]) rfl hDx.out hp.out rfl hzl ?_; intro v3 w3 hD3; refine Hid.out ?_))
            refine Lib.hid ?_
            have HD3 := Lib.hid hD3
            clear hD3 hcell hcnt
            go_wp2_with fail
            go_roundw
            case rel => exact ⟨i, k + 1, _, by omega, by omega, rfl, by go_num, hN, HD3⟩
            case measure => simp [intOf]; omega
          · have hc0 : cm = 0 := by omega
            have hN := Lib.hid (hI3.out hc0)
            clear hI1 hI2 hI3
            obtain ⟨_, _, he, _, hg, ⟨A'', c'', ⟨hcell, hcap⟩, hrow⟩, hcnt⟩ := (HA.out.keep (fun b _ h => hDx.out.low.block b h)).at_ hia
            cases he
            obtain ⟨_, _, he, _, hg', _, hcnt'⟩ := (HB.out.keep (fun b _ h => hDx.out.low.block b h)).at_ hkb
            cases he
            have hsum : -9000000000000000000 ≤ a[i].count + b[k].count ∧ a[i].count + b[k].count ≤ 9000000000000000000 := by
              have h1 := HCA.out _ (List.getElem_mem hia)
              have h2 := HCB.out _ (List.getElem_mem hkb)
              have h3 := HM.out
              omega
            obtain ⟨hs1, hs2⟩ := hsum
            have q2 := cell_regrown hcnt
            have q3 := cell_regrown hcnt'
            have hrs := Lib.hid (hrow.st hwx)
            clear hrow
            have hcap' := hcap
            generalize hsm : a[i].count + b[k].count = sm at *
            go_wp2_with fail
            refine wp_region_quiet_below (by kernel_rfl) (by kernel_rfl) ?_
            repeat (go_big_quiet_step (first | fail))
            refine wpQuiet_nil ?_
            intro _ hw'
            obtain ⟨⟨dq, osq⟩, hw''⟩ := hw'
            subst hw''
            have hby := below_regrown wx dq osq
            have hDy := Lib.hid (hDx.out.below hby)
            have hp := Lib.hid (show DHok (grow (redrawn wx dq) osq) w.heap.size ((A'', c''), ⟨a[i].row, sm⟩) from ⟨hrs.out.keep (hby.mono hwx) (KeepT.below hby), hcap⟩)
            have hcell2 := cell_regrown hcell dq osq
            generalize grow (redrawn wx dq) osq = wy at *
            clear q2 q3 hcnt hcnt' hcell hDx hrs hby
            by_cases h0 : sm = 0
            · have hz : (sm != 0) = false := by simp [h0]
              have hN2 := Lib.hid (show AddI a b zs (i + 1) (k + 1) by have h := hN.out; rw [h0] at h; simpa [oneD] using h)
              clear h0 hN
              go_wp2_with fail
              go_roundw
              case rel => exact ⟨i + 1, k + 1, _, by omega, by omega, by go_num, by go_num, hN2, hDy⟩
              case measure => simp [intOf]; omega
            · have hz : (sm != 0) = true := by simp [h0]
              have hN2 := Lib.hid (show AddI a b (zs ++ [⟨a[i].row, sm⟩]) (i + 1) (k + 1) by have h := hN.out; rw [oneD, if_neg h0] at h; exact h)
              clear h0 hN
              go_wp2_with (first | (at_builtin; refine wpList_dapp _ rfl (.tmp 55) (.tmp 63) rfl w _ zs ((A'', c''), ⟨a[i].row, sm⟩) rfl hDy.out hp.out rfl hzl ?_; intro v3 w3 hD3; refine Hid.out ?_))
              refine Lib.hid ?_
              have HD3 := Lib.hid hD3
              clear hD3 hcell2
              go_wp2_with fail
              go_roundw
              case rel => exact ⟨i + 1, k + 1, _, by omega, by omega, by go_num, by go_num, hN2, HD3⟩
              case measure => simp [intOf]; omega
      · have hk1 : ¬ (k : Int) < (b.length : Int) := by omega
        have hk2 : ((k : Int) == (b.length : Int)) = true := by simp; omega
        have hN := Lib.hid (hI.out.next (new := [a[i]]) (i' := i + 1) (k' := k) (addD_bend hia (by omega)) (by simp; omega))
        clear hI
        obtain ⟨g, o, rfl, _, hg, ⟨A', c', ⟨hcell, hcap⟩, hrow⟩, hcnt⟩ := (HA.out.keep (fun b _ h => hD.out.low.block b h)).at_ hia
        have hp := Lib.hid (show DHok wr w.heap.size ((A', c'), a[i]) from ⟨hrow.st hws, hcap⟩)
        clear hrow
        go_wp2_with (first | (at_builtin; refine wpList_dapp _ rfl (.tmp 72) (.tmp 77) rfl w _ zs ((A', c'), a[i]) rfl hD.out hp.out rfl hzl ?_; intro v3 w3 hD3; refine Hid.out ?_))
        refine Lib.hid ?_
        have HD3 := Lib.hid hD3
        clear hD3 hcell hcnt
        go_wp2_with fail
        go_roundw
        case rel => exact ⟨i + 1, k, _, by omega, by omega, by go_num, rfl, hN, HD3⟩
        case measure => simp [intOf]; omega
    · by_cases hkb : k < b.length
      · have hi1 : ¬ (i : Int) < (a.length : Int) := by omega
        have hi2 : ((i : Int) == (a.length : Int)) = true := by simp; omega
        have hk1 : (k : Int) < (b.length : Int) := by omega
        have hk0 : (0 : Int) ≤ (k : Int) := by omega
        obtain ⟨g, o, rfl, _, hg, ⟨A', c', ⟨hcell, hcap⟩, hrow⟩, hcnt⟩ := (HB.out.keep (fun b _ h => hD.out.low.block b h)).at_ hkb
        have hp := Lib.hid (show DHok wr w.heap.size ((A', c'), b[k]) from ⟨hrow.st hws, hcap⟩)
        have hN := Lib.hid (hI.out.next (new := [b[k]]) (i' := i) (k' := k + 1) (addD_aend (by omega) hkb) (by simp; omega))
        clear hrow hI
        go_wp2_with (first | (at_builtin; refine wpList_dapp _ rfl (.tmp 84) (.tmp 89) rfl w _ zs ((A', c'), b[k]) rfl hD.out hp.out rfl hzl ?_; intro v3 w3 hD3; refine Hid.out ?_))
        refine Lib.hid ?_
        have HD3 := Lib.hid hD3
        clear hD3 hcell hcnt
        go_wp2_with fail
        go_roundw
        case rel => exact ⟨i, k + 1, _, by omega, by omega, rfl, by go_num, hN, HD3⟩
        case measure => simp [intOf]; omega
      · have hi1 : ¬ (i : Int) < (a.length : Int) := by omega
        have hk1 : ¬ (k : Int) < (b.length : Int) := by omega
        have hE := Lib.hid (show zs = addD a b by have h := hI.out.1; rw [List.drop_of_length_le (by omega), List.drop_of_length_le (by omega)] at h; simpa [addD] using h)
        have hP := Lib.hid hD.out.post
        go_wp2_with fail
        go_ret
        rw [← hE.out]
        exact hP.out
end Go.Proofs.Ytemcpdpbikgfcaa
namespace Go.Proofs.Ytemcpdpbikgfcaa
open Go.RowKit Go.Sort
set_option linter.unusedVariables false

def sumD (zs : List GDiff) : List GDiff := if h : zs.length < 2 then zs else addD (sumD (zs.take (zs.length / 2))) (sumD (zs.drop (zs.length / 2)))
termination_by zs.length
decreasing_by
  · simp; omega
  · simp; omega
theorem sumD_step {zs : List GDiff} (h : ¬ zs.length < 2) : sumD zs = addD (sumD (zs.take (zs.length / 2))) (sumD (zs.drop (zs.length / 2))) := by
  conv => lhs; rw [sumD, dif_neg h]
theorem sumD_small {zs : List GDiff} (h : zs.length < 2) : sumD zs = zs := by rw [sumD, dif_pos h]
theorem addD_props (M N : Int) : ∀ (a b : List GDiff) (P : List GV → Prop), cntLe M a → cntLe N b → 0 ≤ M → 0 ≤ N → (∀ z ∈ a, P z.row) → (∀ z ∈ b, P z.row) → (addD a b).length ≤ a.length + b.length ∧ cntLe (M + N) (addD a b) ∧ ∀ z ∈ addD a b, P z.row := by
  intro a b
  induction a, b using addD.induct with
  | case1 b =>
    intro P ha hb h0 h1 hP hQ
    simp only [addD]
    exact ⟨by simp, fun z hz => by have := hb z hz; omega, hQ⟩
  | case2 x a =>
    intro P ha hb h0 h1 hP hQ
    rw [addD_nil]
    exact ⟨by simp, fun z hz => by have := ha z hz; omega, hP⟩
  | case3 x a y b hc ih =>
    intro P ha hb h0 h1 hP hQ
    rw [addD, if_pos hc]
    obtain ⟨h2, h3, h4⟩ := ih P (fun z hz => ha z (List.mem_cons_of_mem _ hz)) hb h0 h1 (fun z hz => hP z (List.mem_cons_of_mem _ hz)) hQ
    refine ⟨by simp at h2 ⊢; omega, fun z hz => ?_, fun z hz => ?_⟩
    · rw [List.mem_cons] at hz
      rcases hz with rfl | hz
      · have := ha z (by simp); omega
      · exact h3 z hz
    · rw [List.mem_cons] at hz
      rcases hz with rfl | hz
      · exact hP z (by simp)
      · exact h4 z hz
  | case4 x a y b hc hc2 ih =>
    intro P ha hb h0 h1 hP hQ
    rw [addD, if_neg hc, if_pos hc2]
    obtain ⟨h2, h3, h4⟩ := ih P ha (fun z hz => hb z (List.mem_cons_of_mem _ hz)) h0 h1 hP (fun z hz => hQ z (List.mem_cons_of_mem _ hz))
    refine ⟨by simp at h2 ⊢; omega, fun z hz => ?_, fun z hz => ?_⟩
    · rw [List.mem_cons] at hz
      rcases hz with rfl | hz
      · have := hb z (by simp); omega
      · exact h3 z hz
    · rw [List.mem_cons] at hz
      rcases hz with rfl | hz
      · exact hQ z (by simp)
      · exact h4 z hz
  | case5 x a y b hc hc2 ih =>
    intro P ha hb h0 h1 hP hQ
    rw [addD, if_neg hc, if_neg hc2]
    obtain ⟨h2, h3, h4⟩ := ih P (fun z hz => ha z (List.mem_cons_of_mem _ hz)) (fun z hz => hb z (List.mem_cons_of_mem _ hz)) h0 h1 (fun z hz => hP z (List.mem_cons_of_mem _ hz)) (fun z hz => hQ z (List.mem_cons_of_mem _ hz))
    have ho : (oneD x.row (x.count + y.count)).length ≤ 1 := by unfold oneD; split <;> simp
    refine ⟨by rw [List.length_append]; simp at h2 ⊢; omega, fun z hz => ?_, fun z hz => ?_⟩
    · rw [List.mem_append] at hz
      rcases hz with hz | hz
      · unfold oneD at hz
        split at hz
        · simp at hz
        · simp at hz; subst hz
          have h5 := ha x (by simp)
          have h6 := hb y (by simp)
          show -(M + N) ≤ x.count + y.count ∧ x.count + y.count ≤ M + N
          omega
      · exact h3 z hz
    · rw [List.mem_append] at hz
      rcases hz with hz | hz
      · unfold oneD at hz
        split at hz
        · simp at hz
        · simp at hz; subst hz; exact hP x (by simp)
      · exact h4 z hz
/-- Sums by halves: no longer than the list, counts at most n times as large, rows from the list. -/
theorem sumD_props (M : Int) (h0 : 0 ≤ M) (P : List GV → Prop) : ∀ (n : Nat) (zs : List GDiff), zs.length ≤ n → cntLe M zs → (∀ z ∈ zs, P z.row) → (sumD zs).length ≤ zs.length ∧ (zs ≠ [] → cntLe (zs.length * M) (sumD zs)) ∧ ∀ z ∈ sumD zs, P z.row := by
  intro n
  induction n with
  | zero =>
    intro zs hl hc hP
    obtain rfl := List.eq_nil_of_length_eq_zero (Nat.le_zero.1 hl)
    rw [sumD_small (by simp)]
    exact ⟨Nat.le_refl _, fun h => absurd rfl h, hP⟩
  | succ n ih =>
    intro zs hl hc hP
    by_cases h : zs.length < 2
    · rw [sumD_small h]
      refine ⟨Nat.le_refl _, fun hne => ?_, hP⟩
      have h1 : zs.length = 1 := by have := List.length_pos_iff.2 hne; omega
      rw [h1]
      simpa using hc
    · rw [sumD_step h]
      have hm : ∀ z ∈ zs.take (zs.length / 2), z ∈ zs := fun z hz => List.mem_of_mem_take hz
      have hd : ∀ z ∈ zs.drop (zs.length / 2), z ∈ zs := fun z hz => List.mem_of_mem_drop hz
      have hlt : (zs.take (zs.length / 2)).length = zs.length / 2 := by rw [List.length_take]; omega
      have hld : (zs.drop (zs.length / 2)).length = zs.length - zs.length / 2 := List.length_drop
      obtain ⟨a1, a2, a3⟩ := ih (zs.take (zs.length / 2)) (by omega) (fun z hz => hc z (hm z hz)) (fun z hz => hP z (hm z hz))
      obtain ⟨b1, b2, b3⟩ := ih (zs.drop (zs.length / 2)) (by omega) (fun z hz => hc z (hd z hz)) (fun z hz => hP z (hd z hz))
      have e1 : zs.take (zs.length / 2) ≠ [] := fun e => by rw [e] at hlt; simp at hlt; omega
      have e2 : zs.drop (zs.length / 2) ≠ [] := fun e => by rw [e] at hld; simp at hld; omega
      obtain ⟨c1, c2, c3⟩ := addD_props _ _ _ _ P (a2 e1) (b2 e2) (Int.mul_nonneg (by omega) h0) (Int.mul_nonneg (by omega) h0) a3 b3
      refine ⟨by omega, fun _ => ?_, c3⟩
      rw [hlt, hld, ← Int.add_mul, show ((zs.length / 2 : Nat) : Int) + ((zs.length - zs.length / 2 : Nat) : Int) = (zs.length : Int) by omega] at c2
      exact c2
theorem DiffsAt.first {w : World} {lo B : Nat} {A : Option Addr} {zs : List GDiff} (h : DiffsAt w lo B A zs) (k : Nat) : DiffsAt w lo B A (zs.take k) := by
  rcases h with rfl | ⟨g, o, hA, h1, h2, hc⟩
  · exact .inl (by simp)
  · refine .inr ⟨g, o, hA, h1, h2, fun i x hx => hc i x ?_⟩
    rw [List.getElem?_take] at hx
    split at hx
    · exact hx
    · cases hx
theorem DiffsAt.rest {w : World} {lo B g o c k : Nat} {zs : List GDiff} (h : DiffsAt w lo B (some ⟨g, o, none⟩) zs) (hc : zs.length ≤ c) (hk : k ≤ zs.length) : DiffsAt w lo B (if c = k then some ⟨g, o, none⟩ else some ⟨g, o + k * 2, none⟩) (zs.drop k) := by
  by_cases hck : c = k
  · left; exact List.drop_of_length_le (by omega)
  · rw [if_neg hck]
    rcases h with rfl | ⟨g', o', hA, h1, h2, hcell⟩
    · exact .inl (by simp)
    · cases hA
      refine .inr ⟨g, o + k * 2, rfl, h1, h2, fun i x hx => ?_⟩
      rw [List.getElem?_drop] at hx
      have := hcell (k + i) x hx
      rwa [show o + (k + i) * 2 = o + k * 2 + i * 2 by omega] at this
set_option maxRecDepth 100000 in
set_option maxHeartbeats 3200000 in
theorem spec_sumD (M : Int) (h0 : 0 ≤ M) (hM : 3100 * M ≤ 9000000000000000000) : ∀ (n : Nat) {lo : Nat} (A : Option Addr) (c : Nat) (zs : List GDiff) (w : World), zs.length ≤ n → n ≤ 3100 → DiffsAt w lo w.heap.size A zs → CapOk zs.length c → (∀ z ∈ zs, z.row.length ≤ 1048576) → cntLe M zs →
    Calls Try.prog 62 #[.slice A zs.length c] w (DPost w (sumD zs)) := by
  intro n
  induction n with
  | zero =>
    intro lo A c zs w hl hn hr hc hlr hcn
    obtain rfl := List.eq_nil_of_length_eq_zero (Nat.le_zero.1 hl)
    rw [sumD_small (by simp)]
    go_enter Try.func62, Try.ntmps62
    go_wp2_with fail
    go_ret
    exact ⟨A, c, rfl, hc, .inl rfl, Below.refl _ _⟩
  | succ n ih =>
    intro lo A c zs w hl hn hr hc hlr hcn
    by_cases h2 : zs.length < 2
    · rw [sumD_small h2]
      have hi1 : (zs.length : Int) < 2 := by omega
      have HR := Lib.hid hr
      have HC := Lib.hid hc
      clear hr hc hlr hcn
      go_enter Try.func62, Try.ntmps62
      go_wp2_with fail
      go_ret
      exact ⟨A, c, rfl, HC.out, HR.out.mono (Nat.zero_le _) (Nat.le_refl _), Below.refl _ _⟩
    · rw [sumD_step h2]
      obtain ⟨g, o, rfl, _, _, _⟩ := hr.at_ (i := 0) (by omega)
      obtain ⟨h, hh⟩ : ∃ h, zs.length / 2 = h := ⟨_, rfl⟩
      rw [hh]
      have hi1 : ¬ (zs.length : Int) < 2 := by omega
      have hq : Int.tdiv (zs.length : Int) 2 = (h : Int) := by rw [Int.tdiv_eq_ediv_of_nonneg (by omega)]; omega
      have hq2 : (zs.length : Int) / 2 = (h : Int) := by omega
      have hlt : (zs.take h).length = h := by rw [List.length_take]; omega
      have hld : (zs.drop h).length = zs.length - h := List.length_drop
      have HR := Lib.hid hr
      have HC := Lib.hid hc
      have hk0 : (0 : Int) ≤ (h : Int) := by omega
      have hkl : (h : Int) ≤ (zs.length : Int) := by omega
      have hkc : (h : Int) ≤ (c : Int) := by have := hc.1; omega
      have hlc : (zs.length : Int) ≤ (c : Int) := by have := hc.1; omega
      obtain ⟨A2, hA2⟩ : ∃ A2 : Option Addr, (if c = h then some (⟨g, o, none⟩ : Addr) else some ⟨g, o + h * 2, none⟩) = A2 := ⟨_, rfl⟩
      have hwr : IntKind.i64.wrap (h : Int) = (h : Int) := by rw [IntKind.wrap_i64]; omega
      have hm : ∀ z ∈ zs.take h, z ∈ zs := fun z hz => List.mem_of_mem_take hz
      have hd : ∀ z ∈ zs.drop h, z ∈ zs := fun z hz => List.mem_of_mem_drop hz
      have C1 : ∀ W, Below w.heap.size w W → Calls Try.prog 62 #[.slice (some ⟨g, o, none⟩) h c] W (DPost W (sumD (zs.take h))) := by
        intro W hb
        have := ih (some ⟨g, o, none⟩) c (zs.take h) W (by omega) (by omega) ((HR.out.to_ hb).first h) ⟨by have := hc.1; omega, hc.2⟩ (fun z hz => hlr z (hm z hz)) (fun z hz => hcn z (hm z hz))
        rwa [hlt] at this
      have C2 : ∀ W, Below w.heap.size w W → Calls Try.prog 62 #[.slice A2 (zs.length - h) (c - h)] W (DPost W (sumD (zs.drop h))) := by
        intro W hb
        have := ih A2 (c - h) (zs.drop h) W (by omega) (by omega) (by rw [← hA2]; exact (HR.out.to_ hb).rest hc.1 (by omega)) ⟨by have := hc.1; omega, by have := hc.2; omega⟩ (fun z hz => hlr z (hd z hz)) (fun z hz => hcn z (hd z hz))
        rwa [hld] at this
      obtain ⟨a1, a2, a3⟩ := sumD_props M h0 (fun r => r.length ≤ 1048576) _ (zs.take h) (Nat.le_refl _) (fun z hz => hcn z (hm z hz)) (fun z hz => hlr z (hm z hz))
      obtain ⟨b1, b2, b3⟩ := sumD_props M h0 (fun r => r.length ≤ 1048576) _ (zs.drop h) (Nat.le_refl _) (fun z hz => hcn z (hd z hz)) (fun z hz => hlr z (hd z hz))
      have a2' := a2 (fun e => by rw [e] at hlt; simp at hlt; omega)
      have b2' := b2 (fun e => by rw [e] at hld; simp at hld; omega)
      rw [hlt] at a1 a2'
      rw [hld] at b1 b2'
      have hsum : (h : Int) * M + ((zs.length - h : Nat) : Int) * M ≤ 9000000000000000000 := by
        rw [← Int.add_mul, show (h : Int) + ((zs.length - h : Nat) : Int) = (zs.length : Int) by omega]
        exact Int.le_trans (Int.mul_le_mul_of_nonneg_right (by omega) h0) hM
      generalize sumD (zs.take h) = F at *
      generalize sumD (zs.drop h) = G at *
      have C3 : ∀ W (E1 E2 : Option Addr) (e1 e2 : Nat), DiffsAt W 0 W.heap.size E1 F → DiffsAt W 0 W.heap.size E2 G → Calls Try.prog 48 #[.slice E1 F.length e1, .slice E2 G.length e2] W (DPost W (addD F G)) :=
        fun W E1 E2 e1 e2 h1 h2 => spec_addD E1 E2 e1 e2 F G _ _ W h1 h2 (by omega) (by omega) a3 b3 a2' b2' hsum
      have HC1 := Lib.hid C1
      have HC2 := Lib.hid C2
      have HC3 := Lib.hid C3
      have hlh : h ≤ zs.length := by omega
      clear C1 C2 C3 a1 a2 a3 a2' b1 b2 b3 b2' hsum hm hd hr hc hlr hcn ih hlt hld HC HR hh
      go_enter Try.func62, Try.ntmps62
      go_wp2_with fail
      go_region_with (first
        | (go_at_call 62; (with_reducible show Calls _ _ #[.slice (some ⟨g, o, none⟩) h c] _ _); refine (HC1.out _ (by first | exact (Below.refl _ _).drew | exact Below.refl _ _ | exact hB2)).mono ?_; rintro e w1 ⟨E1, e1, rfl, _, hd1, hb1⟩; have hB1 : Below w.heap.size w w1 := (by first | exact below_next hB2 hb1 rfl rfl | exact below_next ((Below.refl _ _).drew) hb1 rfl rfl))
        | (go_at_call 62; (with_reducible show Calls _ _ #[.slice A2 (zs.length - h) (c - h)] _ _); refine (HC2.out _ (by first | exact (Below.refl _ _).drew | exact Below.refl _ _ | exact hB1)).mono ?_; rintro e w2 ⟨E2, e2, rfl, _, hd2, hb2⟩; have hB2 : Below w.heap.size w w2 := (by first | exact below_next hB1 hb2 rfl rfl | exact below_next ((Below.refl _ _).drew) hb2 rfl rfl))
        | (go_at_call 48; refine (HC3.out _ E1 E2 e1 e2 (by first | exact hd1 | exact hd1.to_ hb2) (by first | exact hd2 | exact hd2.to_ hb1)).mono ?_; rintro e w3 ⟨E3, e3, rfl, hcp3, hd3, hb3⟩; have hB3 : Below w.heap.size w w3 := (by first | exact below_next hB2 hb3 rfl rfl | exact below_next hB1 hb3 rfl rfl)))
      all_goals have HD3 := Lib.hid hd3
      all_goals clear hd1 hd2 hd3
      all_goals go_wp2_with fail
      all_goals go_ret
      all_goals exact ⟨_, _, rfl, hcp3, HD3.out, hB3⟩
end Go.Proofs.Ytemcpdpbikgfcaa
