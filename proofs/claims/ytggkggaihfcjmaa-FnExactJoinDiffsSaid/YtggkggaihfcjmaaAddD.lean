/-
  The sum of two ascending lists of differences; spec.l4Add.
-/
import Derived.Test.YtggkggaihfcjmaaValueOkSZ
import Derived.Test.YtggkggaihfcjmaaCntZ
import Derived.Test.YtggkggaihfcjmaaDiffOkS
namespace Go.Proofs.Ytggkggaihfcjmaa
open Go.RowKit Go.Sort
set_option linter.unusedVariables false

def oneD (r : List GV) (n : Int) : List GDiff := if n = 0 then [] else [⟨r, n⟩]
def addD : List GDiff → List GDiff → List GDiff
  | [], b => b
  | x :: a, [] => x :: a
  | x :: a, y :: b => if cmpR x.row y.row < 0 then x :: addD a (y :: b) else if 0 < cmpR x.row y.row then y :: addD (x :: a) b else oneD x.row (x.count + y.count) ++ addD a b
termination_by a b => a.length + b.length
theorem addD_nil (a : List GDiff) : addD a [] = a := by cases a <;> simp [addD]
theorem drop_cons {α : Type} {l : List α} {i : Nat} (h : i < l.length) : l.drop i = l[i] :: l.drop (i + 1) := List.drop_eq_getElem_cons h
theorem addD_left {a b : List GDiff} {i k : Nat} (hi : i < a.length) (hk : k < b.length) (hc : cmpR a[i].row b[k].row < 0) : addD (a.drop i) (b.drop k) = a[i] :: addD (a.drop (i + 1)) (b.drop k) := by
  rw [drop_cons hi, drop_cons hk, addD, if_pos hc]
theorem addD_right {a b : List GDiff} {i k : Nat} (hi : i < a.length) (hk : k < b.length) (hc : 0 < cmpR a[i].row b[k].row) : addD (a.drop i) (b.drop k) = b[k] :: addD (a.drop i) (b.drop (k + 1)) := by
  rw [drop_cons hi, drop_cons hk, addD, if_neg (by omega), if_pos hc]
theorem addD_both {a b : List GDiff} {i k : Nat} (hi : i < a.length) (hk : k < b.length) (hc : cmpR a[i].row b[k].row = 0) : addD (a.drop i) (b.drop k) = oneD a[i].row (a[i].count + b[k].count) ++ addD (a.drop (i + 1)) (b.drop (k + 1)) := by
  rw [drop_cons hi, drop_cons hk, addD, if_neg (by omega), if_neg (by omega)]
theorem addD_aend {a b : List GDiff} {i k : Nat} (hi : a.length ≤ i) (hk : k < b.length) : addD (a.drop i) (b.drop k) = b[k] :: addD (a.drop i) (b.drop (k + 1)) := by
  rw [List.drop_of_length_le hi, drop_cons hk]; simp [addD]
theorem addD_bend {a b : List GDiff} {i k : Nat} (hi : i < a.length) (hk : b.length ≤ k) : addD (a.drop i) (b.drop k) = a[i] :: addD (a.drop (i + 1)) (b.drop k) := by
  rw [List.drop_of_length_le hk, addD_nil, addD_nil, drop_cons hi]
/-- While two lists are added: i of a and k of b are done. -/
def AddI (a b out : List GDiff) (i k : Nat) : Prop := out ++ addD (a.drop i) (b.drop k) = addD a b ∧ out.length ≤ i + k
theorem AddI.next {a b out new : List GDiff} {i k i' k' : Nat} (h : AddI a b out i k) (he : addD (a.drop i) (b.drop k) = new ++ addD (a.drop i') (b.drop k')) (hl : new.length + i + k ≤ i' + k') : AddI a b (out ++ new) i' k' :=
  ⟨by rw [List.append_assoc, ← he]; exact h.1, by rw [List.length_append]; have := h.2; omega⟩

set_option maxRecDepth 100000 in
set_option maxHeartbeats 6400000 in
theorem spec_addD {lo lo' : Nat} (A B : Option Addr) (c d : Nat) (a b : List GDiff) (Ma Mb : Int) (w : World) (ha : DiffsAt w lo w.heap.size A a) (hb : DiffsAt w lo' w.heap.size B b) (hl : a.length ≤ 1048576) (hl' : b.length ≤ 1048576)
    (hla : ∀ z ∈ a, z.row.length ≤ 1048576) (hlb : ∀ z ∈ b, z.row.length ≤ 1048576) (hca : cntLe Ma a) (hcb : cntLe Mb b) (hM : Ma + Mb ≤ 9000000000000000000) :
    Calls Try.prog 48 #[.slice A a.length c, .slice B b.length d] w (DPost w (addD a b)) := by
  have HA := Lib.hid ha
  have HB := Lib.hid hb
  have HLA := Lib.hid hla
  have HLB := Lib.hid hlb
  have HCA := Lib.hid hca
  have HCB := Lib.hid hcb
  have HM := Lib.hid hM
  clear ha hb hla hlb hca hcb hM
  go_enter Try.func48, Try.ntmps48
  go_wp2_with fail
  go_loopw [5, 6, 7] (fun out ii kk w' => ∃ (i k : Nat) (zs : List GDiff), i ≤ a.length ∧ k ≤ b.length ∧ ii = .int .i64 i ∧ kk = .int .i64 k ∧ Hid (AddI a b zs i k) ∧ Hid (DAcc w w' out zs)) (fun _ ii kk _ => (a.length - (intOf ii).toNat) + (b.length - (intOf kk).toNat))
  case atStart => exact ⟨0, 0, [], Nat.zero_le _, Nat.zero_le _, rfl, rfl, Lib.hid ⟨by simp, by simp⟩, Lib.hid (DAcc.start (Below.refl _ _) rfl)⟩
  case round =>
    obtain ⟨i, k, zs, hi, hk, rfl, rfl, hI, hD⟩ := hrel
    obtain ⟨A6, c6, rfl, _⟩ := hD.out.slice
    have hzl : zs.length ≤ 4194304 := by have := hI.out.2; omega
    have hws : w.heap.size ≤ wr.heap.size := hD.out.low.size
    by_cases hia : i < a.length
    · have hi1 : (i : Int) < (a.length : Int) := by omega
      have hi0 : (0 : Int) ≤ (i : Int) := by omega
      have hi2 : ((i : Int) == (a.length : Int)) = false := by simp; omega
      by_cases hkb : k < b.length
      · have hk1 : (k : Int) < (b.length : Int) := by omega
        have hk0 : (0 : Int) ≤ (k : Int) := by omega
        have hk2 : ((k : Int) == (b.length : Int)) = false := by simp; omega
        obtain ⟨g, o, rfl, _, hg, ⟨A', c', ⟨hcell, _⟩, hrow⟩, _⟩ := (HA.out.to_ hD.out.low).at_ hia
        obtain ⟨g', o', rfl, _, hg', ⟨B', d', ⟨hcell', _⟩, hrow'⟩, _⟩ := (HB.out.to_ hD.out.low).at_ hkb
        have q0 := cell_regrown hcell
        have q1 := cell_regrown hcell'
        have hra := Lib.hid hrow.row
        have hrb := Lib.hid hrow'.row
        have hma := HLA.out _ (List.getElem_mem hia)
        have hmb := HLB.out _ (List.getElem_mem hkb)
        have hI1 := Lib.hid (fun h => hI.out.next (new := [a[i]]) (i' := i + 1) (k' := k) (addD_left hia hkb h) (by simp; omega))
        have hI2 := Lib.hid (fun h => hI.out.next (new := [b[k]]) (i' := i) (k' := k + 1) (addD_right hia hkb h) (by simp; omega))
        have hI3 := Lib.hid (fun h => hI.out.next (i' := i + 1) (k' := k + 1) (addD_both hia hkb h) (by unfold oneD; split <;> simp <;> omega))
        clear hrow hrow' hI
        generalize hcm : cmpR a[i].row b[k].row = cm at *
        have hcmp := fun (W : World) (h1 : RowAt W W.heap.size A' a[i].row) (h2 : RowAt W W.heap.size B' b[k].row) => spec_rows A' B' c' d' a[i].row b[k].row W h1 h2 hma hmb
        rw [hcm] at hcmp
        go_wp2_with fail
        refine wp_region_quiet_below (by kernel_rfl) (by kernel_rfl) ?_
        repeat (go_big_quiet_step (first
          | (go_at_call 61; exact Calls.regrown_of (hcmp _ (hra.out.to_ (below_regrown wr _ _)) (hrb.out.to_ (below_regrown wr _ _))))))
        refine wpQuiet_nil ?_
        intro _ hw'
        obtain ⟨⟨dq, osq⟩, hw''⟩ := hw'
        subst hw''
        have hDx := Lib.hid (hD.out.below (below_regrown wr dq osq))
        generalize grow (redrawn wr dq) osq = wx at *
        have hwx : w.heap.size ≤ wx.heap.size := hDx.out.low.size
        clear q0 q1 hcell hcell' hra hrb hcmp hcm hD hws
        by_cases hc : cm < 0
        · have hN := Lib.hid (hI1.out hc)
          clear hI1 hI2 hI3
          obtain ⟨_, _, he, _, hg, ⟨A', c', ⟨hcell, hcap⟩, hrow⟩, hcnt⟩ := (HA.out.keep (fun b _ h => hDx.out.low.block b h)).at_ hia
          cases he
          have hp := Lib.hid (show DHok wx w.heap.size ((A', c'), a[i]) from ⟨hrow.st hwx, hcap⟩)
          clear hrow
          go_wp2_with (first | (at_builtin; refine wpList_dapp _ rfl (.tmp 72) (.tmp 77) rfl w _ zs ((A', c'), a[i]) rfl hDx.out hp.out rfl hzl ?_; intro v3 w3 hD3; refine Hid.out ?_))
          refine Lib.hid ?_
          have HD3 := Lib.hid hD3
          clear hD3 hcell hcnt
          go_wp2_with fail
          go_roundw
          case rel => exact ⟨i + 1, k, _, by omega, by omega, by go_num, rfl, hN, HD3⟩
          case measure => simp [intOf]; omega
        · by_cases hc2 : 0 < cm
          · have hN := Lib.hid (hI2.out hc2)
            clear hI1 hI2 hI3
            obtain ⟨_, _, he, _, hg, ⟨A'', c'', ⟨hcell, hcap⟩, hrow⟩, hcnt⟩ := (HB.out.keep (fun b _ h => hDx.out.low.block b h)).at_ hkb
            cases he
            have hp := Lib.hid (show DHok wx w.heap.size ((A'', c''), b[k]) from ⟨hrow.st hwx, hcap⟩)
            clear hrow
            go_wp2_with (first | (at_builtin; refine wpList_dapp _ rfl (.tmp 84) (.tmp 89) rfl w _ zs ((A'', c''), b[k]) rfl hDx.out hp.out rfl hzl ?_; intro v3 w3 hD3; refine Hid.out ?_))
            refine Lib.hid ?_
            have HD3 := Lib.hid hD3
            clear hD3 hcell hcnt
            go_wp2_with fail
            go_roundw
            case rel => exact ⟨i, k + 1, _, by omega, by omega, rfl, by go_num, hN, HD3⟩
            case measure => simp [intOf]; omega
          · have hc0 : cm = 0 := by omega
            have hN := Lib.hid (hI3.out hc0)
            clear hI1 hI2 hI3
            obtain ⟨_, _, he, _, hg, ⟨A'', c'', ⟨hcell, hcap⟩, hrow⟩, hcnt⟩ := (HA.out.keep (fun b _ h => hDx.out.low.block b h)).at_ hia
            cases he
            obtain ⟨_, _, he, _, hg', _, hcnt'⟩ := (HB.out.keep (fun b _ h => hDx.out.low.block b h)).at_ hkb
            cases he
            have hsum : -9000000000000000000 ≤ a[i].count + b[k].count ∧ a[i].count + b[k].count ≤ 9000000000000000000 := by
              have h1 := HCA.out _ (List.getElem_mem hia)
              have h2 := HCB.out _ (List.getElem_mem hkb)
              have h3 := HM.out
              omega
            obtain ⟨hs1, hs2⟩ := hsum
            have q2 := cell_regrown hcnt
            have q3 := cell_regrown hcnt'
            have hrs := Lib.hid (hrow.st hwx)
            clear hrow
            have hcap' := hcap
            generalize hsm : a[i].count + b[k].count = sm at *
            go_wp2_with fail
            refine wp_region_quiet_below (by kernel_rfl) (by kernel_rfl) ?_
            repeat (go_big_quiet_step (first | fail))
            refine wpQuiet_nil ?_
            intro _ hw'
            obtain ⟨⟨dq, osq⟩, hw''⟩ := hw'
            subst hw''
            have hby := below_regrown wx dq osq
            have hDy := Lib.hid (hDx.out.below hby)
            have hp := Lib.hid (show DHok (grow (redrawn wx dq) osq) w.heap.size ((A'', c''), ⟨a[i].row, sm⟩) from ⟨hrs.out.keep (hby.mono hwx) (KeepT.below hby), hcap⟩)
            have hcell2 := cell_regrown hcell dq osq
            generalize grow (redrawn wx dq) osq = wy at *
            clear q2 q3 hcnt hcnt' hcell hDx hrs hby
            by_cases h0 : sm = 0
            · have hz : (sm != 0) = false := by simp [h0]
              have hN2 := Lib.hid (show AddI a b zs (i + 1) (k + 1) by have h := hN.out; rw [h0] at h; simpa [oneD] using h)
              clear h0 hN
              go_wp2_with fail
              go_roundw
              case rel => exact ⟨i + 1, k + 1, _, by omega, by omega, by go_num, by go_num, hN2, hDy⟩
              case measure => simp [intOf]; omega
            · have hz : (sm != 0) = true := by simp [h0]
              have hN2 := Lib.hid (show AddI a b (zs ++ [⟨a[i].row, sm⟩]) (i + 1) (k + 1) by have h := hN.out; rw [oneD, if_neg h0] at h; exact h)
              clear h0 hN
              go_wp2_with (first | (at_builtin; refine wpList_dapp _ rfl (.tmp 55) (.tmp 63) rfl w _ zs ((A'', c''), ⟨a[i].row, sm⟩) rfl hDy.out hp.out rfl hzl ?_; intro v3 w3 hD3; refine Hid.out ?_))
              refine Lib.hid ?_
              have HD3 := Lib.hid hD3
              clear hD3 hcell2
              go_wp2_with fail
              go_roundw
              case rel => exact ⟨i + 1, k + 1, _, by omega, by omega, by go_num, by go_num, hN2, HD3⟩
              case measure => simp [intOf]; omega
      · have hk1 : ¬ (k : Int) < (b.length : Int) := by omega
        have hk2 : ((k : Int) == (b.length : Int)) = true := by simp; omega
        have hN := Lib.hid (hI.out.next (new := [a[i]]) (i' := i + 1) (k' := k) (addD_bend hia (by omega)) (by simp; omega))
        clear hI
        obtain ⟨g, o, rfl, _, hg, ⟨A', c', ⟨hcell, hcap⟩, hrow⟩, hcnt⟩ := (HA.out.keep (fun b _ h => hD.out.low.block b h)).at_ hia
        have hp := Lib.hid (show DHok wr w.heap.size ((A', c'), a[i]) from ⟨hrow.st hws, hcap⟩)
        clear hrow
        go_wp2_with (first | (at_builtin; refine wpList_dapp _ rfl (.tmp 72) (.tmp 77) rfl w _ zs ((A', c'), a[i]) rfl hD.out hp.out rfl hzl ?_; intro v3 w3 hD3; refine Hid.out ?_))
        refine Lib.hid ?_
        have HD3 := Lib.hid hD3
        clear hD3 hcell hcnt
        go_wp2_with fail
        go_roundw
        case rel => exact ⟨i + 1, k, _, by omega, by omega, by go_num, rfl, hN, HD3⟩
        case measure => simp [intOf]; omega
    · by_cases hkb : k < b.length
      · have hi1 : ¬ (i : Int) < (a.length : Int) := by omega
        have hi2 : ((i : Int) == (a.length : Int)) = true := by simp; omega
        have hk1 : (k : Int) < (b.length : Int) := by omega
        have hk0 : (0 : Int) ≤ (k : Int) := by omega
        obtain ⟨g, o, rfl, _, hg, ⟨A', c', ⟨hcell, hcap⟩, hrow⟩, hcnt⟩ := (HB.out.keep (fun b _ h => hD.out.low.block b h)).at_ hkb
        have hp := Lib.hid (show DHok wr w.heap.size ((A', c'), b[k]) from ⟨hrow.st hws, hcap⟩)
        have hN := Lib.hid (hI.out.next (new := [b[k]]) (i' := i) (k' := k + 1) (addD_aend (by omega) hkb) (by simp; omega))
        clear hrow hI
        go_wp2_with (first | (at_builtin; refine wpList_dapp _ rfl (.tmp 84) (.tmp 89) rfl w _ zs ((A', c'), b[k]) rfl hD.out hp.out rfl hzl ?_; intro v3 w3 hD3; refine Hid.out ?_))
        refine Lib.hid ?_
        have HD3 := Lib.hid hD3
        clear hD3 hcell hcnt
        go_wp2_with fail
        go_roundw
        case rel => exact ⟨i, k + 1, _, by omega, by omega, rfl, by go_num, hN, HD3⟩
        case measure => simp [intOf]; omega
      · have hi1 : ¬ (i : Int) < (a.length : Int) := by omega
        have hk1 : ¬ (k : Int) < (b.length : Int) := by omega
        have hE := Lib.hid (show zs = addD a b by have h := hI.out.1; rw [List.drop_of_length_le (by omega), List.drop_of_length_le (by omega)] at h; simpa [addD] using h)
        have hP := Lib.hid hD.out.post
        go_wp2_with fail
        go_ret
        rw [← hE.out]
        exact hP.out
end Go.Proofs.Ytggkggaihfcjmaa
