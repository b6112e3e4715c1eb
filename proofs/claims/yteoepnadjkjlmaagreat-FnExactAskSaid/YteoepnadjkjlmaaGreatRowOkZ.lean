/-
  slices.Clone at a table; slices.DeleteFunc at impl.Ask's closure. impl.all over expressions: each has one node (written from XAllExpr by a program). Contracts of spec.l1RowOk and impl.rowOk: both answer rowOkB.
-/
import Derived.Test.YteoepnadjkjlmaaGreatDelZ
import Derived.Test.YteoepnadjkjlmaaGreatExprOkZ
import Derived.Test.YteoepnadjkjlmaaGreatDbOkMZ
import Derived.Test.YteoepnadjkjlmaaGreatMemZ
import Derived.Test.YteoepnadjkjlmaaGreatValueOkZ
import Derived.Test.YteoepnadjkjlmaaGreatRowOkSZ
namespace Go.Proofs.YteoepnadjkjlmaaGreat
open Go.RowKit Go.Sort
set_option linter.unusedVariables false

/-- What slices.DeleteFunc leaves. -/
def DelPost (ts : List Tr) (g c : Nat) (zs : List PH) (w : World) (e : Ending) (w' : World) : Prop :=
  e = .returned (.slice (some ⟨g, 0, none⟩) (zs.filter (keepZ ts)).length c) ∧ (∃ cur, Whole w' g 52 cur ∧ cur.take (zs.filter (keepZ ts)).length = (zs.filter (keepZ ts)).map (·.1)) ∧ w.grownBy w' (some g)
set_option maxRecDepth 100000 in
set_option maxHeartbeats 4000000 in
theorem del_rows {nm : ByteArray} {xs : List (List GNode)} {ts : List Tr} {A1 : Option Addr} {c1 ga lo B g : Nat} {zs : List PH} {ex : List Value} {w : World} (c : Nat) (h : DE nm xs ts A1 c1 ga lo B g zs w) (hh : HB w g zs ex) (hc : c = zs.length + ex.length) (hcm : c ≤ 9223372036854775807) (he : xs = ts.map treeN) (hf : ∀ t ∈ ts, leafT t = true) (hl : ts.length ≤ 8) (hw : ∀ z ∈ zs, ts.length = z.2.length) (hn : zs.length ≤ 1048576) :
    Calls Tryz.prog 29 #[.slice (some ⟨g, 0, none⟩) zs.length c, .func (.func 31) #[] #[.pointer (some ⟨ga, 0, none⟩)]] w (DelPost ts g c zs w) := by
  have HD := Lib.hid h
  have HH := Lib.hid hh
  have HE := Lib.hid he
  have HF := Lib.hid hf
  have HW := Lib.hid hw
  have HC := Lib.hid hc
  have hcn : zs.length ≤ c := by omega
  have HIX := Lib.hid (rows_idx c h hh he hf hl hw hn)
  clear h hh he hf hw hc
  by_cases hd : delZ ts zs < zs.length
  · obtain ⟨k, hk⟩ : ∃ k, delZ ts zs = k := ⟨_, rfl⟩
    rw [hk] at hd
    have hdk : keepZ ts zs[k] = false := by
      have h1 := List.findIdx_getElem (xs := zs) (p := fun z => !keepZ ts z) (w := by unfold delZ at hk; omega)
      unfold delZ at hk
      simp only [hk] at h1
      simpa using h1
    have HI := Lib.hid (delI_hit hk hd)
    have HK := Lib.hid hk
    have HDK := Lib.hid hdk
    have hm1 : ((k : Int) == -1) = false := by simp
    clear hk hdk
    go_enter Tryz.func29, Tryz.ntmps29
    go_wp2_with fail
    refine HIX.out.mono ?_
    rintro e w1 ⟨rfl, hb1⟩
    rw [HI.out]
    have HS := Lib.hid (DSt.start (w0 := w) (show HB w1 g zs ex from Whole.below HH.out hb1 HD.out.gl) hd HK.out (grown_below hb1) HDK.out)
    clear hb1
    go_wp2_with fail
    go_loopw [5, 6] (fun s5 s6 w' => ∃ kk j : Nat, s5 = .int .i64 kk ∧ s6 = .int .i64 j ∧ j ≤ zs.length ∧ kk < j ∧ Hid (DSt ts g zs ex w j kk w')) (fun _ s6 _ => zs.length - (intOf s6).toNat)
    case atStart => exact ⟨k, k + 1, rfl, by go_num, by omega, by omega, HS⟩
    case round =>
      obtain ⟨kk, j, rfl, rfl, hj, hkj, hS⟩ := hrel
      by_cases hlt : j < zs.length
      · have hDr := HD.out.next hS.out.grown
        obtain ⟨A', c', hz, hrow⟩ := hDr.rows _ (List.getElem_mem hlt)
        have hc0 : wr.cell? ⟨g, j, none⟩ = some (.slice A' zs[j].2.length c') := by rw [← hz]; exact hS.out.cell hlt
        have hi0 : (0 : Int) ≤ (j : Int) := by omega
        have hi1 : (j : Int) < (zs.length : Int) := by omega
        have hi2 : (0 : Int) ≤ (kk : Int) := by omega
        have hi3 : (kk : Int) < (zs.length : Int) := by omega
        have hBs : B ≤ wr.heap.size := by have h1 := hDr.bg; have h2 := hDr.gl; omega
        have HR := Lib.hid hrow
        have HDx := Lib.hid hDr
        have HZ := Lib.hid hz
        obtain ⟨b, hbx⟩ : ∃ b, keepZ ts zs[j] = b := ⟨_, rfl⟩
        have HBX := Lib.hid hbx
        clear hbx hz hrow hDr
        go_wp2_with fail
        refine (ask_clo (lo := lo) b nm xs ts zs[j].2 A1 A' c1 c' ga _ HBX.out HE.out HF.out hl (HW.out _ (List.getElem_mem hlt)) (HDx.out.nodes.mono (Nat.le_refl _) hBs) (HR.out.mono hBs) HDx.out.atom).mono ?_
        rintro e w2 ⟨rfl, hb2⟩
        clear hc0
        cases b with
        | true =>
          obtain ⟨⟨u, hu⟩, hfz, hs2⟩ := hS.out.put hlt HBX.out hb2
          rw [HZ.out] at hs2
          have HS2 := Lib.hid hs2
          clear hs2 hb2
          go_wp2_with fail
          go_roundw
          case rel => exact ⟨kk + 1, j + 1, by go_num, by go_num, by omega, by omega, HS2⟩
          case measure => simp [intOf]; omega
        | false =>
          have HS2 := Lib.hid (hS.out.skip hlt HBX.out hb2)
          clear hb2
          go_wp2_with fail
          go_roundw
          case rel => exact ⟨kk, j + 1, rfl, by go_num, by omega, by omega, HS2⟩
          case measure => simp [intOf]; omega
      · obtain ⟨a1, a2, a3, a4, a5, a6⟩ := hS.out.fin (c := c) (by omega) (by omega) HC.out
        have hclr : ∀ ty, (Builtin.clear_ #[28] ty #[.slice (some ⟨g, kk, none⟩) (zs.length - kk) (c - kk)]).run Tryz.prog wr = .ok (.tuple #[]) (wr.setCells g kk (List.replicate (zs.length - kk) (.slice none 0 0))) :=
          fun ty => Lib.run_clear_slice wr 28 52 ty _ Tryz.underlying28 zeroVs rfl rfl g kk _ _ (by omega) a1 a2
        have A3 := Lib.hid a3
        have A5 := Lib.hid a5
        have A6 := Lib.hid a6
        clear a1 a2 a3 a5 a6
        have i1 : ¬ (j : Int) < (zs.length : Int) := by omega
        have i2 : kk ≤ zs.length := by omega
        have i3 : kk < c := by omega
        have i4 : kk ≤ c := by omega
        go_wp2_with fail
        go_ret
        exact ⟨by rw [← A3.out]; rfl, by rw [← A3.out]; exact A5.out, A6.out⟩
  · have HI := Lib.hid (delI_none hd)
    have HFL := Lib.hid (show zs.filter (keepZ ts) = zs by have h1 := delZ_take ts zs; rwa [List.take_of_length_le (by omega)] at h1)
    go_enter Tryz.func29, Tryz.ntmps29
    go_wp2_with fail
    refine HIX.out.mono ?_
    rintro e w1 ⟨rfl, hb1⟩
    rw [HI.out]
    have HS := Lib.hid (show Whole w1 g 52 (zs.map (·.1) ++ ex) from Whole.below HH.out hb1 HD.out.gl)
    go_wp2_with fail
    go_ret
    exact ⟨by rw [HFL.out]; rfl, ⟨_, HS.out, by rw [HFL.out, List.take_append_of_le_length (by simp), List.take_of_length_le (by simp)]⟩, grown_below hb1⟩
set_option maxRecDepth 100000 in
theorem idx_nil (ga c : Nat) (w : World) : Calls Tryz.prog 56 #[.slice none 0 c, .func (.func 31) #[] #[.pointer (some ⟨ga, 0, none⟩)]] w fun e w' => e = .returned (.int .i64 (-1)) ∧ w = w' := by
  go_enter Tryz.func56, Tryz.ntmps56
  go_wp2_with fail
  go_loopw [8] (fun i w' => i = .int .i64 0 ∧ w = w') (fun _ _ => 0)
  case atStart => exact ⟨rfl, rfl⟩
  case round =>
    obtain ⟨rfl, rfl⟩ := hrel
    go_wp2_with fail
    go_ret
    exact ⟨rfl, rfl⟩
set_option maxRecDepth 100000 in
theorem del_nil (ga c : Nat) (w : World) : Calls Tryz.prog 29 #[.slice none 0 c, .func (.func 31) #[] #[.pointer (some ⟨ga, 0, none⟩)]] w fun e w' => e = .returned (.slice none 0 c) ∧ w = w' := by
  go_enter Tryz.func29, Tryz.ntmps29
  go_wp2_with fail
  refine (idx_nil ga c w).mono ?_
  rintro e w1 ⟨rfl, rfl⟩
  go_wp2_with fail
  go_ret
  exact ⟨rfl, rfl⟩
theorem list_ofP {α β : Type} : ∀ (xs : List α) (P : Nat → β → α → Prop), (∀ i x, xs[i]? = some x → ∃ h, P i h x) → ∃ hs : List β, hs.length = xs.length ∧ ∀ i h x, hs[i]? = some h → xs[i]? = some x → P i h x
  | [], P, _ => ⟨[], rfl, fun i h x h1 _ => by simp at h1⟩
  | y :: r, P, hp => by
    obtain ⟨h0, hh0⟩ := hp 0 y rfl
    obtain ⟨hs, hl, hr⟩ := list_ofP r (fun i h x => P (i + 1) h x) (fun i x hx => hp (i + 1) x (by simpa using hx))
    refine ⟨h0 :: hs, by simp [hl], fun i h x h1 h2 => ?_⟩
    cases i with
    | zero => simp at h1 h2; subst h1 h2; exact hh0
    | succ i => exact hr i h x (by simpa using h1) (by simpa using h2)
/-- The heads that a table holds, with their rows. -/
theorem heads_ofT {w : World} {B : Nat} {A : Option Addr} {rows : List (List GV)} (h : TabAt w B A rows) : ∃ zs : List PH, zs.map (·.2) = rows ∧ (∀ z ∈ zs, ∃ A c, z.1 = .slice A z.2.length c ∧ RowAt w B A z.2) ∧ (A = none → rows.length = 0) ∧ ∀ ad, A = some ad → ∀ j u, (zs.map (·.1))[j]? = some u → w.cell? (ad.add j) = some u := by
  rcases h with rfl | ⟨g, o, rfl, hg, hc⟩
  · exact ⟨[], rfl, by simp, fun _ => rfl, fun ad _ j u hu => by simp at hu⟩
  · obtain ⟨hs, hl, hr⟩ := list_ofP rows (fun i h r => w.cell? ⟨g, o + i, none⟩ = some h ∧ ∃ A c, h = .slice A r.length c ∧ RowAt w B A r) (fun i x hx => by
      obtain ⟨A', c', h1, h2⟩ := hc i x hx
      exact ⟨_, h1, A', c', rfl, h2⟩)
    have e1 : (hs.zip rows).map (·.2) = rows := by rw [List.map_snd_zip]; omega
    have e2 : (hs.zip rows).map (·.1) = hs := by rw [List.map_fst_zip]; omega
    refine ⟨hs.zip rows, e1, fun z hz => ?_, (fun e => by cases e), fun ad e j u hu => ?_⟩
    · obtain ⟨i, hi, rfl⟩ := List.getElem_of_mem hz
      rw [List.length_zip] at hi
      rw [List.getElem_zip]
      exact (hr i _ _ (List.getElem?_eq_getElem (by omega)) (List.getElem?_eq_getElem (by omega))).2
    · cases e
      rw [e2] at hu
      have hj : j < rows.length := by rw [← hl]; exact (List.getElem?_eq_some_iff.1 hu).1
      rw [Addr.add_lit]
      exact (hr j u _ hu (List.getElem?_eq_getElem hj)).1
end Go.Proofs.YteoepnadjkjlmaaGreat
namespace Go.Proofs.YteoepnadjkjlmaaGreat
open Go.RowKit Go.Sort
set_option linter.unusedVariables false

theorem ok_oneA {lo : Nat} (x : List GNode) (A0 : Option Addr) (c0 : Nat) (w : World) (hf : fitNodeS x) (hk : costNodeS x ≤ 1048576) (q0 : CapOk x.length c0) (s0 : NodesAt w lo w.heap.size A0 x) : Calls Tryz.prog 54 #[.slice A0 x.length c0] w fun e w' => e = .returned (.bool (oneB x)) ∧ Below w.heap.size w w' := by
  have hx : ((x.length : Int) == 1) = oneB x := by unfold oneB; rw [Bool.eq_iff_iff]; simp; omega
  have HX := Lib.hid hx
  clear hx
  go_enter Tryz.func54, Tryz.ntmps54
  go_wp2_with fail
  go_ret
  exact ⟨ret_bool HX.out, Below.refl _ _⟩
set_option maxHeartbeats 800000 in
theorem all_One_clo {lo : Nat} (x : List GNode) (A0 : Option Addr) (c0 : Nat) (b : Bool) (g : Nat) (w : World) (hb : oneB x = b) (hf : fitNodeS x) (hk : costNodeS x ≤ 1048576) (q0 : CapOk x.length c0) (s0 : NodesAt w lo w.heap.size A0 x) (hg : w.cell? ⟨g, 0, none⟩ = some (.func (.func 54) #[] #[])) :
    Calls Tryz.prog 77 #[.slice A0 x.length c0, .pointer (some ⟨g, 0, none⟩)] w fun e w' => e = .returned (.bool (!b)) ∧ Below w.heap.size w w' := by
  have hgl : g < w.heap.size := World.block_lt_of_cell? w ⟨g, 0, none⟩ hg
  have hB0 : Below w.heap.size w w := Below.refl _ _
  go_enter Tryz.func77, Tryz.ntmps77
  go_wp2_with fail
  refine (ok_oneA x A0 c0 _ hf hk q0 (s0.to_ hB0)).mono ?_
  rintro e w1 ⟨rfl, hb1⟩
  have hB1 := below_next hB0 hb1 rfl rfl
  rw [hb]
  go_wp2_with fail
  go_ret
  exact ⟨rfl, hB1⟩
theorem all_One_snoc (xs : List (List GNode)) (k : Nat) (h : k < xs.length) : (xs.take (k + 1)).all oneB = ((xs.take k).all oneB && oneB xs[k]) := by
  rw [List.take_succ_eq_append_getElem h, List.all_append]; simp
theorem all_One_bad (xs : List (List GNode)) (k : Nat) (h : k < xs.length) (hb : oneB xs[k] = false) : xs.all oneB = false := by
  rw [List.all_eq_false]; exact ⟨xs[k], List.getElem_mem h, by simp [hb]⟩
set_option maxHeartbeats 1600000 in
theorem all_One_index {lo : Nat} (A : Option Addr) (c g : Nat) (xs : List (List GNode)) (w : World) (hf : fitNodeSs xs) (hk : costNodeSs xs ≤ 1048576) (hr : NodeSsAt w lo w.heap.size A xs) (hg : w.cell? ⟨g, 0, none⟩ = some (.func (.func 54) #[] #[])) :
    Calls Tryz.prog 57 #[.slice A xs.length c, .func (.func 77) #[] #[.pointer (some ⟨g, 0, none⟩)]] w fun e w' => ∃ z : Int, e = .returned (.int .i64 z) ∧ decide (0 ≤ z) = (!xs.all oneB) ∧ Below w.heap.size w w' := by
  have hl : xs.length ≤ 1048576 := by unfold costNodeSs at hk; omega
  have FX := Lib.hid hf.2
  have HK := Lib.hid hk
  have HR := Lib.hid hr
  have HG := Lib.hid hg
  have hgl : g < w.heap.size := World.block_lt_of_cell? w ⟨g, 0, none⟩ hg
  clear hf hk hr hg
  go_enter Tryz.func57, Tryz.ntmps57
  go_wp2_with fail
  go_loopw [8] (fun i w' => ∃ k : Nat, k ≤ xs.length ∧ i = .int .i64 k ∧ Hid ((xs.take k).all oneB = true) ∧ Below w.heap.size w w') (fun i _ => xs.length - (intOf i).toNat)
  case atStart => exact ⟨0, Nat.zero_le _, rfl, Lib.hid rfl, Below.refl _ _⟩
  case round =>
    obtain ⟨k, hk, rfl, hal, hB⟩ := hrel
    by_cases hlt : k < xs.length
    · obtain ⟨g1, o1, rfl, hg0, hg1, he⟩ := (HR.out.to_ hB).at_ hlt
      have hi0 : (0 : Int) ≤ (k : Int) := by omega
      have hi1 : (k : Int) < (xs.length : Int) := by omega
      have hm := FX.out _ (List.getElem_mem hlt)
      have hck : costNodeS xs[k] ≤ 1048576 := by have h1 := HK.out; have h2 := sumC_mem costNodeS xs _ (List.getElem_mem hlt); unfold costNodeSs at h1; omega
      have hgc : wr.cell? ⟨g, 0, none⟩ = some (.func (.func 54) #[] #[]) := (hB.cell (p := ⟨g, 0, none⟩) hgl).trans HG.out
      have hsn := Lib.hid (all_One_snoc xs k hlt)
      obtain ⟨A0, c0, ⟨h0y, q0⟩, s0⟩ := he
      obtain ⟨b, hbx⟩ : ∃ b, oneB xs[k] = b := ⟨_, rfl⟩
      have HB := Lib.hid hbx
      clear hbx
      go_wp2_with fail
      refine (all_One_clo xs[k] A0 c0 b g _ HB.out hm hck q0 s0 hgc).mono ?_
      rintro e w2 ⟨rfl, hb2⟩
      have hB2 := below_next hB hb2 rfl rfl
      clear h0y hgc
      cases b with
      | true =>
        have HX := Lib.hid (show (xs.take (k + 1)).all oneB = true by rw [hsn.out, hal.out, HB.out]; rfl)
        go_wp2_with fail
        go_roundw
        case rel => exact ⟨k + 1, by omega, by go_num, HX, hB2⟩
        case measure => simp [intOf]; omega
      | false =>
        have HX := Lib.hid (all_One_bad xs k hlt HB.out)
        go_wp2_with fail
        go_ret
        exact ⟨k, rfl, by rw [HX.out]; simp, hB2⟩
    · have hi1 : ¬ (k : Int) < (xs.length : Int) := by omega
      have HX := Lib.hid (show xs.all oneB = true by have h := hal.out; rwa [List.take_of_length_le (by omega)] at h)
      go_wp2_with fail
      go_ret
      exact ⟨-1, rfl, by rw [HX.out]; rfl, hB⟩
theorem all_One_contains {lo : Nat} (A : Option Addr) (c g : Nat) (xs : List (List GNode)) (w : World) (hf : fitNodeSs xs) (hk : costNodeSs xs ≤ 1048576) (hr : NodeSsAt w lo w.heap.size A xs) (hg : w.cell? ⟨g, 0, none⟩ = some (.func (.func 54) #[] #[])) :
    Calls Tryz.prog 76 #[.slice A xs.length c, .func (.func 77) #[] #[.pointer (some ⟨g, 0, none⟩)]] w fun e w' => e = .returned (.bool (!xs.all oneB)) ∧ Below w.heap.size w w' := by
  go_enter Tryz.func76, Tryz.ntmps76
  go_wp2_with fail
  refine (all_One_index A c g xs _ hf hk hr hg).mono ?_
  rintro e w1 ⟨z, rfl, hz, hb1⟩
  have HZ := Lib.hid hz
  clear hz
  go_wp2_with fail
  go_ret
  exact ⟨ret_bool HZ.out, hb1⟩
theorem all_One {lo : Nat} (A : Option Addr) (c : Nat) (xs : List (List GNode)) (w : World) (hf : fitNodeSs xs) (hk : costNodeSs xs ≤ 1048576) (hr : NodeSsAt w lo w.heap.size A xs) :
    Calls Tryz.prog 53 #[.slice A xs.length c, .func (.func 54) #[] #[]] w fun e w' => e = .returned (.bool (xs.all oneB)) ∧ Below w.heap.size w w' := by
  have hB0 : Below w.heap.size w (w.alloc (.cells #[.func (.func 54) #[] #[]] 77)) := (Below.refl _ _).alloc (Nat.le_refl _) _
  go_enter Tryz.func53, Tryz.ntmps53
  go_wp2_with fail
  refine (all_One_contains A c w.heap.size xs _ hf hk (hr.to_ hB0) (by go_simp)).mono ?_
  rintro e w1 ⟨rfl, hb1⟩
  have hB1 := below_next hB0 hb1 rfl rfl
  obtain ⟨b, hbx⟩ : ∃ b, xs.all oneB = b := ⟨_, rfl⟩
  have HBX := Lib.hid hbx
  rw [hbx]
  clear hbx
  go_wp2_with fail
  go_ret
  exact ⟨ret_bool (by rw [HBX.out]), hB1⟩

theorem all_one_is {lo : Nat} (b : Bool) (A : Option Addr) (c : Nat) (xs : List (List GNode)) (w : World) (h : xs.all oneB = b) (hf : fitNodeSs xs) (hk : costNodeSs xs ≤ 1048576) (hr : NodeSsAt w lo w.heap.size A xs) :
    Calls Tryz.prog 53 #[.slice A xs.length c, .func (.func 54) #[] #[]] w fun e w' => e = .returned (.bool b) ∧ Below w.heap.size w w' := by
  subst h; exact all_One A c xs w hf hk hr
end Go.Proofs.YteoepnadjkjlmaaGreat
namespace Go.Proofs.YteoepnadjkjlmaaGreat
open Go.RowKit
set_option linter.unusedVariables false

set_option maxHeartbeats 800000 in
theorem impl_row (A : Option Addr) (c : Nat) (r : List GV) (w : World) (hr : RowAt w w.heap.size A r) (hl : r.length ≤ 1048576) (hv : ∀ v ∈ r, v.t.size ≤ maxLen) :
    Calls Tryz.prog 87 #[.slice A r.length c] w fun e w' => e = .returned (.bool (rowOkB r)) ∧ Below w.heap.size w w' := by
  by_cases h8 : (8 : Int) < r.length
  · have H := Lib.hid (show rowOkB r = false by unfold rowOkB; simp; omega)
    go_enter Tryz.func87, Tryz.ntmps87
    go_wp2
    go_ret
    exact ⟨ret_bool (by rw [H.out]), Below.refl _ _⟩
  go_enter Tryz.func87, Tryz.ntmps87
  go_wp2
  go_loopw [10] (fun i w' => ∃ k : Nat, k ≤ r.length ∧ i = .int .i64 k ∧ Hid ((r.take k).all okG = true) ∧ Below w.heap.size w w') (fun i _ => r.length - (intOf i).toNat)
  case atStart => exact ⟨0, Nat.zero_le _, rfl, Lib.hid rfl, Below.refl _ _⟩
  case round =>
    obtain ⟨k, hk, rfl, hal, hB⟩ := hrel
    by_cases hlt : k < r.length
    · obtain ⟨g, o, rfl, hg, c0, c1, c2⟩ := (hr.to_ hB).at_ hlt
      have hm := hv _ (List.getElem_mem hlt)
      have hsn := Lib.hid (all_take_snoc r k hlt)
      go_wp2_with fail
      refine (impl_value _ _ _ _ hm).mono ?_
      rintro e w2 ⟨rfl, hb2⟩
      have hB2 : Below w.heap.size w w2 := (hB.alloc hB.size _).trans (hb2.mono (by have := hB.size; simp; omega))
      clear c0 c1 c2
      by_cases hok : okG r[k] = true
      · have hb : valueOkB r[k].k r[k].n r[k].t = true := hok
        have H := Lib.hid (show (r.take (k + 1)).all okG = true by rw [hsn.out, hal.out, hok]; rfl)
        clear hok
        go_wp2_with fail
        go_roundw
        case rel => exact ⟨k + 1, by omega, by go_num, H, hB2⟩
        case measure => simp [intOf]; omega
      · have hb : valueOkB r[k].k r[k].n r[k].t = false := by rw [Bool.not_eq_true] at hok; exact hok
        have H := Lib.hid (show rowOkB r = false by unfold rowOkB; rw [all_bad r k hlt hb]; rfl)
        clear hok
        go_wp2_with fail
        go_ret
        exact ⟨ret_bool (by rw [H.out]), hB2⟩
    · have H := Lib.hid (show rowOkB r = true by
        have h := hal.out
        rw [List.take_of_length_le (by omega)] at h
        unfold rowOkB; rw [h]; simp; omega)
      go_wp2_with fail
      go_ret
      exact ⟨ret_bool (by rw [H.out]), hB⟩
end Go.Proofs.YteoepnadjkjlmaaGreat
