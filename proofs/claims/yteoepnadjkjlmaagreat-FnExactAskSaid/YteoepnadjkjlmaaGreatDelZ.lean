/-
  Stores into a row of one's own. slices.Clone at a table, slices.IndexFunc and slices.DeleteFunc at impl.Ask's closure.
-/
import Derived.Test.YteoepnadjkjlmaaGreatMakeZ
import Derived.Test.YteoepnadjkjlmaaGreatRowStZ
import Derived.Below
import Derived.Lib.SliceRun
import Derived.Laws.AppendOwn
import Derived.Test.YteoepnadjkjlmaaGreatAns
import Derived.Test.YteoepnadjkjlmaaGreatTGAZ
import Derived.Laws.OwnMore
namespace Go.Proofs.YteoepnadjkjlmaaGreat
open Go.RowKit Go.Sort
set_option linter.unusedVariables false

theorem grown_setc {w w1 : World} {g i : Nat} {u : Value} (h : w.grownBy w1 (some g)) : w.grownBy (w1.setCell ⟨g, i, none⟩ u) (some g) :=
  ⟨h.os, h.tape, h.output, by simpa [World.setCell] using h.size, fun k hk hne => by
    rw [Below.heap_setCell _ _ _ _ (by intro e; exact hne (by rw [e]))]; exact h.block k hk hne⟩
theorem grown_setcs {w : World} {g : Nat} : ∀ (l : List Value) (i : Nat) {w1 : World}, w.grownBy w1 (some g) → w.grownBy (w1.setCells g i l) (some g)
  | [], i, w1, h => h
  | u :: l, i, w1, h => grown_setcs l (i + 1) (grown_setc h)
theorem whole_setcs {g : Nat} {t : TypeId} : ∀ (l : List Value) (i : Nat) {w : World} {cur : List Value}, Whole w g t cur → i + l.length ≤ cur.length → Whole (w.setCells g i l) g t (cur.take i ++ l ++ cur.drop (i + l.length))
  | [], i, w, cur, h, hl => by simpa [World.setCells] using h
  | u :: l, i, w, cur, h, hl => by
    have h1 := whole_setcs l (i + 1) (h.set_ i u) (by simp at hl ⊢; omega)
    have hi : i < cur.length := by simp at hl; omega
    have e : (cur.set i u).take (i + 1) ++ l ++ (cur.set i u).drop (i + 1 + l.length) = cur.take i ++ (u :: l) ++ cur.drop (i + (u :: l).length) := by
      rw [List.take_succ_eq_append_getElem (by simpa using hi), List.take_set_of_le (Nat.le_refl _), List.drop_set_of_lt (by omega)]
      simp [show i + 1 + l.length = i + (l.length + 1) by omega]
    rw [e] at h1
    exact h1

theorem zeroVs : ∀ w, (zeroValue 52).run Tryz.prog w = .ok (.slice none 0 0) w := Tryz.zeroValue52
end Go.Proofs.YteoepnadjkjlmaaGreat
namespace Go.Proofs.YteoepnadjkjlmaaGreat
open Go.RowKit Go.Sort
set_option linter.unusedVariables false

set_option maxRecDepth 100000 in
set_option maxHeartbeats 1600000 in
theorem ask_clo {lo : Nat} (b : Bool) (nm : ByteArray) (xs : List (List GNode)) (ts : List Tr) (row : List GV) (A1 A2 : Option Addr) (c1 c2 ga : Nat) (w : World) (hb : ansB ts row = b) (he : xs = ts.map treeN) (hf : ∀ t ∈ ts, leafT t = true) (hl : ts.length ≤ 8) (hrl : ts.length = row.length) (hr : NodeSsAt w lo w.heap.size A1 xs) (s2 : RowAt w w.heap.size A2 row) (hg : Whole w ga 34 [.string nm, .slice A1 ts.length c1]) :
    Calls Tryz.prog 31 #[.slice A2 row.length c2, .pointer (some ⟨ga, 0, none⟩)] w fun e w' => e = .returned (.bool (!b)) ∧ Below w.heap.size w w' := by
  have p1 : w.cell? ⟨ga, 1, none⟩ = some (.slice A1 ts.length c1) := hg.cell 1
  have HC0 := impl_answers (lo := lo) xs ts row A1 A2 c1 c2 w he hf hl hrl hr s2
  rw [hb] at HC0
  have HC := Lib.hid HC0
  clear HC0 hb
  clear he hf hr s2 hg hrl
  go_enter Tryz.func31, Tryz.ntmps31
  go_wp2_with fail
  refine HC.out.mono ?_
  rintro e w1 ⟨rfl, hb1⟩
  clear p1
  go_wp2_with fail
  go_ret
  exact ⟨rfl, hb1⟩
/-- A row's head and the row. -/
abbrev PH := Value × List GV
/-- What the closure wants, and what lies behind the heads; g: the block of the heads. -/
structure DE (nm : ByteArray) (xs : List (List GNode)) (ts : List Tr) (A1 : Option Addr) (c1 ga lo B g : Nat) (zs : List PH) (w : World) : Prop where
  atom : Whole w ga 34 [.string nm, .slice A1 ts.length c1]
  nodes : NodeSsAt w lo B A1 xs
  rows : ∀ z ∈ zs, ∃ A c, z.1 = .slice A z.2.length c ∧ RowAt w B A z.2
  gab : ga < B
  bg : B ≤ g
  gl : g < w.heap.size
theorem RowAt.same {w w' : World} {B : Nat} {A : Option Addr} {r : List GV} (h : RowAt w B A r) (hs : ∀ b, b < B → w'.heap[b]? = w.heap[b]?) : RowAt w' B A r := by
  rcases h with h4 | ⟨g', o', hA', hg', hc'⟩
  · exact .inl h4
  · exact .inr ⟨g', o', hA', hg', fun i v hv => (hc' i v hv).blk (hs g' hg')⟩
theorem DE.next {nm : ByteArray} {xs : List (List GNode)} {ts : List Tr} {A1 : Option Addr} {c1 ga lo B g : Nat} {zs : List PH} {w w' : World} (h : DE nm xs ts A1 c1 ga lo B g zs w) (hg : w.grownBy w' (some g)) : DE nm xs ts A1 c1 ga lo B g zs w' := by
  have hb : ∀ b, b < B → w'.heap[b]? = w.heap[b]? := fun b hb => hg.block b (by have := h.bg; have := h.gl; omega) (fun e => by cases e; have := h.bg; omega)
  refine ⟨(hb ga h.gab).trans h.atom, h.nodes.keep (fun b _ h2 => hb b h2), fun z hz => ?_, h.gab, h.bg, Nat.lt_of_lt_of_le h.gl hg.size⟩
  obtain ⟨A, c, e, hr⟩ := h.rows z hz
  exact ⟨A, c, e, hr.same hb⟩
def keepZ (ts : List Tr) (z : PH) : Bool := ansB ts z.2
def delZ (ts : List Tr) (zs : List PH) : Nat := zs.findIdx (fun z => !keepZ ts z)
def delI (ts : List Tr) (zs : List PH) : Int := if delZ ts zs < zs.length then (delZ ts zs : Int) else -1
theorem delI_hit {ts : List Tr} {zs : List PH} {k : Nat} (h : delZ ts zs = k) (hk : k < zs.length) : delI ts zs = k := by unfold delI; rw [h, if_pos hk]
theorem delI_none {ts : List Tr} {zs : List PH} (h : ¬ delZ ts zs < zs.length) : delI ts zs = -1 := by unfold delI; rw [if_neg h]
theorem delZ_at (ts : List Tr) (zs : List PH) (k : Nat) (h : k < zs.length) (hk : k ≤ delZ ts zs) : (keepZ ts zs[k] = false → delZ ts zs = k) ∧ (keepZ ts zs[k] = true → k + 1 ≤ delZ ts zs) := by
  unfold delZ at hk ⊢
  constructor
  · intro hb
    rcases Nat.lt_or_ge k (zs.findIdx (fun z => !keepZ ts z)) with h' | h'
    · have := List.not_of_lt_findIdx h'
      simp only [hb] at this
      cases this
    · omega
  · intro hb
    rcases Nat.lt_or_ge k (zs.findIdx (fun z => !keepZ ts z)) with h' | h'
    · exact h'
    · have e : zs.findIdx (fun z => !keepZ ts z) = k := by omega
      have h2 : zs.findIdx (fun z => !keepZ ts z) < zs.length := by omega
      have := List.findIdx_getElem (w := h2)
      simp only [e] at this
      rw [hb] at this
      cases this
theorem delZ_take (ts : List Tr) (zs : List PH) : (zs.take (delZ ts zs)).filter (keepZ ts) = zs.take (delZ ts zs) := by
  rw [List.filter_eq_self]
  intro z hz
  obtain ⟨i, hi, rfl⟩ := List.getElem_of_mem hz
  rw [List.length_take] at hi
  have := List.not_of_lt_findIdx (show i < zs.findIdx (fun z => !keepZ ts z) by unfold delZ at hi; omega)
  rw [List.getElem_take]
  simpa using this
theorem filt_snoc (p : PH → Bool) (zs : List PH) (k : Nat) (h : k < zs.length) : (zs.take (k + 1)).filter p = (zs.take k).filter p ++ (if p zs[k] = true then [zs[k]] else []) := by
  rw [List.take_succ_eq_append_getElem h, List.filter_append]
  congr 1
  by_cases hp : p zs[k] = true
  · rw [if_pos hp, List.filter_cons_of_pos hp]; rfl
  · rw [if_neg hp, List.filter_cons_of_neg hp]; rfl
/-- The heads' block: the heads, and what lies behind them. -/
def HB (w : World) (g : Nat) (zs : List PH) (ex : List Value) : Prop := Whole w g 52 (zs.map (·.1) ++ ex)
theorem HB.cell {w : World} {g k : Nat} {zs : List PH} {ex : List Value} (h : HB w g zs ex) (hk : k < zs.length) : w.cell? ⟨g, k, none⟩ = some zs[k].1 := by
  unfold HB at h
  rw [Whole.cell h, List.getElem?_append_left (by simpa using hk), List.getElem?_map, List.getElem?_eq_getElem hk]
  rfl
set_option maxRecDepth 100000 in
set_option maxHeartbeats 1600000 in
theorem rows_idx {nm : ByteArray} {xs : List (List GNode)} {ts : List Tr} {A1 : Option Addr} {c1 ga lo B g : Nat} {zs : List PH} {ex : List Value} {w : World} (c : Nat) (h : DE nm xs ts A1 c1 ga lo B g zs w) (hh : HB w g zs ex) (he : xs = ts.map treeN) (hf : ∀ t ∈ ts, leafT t = true) (hl : ts.length ≤ 8) (hw : ∀ z ∈ zs, ts.length = z.2.length) (hn : zs.length ≤ 1048576) :
    Calls Tryz.prog 56 #[.slice (some ⟨g, 0, none⟩) zs.length c, .func (.func 31) #[] #[.pointer (some ⟨ga, 0, none⟩)]] w fun e w' => e = .returned (.int .i64 (delI ts zs)) ∧ Below w.heap.size w w' := by
  have HD := Lib.hid h
  have HH := Lib.hid hh
  have HE := Lib.hid he
  have HF := Lib.hid hf
  have HW := Lib.hid hw
  clear h hh he hf hw
  go_enter Tryz.func56, Tryz.ntmps56
  go_wp2_with fail
  go_loopw [8] (fun i w' => ∃ k : Nat, k ≤ zs.length ∧ i = .int .i64 k ∧ Hid (k ≤ delZ ts zs) ∧ Below w.heap.size w w') (fun i _ => zs.length - (intOf i).toNat)
  case atStart => exact ⟨0, Nat.zero_le _, rfl, Lib.hid (Nat.zero_le _), Below.refl _ _⟩
  case round =>
    obtain ⟨k, hk, rfl, hT, hB⟩ := hrel
    by_cases hlt : k < zs.length
    · have hD := HD.out.next (grown_below hB)
      obtain ⟨A', c', hz, hrow⟩ := hD.rows _ (List.getElem_mem hlt)
      have hc0 : wr.cell? ⟨g, k, none⟩ = some (.slice A' zs[k].2.length c') := by
        rw [← hz]; exact (hB.cell (p := ⟨g, k, none⟩) HD.out.gl).trans (HH.out.cell hlt)
      have hi0 : (0 : Int) ≤ (k : Int) := by omega
      have hi1 : (k : Int) < (zs.length : Int) := by omega
      have hst := Lib.hid (delZ_at ts zs k hlt hT.out)
      have HR := Lib.hid hrow
      have HDx := Lib.hid hD
      obtain ⟨b, hbx⟩ : ∃ b, keepZ ts zs[k] = b := ⟨_, rfl⟩
      have HBX := Lib.hid hbx
      have hBs : B ≤ wr.heap.size := by have h1 := HDx.out.bg; have h2 := HDx.out.gl; omega
      clear hbx hz hrow hD
      go_wp2_with fail
      refine (ask_clo (lo := lo) b nm xs ts zs[k].2 A1 A' c1 c' ga _ HBX.out HE.out HF.out hl (HW.out _ (List.getElem_mem hlt)) (HDx.out.nodes.mono (Nat.le_refl _) hBs) (HR.out.mono hBs) HDx.out.atom).mono ?_
      rintro e w2 ⟨rfl, hb2⟩
      have hB2 := below_next hB hb2 rfl rfl
      clear hc0
      cases b with
      | false =>
        have HX := Lib.hid (delI_hit (hst.out.1 HBX.out) hlt)
        go_wp2_with fail
        go_ret
        exact ⟨ret_int (by rw [HX.out]), hB2⟩
      | true =>
        have HX := Lib.hid (hst.out.2 HBX.out)
        go_wp2_with fail
        go_roundw
        case rel => exact ⟨k + 1, by omega, by go_num, HX, hB2⟩
        case measure => simp [intOf]; omega
    · have hi1 : ¬ (k : Int) < (zs.length : Int) := by omega
      have HX := Lib.hid (delI_none (ts := ts) (zs := zs) (by have := hT.out; omega))
      go_wp2_with fail
      go_ret
      exact ⟨ret_int (by rw [HX.out]), hB⟩
/-- The state of slices.DeleteFunc's second loop: behind place j, kk of the heads are kept. -/
structure DSt (ts : List Tr) (g : Nat) (zs : List PH) (ex : List Value) (w0 : World) (j kk : Nat) (w : World) : Prop where
  cur : ∃ cur : List Value, Whole w g 52 cur ∧ cur.length = zs.length + ex.length ∧ cur.take kk = ((zs.take j).filter (keepZ ts)).map (·.1) ∧ ∀ m, j ≤ m → cur[m]? = (zs.map (·.1) ++ ex)[m]?
  len : ((zs.take j).filter (keepZ ts)).length = kk
  lt : kk < j
  grown : w0.grownBy w (some g)
theorem DSt.start {ts : List Tr} {g : Nat} {zs : List PH} {ex : List Value} {w0 w : World} {k : Nat} (hh : HB w g zs ex) (hk : k < zs.length) (he : delZ ts zs = k) (hw : w0.grownBy w (some g)) (hd : keepZ ts zs[k] = false) : DSt ts g zs ex w0 (k + 1) k w := by
  have h1 := delZ_take ts zs
  rw [he] at h1
  have h2 : (zs.take (k + 1)).filter (keepZ ts) = zs.take k := by rw [filt_snoc _ _ _ hk, h1, if_neg (by rw [hd]; decide), List.append_nil]
  refine ⟨⟨_, hh, by simp, ?_, fun m _ => rfl⟩, by rw [h2, List.length_take]; omega, by omega, hw⟩
  rw [h2, List.take_append_of_le_length (by simp; omega), List.map_take]
theorem DSt.cell {ts : List Tr} {g : Nat} {zs : List PH} {ex : List Value} {w0 w : World} {j kk : Nat} (h : DSt ts g zs ex w0 j kk w) (hj : j < zs.length) : w.cell? ⟨g, j, none⟩ = some zs[j].1 := by
  obtain ⟨cur, h1, h2, h3, h4⟩ := h.cur
  rw [h1.cell, h4 j (Nat.le_refl _), List.getElem?_append_left (by simpa using hj), List.getElem?_map, List.getElem?_eq_getElem hj]
  rfl
theorem DSt.skip {ts : List Tr} {g : Nat} {zs : List PH} {ex : List Value} {w0 w w' : World} {j kk : Nat} (h : DSt ts g zs ex w0 j kk w) (hj : j < zs.length) (hd : keepZ ts zs[j] = false) (hb : Below w.heap.size w w') : DSt ts g zs ex w0 (j + 1) kk w' := by
  obtain ⟨⟨cur, h1, h2, h3, h4⟩, h5, h6, h7⟩ := h
  have e : (zs.take (j + 1)).filter (keepZ ts) = (zs.take j).filter (keepZ ts) := by rw [filt_snoc _ _ _ hj, if_neg (by rw [hd]; decide), List.append_nil]
  exact ⟨⟨cur, h1.below hb h1.lt, h2, by rw [e]; exact h3, fun m hm => h4 m (by omega)⟩, by rw [e]; exact h5, by omega, grown_next h7 (grown_below hb)⟩
theorem DSt.put {ts : List Tr} {g : Nat} {zs : List PH} {ex : List Value} {w0 w w' : World} {j kk : Nat} (h : DSt ts g zs ex w0 j kk w) (hj : j < zs.length) (hd : keepZ ts zs[j] = true) (hb : Below w.heap.size w w') :
    (∃ u, w'.cell? ⟨g, kk, none⟩ = some u) ∧ w'.frozen? ⟨g, kk, none⟩ = false ∧ DSt ts g zs ex w0 (j + 1) (kk + 1) (w'.setCell ⟨g, kk, none⟩ zs[j].1) := by
  obtain ⟨⟨cur, h1, h2, h3, h4⟩, h5, h6, h7⟩ := h
  have h9 := h1.below hb h1.lt
  have hkk : kk < cur.length := by omega
  have e : (zs.take (j + 1)).filter (keepZ ts) = (zs.take j).filter (keepZ ts) ++ [zs[j]] := by rw [filt_snoc _ _ _ hj, if_pos hd]
  refine ⟨⟨cur[kk], by rw [h9.cell, List.getElem?_eq_getElem hkk]⟩, h9.frozen _, ⟨cur.set kk zs[j].1, h9.set_ _ _, by simpa using h2, ?_, fun m hm => ?_⟩, by rw [e]; simp [h5], by omega, grown_setc (grown_next h7 (grown_below hb))⟩
  · rw [e, List.take_succ_eq_append_getElem (by simpa using hkk), List.take_set_of_le (Nat.le_refl _), h3]
    simp
  · rw [List.getElem?_set_ne (by omega)]; exact h4 m (by omega)
/-- The heads in memory as a table. -/
theorem heads_tab {nm : ByteArray} {xs : List (List GNode)} {ts : List Tr} {A1 : Option Addr} {c1 ga lo B g : Nat} {zs zt : List PH} {w : World} {cur : List Value} (h : DE nm xs ts A1 c1 ga lo B g zs w) (hs : ∀ z ∈ zt, z ∈ zs) (hw : Whole w g 52 cur) (hc : cur.take zt.length = zt.map (·.1)) : TabAt w w.heap.size (some ⟨g, 0, none⟩) (zt.map (·.2)) := by
  refine .inr ⟨g, 0, rfl, h.gl, fun i r hr => ?_⟩
  rw [List.getElem?_map, Option.map_eq_some_iff] at hr
  obtain ⟨z, hz, rfl⟩ := hr
  obtain ⟨A, c, e, hrow⟩ := h.rows z (hs z (List.mem_of_getElem? hz))
  have hi : i < zt.length := (List.getElem?_eq_some_iff.1 hz).1
  refine ⟨A, c, ?_, hrow.mono (by have := h.bg; have := h.gl; omega)⟩
  rw [Nat.zero_add, hw.cell, ← List.getElem?_take_of_lt hi, hc, List.getElem?_map, hz, Option.map_some, e]
theorem DSt.fin {ts : List Tr} {g c : Nat} {zs : List PH} {ex : List Value} {w0 w : World} {j kk : Nat} (h : DSt ts g zs ex w0 j kk w) (hj : zs.length ≤ j) (hj2 : j ≤ zs.length) (hc : c = zs.length + ex.length) :
    (∀ i, i < zs.length - kk → (w.cell? ⟨g, kk + i, none⟩).isSome = true) ∧ (∀ i, i < zs.length - kk → w.frozen? ⟨g, kk + i, none⟩ = false) ∧ kk = (zs.filter (keepZ ts)).length ∧ kk < zs.length ∧
      (∃ cur, Whole (w.setCells g kk (List.replicate (zs.length - kk) (.slice none 0 0))) g 52 cur ∧ cur.take kk = (zs.filter (keepZ ts)).map (·.1)) ∧ w0.grownBy (w.setCells g kk (List.replicate (zs.length - kk) (.slice none 0 0))) (some g) := by
  obtain ⟨⟨cur, h1, h2, h3, h4⟩, h5, h6, h7⟩ := h
  rw [List.take_of_length_le hj] at h3 h5
  refine ⟨fun i hi => by rw [h1.cell, List.getElem?_eq_getElem (by omega)]; rfl, fun i hi => h1.frozen _, h5.symm, by omega, ?_, grown_setcs _ _ h7⟩
  have h9 := whole_setcs (List.replicate (zs.length - kk) (.slice none 0 0)) kk h1 (by simp; omega)
  refine ⟨_, h9, ?_⟩
  rw [List.append_assoc, List.take_append_of_le_length (by rw [List.length_take]; omega), List.take_take, Nat.min_self, h3]
end Go.Proofs.YteoepnadjkjlmaaGreat
