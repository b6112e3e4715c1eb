/-
  Lists of rows of the call's own, while they are built. spec.l1Copy. spec.l4Distinct, spec.l1Copy and spec.Distinct.
-/
import Derived.Test.YtemcpdpbikgfcaaToVsZ
import Derived.Test.YtemcpdpbikgfcaaTabMZ
import Derived.Test.YtemcpdpbikgfcaaCopyDZ
import Derived.Test.YtemcpdpbikgfcaaDiffOkSZ
namespace Go.Proofs.Ytemcpdpbikgfcaa
open Go.RowKit Go.Sort
set_option linter.unusedVariables false

/-- A row's head and the row. -/
abbrev TH := (Option Addr × Nat) × List GV
def thV (p : TH) : Value := .slice p.1.1 p.2.length p.1.2
def THok (w : World) (N : Nat) (p : TH) : Prop := RowSt w N p.1.1 p.2 ∧ CapOk p.2.length p.1.2
theorem RowSt.keepV {w w' : World} {N : Nat} {A : Option Addr} {xs : List GV} (h : RowSt w N A xs) (hb : Below N w w') (hk : KeepT 53 w w') : RowSt w' N A xs := by
  rcases h with h | ⟨g, o, hA, hg, hs, hc⟩
  · exact .inl h
  · have he : w'.heap[g]? = w.heap[g]? := by
      rcases hs with h' | ⟨cur, fr, h'⟩
      · exact hb.block g h'
      · exact hk g hg (fun cur' fr' e => by rw [h'] at e; cases e)
    refine .inr ⟨g, o, hA, Nat.lt_of_lt_of_le hg hb.size, ?_, fun i x hx => (hc i x hx).blk he⟩
    rcases hs with h' | ⟨cur, fr, h'⟩
    · exact .inl h'
    · exact .inr ⟨cur, fr, he.trans h'⟩
/-- A list of rows that a call builds: w0 is the world at its beginning. -/
structure TAcc (w0 w : World) (v : Value) (rows : List (List GV)) : Prop where
  own : ∃ ps : List TH, ps.map (·.2) = rows ∧ w.ownsRow w0.heap.size 53 1 v rows.length (ps.map thV) ∧ ∀ p ∈ ps, THok w w0.heap.size p
  ne : v ≠ .slice none 0 0
  low : Below w0.heap.size w0 w
theorem TAcc.start {w0 w : World} {n : Nat} (h : Below w0.heap.size w0 w) (hn : w.heap.size = n) : TAcc w0 (w.alloc (.cells #[] 53)) (.slice (some ⟨n, 0, none⟩) 0 0) [] := by
  subst hn; exact ⟨⟨[], rfl, World.ownsRow_made w #[] 0 h.size (Nat.zero_le _) rfl, fun p hp => by simp at hp⟩, by simp, h.alloc h.size _⟩
theorem TAcc.made {w0 w : World} {n m : Nat} (h : Below w0.heap.size w0 w) (hn : w.heap.size = n) (hm : m ≤ maxLen) : TAcc w0 (w.alloc (.cells (madeCells #[.slice none 0 0] m) 53)) (.slice (some ⟨n, 0, none⟩) 0 m) [] := by
  subst hn
  refine ⟨⟨[], rfl, ?_, fun p hp => by simp at hp⟩, by simp, h.alloc h.size _⟩
  simpa using World.ownsRow_made (base := w0.heap.size) (e := 53) (size := 1) w (madeCells #[.slice none 0 0] m) m h.size hm (by simp [size_madeCells])
theorem TAcc.slice {w0 w : World} {v : Value} {rows : List (List GV)} (h : TAcc w0 w v rows) : ∃ A c, v = .slice A rows.length c ∧ CapOk rows.length c := by
  obtain ⟨ps, e, ho, _⟩ := h.own
  rcases ho.2 with ⟨rfl, h0⟩ | ⟨g, cap, cur, rfl, hg, hh, hc1, hc2, hc3, hc4⟩
  · exact absurd rfl h.ne
  · exact ⟨_, cap, rfl, hc1, hc2⟩
theorem TAcc.below {w0 w w' : World} {v : Value} {rows : List (List GV)} (h : TAcc w0 w v rows) (hb : Below w.heap.size w w') : TAcc w0 w' v rows := by
  obtain ⟨ps, e, ho, hp⟩ := h.own
  refine ⟨⟨ps, e, ⟨ho.1, ?_⟩, fun p hm => ⟨(hp p hm).1.keepV (hb.mono h.low.size) (KeepT.below hb), (hp p hm).2⟩⟩, h.ne, h.low.trans (hb.mono h.low.size)⟩
  rcases ho.2 with h' | ⟨g, cap, cur, e', hg, hc, hr⟩
  · exact .inl h'
  · exact .inr ⟨g, cap, cur, e', hg, (hb.block g (Array.getElem?_eq_some_iff.1 hc).1).trans hc, hr⟩
theorem TAcc.app {w0 w w' : World} {v v' : Value} {rows : List (List GV)} {p : TH} (h : TAcc w0 w v rows) (hp : THok w w0.heap.size p) (ho : ∀ ps : List TH, ps.map (·.2) = rows → w.ownsRow w0.heap.size 53 1 v rows.length (ps.map thV) → w'.ownsRow w0.heap.size 53 1 v' (rows.length + 1) (ps.map thV ++ [thV p])) (hg : w.grownBy w' v.ownBlock) (hv : v ≠ .slice none 0 0 → v' ≠ .slice none 0 0) : TAcc w0 w' v' (rows ++ [p.2]) := by
  obtain ⟨ps, e, how, hq⟩ := h.own
  have hb : Below w0.heap.size w w' := (Below.refl _ _).grown hg h.low.size (fun k hk => (World.ownsRow.lt how k hk).1)
  have hk := KeepT.grown how hg
  refine ⟨⟨ps ++ [p], by simp [e], ?_, fun q hm => ?_⟩, hv h.ne, h.low.trans hb⟩
  · rw [List.map_append, List.length_append]
    simpa using ho ps e how
  · rw [List.mem_append, List.mem_singleton] at hm
    rcases hm with hm | rfl
    · exact ⟨(hq q hm).1.keepV hb hk, (hq q hm).2⟩
    · exact ⟨hp.1.keepV hb hk, hp.2⟩
theorem RowSt.row {w : World} {N : Nat} {A : Option Addr} {xs : List GV} (h : RowSt w N A xs) : RowAt w w.heap.size A xs := by
  rcases h with h | ⟨g, o, hA, hg, hs, hc⟩
  · exact .inl h
  · exact .inr ⟨g, o, hA, hg, fun i x hx => hc i x hx⟩
theorem TAcc.tab {w0 w : World} {v : Value} {rows : List (List GV)} (h : TAcc w0 w v rows) : ∃ A c, v = .slice A rows.length c ∧ CapOk rows.length c ∧ TabAt w w.heap.size A rows := by
  obtain ⟨ps, e, ho, hp⟩ := h.own
  rcases ho.2 with ⟨rfl, h0⟩ | ⟨g, cap, cur, rfl, hg, hh, hc1, hc2, hc3, hc4⟩
  · exact absurd rfl h.ne
  · refine ⟨_, cap, rfl, ⟨hc1, hc2⟩, .inr ⟨g, 0, rfl, (Array.getElem?_eq_some_iff.1 hh).1, fun i z hz => ?_⟩⟩
    have hi : i < rows.length := (List.getElem?_eq_some_iff.1 hz).1
    rw [← e, List.getElem?_map, Option.map_eq_some_iff] at hz
    obtain ⟨p, hpi, rfl⟩ := hz
    have hm := hp p (List.mem_of_getElem? hpi)
    have key : ∀ j, j < rows.length * 1 → w.cell? ⟨g, j, none⟩ = (ps.map thV)[j]? := fun j hj => by
      have h1 : w.cell? ⟨g, j, none⟩ = cur.toList[j]? := by simp [World.cell?, hh]
      rw [h1, ← hc4, List.getElem?_take_of_lt hj]
    rw [Nat.zero_add]
    refine ⟨p.1.1, p.1.2, (key _ (by omega)).trans ?_, hm.1.row⟩
    rw [List.getElem?_map, hpi]; rfl
theorem thV_cells (w : World) (p : TH) (t : TypeId) : ∀ j u, [thV p][j]? = some u → (w.alloc (.cells #[thV p] t)).cell? ((⟨w.heap.size, 0, none⟩ : Addr).add j) = some u := by
  intro j u hj
  match j, hj with
  | 0, hj => simp at hj; subst hj; simp [Addr.add]
theorem wpList_tapp {ops : Array Oper} {rest : List Oper} {o : Oper} {a : Act} {Q : Exit → Act → World → Prop} (W : World) (hgd : o.guard = none) (s x : Operand)
    (ho : o.op = .call { callee := .builtin .append, args := #[s, x], argTypes := #[33, 33] })
    (w0 : World) (v : Value) (rows : List (List GV)) (p : TH) (hs : a.eval s = v) (hI : TAcc w0 W v rows) (hp : THok W w0.heap.size p) (hx : a.eval x = .slice (some ⟨W.heap.size, 0, none⟩) 1 1) (hb : rows.length ≤ 4194304)
    (h : ∀ v' w', TAcc w0 w' v' (rows ++ [p.2]) → wpList Try.prog ops Q rest (a.put o.dst v') w') : wpList Try.prog ops Q (o :: rest) a (W.alloc (.cells #[.slice p.1.1 p.2.length p.1.2] 53)) := by
  obtain ⟨i0, hi, hz0, hz1, hz2⟩ := info_parts infoVs
  have hB : Below W.heap.size W (W.alloc (.cells #[thV p] 53)) := (Below.refl _ _).alloc (Nat.le_refl _) _
  have hI2 := hI.below hB
  have hp2 : THok (W.alloc (.cells #[thV p] 53)) w0.heap.size p := ⟨hp.1.keepV (hB.mono hI.low.size) (KeepT.below hB), hp.2⟩
  obtain ⟨ps, e, how, hq⟩ := hI2.own
  refine wpList_append_own _ hgd s x _ ho w0.heap.size 53 i0 _ 1 24 Try.underlying33 hi hz0 hz1 hz2 rfl (by decide) v rows.length (ps.map thV) hs how ⟨W.heap.size, 0, none⟩ 1 1 [thV p] hx rfl (thV_cells W p _) (by intro u hu; simp at hu; subst hu; rfl) (by unfold maxLen; omega) (by omega) hI2.low.size (fun v' w' h1 h2 h3 => h v' w' ?_)
  have hbw : Below w0.heap.size (W.alloc (.cells #[thV p] 53)) w' := (Below.refl _ _).grown h2 hI2.low.size (fun k hk => (World.ownsRow.lt how k hk).1)
  have hk := KeepT.grown how h2
  refine ⟨⟨ps ++ [p], by simp [e], ?_, fun q hm => ?_⟩, fun e1 => hI2.ne (h3.1 e1).1, hI2.low.trans hbw⟩
  · rw [List.map_append, List.length_append]
    simpa using h1
  · rw [List.mem_append, List.mem_singleton] at hm
    rcases hm with hm | rfl
    · exact ⟨(hq q hm).1.keepV hbw hk, (hq q hm).2⟩
    · exact ⟨hp2.1.keepV hbw hk, hp2.2⟩
/-- A table whose rows' capacities are known to fit. -/
def TabC (w : World) (B : Nat) (A : Option Addr) (rows : List (List GV)) : Prop :=
  rows = [] ∨ ∃ g o, A = some ⟨g, o, none⟩ ∧ g < B ∧ ∀ i r, rows[i]? = some r → ∃ A' c', w.cell? ⟨g, o + i, none⟩ = some (.slice A' r.length c') ∧ CapOk r.length c' ∧ RowAt w B A' r
theorem TabC.tab {w : World} {B : Nat} {A : Option Addr} {rows : List (List GV)} (h : TabC w B A rows) : TabAt w B A rows := by
  rcases h with h | ⟨g, o, hA, hg, hc⟩
  · exact .inl h
  · refine .inr ⟨g, o, hA, hg, fun i r hr => ?_⟩
    obtain ⟨A', c', h1, _, h2⟩ := hc i r hr
    exact ⟨A', c', h1, h2⟩
theorem TabC.below {w w' : World} {B B' : Nat} {A : Option Addr} {rows : List (List GV)} (h : TabC w B A rows) (hb : Below B' w w') (hB : B ≤ B') : TabC w' B A rows := by
  rcases h with h | ⟨g, o, hA, hg, hc⟩
  · exact .inl h
  · refine .inr ⟨g, o, hA, hg, fun i r hr => ?_⟩
    obtain ⟨A', c', h1, h2, h3⟩ := hc i r hr
    exact ⟨A', c', (hb.cell (p := ⟨g, o + i, none⟩) (Nat.lt_of_lt_of_le hg hB)).trans h1, h2, h3.below hb hB⟩
theorem TabC.mono {w : World} {B B' : Nat} {A : Option Addr} {rows : List (List GV)} (h : TabC w B A rows) (hB : B ≤ B') : TabC w B' A rows := by
  rcases h with h | ⟨g, o, hA, hg, hc⟩
  · exact .inl h
  · refine .inr ⟨g, o, hA, by omega, fun i r hr => ?_⟩
    obtain ⟨A', c', h1, h2, h3⟩ := hc i r hr
    exact ⟨A', c', h1, h2, h3.mono hB⟩
theorem TabC.to_ {w w' : World} {A : Option Addr} {rows : List (List GV)} (h : TabC w w.heap.size A rows) (hb : Below w.heap.size w w') : TabC w' w'.heap.size A rows := (h.below hb (Nat.le_refl _)).mono hb.size
theorem TabC.at_ {w : World} {B : Nat} {A : Option Addr} {rows : List (List GV)} (h : TabC w B A rows) {i : Nat} (hi : i < rows.length) :
    ∃ g o A' c', A = some ⟨g, o, none⟩ ∧ g < B ∧ w.cell? ⟨g, o + i, none⟩ = some (.slice A' rows[i].length c') ∧ CapOk rows[i].length c' ∧ RowAt w B A' rows[i] := by
  rcases h with h | ⟨g, o, hA, hg, hc⟩
  · subst h; simp at hi
  · obtain ⟨A', c', h1, h2, h3⟩ := hc i _ (List.getElem?_eq_getElem hi)
    exact ⟨g, o, A', c', hA, hg, h1, h2, h3⟩
theorem TAcc.tabC {w0 w : World} {v : Value} {rows : List (List GV)} (h : TAcc w0 w v rows) : ∃ A c, v = .slice A rows.length c ∧ CapOk rows.length c ∧ TabC w w.heap.size A rows := by
  obtain ⟨ps, e, ho, hp⟩ := h.own
  rcases ho.2 with ⟨rfl, h0⟩ | ⟨g, cap, cur, rfl, hg, hh, hc1, hc2, hc3, hc4⟩
  · exact absurd rfl h.ne
  · refine ⟨_, cap, rfl, ⟨hc1, hc2⟩, .inr ⟨g, 0, rfl, (Array.getElem?_eq_some_iff.1 hh).1, fun i z hz => ?_⟩⟩
    have hi : i < rows.length := (List.getElem?_eq_some_iff.1 hz).1
    rw [← e, List.getElem?_map, Option.map_eq_some_iff] at hz
    obtain ⟨p, hpi, rfl⟩ := hz
    have hm := hp p (List.mem_of_getElem? hpi)
    have h1 : w.cell? ⟨g, i, none⟩ = cur.toList[i]? := by simp [World.cell?, hh]
    refine ⟨p.1.1, p.1.2, ?_, hm.2, hm.1.row⟩
    rw [Nat.zero_add, h1, ← List.getElem?_take_of_lt (show i < rows.length * 1 by omega), hc4, List.getElem?_map, hpi]
    rfl
def TPostC (w : World) (rows : List (List GV)) (e : Ending) (w' : World) : Prop := ∃ A c, e = .returned (.slice A rows.length c) ∧ CapOk rows.length c ∧ TabC w' w'.heap.size A rows ∧ Below w.heap.size w w'
theorem TAcc.postC {w0 w : World} {v : Value} {rows : List (List GV)} (h : TAcc w0 w v rows) : TPostC w0 rows (.returned v) w := by
  obtain ⟨A, c, e, hc, hd⟩ := h.tabC
  exact ⟨A, c, by rw [e], hc, hd, h.low⟩
/-- What a function that answers a table leaves. -/
def TPost (w : World) (rows : List (List GV)) (e : Ending) (w' : World) : Prop := ∃ A c, e = .returned (.slice A rows.length c) ∧ CapOk rows.length c ∧ TabAt w' w'.heap.size A rows ∧ Below w.heap.size w w'
theorem TPostC.post {w w' : World} {rows : List (List GV)} {e : Ending} (h : TPostC w rows e w') : TPost w rows e w' := by
  obtain ⟨A, c, h1, h2, h3, h4⟩ := h
  exact ⟨A, c, h1, h2, h3.tab, h4⟩
theorem TAcc.post {w0 w : World} {v : Value} {rows : List (List GV)} (h : TAcc w0 w v rows) : TPost w0 rows (.returned v) w := by
  obtain ⟨A, c, e, hc, hd⟩ := h.tab
  exact ⟨A, c, by rw [e], hc, hd, h.low⟩
end Go.Proofs.Ytemcpdpbikgfcaa
namespace Go.Proofs.Ytemcpdpbikgfcaa
open Go.RowKit Go.Sort
set_option linter.unusedVariables false

theorem wpList_vnew {ops : Array Oper} {rest : List Oper} {o : Oper} {a : Act} {Q : Exit → Act → World → Prop} (W : World) (hgd : o.guard = none) (s x : Operand)
    (hop : o.op = Op.call { callee := Callee.builtin Builtin.append, args := #[s, x], argTypes := #[53, 53] })
    (w : World) (v : Value) (hs : a.eval s = v) (hI : VI w W v [])
    (A : Option Addr) (c : Nat) (vs : List GV) (hx : a.eval x = .slice A vs.length c) (hr : RowAt w w.heap.size A vs) (hb : vs.length ≤ 4194304)
    (hK : ∀ v' W', VI w W' v' vs → wpList Try.prog ops Q rest (a.put o.dst v') W') : wpList Try.prog ops Q (o :: rest) a W := by
  obtain ⟨i0, hi, hz0, hz1, hz2⟩ := info_parts infoValue
  obtain ⟨h1, h2⟩ := row_src (hr.to_ hI.2.1)
  refine wpList_plain hgd fun _ hK' => wp_append_any W s x 53 hop w.heap.size 52 i0 _ 3 32 Try.underlying53 hi hz0 hz1 hz2 rfl (by decide) v 0 [] hs hI.1 A vs.length c (flat vs) hx (flat_length vs) h1 h2 (flat_one vs) (by unfold maxLen; omega) (by omega) hI.2.1.size (fun v' W' h3 h4 h5 => hK' _ _ (hK v' W' ⟨?_, ?_, h5 hI.2.2⟩))
  · show W'.ownsRow _ _ _ _ _ _
    simpa using h3
  · exact hI.2.1.grown h4 hI.2.1.size (fun k hk => (World.ownsRow.lt hI.1 k hk).1)

set_option maxRecDepth 100000 in
set_option maxHeartbeats 3200000 in
theorem spec_copyTC (A : Option Addr) (c : Nat) (rows : List (List GV)) (w : World) (hr : TabAt w w.heap.size A rows) (hl : rows.length ≤ 1048576) (hlr : ∀ r ∈ rows, r.length ≤ 1048576) :
    Calls Try.prog 99 #[.slice A rows.length c] w (TPostC w rows) := by
  have HR := Lib.hid hr
  have HLR := Lib.hid hlr
  clear hr hlr
  go_enter Try.func99, Try.ntmps99
  go_wp2_with fail
  go_loopw [3, 4] (fun out i w' => ∃ (k : Nat) (L : List (List GV)), k ≤ rows.length ∧ i = .int .i64 k ∧ Hid (L = rows.take k) ∧ Hid (TAcc w w' out L)) (fun _ i _ => rows.length - (intOf i).toNat)
  case atStart => exact ⟨0, [], Nat.zero_le _, rfl, Lib.hid rfl, Lib.hid (TAcc.start (Below.refl _ _) rfl)⟩
  case round =>
    obtain ⟨k, L, hk, rfl, hL, hD⟩ := hrel
    obtain ⟨A6, c6, rfl, _⟩ := hD.out.slice
    have hLl := Lib.hid (show L.length = k by rw [hL.out]; simp; omega)
    by_cases hlt : k < rows.length
    · obtain ⟨g, o, A', c', rfl, hg, hcell, hrow⟩ := (HR.out.to_ hD.out.low).at_ hlt
      have hi1 : (k : Int) < (rows.length : Int) := by omega
      have hi0 : (0 : Int) ≤ (k : Int) := by omega
      have hm := HLR.out _ (List.getElem_mem hlt)
      have hzl : L.length ≤ 4194304 := by have := hLl.out; omega
      have hst := Lib.hid (show L ++ [rows[k]] = rows.take (k + 1) by rw [List.take_succ_eq_append_getElem hlt, hL.out])
      have hrw := Lib.hid hrow
      have hml : rows[k].length ≤ 4194304 := by omega
      have hV0 := Lib.hid (VI.start (n := wr.heap.size) (Below.refl wr.heap.size wr) rfl)
      clear hrow
      go_wp2_with (first | (at_builtin; refine wpList_vnew _ rfl (.tmp 13) (.tmp 17) rfl wr (.slice (some ⟨wr.heap.size, 0, none⟩) 0 0) rfl hV0.out A' c' rows[k] rfl hrw.out hml ?_; intro v1 W1 hV1; refine Hid.out ?_))
      refine Lib.hid ?_
      obtain ⟨A1, c1, rfl, hst1, hcap1⟩ := hV1.st (N := w.heap.size)
      have hDx := Lib.hid (hD.out.below hV1.2.1)
      have hp := Lib.hid (show THok W1 w.heap.size ((A1, c1), rows[k]) from ⟨hst1, hcap1⟩)
      clear hst1 hcap1 hV1 hV0 hcell hrw
      go_wp2_with (first | (at_builtin; refine wpList_tapp _ rfl (.tmp 12) (.tmp 19) rfl w _ L ((A1, c1), rows[k]) rfl hDx.out hp.out rfl hzl ?_; intro v3 w3 hD3; refine Hid.out ?_))
      refine Lib.hid ?_
      have HD3 := Lib.hid hD3
      clear hD3
      go_wp2_with fail
      go_roundw
      case rel => exact ⟨k + 1, _, by omega, by go_num, hst, HD3⟩
      case measure => simp [intOf]; omega
    · have hi1 : ¬ (k : Int) < (rows.length : Int) := by omega
      have hE := Lib.hid (show L = rows by rw [hL.out, List.take_of_length_le (by omega)])
      have hP := Lib.hid hD.out.postC
      go_wp2_with fail
      go_ret
      rw [← hE.out]
      exact hP.out

theorem spec_copyT (A : Option Addr) (c : Nat) (rows : List (List GV)) (w : World) (hr : TabAt w w.heap.size A rows) (hl : rows.length ≤ 1048576) (hlr : ∀ r ∈ rows, r.length ≤ 1048576) :
    Calls Try.prog 99 #[.slice A rows.length c] w (TPost w rows) := (spec_copyTC A c rows w hr hl hlr).mono fun _ _ h => h.post

end Go.Proofs.Ytemcpdpbikgfcaa
namespace Go.Proofs.Ytemcpdpbikgfcaa
open Go.RowKit Go.Sort
set_option linter.unusedVariables false

def posL : List GDiff → List (List GV)
  | [] => []
  | z :: zs => if 0 < z.count then z.row :: posL zs else posL zs
def posD (zs : List GDiff) : List (List GV) := if diffOkB zs = true then posL zs else []
theorem posL_append : ∀ a b : List GDiff, posL (a ++ b) = posL a ++ posL b
  | [], b => rfl
  | z :: a, b => by simp only [List.cons_append, posL, posL_append a b]; split <;> simp
theorem posL_len : ∀ zs : List GDiff, (posL zs).length ≤ zs.length
  | [] => by simp [posL]
  | z :: zs => by have := posL_len zs; simp only [posL]; split <;> simp <;> omega
theorem posL_rows {P : List GV → Prop} : ∀ {zs : List GDiff}, (∀ z ∈ zs, P z.row) → ∀ r ∈ posL zs, P r
  | [], h, r, hr => by simp [posL] at hr
  | z :: zs, h, r, hr => by
    simp only [posL] at hr
    split at hr
    · rcases List.mem_cons.1 hr with rfl | hr
      · exact h z (by simp)
      · exact posL_rows (fun y hy => h y (by simp [hy])) r hr
    · exact posL_rows (fun y hy => h y (by simp [hy])) r hr
theorem posL_yes (zs : List GDiff) (k : Nat) (h : k < zs.length) (hc : 0 < zs[k].count) : posL (zs.take (k + 1)) = posL (zs.take k) ++ [zs[k].row] := by
  rw [List.take_succ_eq_append_getElem h, posL_append]; simp [posL, hc]
theorem posL_no (zs : List GDiff) (k : Nat) (h : k < zs.length) (hc : ¬ 0 < zs[k].count) : posL (zs.take (k + 1)) = posL (zs.take k) := by
  rw [List.take_succ_eq_append_getElem h, posL_append]; simp [posL, hc]

set_option maxRecDepth 100000 in
set_option maxHeartbeats 3200000 in
theorem spec_distLC {lo : Nat} (A : Option Addr) (c : Nat) (zs : List GDiff) (w : World) (hr : DiffsAt w lo w.heap.size A zs) (hl : zs.length ≤ 1048576) :
    Calls Try.prog 60 #[.slice A zs.length c] w (TPostC w (posL zs)) := by
  have HR := Lib.hid hr
  clear hr
  go_enter Try.func60, Try.ntmps60
  go_wp2_with fail
  go_loopw [3, 4] (fun out i w' => ∃ (k : Nat) (L : List (List GV)), k ≤ zs.length ∧ i = .int .i64 k ∧ Hid (L = posL (zs.take k)) ∧ Hid (TAcc w w' out L)) (fun _ i _ => zs.length - (intOf i).toNat)
  case atStart => exact ⟨0, [], Nat.zero_le _, rfl, Lib.hid rfl, Lib.hid (TAcc.start (Below.refl _ _) rfl)⟩
  case round =>
    obtain ⟨k, L, hk, rfl, hL, hD⟩ := hrel
    obtain ⟨A6, c6, rfl, _⟩ := hD.out.slice
    have hLl := Lib.hid (show L.length ≤ k by rw [hL.out]; have := posL_len (zs.take k); simp at this; omega)
    by_cases hlt : k < zs.length
    · obtain ⟨g, o, rfl, _, hg, ⟨A', c', ⟨hcell, hcap⟩, hrow⟩, hcnt⟩ := (HR.out.keep (fun b _ h => hD.out.low.block b h)).at_ hlt
      have hi1 : (k : Int) < (zs.length : Int) := by omega
      have hi0 : (0 : Int) ≤ (k : Int) := by omega
      have hzl : L.length ≤ 4194304 := by have := hLl.out; omega
      have hp := Lib.hid (show THok wr w.heap.size ((A', c'), zs[k].row) from ⟨hrow.st hD.out.low.size, hcap⟩)
      clear hrow
      by_cases hc : 0 < zs[k].count
      · have hst := Lib.hid (show L ++ [zs[k].row] = posL (zs.take (k + 1)) by rw [hL.out, posL_yes zs k hlt hc])
        go_wp2_with (first | (at_builtin; refine wpList_tapp _ rfl (.tmp 18) (.tmp 24) rfl w _ L ((A', c'), zs[k].row) rfl hD.out hp.out rfl hzl ?_; intro v3 w3 hD3; refine Hid.out ?_))
        refine Lib.hid ?_
        have HD3 := Lib.hid hD3
        clear hD3 hcell hcnt
        go_wp2_with fail
        go_roundw
        case rel => exact ⟨k + 1, _, by omega, by go_num, hst, HD3⟩
        case measure => simp [intOf]; omega
      · have hst := Lib.hid (show L = posL (zs.take (k + 1)) by rw [hL.out, posL_no zs k hlt hc])
        have hD3 := hD
        go_wp2_with fail
        go_roundw
        case rel => exact ⟨k + 1, L, by omega, by go_num, hst, hD3⟩
        case measure => simp [intOf]; omega
    · have hi1 : ¬ (k : Int) < (zs.length : Int) := by omega
      have hE := Lib.hid (show L = posL zs by rw [hL.out, List.take_of_length_le (by omega)])
      have hP := Lib.hid hD.out.postC
      go_wp2_with fail
      go_ret
      rw [← hE.out]
      exact hP.out
theorem spec_distL {lo : Nat} (A : Option Addr) (c : Nat) (zs : List GDiff) (w : World) (hr : DiffsAt w lo w.heap.size A zs) (hl : zs.length ≤ 1048576) :
    Calls Try.prog 60 #[.slice A zs.length c] w (TPost w (posL zs)) := (spec_distLC A c zs w hr hl).mono fun _ _ h => h.post
set_option maxRecDepth 100000 in
set_option maxHeartbeats 1600000 in
theorem spec_distinctC {lo : Nat} (A : Option Addr) (c : Nat) (zs : List GDiff) (w : World) (hr : DiffsAt w lo w.heap.size A zs) (hl : zs.length ≤ 1048576) (hlr : ∀ z ∈ zs, z.row.length ≤ 1048576 ∧ ∀ v ∈ z.row, v.t.size ≤ maxLen) :
    Calls Try.prog 76 #[.slice A zs.length c] w (TPostC w (posD zs)) := by
  have HR := Lib.hid hr
  have HLR := Lib.hid hlr
  clear hr hlr
  by_cases h : diffOkB zs = true
  · have ho : posD zs = posL zs := by unfold posD; rw [if_pos h]
    rw [ho]
    clear ho
    have HN := Lib.hid (show (posL zs).length ≤ 1048576 from Nat.le_trans (posL_len zs) hl)
    have HRR := Lib.hid (posL_rows (P := fun r => r.length ≤ 1048576) (fun z hz => (HLR.out z hz).1))
    go_enter Try.func76, Try.ntmps76
    go_wp2_with fail
    refine (spec_diffOk A c zs _ HR.out (by omega) HLR.out).mono ?_
    rintro e w1 ⟨rfl, hb1⟩
    rw [h]
    go_wp2_with fail
    refine (spec_distL A c zs _ (HR.out.to_ hb1) hl).mono ?_
    rintro e w2 ⟨A2, c2, rfl, hc2, hd2, hb2⟩
    have hB2 := below_next hb1 hb2 rfl rfl
    have HD2 := Lib.hid hd2
    clear hd2 hc2
    go_wp2_with fail
    refine (spec_copyTC A2 c2 (posL zs) _ HD2.out HN.out HRR.out).mono ?_
    rintro e w3 ⟨A3, c3, rfl, hc3, hd3, hb3⟩
    have hB3 := below_next hB2 hb3 rfl rfl
    have HD3 := Lib.hid hd3
    clear hd3
    go_wp2_with fail
    go_ret
    exact ⟨_, _, rfl, hc3, HD3.out, hB3⟩
  · rw [Bool.not_eq_true] at h
    have ho : posD zs = [] := by unfold posD; rw [if_neg (by rw [h]; decide)]
    rw [ho]
    clear ho
    go_enter Try.func76, Try.ntmps76
    go_wp2_with fail
    refine (spec_diffOk A c zs _ HR.out (by omega) HLR.out).mono ?_
    rintro e w1 ⟨rfl, hb1⟩
    rw [h]
    go_wp2_with fail
    go_ret
    exact ⟨_, _, rfl, ⟨Nat.le_refl _, Nat.zero_le _⟩, .inl rfl, hb1.alloc hb1.size _⟩
theorem spec_distinct {lo : Nat} (A : Option Addr) (c : Nat) (zs : List GDiff) (w : World) (hr : DiffsAt w lo w.heap.size A zs) (hl : zs.length ≤ 1048576) (hlr : ∀ z ∈ zs, z.row.length ≤ 1048576 ∧ ∀ v ∈ z.row, v.t.size ≤ maxLen) :
    Calls Try.prog 76 #[.slice A zs.length c] w (TPost w (posD zs)) := (spec_distinctC A c zs w hr hl hlr).mono fun _ _ h => h.post
end Go.Proofs.Ytemcpdpbikgfcaa
