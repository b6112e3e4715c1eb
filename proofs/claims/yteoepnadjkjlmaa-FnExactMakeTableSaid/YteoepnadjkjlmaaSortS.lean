/-
  Contract of spec.l1Sort: the rows ascending, each once.
-/
import Derived.Test.YteoepnadjkjlmaaTabMath
import Derived.Test.YteoepnadjkjlmaaTabMake
import Derived.Test.YteoepnadjkjlmaaRowCmpS
import Derived.Lib.QuietBelow
import Derived.BigQuiet
namespace Go.Proofs.Yteoepnadjkjlmaa
open Go.RowKit Go.Sort
set_option linter.unusedVariables false

/-- A row that is not nil. -/
def RowB (w : World) (B : Nat) (A : Option Addr) (r : Row) : Prop := RowAt w B A r ∧ A ≠ none
theorem RowB.below {w w' : World} {B B' : Nat} {A : Option Addr} {r : Row} (h : RowB w B A r) (hb : Below B' w w') (hB : B ≤ B') : RowB w' B A r := ⟨h.1.below hb hB, h.2⟩

/-- A slice of rows at g, o; the rows themselves lie below block B. -/
def TabB (w : World) (B g o : Nat) (rows : List Row) : Prop :=
  g < w.heap.size ∧ ∀ i r, rows[i]? = some r → ∃ A c, w.cell? ⟨g, o + i, none⟩ = some (.slice A r.length c) ∧ RowB w B A r
theorem TabB.low {w w' : World} {B B' g o : Nat} {rows : List Row} (h : TabB w B g o rows) (hb : Below B' w w') (hg : g < B') (hB : B ≤ B') : TabB w' B g o rows := by
  refine ⟨Nat.lt_of_lt_of_le h.1 hb.size, fun i r hr => ?_⟩
  obtain ⟨A, c, h1, h2⟩ := h.2 i r hr
  exact ⟨A, c, (hb.cell (p := ⟨g, o + i, none⟩) hg).trans h1, h2.below hb hB⟩
theorem TabB.take {w : World} {B g o : Nat} {rows : List Row} (h : TabB w B g o rows) (k : Nat) : TabB w B g o (rows.take k) := by
  refine ⟨h.1, fun i r hr => h.2 i r ?_⟩
  rw [List.getElem?_take] at hr
  split at hr
  · exact hr
  · cases hr
theorem TabB.drop {w : World} {B g o : Nat} {rows : List Row} (h : TabB w B g o rows) (k : Nat) : TabB w B g (o + k) (rows.drop k) := by
  refine ⟨h.1, fun i r hr => ?_⟩
  rw [List.getElem?_drop] at hr
  obtain ⟨A, c, h1, h2⟩ := h.2 (k + i) r hr
  exact ⟨A, c, by rw [Nat.add_assoc]; exact h1, h2⟩
theorem TabB.at_ {w : World} {B g o : Nat} {rows : List Row} (h : TabB w B g o rows) {i : Nat} (hi : i < rows.length) : ∃ A c, w.cell? ⟨g, o + i, none⟩ = some (.slice A rows[i].length c) ∧ RowB w B A rows[i] :=
  h.2 i _ (List.getElem?_eq_getElem hi)
theorem TabB.tab {w : World} {B g o : Nat} {rows : List Row} (h : TabB w B g o rows) (hB : B ≤ w.heap.size) : TabAt w w.heap.size (some ⟨g, o, none⟩) rows :=
  .inr ⟨g, o, rfl, h.1, fun i r hr => by obtain ⟨A, c, h1, h2⟩ := h.2 i r hr; exact ⟨A, c, h1, h2.1.mono hB⟩⟩
theorem TabOwn.tabB {w : World} {lo g : Nat} {gs : List Nat} {rows : List Row} (h : TabOwn w lo g gs rows) : TabB w w.heap.size g 0 rows := by
  refine ⟨h.2.1.lt, fun i r hr => ?_⟩
  obtain ⟨hi, rfl⟩ := List.getElem?_eq_some_iff.1 hr
  have hg : gs[i]? = some (gs[i]'(by have := h.1.1; omega)) := List.getElem?_eq_getElem _
  have hw := h.1.2 i _ _ hg hr
  exact ⟨some ⟨_, 0, none⟩, rows[i].length, by rw [h.2.1.cell, Nat.zero_add]; exact heads_at gs rows i _ _ hg hr, hw.row hw.lt, by simp⟩

/-- A slice of rows that the call made itself: its block lies from base on, its rows below B. -/
def OutV (w : World) (B base : Nat) (v : Value) (o : List Row) : Prop :=
  ∃ hs : List Value, w.ownsRow base 35 1 v o.length hs ∧ ∀ (i : Nat) (r : Row), o[i]? = some r → ∃ A c, hs[i]? = some (Value.slice A r.length c) ∧ RowB w B A r
theorem outv_new (w : World) (B : Nat) : OutV (w.alloc (.cells #[] 35)) B w.heap.size (.slice (some ⟨w.heap.size, 0, none⟩) 0 0) [] :=
  ⟨[], World.ownsRow_made (base := w.heap.size) (size := 1) w #[] 0 (Nat.le_refl _) (Nat.zero_le _) rfl, by simp⟩
theorem outv_below {w w' : World} {B base : Nat} {v : Value} {o : List Row} (h : OutV w B base v o) (hb : Below w.heap.size w w') (hB : B ≤ w.heap.size) : OutV w' B base v o := by
  obtain ⟨hs, h1, h2⟩ := h
  refine ⟨hs, h1.kept (row := none) ⟨hb.os, hb.tape, hb.output, hb.size, fun k hk _ => hb.block k hk⟩ ?_, fun i r hr => ?_⟩
  · rcases h1.2 with ⟨e, _⟩ | ⟨g, cap, cur, e, _⟩
    · exact .inl (by rw [e]; rfl)
    · exact .inr (by rw [e]; simp [Value.ownBlock])
  · obtain ⟨A, c, a1, a2⟩ := h2 i r hr
    exact ⟨A, c, a1, a2.below hb hB⟩
theorem outv_own {w : World} {base : Nat} {e : TypeId} {v : Value} {n : Nat} {hs : List Value} (h : w.ownsRow base e 1 v n hs) : ∀ k, v.ownBlock = some k → base ≤ k := fun k hk => (h.lt k hk).1
theorem outv_slice {w : World} {B base : Nat} {v : Value} {o : List Row} (h : OutV w B base v o) (hv : v ≠ .slice none 0 0) : ∃ g c, v = .slice (some ⟨g, 0, none⟩) o.length c ∧ o.length ≤ c ∧ TabB w B g 0 o := by
  obtain ⟨hs, h1, h2⟩ := h
  rcases h1.2 with ⟨e, _⟩ | ⟨g, cap, cur, e, hg, hh, hc, _, hsz, ht⟩
  · exact absurd e hv
  · refine ⟨g, cap, e, hc, ?_, fun i r hr => ?_⟩
    · rcases Nat.lt_or_ge g w.heap.size with h' | h'
      · exact h'
      · rw [Array.getElem?_eq_none h'] at hh; cases hh
    · obtain ⟨A, c, a1, a2⟩ := h2 i r hr
      refine ⟨A, c, ?_, a2⟩
      rw [← ht] at a1
      have hi : i < o.length := (List.getElem?_eq_some_iff.1 hr).1
      rw [List.getElem?_take, if_pos (by omega)] at a1
      rw [Nat.zero_add]
      simpa [World.cell?, hh] using a1
theorem outv_next {w0 w1 w4 : World} {B base : Nat} {v v' : Value} {o : List Row} {x : Row} {A : Option Addr} {c : Nat} {hs : List Value} (hB : B ≤ base) (hbz : base ≤ w1.heap.size)
    (h2 : ∀ (i : Nat) (r : Row), o[i]? = some r → ∃ A c, hs[i]? = some (Value.slice A r.length c) ∧ RowB w1 B A r) (hl : hs.length = o.length) (hx : RowB w1 B A x)
    (ho : w4.ownsRow base 35 1 v' (o.length + 1) (hs ++ [.slice A x.length c])) (hb : Below base w1 w4) : OutV w4 B base v' (o ++ [x]) := by
  refine ⟨hs ++ [.slice A x.length c], by simpa using ho, fun i r hr => ?_⟩
  rcases Nat.lt_or_ge i o.length with hi | hi
  · rw [List.getElem?_append_left hi] at hr
    obtain ⟨A', c', a1, a2⟩ := h2 i r hr
    exact ⟨A', c', by rw [List.getElem?_append_left (by omega)]; exact a1, a2.below hb hB⟩
  · have hi' : i = o.length := by
      have := (List.getElem?_eq_some_iff.1 hr).1
      simp at this; omega
    subst hi'
    simp at hr
    subst hr
    exact ⟨A, c, by rw [List.getElem?_append_right (by omega), hl]; simp, hx.below hb hB⟩

theorem news_cell (w : World) (u : Value) (t : TypeId) : ∀ j x, [u][j]? = some x → (w.alloc (.cells #[u] t)).cell? ((⟨w.heap.size, 0, none⟩ : Addr).add j) = some x := by
  intro j x hj
  cases j with
  | zero => simp at hj; subst hj; simp [Addr.add]
  | succ j => simp at hj

/-- What spec.l1Sort answers. -/
def SortAns (w : World) (B : Nat) (rows : List Row) (e : Ending) (w' : World) : Prop :=
  ∃ (g c : Nat) (out : List Row), e = .returned (.slice (some ⟨g, 0, none⟩) out.length c) ∧ out.length ≤ c ∧ TabB w' B g 0 out ∧ AscP out ∧ (∀ r, r ∈ out ↔ r ∈ rows) ∧ out.length ≤ rows.length ∧ Below w.heap.size w w'
theorem take_drop_mem (rows : List Row) (k : Nat) (r : Row) : (r ∈ rows.take k ∨ r ∈ rows.drop k) ↔ r ∈ rows := by
  conv => rhs; rw [← List.take_append_drop k rows]
  exact List.mem_append.symm

theorem spec_rows_is (z : Int) (A A' : Option Addr) (c c' : Nat) (vs us : List GV) (w : World) (hz : cmpR vs us = z) (hr : RowAt w w.heap.size A vs) (hr' : RowAt w w.heap.size A' us) (hl : vs.length ≤ 1048576) (hl' : us.length ≤ 1048576) :
    Calls Try.prog 35 #[.slice A vs.length c, .slice A' us.length c'] w fun e w' => e = .returned (.int .i64 z) ∧ Below w.heap.size w w' := by
  subst hz; exact spec_rows A A' c c' vs us w hr hr' hl hl'

set_option maxRecDepth 100000 in
set_option maxHeartbeats 1600000 in
theorem sort_nil (g o c B : Nat) (w : World) (hB : B ≤ w.heap.size) : Calls Try.prog 23 #[.slice (some ⟨g, o, none⟩) 0 c] w (SortAns w B []) := by
  obtain ⟨i0, hi0, hz0, hz1, hz2⟩ := info_parts infoVs
  obtain ⟨hs, ho, _⟩ := outv_new w B
  have HO := Lib.hid ho
  clear ho
  go_enter Try.func23, Try.ntmps23
  go_wp2_with (first | (at_builtin; refine wpList_append_own _ rfl (.tmp 12) (.tmp 13) _ rfl w.heap.size 35 i0 _ 1 24 Try.underlying24 hi0 hz0 hz1 hz2 rfl (by decide) _ _ _ rfl HO.out ⟨g, o, none⟩ 0 c [] rfl rfl (by simp) (by simp) (by simp) (by simp) (by simp) ?_; intro v2 w4 ho4 hg4 hv4; refine Hid.out ?_))
  refine Lib.hid ?_
  have hV : OutV w4 B w.heap.size v2 [] := ⟨_, ho4, by simp⟩
  have hne : v2 ≠ .slice none 0 0 := fun h => by have h2 := (hv4.1 h).1; exact Value.noConfusion h2 (fun h3 => by cases h3)
  have hBN : Below w.heap.size w w4 := ((Below.refl _ _).alloc (Nat.le_refl _) _).grown hg4 (by simp) (outv_own HO.out)
  obtain ⟨g2, c2, rfl, hc2, hT⟩ := outv_slice hV hne
  clear hv4 ho4 hg4 hV hne HO
  go_wp2_with fail
  go_ret
  exact ⟨g2, c2, [], rfl, hc2, hT, by simp [AscP], by simp, by simp, hBN⟩

set_option maxRecDepth 100000 in
set_option maxHeartbeats 1600000 in
theorem sort_one (g o c B : Nat) (r : Row) (w : World) (hT : TabB w B g o [r]) (hB : B ≤ w.heap.size) : Calls Try.prog 23 #[.slice (some ⟨g, o, none⟩) 1 c] w (SortAns w B [r]) := by
  obtain ⟨i0, hi0, hz0, hz1, hz2⟩ := info_parts infoVs
  obtain ⟨A, ca, hcell, hrow⟩ := hT.2 0 r rfl
  have ho := World.ownsRow_made (base := w.heap.size) (e := 35) (size := 1) w #[] 0 (Nat.le_refl _) (Nat.zero_le _) rfl
  have HO := Lib.hid ho
  clear ho
  have HC := Lib.hid (show ∀ j u, [Value.slice A r.length ca][j]? = some u → (w.alloc (.cells #[] 35)).cell? ((⟨g, o, none⟩ : Addr).add j) = some u by
    intro j u hj
    cases j with
    | zero =>
      simp at hj; subst hj
      have : (⟨g, o, none⟩ : Addr).add 0 = ⟨g, o, none⟩ := by simp [Addr.add]
      rw [this]
      exact (((Below.refl w.heap.size w).alloc (Nat.le_refl _) (.cells #[] 35)).cell (p := ⟨g, o, none⟩) hT.1).trans hcell
    | succ j => simp at hj)
  clear hcell
  go_enter Try.func23, Try.ntmps23
  go_wp2_with (first | (at_builtin; refine wpList_append_own _ rfl (.tmp 12) (.tmp 13) _ rfl w.heap.size 35 i0 _ 1 24 Try.underlying24 hi0 hz0 hz1 hz2 rfl (by decide) _ _ _ rfl HO.out ⟨g, o, none⟩ 1 c [.slice A r.length ca] rfl rfl HC.out (by simp [Value.oneCell']) (by unfold maxLen; omega) (by omega) (by simp) ?_; intro v2 w4 ho4 hg4 hv4; refine Hid.out ?_))
  refine Lib.hid ?_
  have hb0 : Below w.heap.size (w.alloc (.cells #[] 35)) w4 := (Below.refl _ _).grown hg4 (by simp) (outv_own HO.out)
  have hV : OutV w4 B w.heap.size v2 ([] ++ [r]) := outv_next (w0 := w) (v := v2) (hs := []) hB (by simp) (by simp) rfl (hrow.below (((Below.refl w.heap.size w).alloc (Nat.le_refl _) (.cells #[] 35))) hB) (by simpa using ho4) hb0
  have hne : v2 ≠ .slice none 0 0 := fun h => by have := hv4.1 h; simp at this
  have hBN : Below w.heap.size w w4 := ((Below.refl _ _).alloc (Nat.le_refl _) _).trans hb0
  obtain ⟨g2, c2, rfl, hc2, hT2⟩ := outv_slice hV hne
  clear hv4 ho4 hg4 hV hne HO HC
  go_wp2_with fail
  go_ret
  exact ⟨g2, c2, [r], rfl, hc2, hT2, by simp [AscP], by simp, by simp, hBN⟩

set_option maxRecDepth 100000 in
set_option maxHeartbeats 8000000 in
theorem spec_sort : ∀ (n : Nat) (rows : List Row) (g o c B : Nat) (w : World), rows.length ≤ n → TabB w B g o rows → B ≤ w.heap.size → rows.length ≤ c → c ≤ 9223372036854775807 → rows.length ≤ 3000 → (∀ r ∈ rows, r.length ≤ 1048576) →
    Calls Try.prog 23 #[.slice (some ⟨g, o, none⟩) rows.length c] w (SortAns w B rows) := by
  intro n
  induction n with
  | zero =>
    intro rows g o c B w hn hT hB hc hc2 h3 hlr
    obtain rfl : rows = [] := List.eq_nil_of_length_eq_zero (by omega)
    exact sort_nil g o c B w hB
  | succ n ih =>
    intro rows g o c B w hn hT hB hc hc2 h3 hlr
    by_cases h2 : rows.length < 2
    · match rows, h2, hT with
      | [], _, _ => exact sort_nil g o c B w hB
      | [r], _, hT => exact sort_one g o c B r w hT hB
    obtain ⟨i0, hi0, hz0, hz1, hz2⟩ := info_parts infoVs
    obtain ⟨h, hh⟩ : ∃ h, h = rows.length / 2 := ⟨_, rfl⟩
    have hh1 : 1 ≤ h := by omega
    have hh2 : h < rows.length := by omega
    have hh3 : h ≤ n := by omega
    have hh4 : rows.length - h ≤ n := by omega
    have hh5 : h < c := by omega
    have hh6 : h ≤ c := by omega
    have e1 : (rows.length : Int) / 2 = (h : Int) := by omega
    have l1 : (rows.take h).length = h := by rw [List.length_take]; omega
    have l2 : (rows.drop h).length = rows.length - h := by rw [List.length_drop]
    have c1 := fun W (hW : TabB W B g o (rows.take h)) (hBW : B ≤ W.heap.size) => ih (rows.take h) g o c B W (by omega) hW hBW (by omega) hc2 (by omega) (fun r hr => hlr r (List.mem_of_mem_take hr))
    have c2 := fun W (hW : TabB W B g (o + h) (rows.drop h)) (hBW : B ≤ W.heap.size) => ih (rows.drop h) g (o + h) (c - h) B W (by omega) hW hBW (by omega) (by omega) (by omega) (fun r hr => hlr r (List.mem_of_mem_drop hr))
    rw [l1] at c1
    rw [l2] at c2
    have HLR := Lib.hid hlr
    have HT := Lib.hid hT
    have L1 := Lib.hid l1
    have L2 := Lib.hid l2
    have HH := Lib.hid hh
    have C1 := Lib.hid c1
    have C2 := Lib.hid c2
    clear hlr hT l1 l2 hh c1 c2 ih
    go_enter Try.func23, Try.ntmps23
    go_wp2_with fail
    refine (C1.out _ (HT.out.take h) hB).mono ?_
    rintro e w1 ⟨ga, ca, a, rfl, hca, hTa, haa, hma, hla, hb1⟩
    have hzw1 := hb1.size
    go_wp2_with fail
    refine (C2.out _ ((HT.out.drop h).low hb1 HT.out.1 hB) (by omega)).mono ?_
    rintro e w2 ⟨gb, cb, b, rfl, hcb, hTb, hab, hmb, hlb, hb2⟩
    have hzw2 := hb2.size
    have hTa2 := hTa.low hb2 hTa.1 (by omega)
    have hb12 : Below w.heap.size w w2 := below_next hb1 hb2 rfl rfl
    have lab : a.length + b.length ≤ rows.length := by have := L1.out; have := L2.out; omega
    have hra : ∀ r ∈ a, r.length ≤ 1048576 := fun r hr => HLR.out r ((take_drop_mem rows h r).1 (.inl ((hma r).1 hr)))
    have hrb : ∀ r ∈ b, r.length ≤ 1048576 := fun r hr => HLR.out r ((take_drop_mem rows h r).1 (.inr ((hmb r).1 hr)))
    have HMEM := Lib.hid (fun r => show (r ∈ a ∨ r ∈ b) ↔ r ∈ rows by rw [hma r, hmb r]; exact take_drop_mem rows h r)
    have HTa := Lib.hid hTa2
    have HTb := Lib.hid hTb
    have Haa := Lib.hid haa
    have Hab := Lib.hid hab
    have HRA := Lib.hid hra
    have HRB := Lib.hid hrb
    have HV0 := Lib.hid (outv_new w2 B)
    have hB2 : B ≤ w2.heap.size := by omega
    clear hTa2 hTb haa hab hma hmb hra hrb hTa C1 C2 HT hb1 hb2 hla hlb e1
    go_wp2_with fail
    go_loopw [5, 6, 7] (fun s5 s6 s7 w' => ∃ (i k : Nat) (out : List Row), i ≤ a.length ∧ k ≤ b.length ∧ s6 = .int .i64 i ∧ s7 = .int .i64 k ∧ s5 ≠ .slice none 0 0 ∧ out.length ≤ i + k ∧ Hid (MInv a b out i k) ∧ Hid (OutV w' B w2.heap.size s5 out) ∧ Below w2.heap.size w2 w') (fun _ s6 s7 _ => a.length + b.length - (intOf s6).toNat - (intOf s7).toNat)
    case atStart => exact ⟨0, 0, [], Nat.zero_le _, Nat.zero_le _, rfl, rfl, by simp, Nat.zero_le _, Lib.hid (minv_start a b), HV0, (Below.refl _ _).alloc (Nat.le_refl _) _⟩
    case round =>
      obtain ⟨i, k, out, hi, hk, rfl, rfl, hne5, hlo, hM, hV, hBW⟩ := hrel
      have hwz := hBW.size
      have HNE := Lib.hid hne5
      clear hne5
      by_cases hia : i < a.length
      · obtain ⟨A1, c1, hc1, hr1⟩ := (HTa.out.low hBW HTa.out.1 hB2).at_ hia
        rw [Nat.zero_add] at hc1
        have hm1 := HRA.out _ (List.getElem_mem hia)
        have j1 : (i : Int) < (a.length : Int) := by omega
        have j2 : ((i : Int) == (a.length : Int)) = false := by simp; omega
        have j5 : (0 : Int) ≤ (i : Int) := by omega
        by_cases hkb : k < b.length
        · obtain ⟨A2, c2, hc2', hr2⟩ := (HTb.out.low hBW HTb.out.1 hB2).at_ hkb
          rw [Nat.zero_add] at hc2'
          have hm2 := HRB.out _ (List.getElem_mem hkb)
          have j3 : (k : Int) < (b.length : Int) := by omega
          have j4 : ((k : Int) == (b.length : Int)) = false := by simp; omega
          have j6 : (0 : Int) ≤ (k : Int) := by omega
          have q1 := cell_regrown hc1
          have q2 := cell_regrown hc2'
          obtain ⟨z, hz⟩ : ∃ z, cmpR a[i] b[k] = z := ⟨_, rfl⟩
          have HZ := Lib.hid hz
          go_wp2_with fail
          refine wp_region_quiet_below (by kernel_rfl) (by kernel_rfl) ?_
          repeat (go_big_quiet_step (first
            | (go_at_call 35; exact Calls.regrown_of (spec_rows_is z A1 A2 c1 c2 a[i] b[k] _ HZ.out ((hr1.1.mono (by omega)).to_ (below_regrown wr _ _)) ((hr2.1.mono (by omega)).to_ (below_regrown wr _ _)) hm1 hm2))))
          refine wpQuiet_nil ?_
          intro _ hw'
          obtain ⟨⟨dq, osq⟩, hw''⟩ := hw'
          subst hw''
          have hbx := below_regrown wr dq osq
          generalize grow (redrawn wr dq) osq = wx at *
          have hc3 := (hbx.cell (p := ⟨ga, i, none⟩) (World.block_lt_of_cell? _ ⟨ga, i, none⟩ hc1)).trans hc1
          have hc4 := (hbx.cell (p := ⟨gb, k, none⟩) (World.block_lt_of_cell? _ ⟨gb, k, none⟩ hc2')).trans hc2'
          have hTz : w2.heap.size ≤ wx.heap.size := by have := hbx.size; omega
          have hBT : Below w2.heap.size w2 wx := hBW.trans (hbx.mono hwz)
          have hrx1 := hr1.below hbx (by omega)
          have hrx2 := hr2.below hbx (by omega)
          obtain ⟨hs, ho1, hh1'⟩ := outv_below hV.out hbx (by omega)
          have hsl : hs.length = out.length := by simpa using ho1.1
          have HO1 := Lib.hid ho1
          have HH1 := Lib.hid hh1'
          have HSL := Lib.hid hsl
          have HX1 := Lib.hid hrx1
          have HX2 := Lib.hid hrx2
          clear q1 q2 hc1 hc2' hz ho1 hh1' hsl hrx1 hrx2 hr1 hr2 hbx
          by_cases hlz : z < 0
          · have t1 : z ≤ 0 := by omega
            have t2 : ¬ 0 ≤ z := by omega
            have t3 : decide (0 ≤ z) = false := by simpa using t2
            have HM2 := Lib.hid (minv_left Haa.out Hab.out hM.out hia (less_drop (a := a) (i := i) Hab.out hkb (by rw [HZ.out]; exact hlz)))
            go_wp2_with (first | (at_builtin; refine wpList_append_own _ rfl (.tmp 59) (.tmp 64) _ rfl w2.heap.size 35 i0 _ 1 24 Try.underlying24 hi0 hz0 hz1 hz2 rfl (by decide) _ _ _ rfl (HO1.out.alloc _) ⟨wx.heap.size, 0, none⟩ 1 1 [.slice A1 a[i].length c1] rfl rfl (news_cell _ _ _) (by simp [Value.oneCell']) (by unfold maxLen; omega) (by omega) (by simp; omega) ?_; intro v2 w4 ho4 hg4 hv4; refine Hid.out ?_))
            refine Lib.hid ?_
            have hbb : Below w2.heap.size wx w4 := ((Below.refl _ _).alloc hTz _).grown hg4 (by simp; omega) (outv_own HO1.out)
            have hBN := hBT.trans hbb
            have hV4 := Lib.hid (outv_next (w0 := w) (v := v2) (o := out) (x := a[i]) (A := A1) (c := c1) hB2 hTz HH1.out HSL.out HX1.out ho4 hbb)
            have hn4 := Lib.hid (show v2 ≠ .slice none 0 0 from fun h => by have := (hv4.1 h).2; omega)
            clear ho4 hg4 hv4 hbb
            go_wp2_with fail
            go_roundw
            case rel => exact ⟨i + 1, k, out ++ [a[i]], by omega, hk, by go_num, rfl, hn4.out, by simp; omega, HM2, hV4, hBN⟩
            case measure => simp [intOf]; omega
          · by_cases hez : z = 0
            · have t1 : z ≤ 0 := by omega
              have t2 : 0 ≤ z := by omega
              have HM2 := Lib.hid (minv_both Haa.out Hab.out hM.out hia hkb (by rw [HZ.out]; exact hez))
              clear hez
              go_wp2_with (first | (at_builtin; refine wpList_append_own _ rfl (.tmp 59) (.tmp 64) _ rfl w2.heap.size 35 i0 _ 1 24 Try.underlying24 hi0 hz0 hz1 hz2 rfl (by decide) _ _ _ rfl (HO1.out.alloc _) ⟨wx.heap.size, 0, none⟩ 1 1 [.slice A1 a[i].length c1] rfl rfl (news_cell _ _ _) (by simp [Value.oneCell']) (by unfold maxLen; omega) (by omega) (by simp; omega) ?_; intro v2 w4 ho4 hg4 hv4; refine Hid.out ?_))
              refine Lib.hid ?_
              have hbb : Below w2.heap.size wx w4 := ((Below.refl _ _).alloc hTz _).grown hg4 (by simp; omega) (outv_own HO1.out)
              have hBN := hBT.trans hbb
              have hV4 := Lib.hid (outv_next (w0 := w) (v := v2) (o := out) (x := a[i]) (A := A1) (c := c1) hB2 hTz HH1.out HSL.out HX1.out ho4 hbb)
              have hn4 := Lib.hid (show v2 ≠ .slice none 0 0 from fun h => by have := (hv4.1 h).2; omega)
              clear ho4 hg4 hv4 hbb
              go_wp2_with fail
              go_roundw
              case rel => exact ⟨i + 1, k + 1, out ++ [a[i]], by omega, by omega, by go_num, by go_num, hn4.out, by simp; omega, HM2, hV4, hBN⟩
              case measure => simp [intOf]; omega
            · have t1 : ¬ z ≤ 0 := by omega
              have t3 : decide (z ≤ 0) = false := by simpa using t1
              have t2 : 0 ≤ z := by omega
              have HM2 := Lib.hid (minv_right Haa.out Hab.out hM.out hkb (less_drop (a := b) (i := k) Haa.out hia (by have := good_cmpR.anti a[i] b[k]; have := HZ.out; omega)))
              go_wp2_with (first | (at_builtin; refine wpList_append_own _ rfl (.tmp 68) (.tmp 73) _ rfl w2.heap.size 35 i0 _ 1 24 Try.underlying24 hi0 hz0 hz1 hz2 rfl (by decide) _ _ _ rfl (HO1.out.alloc _) ⟨wx.heap.size, 0, none⟩ 1 1 [.slice A2 b[k].length c2] rfl rfl (news_cell _ _ _) (by simp [Value.oneCell']) (by unfold maxLen; omega) (by omega) (by simp; omega) ?_; intro v2 w4 ho4 hg4 hv4; refine Hid.out ?_))
              refine Lib.hid ?_
              have hbb : Below w2.heap.size wx w4 := ((Below.refl _ _).alloc hTz _).grown hg4 (by simp; omega) (outv_own HO1.out)
              have hBN := hBT.trans hbb
              have hV4 := Lib.hid (outv_next (w0 := w) (v := v2) (o := out) (x := b[k]) (A := A2) (c := c2) hB2 hTz HH1.out HSL.out HX2.out ho4 hbb)
              have hn4 := Lib.hid (show v2 ≠ .slice none 0 0 from fun h => by have := (hv4.1 h).2; omega)
              clear ho4 hg4 hv4 hbb
              go_wp2_with fail
              go_roundw
              case rel => exact ⟨i, k + 1, out ++ [b[k]], hi, by omega, rfl, by go_num, hn4.out, by simp; omega, HM2, hV4, hBN⟩
              case measure => simp [intOf]; omega
        · have j3 : ¬ (k : Int) < (b.length : Int) := by omega
          have j4 : ((k : Int) == (b.length : Int)) = true := by simp; omega
          have hTz : w2.heap.size ≤ wr.heap.size := hwz
          have hBT := hBW
          obtain ⟨hs, ho1, hh1'⟩ := hV.out
          have hsl : hs.length = out.length := by simpa using ho1.1
          have HO1 := Lib.hid ho1
          have HH1 := Lib.hid hh1'
          have HSL := Lib.hid hsl
          have HX1 := Lib.hid hr1
          have HM2 := Lib.hid (minv_left Haa.out Hab.out hM.out hia (by rw [List.drop_eq_nil_of_le (by omega)]; simp))
          clear ho1 hh1' hsl hr1
          go_wp2_with (first | (at_builtin; refine wpList_append_own _ rfl (.tmp 59) (.tmp 64) _ rfl w2.heap.size 35 i0 _ 1 24 Try.underlying24 hi0 hz0 hz1 hz2 rfl (by decide) _ _ _ rfl (HO1.out.alloc _) ⟨wr.heap.size, 0, none⟩ 1 1 [.slice A1 a[i].length c1] rfl rfl (news_cell _ _ _) (by simp [Value.oneCell']) (by unfold maxLen; omega) (by omega) (by simp; omega) ?_; intro v2 w4 ho4 hg4 hv4; refine Hid.out ?_))
          refine Lib.hid ?_
          have hbb : Below w2.heap.size wr w4 := ((Below.refl _ _).alloc hTz _).grown hg4 (by simp; omega) (outv_own HO1.out)
          have hBN := hBT.trans hbb
          have hV4 := Lib.hid (outv_next (w0 := w) (v := v2) (o := out) (x := a[i]) (A := A1) (c := c1) hB2 hTz HH1.out HSL.out HX1.out ho4 hbb)
          have hn4 := Lib.hid (show v2 ≠ .slice none 0 0 from fun h => by have := (hv4.1 h).2; omega)
          clear ho4 hg4 hv4 hbb
          go_wp2_with fail
          go_roundw
          case rel => exact ⟨i + 1, k, out ++ [a[i]], by omega, hk, by go_num, rfl, hn4.out, by simp; omega, HM2, hV4, hBN⟩
          case measure => simp [intOf]; omega
      · have j1 : ¬ (i : Int) < (a.length : Int) := by omega
        have j2 : ((i : Int) == (a.length : Int)) = true := by simp; omega
        by_cases hkb : k < b.length
        · obtain ⟨A2, c2, hc2', hr2⟩ := (HTb.out.low hBW HTb.out.1 hB2).at_ hkb
          rw [Nat.zero_add] at hc2'
          have hm2 := HRB.out _ (List.getElem_mem hkb)
          have j3 : (k : Int) < (b.length : Int) := by omega
          have j6 : (0 : Int) ≤ (k : Int) := by omega
          have hTz : w2.heap.size ≤ wr.heap.size := hwz
          have hBT := hBW
          obtain ⟨hs, ho1, hh1'⟩ := hV.out
          have hsl : hs.length = out.length := by simpa using ho1.1
          have HO1 := Lib.hid ho1
          have HH1 := Lib.hid hh1'
          have HSL := Lib.hid hsl
          have HX2 := Lib.hid hr2
          have HM2 := Lib.hid (minv_right Haa.out Hab.out hM.out hkb (by rw [List.drop_eq_nil_of_le (by omega)]; simp))
          clear ho1 hh1' hsl hr2
          go_wp2_with (first | (at_builtin; refine wpList_append_own _ rfl (.tmp 68) (.tmp 73) _ rfl w2.heap.size 35 i0 _ 1 24 Try.underlying24 hi0 hz0 hz1 hz2 rfl (by decide) _ _ _ rfl (HO1.out.alloc _) ⟨wr.heap.size, 0, none⟩ 1 1 [.slice A2 b[k].length c2] rfl rfl (news_cell _ _ _) (by simp [Value.oneCell']) (by unfold maxLen; omega) (by omega) (by simp; omega) ?_; intro v2 w4 ho4 hg4 hv4; refine Hid.out ?_))
          refine Lib.hid ?_
          have hbb : Below w2.heap.size wr w4 := ((Below.refl _ _).alloc hTz _).grown hg4 (by simp; omega) (outv_own HO1.out)
          have hBN := hBT.trans hbb
          have hV4 := Lib.hid (outv_next (w0 := w) (v := v2) (o := out) (x := b[k]) (A := A2) (c := c2) hB2 hTz HH1.out HSL.out HX2.out ho4 hbb)
          have hn4 := Lib.hid (show v2 ≠ .slice none 0 0 from fun h => by have := (hv4.1 h).2; omega)
          clear ho4 hg4 hv4 hbb
          go_wp2_with fail
          go_roundw
          case rel => exact ⟨i, k + 1, out ++ [b[k]], hi, by omega, rfl, by go_num, hn4.out, by simp; omega, HM2, hV4, hBN⟩
          case measure => simp [intOf]; omega
        · have j3 : ¬ (k : Int) < (b.length : Int) := by omega
          obtain ⟨m1, m2⟩ := minv_end hM.out (by omega) (by omega)
          obtain ⟨g5, c5, rfl, hc5, hT5⟩ := outv_slice hV.out HNE.out
          have hB5 : Below w.heap.size w wr := hb12.trans (hBW.mono (by omega))
          clear hV HNE
          go_wp2_with fail
          go_ret
          exact ⟨g5, c5, out, rfl, hc5, hT5, m1, fun r => by rw [m2 r]; exact HMEM.out r, by omega, hB5⟩
end Go.Proofs.Yteoepnadjkjlmaa
