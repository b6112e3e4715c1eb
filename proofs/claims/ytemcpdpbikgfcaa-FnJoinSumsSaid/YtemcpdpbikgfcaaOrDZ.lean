/-
  spec.l4DrawTwo, spec.DrawAddDiffs, spec.DrawFlips, spec.DrawDiffOf. impl.widthOf, impl.compatible; spec.l4Wide. spec.l4Or.
-/
import Derived.Test.YtemcpdpbikgfcaaDrawWide
import Derived.Test.YtemcpdpbikgfcaaNegSZ
import Derived.Test.YtemcpdpbikgfcaaDistSZ
import Derived.Test.YtemcpdpbikgfcaaDiffOkSZ
import Derived.Test.YtemcpdpbikgfcaaCopyDZ
namespace Go.Proofs.Ytemcpdpbikgfcaa
open Go.RowKit Go.Sort
set_option linter.unusedVariables false

/-- What a drawn list of differences may hold. -/
def drawnD (zs : List GDiff) : Prop := zs.length ≤ 8 ∧ ∀ z ∈ zs, z.row.length ≤ 20 ∧ (∀ v ∈ z.row, v.t.size ≤ 100) ∧ -4611686018427387904 ≤ z.count ∧ z.count ≤ 4611686018427387904
theorem drawn_of {ps : List DH} (hl : ps.length ≤ 8) (h : ∀ p ∈ ps, smallP p) : drawnD (ps.map (·.2)) :=
  ⟨by simpa using hl, fun z hz => by obtain ⟨p, hp, rfl⟩ := List.mem_map.1 hz; exact h p hp⟩
theorem drawn_neg {zs : List GDiff} (h : drawnD zs) : drawnD (negD zs) := by
  unfold negD
  by_cases hk : diffOkB zs = true
  · rw [if_pos hk]
    refine ⟨by simpa [negL] using h.1, fun z hz => ?_⟩
    obtain ⟨y, hy, rfl⟩ := List.mem_map.1 hz
    have h1 := h.2 y hy
    exact ⟨h1.1, h1.2.1, by show -4611686018427387904 ≤ -y.count; omega, by show -y.count ≤ 4611686018427387904; omega⟩
  · rw [if_neg hk]; exact ⟨by simp, fun z hz => by simp at hz⟩
theorem drawn_lens {zs : List GDiff} (h : drawnD zs) : zs.length ≤ 1048576 ∧ ∀ z ∈ zs, z.row.length ≤ 1048576 ∧ ∀ v ∈ z.row, v.t.size ≤ 1048576 :=
  ⟨by have := h.1; omega, fun z hz => ⟨by have := (h.2 z hz).1; omega, fun v hv => by have := (h.2 z hz).2.1 v hv; omega⟩⟩
theorem drawn_max {zs : List GDiff} (h : drawnD zs) : ∀ z ∈ zs, z.row.length ≤ 1048576 ∧ ∀ v ∈ z.row, v.t.size ≤ maxLen :=
  fun z hz => ⟨by have := (h.2 z hz).1; omega, fun v hv => by have := (h.2 z hz).2.1 v hv; unfold maxLen; omega⟩
/-- What the draw of two leaves: w0 lies below the cursor g. -/
def TwoPost (g : Nat) (w : World) (e : Ending) (w' : World) : Prop :=
  ∃ A c zs B d ys, e = .returned (.tuple #[.slice A zs.length c, .slice B ys.length d]) ∧ DiffsAt w' 0 w'.heap.size A zs ∧ DiffsAt w' 0 w'.heap.size B ys ∧ drawnD zs ∧ drawnD ys ∧ w.grownBy w' (some g)
theorem fd_end {base : Nat} {w : World} {v : Value} {ps : List DH} (h : FD base w v ps) : ∃ A c, v = .slice A (ps.map (·.2)).length c ∧ DiffsAt w 0 w.heap.size A (ps.map (·.2)) := by
  obtain ⟨A, c, e, _, hd⟩ := h.diffs
  exact ⟨A, c, by rw [e]; simp, hd.mono (Nat.zero_le _) (Nat.le_refl _)⟩
set_option maxRecDepth 100000 in
set_option maxHeartbeats 3200000 in
theorem draw_two (g : Nat) (A : Option Addr) (c : Nat) (xs : List UInt8) (w : World) (hS : St w g A c xs) (hl : xs.length ≤ 1048576) :
    Calls Try.prog 71 #[.pointer (some ⟨g, 0, none⟩)] w (TwoPost g w) := by
  have hgl := hS.lt
  go_enter Try.func71, Try.ntmps71
  go_wp2_with fail
  refine (l1_below g A c xs 3 _ hS.1 hS.2 hl (by omega) (by omega)).mono ?_
  rintro e w1 ⟨x, rfl, hx, hD1⟩
  obtain ⟨n, hn⟩ : ∃ n, n = 1 + x := ⟨_, rfl⟩
  have e1 : 1 + (x : Int) = (n : Int) := by omega
  have e2 : (n : Int) + 1 = ((n + 1 : Nat) : Int) := by omega
  have hn4 : n ≤ 3 := by omega
  have HS1 := Lib.hid (show St w1 g A c xs from ⟨hD1.1, hD1.2.1⟩)
  have HG1 := Lib.hid hD1.2.2
  have hg1 : g < w1.heap.size := by have := HG1.out.size; omega
  clear hD1 hS hn hx
  have HE2 := Lib.hid e2
  clear e2
  go_wp2_with fail
  refine (draw_wide g A c xs n _ HS1.out hl (by omega)).mono ?_
  rintro e w2 ⟨v2, ps, rfl, hF2, hp2, hs2, hS2, hG2⟩
  have HF2 := Lib.hid (hF2.up (show w.heap.size ≤ w1.heap.size from HG1.out.size))
  have HS2 := Lib.hid hS2
  have HG2 := Lib.hid (grown_to HG1.out hG2)
  have HP2 := Lib.hid (drawn_of hp2 hs2)
  clear hF2 hp2 hs2 hS2 hG2
  go_wp2_with fail
  refine (l1_once g A c xs 16 _ HS2.out.1 HS2.out.2 hl (by omega) (by omega)).mono ?_
  rintro e w3 ⟨b, rfl, hD3⟩
  have HF3 := Lib.hid (HF2.out.drawn hD3.2.2 hgl)
  have HS3 := Lib.hid (show St w3 g A c xs from ⟨hD3.1, hD3.2.1⟩)
  have HG3 := Lib.hid (grown_to HG2.out hD3.2.2)
  clear hD3 HF2 HS2 HG2
  cases b with
  | false =>
    go_wp2_with fail
    refine (draw_wide g A c xs n _ HS3.out hl (by omega)).mono ?_
    rintro e w4 ⟨v4, qs, rfl, hF4, hp4, hs4, hS4, hG4⟩
    have HF4 := Lib.hid (hF4.up (show w.heap.size ≤ w3.heap.size from HG3.out.size))
    have HF4a := Lib.hid (HF3.out.drawn hG4 hgl)
    have HS4 := Lib.hid hS4
    have HG4 := Lib.hid (grown_to HG3.out hG4)
    have HP4 := Lib.hid (drawn_of hp4 hs4)
    clear hF4 hp4 hs4 hS4 hG4 HF3 HS3 HG3
    go_wp2_with fail
    refine (l1_once g A c xs 4 _ HS4.out.1 HS4.out.2 hl (by omega) (by omega)).mono ?_
    rintro e w5 ⟨b, rfl, hD5⟩
    have HF5 := Lib.hid (HF4.out.drawn hD5.2.2 hgl)
    have HF5a := Lib.hid (HF4a.out.drawn hD5.2.2 hgl)
    have HS5 := Lib.hid (show St w5 g A c xs from ⟨hD5.1, hD5.2.1⟩)
    have HG5 := Lib.hid (grown_to HG4.out hD5.2.2)
    clear hD5 HF4 HF4a HS4 HG4
    obtain ⟨A6, c6, rfl, hd6⟩ := fd_end HF5a.out
    obtain ⟨A7, c7, rfl, hd7⟩ := fd_end HF5.out
    have HD6 := Lib.hid hd6
    have HD7 := Lib.hid hd7
    clear hd6 hd7 HF5 HF5a
    generalize ps.map (·.2) = zs at *
    generalize qs.map (·.2) = ys at *
    cases b with
    | false =>
      go_wp2_with fail
      go_ret2
      exact ⟨A6, c6, zs, A7, c7, ys, rfl, HD6.out, HD7.out, HP2.out, HP4.out, HG5.out⟩
    | true =>
      go_wp2_with fail
      refine (spec_negDiff A6 c6 zs _ HD6.out (drawn_lens HP2.out).1 (drawn_max HP2.out)).mono ?_
      rintro e w6 ⟨A8, c8, rfl, _, hd8, hb8⟩
      have HD8 := Lib.hid hd8
      have HD6' := Lib.hid (HD6.out.to_ hb8)
      have HG8 := Lib.hid (grown_to HG5.out (grown_below (b := some g) hb8))
      have HP8 := Lib.hid (drawn_neg HP2.out)
      clear hd8 hb8
      go_wp2_with fail
      go_ret2
      exact ⟨A6, c6, zs, A8, c8, negD zs, rfl, HD6'.out, HD8.out, HP2.out, HP8.out, HG8.out⟩
  | true =>
    go_wp2_with fail
    rw [HE2.out]
    refine (draw_wide g A c xs (n + 1) _ HS3.out hl (by omega)).mono ?_
    rintro e w4 ⟨v4, qs, rfl, hF4, hp4, hs4, hS4, hG4⟩
    have HF4 := Lib.hid (hF4.up (show w.heap.size ≤ w3.heap.size from HG3.out.size))
    have HF4a := Lib.hid (HF3.out.drawn hG4 hgl)
    have HS4 := Lib.hid hS4
    have HG4 := Lib.hid (grown_to HG3.out hG4)
    have HP4 := Lib.hid (drawn_of hp4 hs4)
    clear hF4 hp4 hs4 hS4 hG4 HF3 HS3 HG3
    go_wp2_with fail
    refine (l1_once g A c xs 4 _ HS4.out.1 HS4.out.2 hl (by omega) (by omega)).mono ?_
    rintro e w5 ⟨b, rfl, hD5⟩
    have HF5 := Lib.hid (HF4.out.drawn hD5.2.2 hgl)
    have HF5a := Lib.hid (HF4a.out.drawn hD5.2.2 hgl)
    have HS5 := Lib.hid (show St w5 g A c xs from ⟨hD5.1, hD5.2.1⟩)
    have HG5 := Lib.hid (grown_to HG4.out hD5.2.2)
    clear hD5 HF4 HF4a HS4 HG4
    obtain ⟨A6, c6, rfl, hd6⟩ := fd_end HF5a.out
    obtain ⟨A7, c7, rfl, hd7⟩ := fd_end HF5.out
    have HD6 := Lib.hid hd6
    have HD7 := Lib.hid hd7
    clear hd6 hd7 HF5 HF5a
    generalize ps.map (·.2) = zs at *
    generalize qs.map (·.2) = ys at *
    cases b with
    | false =>
      go_wp2_with fail
      go_ret2
      exact ⟨A6, c6, zs, A7, c7, ys, rfl, HD6.out, HD7.out, HP2.out, HP4.out, HG5.out⟩
    | true =>
      go_wp2_with fail
      refine (spec_negDiff A6 c6 zs _ HD6.out (drawn_lens HP2.out).1 (drawn_max HP2.out)).mono ?_
      rintro e w6 ⟨A8, c8, rfl, _, hd8, hb8⟩
      have HD8 := Lib.hid hd8
      have HD6' := Lib.hid (HD6.out.to_ hb8)
      have HG8 := Lib.hid (grown_to HG5.out (grown_below (b := some g) hb8))
      have HP8 := Lib.hid (drawn_neg HP2.out)
      clear hd8 hb8
      go_wp2_with fail
      go_ret2
      exact ⟨A6, c6, zs, A8, c8, negD zs, rfl, HD6'.out, HD8.out, HP2.out, HP8.out, HG8.out⟩
/-- What a draw of two lists of differences leaves. -/
def TwoDrawn (w : World) (e : Ending) (w' : World) : Prop :=
  ∃ A c zs B d ys, e = .returned (.tuple #[.slice A zs.length c, .slice B ys.length d]) ∧ DiffsAt w' 0 w'.heap.size A zs ∧ DiffsAt w' 0 w'.heap.size B ys ∧ drawnD zs ∧ drawnD ys ∧ Below w.heap.size w w'
set_option maxRecDepth 100000 in
theorem draw_AddDiffs (A : Option Addr) (c : Nat) (xs : List UInt8) (w : World) (hx : BAt w w.heap.size A xs) (hl : xs.length ≤ 1048576) :
    Calls Try.prog 38 #[.slice A xs.length c] w (TwoDrawn w) := by
  go_enter Try.func38, Try.ntmps38
  go_wp2_with fail
  refine (l1_new A c xs _ hx hl).mono ?_
  rintro e w1 ⟨rfl, hC, hb1⟩
  have hS1 : St w1 w.heap.size A c xs := ⟨hC, hx.below hb1 (Nat.le_refl _)⟩
  go_wp2_with fail
  refine (draw_two w.heap.size A c xs _ hS1 hl).mono ?_
  rintro e w2 ⟨A2, c2, zs, B2, d2, ys, rfl, hz, hy, dz, dy, hG2⟩
  have hB2 : Below w.heap.size w w2 := hb1.grown hG2 hb1.size (fun k hk => by injection hk; omega)
  go_wp2_with fail
  go_ret2
  exact ⟨A2, c2, zs, B2, d2, ys, rfl, hz, hy, dz, dy, hB2⟩
set_option maxRecDepth 100000 in
theorem draw_Flips (A : Option Addr) (c : Nat) (xs : List UInt8) (w : World) (hx : BAt w w.heap.size A xs) (hl : xs.length ≤ 1048576) :
    Calls Try.prog 34 #[.slice A xs.length c] w (TwoDrawn w) := by
  go_enter Try.func34, Try.ntmps34
  go_wp2_with fail
  refine (l1_new A c xs _ hx hl).mono ?_
  rintro e w1 ⟨rfl, hC, hb1⟩
  have hS1 : St w1 w.heap.size A c xs := ⟨hC, hx.below hb1 (Nat.le_refl _)⟩
  go_wp2_with fail
  refine (draw_two w.heap.size A c xs _ hS1 hl).mono ?_
  rintro e w2 ⟨A2, c2, zs, B2, d2, ys, rfl, hz, hy, dz, dy, hG2⟩
  have hB2 : Below w.heap.size w w2 := hb1.grown hG2 hb1.size (fun k hk => by injection hk; omega)
  go_wp2_with fail
  go_ret2
  exact ⟨A2, c2, zs, B2, d2, ys, rfl, hz, hy, dz, dy, hB2⟩
/-- What a draw of two tables leaves. -/
def TabsDrawn (w : World) (e : Ending) (w' : World) : Prop :=
  ∃ A c zs B d ys, e = .returned (.tuple #[.slice A (posD zs).length c, .slice B (posD ys).length d]) ∧ TabC w' w'.heap.size A (posD zs) ∧ TabC w' w'.heap.size B (posD ys) ∧ drawnD zs ∧ drawnD ys ∧ Below w.heap.size w w'
set_option maxRecDepth 100000 in
set_option maxHeartbeats 1600000 in
theorem draw_DiffOf (A : Option Addr) (c : Nat) (xs : List UInt8) (w : World) (hx : BAt w w.heap.size A xs) (hl : xs.length ≤ 1048576) :
    Calls Try.prog 42 #[.slice A xs.length c] w (TabsDrawn w) := by
  go_enter Try.func42, Try.ntmps42
  go_wp2_with fail
  refine (l1_new A c xs _ hx hl).mono ?_
  rintro e w1 ⟨rfl, hC, hb1⟩
  have hS1 : St w1 w.heap.size A c xs := ⟨hC, hx.below hb1 (Nat.le_refl _)⟩
  go_wp2_with fail
  refine (draw_two w.heap.size A c xs _ hS1 hl).mono ?_
  rintro e w2 ⟨A2, c2, zs, B2, d2, ys, rfl, hz, hy, dz, dy, hG2⟩
  have hB2 : Below w.heap.size w w2 := hb1.grown hG2 hb1.size (fun k hk => by injection hk; omega)
  have HZ := Lib.hid hz
  have HY := Lib.hid hy
  have DZ := Lib.hid dz
  have DY := Lib.hid dy
  clear hz hy dz dy hG2 hS1 hC
  go_wp2_with fail
  refine (spec_distinctC A2 c2 zs _ HZ.out (drawn_lens DZ.out).1 (drawn_max DZ.out)).mono ?_
  rintro e w3 ⟨A3, c3, rfl, _, hT3, hb3⟩
  have hB3 := below_next hB2 hb3 rfl rfl
  have HT3 := Lib.hid hT3
  clear hT3
  go_wp2_with fail
  refine (spec_distinctC B2 d2 ys _ (HY.out.to_ hb3) (drawn_lens DY.out).1 (drawn_max DY.out)).mono ?_
  rintro e w4 ⟨A4, c4, rfl, _, hT4, hb4⟩
  have hB4 := below_next hB3 hb4 rfl rfl
  have HT4 := Lib.hid hT4
  have HT3' := Lib.hid (HT3.out.to_ hb4)
  clear hT4 hb4 HT3
  go_wp2_with fail
  go_ret2
  exact ⟨A3, c3, zs, A4, c4, ys, rfl, HT3'.out, HT4.out, DZ.out, DY.out, hB4⟩
end Go.Proofs.Ytemcpdpbikgfcaa
namespace Go.Proofs.Ytemcpdpbikgfcaa
open Go.RowKit Go.Sort
set_option linter.unusedVariables false

theorem beq0_f {n : Nat} (h : n ≠ 0) : ((n : Int) == 0) = false := by rw [beq_eq_false_iff_ne]; omega
theorem beq0_t {n : Nat} (h : n = 0) : ((n : Int) == 0) = true := by subst h; rfl
def compatB (a b : List GDiff) : Bool := decide (a.length = 0) || decide (b.length = 0) || decide (wid (rowsD a) = wid (rowsD b))
theorem impl_width {lo : Nat} (A : Option Addr) (c : Nat) (zs : List GDiff) (w : World) (hr : DiffsAt w lo w.heap.size A zs) (hl : zs.length ≤ 4194304) :
    Calls Try.prog 87 #[.slice A zs.length c] w fun e w' => e = .returned (.int .i64 (wid (rowsD zs))) ∧ w = w' := by
  by_cases h0 : zs.length = 0
  · have hz : zs = [] := List.eq_nil_of_length_eq_zero h0
    subst hz
    go_enter Try.func87, Try.ntmps87
    go_wp2_with fail
    go_ret
    exact ⟨rfl, rfl⟩
  · have hp : 0 < zs.length := by omega
    obtain ⟨g, o, rfl, _, hg, ⟨A', c', ⟨hcell, hcap⟩, hrow⟩, hcnt⟩ := hr.at_ hp
    have hq : ((zs.length : Int) == 0) = false := beq0_f h0
    have hi1 : (0 : Int) < (zs.length : Int) := by omega
    have hw := Lib.hid (widD_eq hp)
    rw [Nat.zero_mul, Nat.add_zero] at hcell
    clear h0 hr hrow hcnt
    go_enter Try.func87, Try.ntmps87
    go_wp2_with fail
    go_ret
    exact ⟨by rw [hw.out]; rfl, rfl⟩
set_option maxHeartbeats 800000 in
theorem impl_compatible {lo lo' : Nat} (A B : Option Addr) (c d : Nat) (a b : List GDiff) (w : World) (ha : DiffsAt w lo w.heap.size A a) (hb : DiffsAt w lo' w.heap.size B b) (hl : a.length ≤ 4194304) (hl' : b.length ≤ 4194304) :
    Calls Try.prog 79 #[.slice A a.length c, .slice B b.length d] w fun e w' => e = .returned (.bool (compatB a b)) ∧ w = w' := by
  have HA := Lib.hid ha
  have HB := Lib.hid hb
  clear ha hb
  by_cases h0 : a.length = 0
  · have hc := Lib.hid (show compatB a b = true by unfold compatB; simp [h0])
    have hq : ((a.length : Int) == 0) = true := beq0_t h0
    clear h0
    go_enter Try.func79, Try.ntmps79
    go_wp2_with fail
    go_ret
    exact ⟨by rw [hc.out]; rfl, rfl⟩
  · have hq : ((a.length : Int) == 0) = false := beq0_f h0
    by_cases h1 : b.length = 0
    · have hc := Lib.hid (show compatB a b = true by unfold compatB; simp [h1])
      have hq' : ((b.length : Int) == 0) = true := beq0_t h1
      clear h0 h1
      go_enter Try.func79, Try.ntmps79
      go_wp2_with fail
      go_ret
      exact ⟨by rw [hc.out]; rfl, rfl⟩
    · have hq' : ((b.length : Int) == 0) = false := beq0_f h1
      have hc := Lib.hid (show compatB a b = (((wid (rowsD a) : Int)) == (wid (rowsD b) : Int)) by unfold compatB; rw [Bool.eq_iff_iff]; simp [h0, h1]; omega)
      clear h0 h1
      generalize hwa : wid (rowsD a) = wa at *
      generalize hwb : wid (rowsD b) = wb at *
      have H1 := Lib.hid (impl_width A c a w HA.out hl)
      have H2 := Lib.hid (impl_width B d b w HB.out hl')
      rw [hwa] at H1
      rw [hwb] at H2
      clear hwa hwb
      go_enter Try.func79, Try.ntmps79
      go_wp2_with fail
      refine H1.out.mono ?_
      rintro e w' ⟨rfl, rfl⟩
      go_wp2_with fail
      refine H2.out.mono ?_
      rintro e w' ⟨rfl, rfl⟩
      go_wp2_with fail
      go_ret
      exact ⟨by rw [hc.out]; rfl, rfl⟩
end Go.Proofs.Ytemcpdpbikgfcaa
namespace Go.Proofs.Ytemcpdpbikgfcaa
open Go.RowKit Go.Sort
set_option linter.unusedVariables false

def orD (zs : List GDiff) : List GDiff := if diffOkB zs = true then zs else []
set_option maxRecDepth 100000 in
set_option maxHeartbeats 1600000 in
theorem spec_orD {lo : Nat} (A : Option Addr) (c : Nat) (zs : List GDiff) (w : World) (hr : DiffsAt w lo w.heap.size A zs) (hl : zs.length ≤ 4194304) (hlr : ∀ z ∈ zs, z.row.length ≤ 1048576 ∧ ∀ v ∈ z.row, v.t.size ≤ maxLen) :
    Calls Try.prog 47 #[.slice A zs.length c] w (DPost w (orD zs)) := by
  have HR := Lib.hid hr
  have HLR := Lib.hid hlr
  clear hr hlr
  by_cases h : diffOkB zs = true
  · have ho : orD zs = zs := by unfold orD; rw [if_pos h]
    rw [ho]
    clear ho
    go_enter Try.func47, Try.ntmps47
    go_wp2_with fail
    refine (spec_diffOk A c zs _ HR.out hl HLR.out).mono ?_
    rintro e w1 ⟨rfl, hb1⟩
    rw [h]
    go_wp2_with fail
    refine (spec_copyD A c zs _ (HR.out.to_ hb1) hl (fun z hz => (HLR.out z hz).1)).mono ?_
    rintro e w2 ⟨A2, c2, rfl, hc2, hd2, hb2⟩
    have hB2 := below_next hb1 hb2 rfl rfl
    have HD2 := Lib.hid hd2
    clear hd2
    go_wp2_with fail
    go_ret
    exact ⟨_, _, rfl, hc2, HD2.out, hB2⟩
  · rw [Bool.not_eq_true] at h
    have ho : orD zs = [] := by unfold orD; rw [if_neg (by rw [h]; decide)]
    rw [ho]
    clear ho
    go_enter Try.func47, Try.ntmps47
    go_wp2_with fail
    refine (spec_diffOk A c zs _ HR.out hl HLR.out).mono ?_
    rintro e w1 ⟨rfl, hb1⟩
    rw [h]
    go_wp2_with fail
    go_ret
    exact ⟨_, _, rfl, ⟨Nat.le_refl _, Nat.zero_le _⟩, .inl rfl, hb1.alloc hb1.size _⟩
end Go.Proofs.Ytemcpdpbikgfcaa
