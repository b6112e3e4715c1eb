/-
  append of one difference as a step of a region that draws, at whatever world. A list of differences that a call of the program's builds, each row a block of its own. Bounds of counts. spec.l4Neg and spec.NegDiff. spec.NegDiff.
-/
import Derived.Test.YtemcpdpbikgfcaaCopyDZ
import Derived.Test.YtemcpdpbikgfcaaMarkD
import Derived.Test.YtemcpdpbikgfcaaTyDiffZ
import Derived.Test.YtemcpdpbikgfcaaDiffOkSZ
namespace Go.Proofs.Ytemcpdpbikgfcaa
open Go.RowKit Go.Sort
set_option linter.unusedVariables false

theorem dhL_cellsW {W : World} {b : Nat} {p : DH} (h0 : W.cell? ⟨b, 0, none⟩ = some (.slice p.1.1 p.2.row.length p.1.2)) (h1 : W.cell? ⟨b, 1, none⟩ = some (.int .i64 p.2.count)) : ∀ j u, (dhL p)[j]? = some u → W.cell? ((⟨b, 0, none⟩ : Addr).add j) = some u := by
  intro j u hj
  match j, hj with
  | 0, hj => simp [dhL] at hj; subst hj; rw [Addr.add_lit]; exact h0
  | 1, hj => simp [dhL] at hj; subst hj; rw [Addr.add_lit]; exact h1
theorem step_dappW {ops : Array Oper} {o : Oper} {a : Act} {W' : World} {K : Act → World → Prop} {Q : Exit → Act → World → Prop} {E : Prop}
    (hg : o.guard = none) (s x : Operand) (hop : o.op = Op.call { callee := Callee.builtin Builtin.append, args := #[s, x], argTypes := #[24, 24] })
    (w0 W : World) (v : Value) (zs : List GDiff) (p : DH) (b : Nat) (hs : a.eval s = v) (hI : DAcc w0 W v zs) (hp : DHok W w0.heap.size p) (hx : a.eval x = .slice (some ⟨b, 0, none⟩) 1 1)
    (hB : Below W.heap.size W W') (h0 : W'.cell? ⟨b, 0, none⟩ = some (.slice p.1.1 p.2.row.length p.1.2)) (h1 : W'.cell? ⟨b, 1, none⟩ = some (.int .i64 p.2.count)) (hb : zs.length ≤ 4194304)
    (hK : ∀ v' w', DAcc w0 w' v' (zs ++ [p.2]) → K (a.put o.dst v') w') :
    if Region.wanted o (yielded ops a.tmps) = true then Oper.wp Try.prog o a W' K Q else E := by
  have hw : Region.wanted o (yielded ops a.tmps) = true := by simp [Region.wanted, hg]
  rw [if_pos hw]
  obtain ⟨i0, hi, hz0, hz1, hz2⟩ := info_parts infoDiff
  have hI2 := hI.below hB
  have hp2 : DHok W' w0.heap.size p := ⟨hp.1.keep (hB.mono hI.low.size) (KeepT.below hB), hp.2⟩
  obtain ⟨ps, e, how, hq⟩ := hI2.own
  refine wp_append_own _ s x _ hop w0.heap.size 55 i0 _ 2 32 Try.underlying24 hi hz0 hz1 hz2 rfl (by decide) v zs.length (flatH ps) hs how ⟨b, 0, none⟩ 1 1 (dhL p) hx rfl (dhL_cellsW h0 h1) (dhL_one p) (by unfold maxLen; omega) (by omega) hI2.low.size (fun v' w' h1 h2 h3 => hK v' w' ?_)
  have hbw : Below w0.heap.size W' w' := (Below.refl _ _).grown h2 hI2.low.size (fun k hk => (World.ownsRow.lt how k hk).1)
  have hk := KeepT.grown how h2
  refine ⟨⟨ps ++ [p], by simp [e], ?_, fun q hm => ?_⟩, fun e1 => hI2.ne (h3.1 e1).1, hI2.low.trans hbw⟩
  · rw [flatH_append, List.length_append]
    simpa [flatH] using h1
  · rw [List.mem_append, List.mem_singleton] at hm
    rcases hm with hm | rfl
    · exact ⟨(hq q hm).1.keep hbw hk, (hq q hm).2⟩
    · exact ⟨hp2.1.keep hbw hk, hp2.2⟩
end Go.Proofs.Ytemcpdpbikgfcaa
namespace Go.Proofs.Ytemcpdpbikgfcaa
open Go.RowKit Go.Sort
set_option linter.unusedVariables false

structure GAcc (w0 w : World) (v : Value) (ps : List DH) : Prop where
  own : w.ownsRow w0.heap.size 55 2 v ps.length (flatH ps)
  row : ∀ p ∈ ps, RowW w0.heap.size w p
  apart : ps.Pairwise Apart
  cap : ∀ p ∈ ps, CapOk p.2.row.length p.1.2
  ne : v ≠ .slice none 0 0
  low : Below w0.heap.size w0 w
theorem GAcc.made {w0 w : World} {n m : Nat} {z : Array Value} (h : Below w0.heap.size w0 w) (hn : w.heap.size = n) (hm : m ≤ maxLen) (hz : z.size = m * 2) : GAcc w0 (w.alloc (.cells z 55)) (.slice (some ⟨n, 0, none⟩) 0 m) [] := by
  subst hn
  refine ⟨?_, fun p hp => by simp at hp, by simp, fun p hp => by simp at hp, by simp, h.alloc h.size _⟩
  simpa [flatH] using World.ownsRow_made (base := w0.heap.size) (e := 55) (size := 2) w z m h.size hm hz
theorem GAcc.slice {w0 w : World} {v : Value} {ps : List DH} (h : GAcc w0 w v ps) : ∃ A c, v = .slice A ps.length c ∧ CapOk ps.length c := by
  rcases h.own.2 with ⟨rfl, h0⟩ | ⟨g, cap, cur, rfl, hg, hh, hc1, hc2, hc3, hc4⟩
  · exact absurd rfl h.ne
  · exact ⟨_, cap, rfl, hc1, hc2⟩
theorem GAcc.below {w0 w w' : World} {v : Value} {ps : List DH} (h : GAcc w0 w v ps) (hb : Below w.heap.size w w') : GAcc w0 w' v ps := by
  refine ⟨⟨h.own.1, ?_⟩, fun p hm => (h.row p hm).blk (fun b _ hlt => hb.block b hlt), h.apart, h.cap, h.ne, h.low.trans (hb.mono h.low.size)⟩
  rcases h.own.2 with h' | ⟨g, cap, cur, e', hg, hc, hr⟩
  · exact .inl h'
  · exact .inr ⟨g, cap, cur, e', hg, (hb.block g (Array.getElem?_eq_some_iff.1 hc).1).trans hc, hr⟩
theorem RowW.keep {B : Nat} {w w' : World} {p : DH} (h : RowW B w p) (hk : KeepT 55 w w') : RowW B w' p := by
  rcases h with h | ⟨b, l, e, hB, hW⟩
  · exact .inl h
  · refine .inr ⟨b, l, e, hB, (hk b hW.lt (fun cur fr e => ?_)).trans hW⟩
    unfold Whole at hW; rw [hW] at e; cases e
theorem step_gappW {ops : Array Oper} {o : Oper} {a : Act} {W' : World} {K : Act → World → Prop} {Q : Exit → Act → World → Prop} {E : Prop}
    (hg : o.guard = none) (s x : Operand) (hop : o.op = Op.call { callee := Callee.builtin Builtin.append, args := #[s, x], argTypes := #[24, 24] })
    (w0 W : World) (v : Value) (ps : List DH) (p : DH) (b : Nat) (hs : a.eval s = v) (hI : GAcc w0 W v ps) (hp : RowW w0.heap.size W p) (hpc : CapOk p.2.row.length p.1.2) (hap : ∀ q ∈ ps, Apart q p) (hx : a.eval x = .slice (some ⟨b, 0, none⟩) 1 1)
    (hB : Below W.heap.size W W') (h0 : W'.cell? ⟨b, 0, none⟩ = some (.slice p.1.1 p.2.row.length p.1.2)) (h1 : W'.cell? ⟨b, 1, none⟩ = some (.int .i64 p.2.count)) (hb : ps.length ≤ 4194304)
    (hK : ∀ v' w', GAcc w0 w' v' (ps ++ [p]) → K (a.put o.dst v') w') :
    if Region.wanted o (yielded ops a.tmps) = true then Oper.wp Try.prog o a W' K Q else E := by
  have hw : Region.wanted o (yielded ops a.tmps) = true := by simp [Region.wanted, hg]
  rw [if_pos hw]
  obtain ⟨i0, hi, hz0, hz1, hz2⟩ := info_parts infoDiff
  have hI2 := hI.below hB
  have hp2 : RowW w0.heap.size W' p := hp.blk (fun b _ hlt => hB.block b hlt)
  have how := hI2.own
  refine wp_append_own _ s x _ hop w0.heap.size 55 i0 _ 2 32 Try.underlying24 hi hz0 hz1 hz2 rfl (by decide) v ps.length (flatH ps) hs how ⟨b, 0, none⟩ 1 1 (dhL p) hx rfl (dhL_cellsW h0 h1) (dhL_one p) (by unfold maxLen; omega) (by omega) hI2.low.size (fun v' w' h1 h2 h3 => hK v' w' ?_)
  have hbw : Below w0.heap.size W' w' := (Below.refl _ _).grown h2 hI2.low.size (fun k hk => (World.ownsRow.lt how k hk).1)
  have hk := KeepT.grown how h2
  refine ⟨?_, fun q hm => ?_, ?_, fun q hm => ?_, fun e1 => hI2.ne (h3.1 e1).1, hI2.low.trans hbw⟩
  · rw [flatH_append, List.length_append]
    simpa [flatH] using h1
  · rw [List.mem_append, List.mem_singleton] at hm
    rcases hm with hm | rfl
    · exact (hI2.row q hm).keep hk
    · exact hp2.keep hk
  · rw [List.pairwise_append]
    exact ⟨hI2.apart, by simp, fun q hq r hr => by rw [List.mem_singleton] at hr; subst hr; exact hap q hq⟩
  · rw [List.mem_append, List.mem_singleton] at hm
    rcases hm with hm | rfl
    · exact hI2.cap q hm
    · exact hpc
theorem GAcc.ga {w0 w : World} {v : Value} {ps : List DH} (h : GAcc w0 w v ps) : ∃ A c, v = .slice A ps.length c ∧ DGA w0.heap.size w A ps := by
  rcases h.own.2 with ⟨rfl, h0⟩ | ⟨g, cap, cur, rfl, hg, hh, hc1, hc2, hc3, hc4⟩
  · exact absurd rfl h.ne
  · refine ⟨_, cap, rfl, .inr ⟨g, cur.toList.drop (ps.length * 2), rfl, hg, ?_, h.row, h.apart, h.cap⟩⟩
    unfold Whole
    rw [← hc4, List.take_append_drop]
    exact hh
theorem GAcc.post {w0 w : World} {v : Value} {ps : List DH} {zs : List GDiff} (h : GAcc w0 w v ps) (hz : ps.map (·.2) = zs) : IPost w0 zs (.returned v) w := by
  obtain ⟨A, c, e, hd⟩ := h.ga
  exact ⟨A, c, ps, by rw [e], hz, hd, h.low⟩
theorem ipost_none {w w' : World} (h : Below w.heap.size w w') : IPost w [] (.returned (.slice none 0 0)) w' := ⟨none, 0, [], rfl, rfl, .inl rfl, h⟩
end Go.Proofs.Ytemcpdpbikgfcaa
namespace Go.Proofs.Ytemcpdpbikgfcaa
open Go.RowKit

def cntLe (M : Int) (zs : List GDiff) : Prop := ∀ z ∈ zs, -M ≤ z.count ∧ z.count ≤ M
end Go.Proofs.Ytemcpdpbikgfcaa
namespace Go.Proofs.Ytemcpdpbikgfcaa
open Go.RowKit Go.Sort
set_option linter.unusedVariables false

def neg1 (z : GDiff) : GDiff := ⟨z.row, -z.count⟩
def negL (zs : List GDiff) : List GDiff := zs.map neg1
def negD (zs : List GDiff) : List GDiff := if diffOkB zs = true then negL zs else []
theorem dok_cnt {zs : List GDiff} (h : diffOkB zs = true) : cntLe 1000000 zs := by
  intro z hz
  unfold diffOkB at h
  simp only [Bool.and_eq_true, List.all_eq_true] at h
  have h1 := h.1.2 z hz
  unfold goodD cntB at h1
  simp only [Bool.and_eq_true, decide_eq_true_eq] at h1
  exact ⟨h1.2.1.2, h1.2.2⟩
theorem dok_len {zs : List GDiff} (h : diffOkB zs = true) : zs.length ≤ 3000 := by
  unfold diffOkB at h
  simp only [Bool.and_eq_true, decide_eq_true_eq] at h
  exact h.1.1

set_option maxRecDepth 100000 in
set_option maxHeartbeats 3200000 in
theorem spec_negL {lo : Nat} (A : Option Addr) (c : Nat) (zs : List GDiff) (w : World) (hr : DiffsAt w lo w.heap.size A zs) (hl : zs.length ≤ 1048576) (hc : cntLe 1000000 zs) :
    Calls Try.prog 56 #[.slice A zs.length c] w (DPost w (negL zs)) := by
  have HR := Lib.hid hr
  have HC := Lib.hid hc
  clear hr hc
  go_enter Try.func56, Try.ntmps56
  go_wp2_with fail
  go_loopw [3, 4] (fun out i w' => ∃ (k : Nat) (L : List GDiff), k ≤ zs.length ∧ i = .int .i64 k ∧ Hid (L = negL (zs.take k)) ∧ Hid (DAcc w w' out L)) (fun _ i _ => zs.length - (intOf i).toNat)
  case atStart => exact ⟨0, [], Nat.zero_le _, rfl, Lib.hid rfl, Lib.hid (DAcc.start (Below.refl _ _) rfl)⟩
  case round =>
    obtain ⟨k, L, hk, rfl, hL, hD⟩ := hrel
    obtain ⟨A6, c6, rfl, _⟩ := hD.out.slice
    have hLl := Lib.hid (show L.length = k by rw [hL.out]; simp [negL]; omega)
    by_cases hlt : k < zs.length
    · obtain ⟨g, o, rfl, _, hg, ⟨A', c', ⟨hcell, hcap⟩, hrow⟩, hcnt⟩ := (HR.out.keep (fun b _ h => hD.out.low.block b h)).at_ hlt
      have hi1 : (k : Int) < (zs.length : Int) := by omega
      have hi0 : (0 : Int) ≤ (k : Int) := by omega
      have hcb := HC.out _ (List.getElem_mem hlt)
      have hst := Lib.hid (show L ++ [neg1 zs[k]] = negL (zs.take (k + 1)) by rw [hL.out]; unfold negL; rw [List.take_succ_eq_append_getElem hlt, List.map_append]; rfl)
      have hzl : L.length ≤ 4194304 := by rw [hLl.out]; omega
      have hp := Lib.hid (show DHok wr w.heap.size ((A', c'), neg1 zs[k]) from ⟨hrow.st hD.out.low.size, hcap⟩)
      have hwn : IntKind.i64.wrap (-zs[k].count) = -zs[k].count := by rw [IntKind.wrap_i64]; omega
      clear hrow
      go_wp2_with fail
      have hBd := Lib.hid (fun x => (show Below wr.heap.size wr (wr.alloc x).drew from ((Below.refl _ _).alloc (Nat.le_refl _) _).drew))
      go_region_law (refine step_dappW rfl (.tmp 12) (.tmp 25) rfl w wr (.slice A6 L.length c6) L ((A', c'), neg1 zs[k]) wr.heap.size rfl hD.out hp.out rfl (hBd.out _) (by simp [neg1]) (by simp [neg1]) hzl ?_; intro v2 W2 hD2)
      all_goals have HD2 := Lib.hid hD2
      all_goals clear hD2 hcell hcnt hBd
      all_goals go_wp2_with fail
      all_goals go_roundw
      all_goals first
        | exact ⟨k + 1, _, by omega, by go_num, hst, HD2⟩
        | (simp [intOf]; omega)
    · have hi1 : ¬ (k : Int) < (zs.length : Int) := by omega
      have hE := Lib.hid (show L = negL zs by rw [hL.out, List.take_of_length_le (by omega)])
      have hP := Lib.hid hD.out.post
      go_wp2_with fail
      go_ret
      rw [← hE.out]
      exact hP.out
end Go.Proofs.Ytemcpdpbikgfcaa
namespace Go.Proofs.Ytemcpdpbikgfcaa
open Go.RowKit Go.Sort
set_option linter.unusedVariables false

theorem negL_len (zs : List GDiff) : (negL zs).length = zs.length := by simp [negL]
theorem negL_rows {zs : List GDiff} {P : List GV → Prop} (h : ∀ z ∈ zs, P z.row) : ∀ z ∈ negL zs, P z.row := by
  intro z hz
  simp only [negL, List.mem_map] at hz
  obtain ⟨y, hy, rfl⟩ := hz
  exact h y hy
set_option maxRecDepth 100000 in
set_option maxHeartbeats 1600000 in
theorem spec_negDiff {lo : Nat} (A : Option Addr) (c : Nat) (zs : List GDiff) (w : World) (hr : DiffsAt w lo w.heap.size A zs) (hl : zs.length ≤ 1048576) (hlr : ∀ z ∈ zs, z.row.length ≤ 1048576 ∧ ∀ v ∈ z.row, v.t.size ≤ maxLen) :
    Calls Try.prog 96 #[.slice A zs.length c] w (DPost w (negD zs)) := by
  have HR := Lib.hid hr
  have HLR := Lib.hid hlr
  clear hr hlr
  by_cases h : diffOkB zs = true
  · have ho : negD zs = negL zs := by unfold negD; rw [if_pos h]
    rw [ho]
    clear ho
    have HC := Lib.hid (dok_cnt h)
    have HN := Lib.hid (show (negL zs).length ≤ 4194304 by rw [negL_len]; omega)
    have HRR := Lib.hid (negL_rows (P := fun r => r.length ≤ 1048576) (fun z hz => (HLR.out z hz).1))
    go_enter Try.func96, Try.ntmps96
    go_wp2_with fail
    refine (spec_diffOk A c zs _ HR.out (by omega) HLR.out).mono ?_
    rintro e w1 ⟨rfl, hb1⟩
    rw [h]
    go_wp2_with fail
    refine (spec_negL A c zs _ (HR.out.to_ hb1) hl HC.out).mono ?_
    rintro e w2 ⟨A2, c2, rfl, hc2, hd2, hb2⟩
    have hB2 := below_next hb1 hb2 rfl rfl
    have HD2 := Lib.hid hd2
    clear hd2 hc2
    go_wp2_with fail
    refine (spec_copyD A2 c2 (negL zs) _ HD2.out HN.out HRR.out).mono ?_
    rintro e w3 ⟨A3, c3, rfl, hc3, hd3, hb3⟩
    have hB3 := below_next hB2 hb3 rfl rfl
    have HD3 := Lib.hid hd3
    clear hd3
    go_wp2_with fail
    go_ret
    exact ⟨_, _, rfl, hc3, HD3.out, hB3⟩
  · rw [Bool.not_eq_true] at h
    have ho : negD zs = [] := by unfold negD; rw [if_neg (by rw [h]; decide)]
    rw [ho]
    clear ho
    go_enter Try.func96, Try.ntmps96
    go_wp2_with fail
    refine (spec_diffOk A c zs _ HR.out (by omega) HLR.out).mono ?_
    rintro e w1 ⟨rfl, hb1⟩
    rw [h]
    go_wp2_with fail
    go_ret
    exact ⟨_, _, rfl, ⟨Nat.le_refl _, Nat.zero_le _⟩, .inl rfl, hb1.alloc hb1.size _⟩
end Go.Proofs.Ytemcpdpbikgfcaa
