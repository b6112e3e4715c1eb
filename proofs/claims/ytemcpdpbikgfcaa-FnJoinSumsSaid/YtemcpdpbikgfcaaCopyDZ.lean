/-
  A new row, while it is built. spec.l4Copy.
-/
import Derived.Test.YtemcpdpbikgfcaaToVsZ
import Derived.Test.YtemcpdpbikgfcaaVRowZ
import Derived.Deep.RegionLaw
import Derived.Test.YtemcpdpbikgfcaaDiffOkSZ
namespace Go.Proofs.Ytemcpdpbikgfcaa
open Go.RowKit Go.Sort
set_option linter.unusedVariables false

/-- A new row, while it is built: nothing that was there at w has changed. -/
def VI (w W : World) (v : Value) (vs : List GV) : Prop := VRow w.heap.size W v vs ∧ Below w.heap.size w W ∧ v ≠ .slice none 0 0
theorem VI.start {w w' : World} {n : Nat} (h : Below w.heap.size w w') (hn : w'.heap.size = n) : VI w (w'.alloc (.cells #[] 52)) (.slice (some ⟨n, 0, none⟩) 0 0) [] := by
  subst hn; exact ⟨World.ownsRow_made w' #[] 0 h.size (Nat.zero_le _) rfl, h.alloc h.size _, by simp⟩
theorem VI.st {w W : World} {v : Value} {vs : List GV} {N : Nat} (h : VI w W v vs) : ∃ A c, v = .slice A vs.length c ∧ RowSt W N A vs ∧ CapOk vs.length c := by
  rcases h.1.2 with ⟨h0, _⟩ | ⟨g, cap, cur, rfl, hg, hh, hc1, hc2, hc3, hc4⟩
  · exact absurd h0 h.2.2
  · refine ⟨_, cap, rfl, .inr ⟨g, 0, rfl, (Array.getElem?_eq_some_iff.1 hh).1, .inr ⟨_, _, hh⟩, fun i v hv => ?_⟩, hc1, hc2⟩
    obtain ⟨f0, f1, f2⟩ := flat_at vs i v hv
    have hi : i < vs.length := (List.getElem?_eq_some_iff.1 hv).1
    have key : ∀ j, j < vs.length * 3 → W.cell? ⟨g, j, none⟩ = (flat vs)[j]? := fun j hj => by
      have h1 : W.cell? ⟨g, j, none⟩ = cur.toList[j]? := by simp [World.cell?, hh]
      rw [h1, ← hc4, List.getElem?_take_of_lt hj]
    rw [Nat.zero_add]
    exact ⟨(key _ (by omega)).trans f0, (key _ (by omega)).trans f1, (key _ (by omega)).trans f2⟩
/-- The cells of a row, wherever it lies. -/
theorem row_src {w : World} {B : Nat} {A : Option Addr} {vs : List GV} (h : RowAt w B A vs) : (A = none → vs.length = 0) ∧ ∀ ad, A = some ad → ∀ j u, (flat vs)[j]? = some u → w.cell? (ad.add j) = some u := by
  rcases h with rfl | ⟨g, o, rfl, hg, hc⟩
  · exact ⟨fun _ => rfl, fun ad _ j u hu => by simp [flat] at hu⟩
  · refine ⟨(fun e => by cases e), fun ad e j u hu => ?_⟩
    cases e
    obtain ⟨i, v, hv, h'⟩ := flat_get vs j u hu
    obtain ⟨c0, c1, c2⟩ := hc i v hv
    rw [Addr.add_lit]
    rcases h' with ⟨rfl, rfl⟩ | ⟨rfl, rfl⟩ | ⟨rfl, rfl⟩
    · exact c0
    · rw [← Nat.add_assoc]; exact c1
    · rw [← Nat.add_assoc]; exact c2
theorem step_vapp {ops : Array Oper} {o : Oper} {a : Act} {W : World} {K : Act → World → Prop} {Q : Exit → Act → World → Prop} {E : Prop}
    (hg : o.guard = none) (s x : Operand) (hop : o.op = Op.call { callee := Callee.builtin Builtin.append, args := #[s, x], argTypes := #[53, 53] })
    (w : World) (v : Value) (us : List GV) (hs : a.eval s = v) (hI : VI w W v us)
    (A : Option Addr) (c : Nat) (vs : List GV) (hx : a.eval x = .slice A vs.length c) (hr : RowAt w w.heap.size A vs) (hb : us.length + vs.length ≤ 4194304)
    (hK : ∀ v' W', VI w W' v' (us ++ vs) → K (a.put o.dst v') W') :
    if Region.wanted o (yielded ops a.tmps) = true then Oper.wp Try.prog o a W K Q else E := by
  have hw : Region.wanted o (yielded ops a.tmps) = true := by simp [Region.wanted, hg]
  rw [if_pos hw]
  obtain ⟨i0, hi, hz0, hz1, hz2⟩ := info_parts infoValue
  obtain ⟨h1, h2⟩ := row_src (hr.to_ hI.2.1)
  refine wp_append_any W s x 53 hop w.heap.size 52 i0 _ 3 32 Try.underlying53 hi hz0 hz1 hz2 rfl (by decide) v us.length (flat us) hs hI.1 A vs.length c (flat vs) hx (flat_length vs) h1 h2 (flat_one vs) (by unfold maxLen; omega) (by omega) hI.2.1.size (fun v' W' h3 h4 h5 => hK v' W' ⟨?_, ?_, h5 hI.2.2⟩)
  · show W'.ownsRow _ _ _ _ _ _
    rw [List.length_append, flat_append]
    exact h3
  · exact hI.2.1.grown h4 hI.2.1.size (fun k hk => (World.ownsRow.lt hI.1 k hk).1)
end Go.Proofs.Ytemcpdpbikgfcaa
namespace Go.Proofs.Ytemcpdpbikgfcaa
open Go.RowKit Go.Sort
set_option linter.unusedVariables false

theorem step_dapp {ops : Array Oper} {o : Oper} {a : Act} {W : World} {K : Act → World → Prop} {Q : Exit → Act → World → Prop} {E : Prop}
    (hg : o.guard = none) (s x : Operand) (hop : o.op = Op.call { callee := Callee.builtin Builtin.append, args := #[s, x], argTypes := #[24, 24] })
    (w0 : World) (v : Value) (zs : List GDiff) (p : DH) (hs : a.eval s = v) (hI : DAcc w0 W v zs) (hp : DHok W w0.heap.size p) (hx : a.eval x = .slice (some ⟨W.heap.size, 0, none⟩) 1 1) (hb : zs.length ≤ 4194304)
    (hK : ∀ v' w', DAcc w0 w' v' (zs ++ [p.2]) → K (a.put o.dst v') w') :
    if Region.wanted o (yielded ops a.tmps) = true then Oper.wp Try.prog o a (W.alloc (.cells #[.slice p.1.1 p.2.row.length p.1.2, .int .i64 p.2.count] 55)) K Q else E := by
  have hw : Region.wanted o (yielded ops a.tmps) = true := by simp [Region.wanted, hg]
  rw [if_pos hw]
  obtain ⟨i0, hi, hz0, hz1, hz2⟩ := info_parts infoDiff
  have hB : Below W.heap.size W (W.alloc (.cells #[.slice p.1.1 p.2.row.length p.1.2, .int .i64 p.2.count] 55)) := (Below.refl _ _).alloc (Nat.le_refl _) _
  have hI2 := hI.below hB
  have hp2 : DHok (W.alloc (.cells #[.slice p.1.1 p.2.row.length p.1.2, .int .i64 p.2.count] 55)) w0.heap.size p := ⟨hp.1.keep (hB.mono hI.low.size) (KeepT.below hB), hp.2⟩
  obtain ⟨ps, e, how, hq⟩ := hI2.own
  refine wp_append_own _ s x _ hop w0.heap.size 55 i0 _ 2 32 Try.underlying24 hi hz0 hz1 hz2 rfl (by decide) v zs.length (flatH ps) hs how ⟨W.heap.size, 0, none⟩ 1 1 (dhL p) hx rfl (dhL_cells W p _) (dhL_one p) (by unfold maxLen; omega) (by omega) hI2.low.size (fun v' w' h1 h2 h3 => hK v' w' ?_)
  have hbw : Below w0.heap.size (W.alloc (.cells #[.slice p.1.1 p.2.row.length p.1.2, .int .i64 p.2.count] 55)) w' := (Below.refl _ _).grown h2 hI2.low.size (fun k hk => (World.ownsRow.lt how k hk).1)
  have hk := KeepT.grown how h2
  refine ⟨⟨ps ++ [p], by simp [e], ?_, fun q hm => ?_⟩, fun e1 => hI2.ne (h3.1 e1).1, hI2.low.trans hbw⟩
  · rw [flatH_append, List.length_append]
    simpa [flatH] using h1
  · rw [List.mem_append, List.mem_singleton] at hm
    rcases hm with hm | rfl
    · exact ⟨(hq q hm).1.keep hbw hk, (hq q hm).2⟩
    · exact ⟨hp2.1.keep hbw hk, hp2.2⟩
theorem diff_eta (z : GDiff) : (⟨z.row, z.count⟩ : GDiff) = z := rfl
set_option maxRecDepth 100000 in
set_option maxHeartbeats 6400000 in
theorem spec_copyD {lo : Nat} (A : Option Addr) (c : Nat) (zs : List GDiff) (w : World) (hr : DiffsAt w lo w.heap.size A zs) (hl : zs.length ≤ 4194304) (hlr : ∀ z ∈ zs, z.row.length ≤ 1048576) :
    Calls Try.prog 78 #[.slice A zs.length c] w (DPost w zs) := by
  have HR := Lib.hid hr
  have HLR := Lib.hid hlr
  clear hr hlr
  go_enter Try.func78, Try.ntmps78
  go_wp2_with fail
  go_loopw [3, 4] (fun out i w' => ∃ (k : Nat) (L : List GDiff), k ≤ zs.length ∧ i = .int .i64 k ∧ Hid (L = zs.take k) ∧ Hid (DAcc w w' out L)) (fun _ i _ => zs.length - (intOf i).toNat)
  case atStart => exact ⟨0, [], Nat.zero_le _, rfl, Lib.hid rfl, Lib.hid (DAcc.start (Below.refl _ _) rfl)⟩
  case round =>
    obtain ⟨k, L, hk, rfl, hL, hD⟩ := hrel
    by_cases hlt : k < zs.length
    · obtain ⟨g, o, rfl, _, hg, ⟨A', c', ⟨hcell, hcap⟩, hrow⟩, hcnt⟩ := (HR.out.to_ hD.out.low).at_ hlt
      have hi0 : (0 : Int) ≤ (k : Int) := by omega
      have hi1 : (k : Int) < (zs.length : Int) := by omega
      have hm := HLR.out _ (List.getElem_mem hlt)
      have hst := Lib.hid (show L ++ [zs[k]] = zs.take (k + 1) by rw [List.take_succ_eq_append_getElem hlt, hL.out])
      obtain ⟨A6, c6, rfl, _⟩ := hD.out.slice
      have hzl : L.length ≤ 4194304 := by rw [hL.out]; simp; omega
      have hrw := Lib.hid hrow.row
      have hgw : g < wr.heap.size := Nat.lt_of_lt_of_le hg (Nat.le_refl _)
      clear hrow
      go_wp2_with fail
      go_region_law (first
        | (refine step_vapp rfl (.tmp 13) (.tmp 18) rfl wr _ [] rfl (by first | exact VI.start ((Below.refl _ _).drew) rfl | exact VI.start (Below.refl _ _) rfl) A' c' zs[k].row rfl hrw.out (by simp; omega) ?_; intro v1 W1 hV1; obtain ⟨A1, c1, rfl, hst1, hcap1⟩ := hV1.st (N := w.heap.size); have hcnt1 := (hV1.2.1.cell (p := ⟨g, o + k * 2 + 1, none⟩) hgw).trans hcnt)
        | (refine step_dapp rfl (.tmp 12) (.tmp 26) rfl w _ L ((A1, c1), zs[k]) rfl (hD.out.below hV1.2.1) ⟨by simpa using hst1, by simpa using hcap1⟩ rfl hzl ?_; intro v2 W2 hD2))
      all_goals have HD2 := Lib.hid hD2
      all_goals clear hV1 hst1 hcap1 hcnt1 hD2 hcell hcnt
      all_goals go_wp2_with fail
      all_goals go_roundw
      all_goals first
        | exact ⟨k + 1, _, by omega, by go_num, hst, HD2⟩
        | (simp [intOf]; omega)
    · have hi1 : ¬ (k : Int) < (zs.length : Int) := by omega
      have hE := Lib.hid (show L = zs by rw [hL.out, List.take_of_length_le (by omega)])
      have hP := Lib.hid hD.out.post
      go_wp2_with fail
      go_ret
      rw [← hE.out]
      exact hP.out
end Go.Proofs.Ytemcpdpbikgfcaa
