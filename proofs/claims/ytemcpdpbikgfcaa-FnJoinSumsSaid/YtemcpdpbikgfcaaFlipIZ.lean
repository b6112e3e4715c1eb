/-
  impl.Distinct. impl.Flips.
-/
import Derived.Test.YtemcpdpbikgfcaaTGAZ
import Derived.Test.YtemcpdpbikgfcaaDiffOkIZ
import Derived.Test.YtemcpdpbikgfcaaTabOkSZ
import Derived.Test.YtemcpdpbikgfcaaDistSZ
import Derived.Test.YtemcpdpbikgfcaaTabHeadZ
namespace Go.Proofs.Ytemcpdpbikgfcaa
open Go.RowKit Go.Sort
set_option linter.unusedVariables false

set_option maxRecDepth 100000 in
set_option maxHeartbeats 3200000 in
theorem impl_distinct {lo : Nat} (A : Option Addr) (c : Nat) (zs : List GDiff) (w : World) (hr : DiffsAt w lo w.heap.size A zs) (hl : zs.length ≤ 1048576) (hlr : ∀ z ∈ zs, z.row.length ≤ 1048576 ∧ ∀ v ∈ z.row, v.t.size ≤ 1048576) :
    Calls Try.prog 35 #[.slice A zs.length c] w (ITPost w (posD zs)) := by
  have HR := Lib.hid hr
  have HLR := Lib.hid hlr
  have HLM := Lib.hid (show ∀ z ∈ zs, z.row.length ≤ 1048576 ∧ ∀ v ∈ z.row, v.t.size ≤ maxLen from fun z hz => ⟨(hlr z hz).1, fun v hv => Nat.le_trans ((hlr z hz).2 v hv) (by unfold maxLen; omega)⟩)
  clear hr hlr
  by_cases h : diffOkB zs = true
  · have ho : posD zs = posL zs := by unfold posD; rw [if_pos h]
    rw [ho]
    clear ho
    go_enter Try.func35, Try.ntmps35
    go_wp2_with fail
    refine (impl_diffOk A c zs _ HR.out hl HLM.out).mono ?_
    rintro e w1 ⟨rfl, hb1⟩
    rw [h]
    go_wp2_with fail
    go_loopw [3, 12] (fun out i w' => ∃ (k : Nat) (ps : List PR), k ≤ zs.length ∧ i = .int .i64 k ∧ Hid (ps.map (·.2) = posL (zs.take k)) ∧ Hid (PAcc w w' out ps)) (fun _ i _ => zs.length - (intOf i).toNat)
    case atStart => exact ⟨0, [], Nat.zero_le _, rfl, Lib.hid rfl, Lib.hid (PAcc.start hb1 rfl)⟩
    case round =>
      obtain ⟨k, ps, hk, rfl, hL, hD⟩ := hrel
      obtain ⟨A6, c6, rfl, _⟩ := hD.out.slice
      have hLl := Lib.hid (show ps.length ≤ k by have h1 := congrArg List.length hL.out; have h2 := posL_len (zs.take k); simp at h1 h2; omega)
      by_cases hlt : k < zs.length
      · obtain ⟨g, o, rfl, _, hg, ⟨A', c', ⟨hcell, hcap⟩, hrow⟩, hcnt⟩ := (HR.out.to_ hD.out.low).at_ hlt
        have hi1 : (k : Int) < (zs.length : Int) := by omega
        have hi0 : (0 : Int) ≤ (k : Int) := by omega
        have hm := HLR.out _ (List.getElem_mem hlt)
        have hzl : ps.length ≤ 4194304 := by have := hLl.out; omega
        have hBa : Below wr.heap.size wr (wr.alloc (.cells #[.slice A' zs[k].row.length c', .int .i64 zs[k].count] 55)) := (Below.refl _ _).alloc (Nat.le_refl _) _
        have hDx := Lib.hid (hD.out.below hBa)
        by_cases hc : 0 < zs[k].count
        · have hrw := Lib.hid (show RowAt (wr.alloc (.cells #[.slice A' zs[k].row.length c', .int .i64 zs[k].count] 55)) (wr.alloc (.cells #[.slice A' zs[k].row.length c', .int .i64 zs[k].count] 55)).heap.size A' zs[k].row from (hrow.to_ hBa).row)
          have hst := Lib.hid (fun (x : Nat) => (show (ps ++ [(x, zs[k].row)]).map (·.2) = posL (zs.take (k + 1)) by rw [List.map_append, hL.out, posL_yes zs k hlt hc]; rfl))
          clear hrow hBa
          go_wp2_with fail
          clear hcell hcnt
          generalize wr.alloc (.cells #[.slice A' zs[k].row.length c', .int .i64 zs[k].count] 55) = W1 at *
          refine (copy_row A' c' zs[k].row _ hrw.out hm.1 hm.2).mono ?_
          rintro e W2 ⟨rfl, hW2, hb2⟩
          have hD2 := Lib.hid (hDx.out.below hb2)
          have hnw := Lib.hid (show W1.heap.size ∉ ps.map (·.1) from fun hmm => by
            rw [List.mem_map] at hmm
            obtain ⟨p, hp, e⟩ := hmm
            have := (hDx.out.row p hp).2.lt
            omega)
          have hp2 := Lib.hid (show w.heap.size ≤ W1.heap.size ∧ Whole W2 W1.heap.size 52 (flat zs[k].row) from ⟨hDx.out.low.size, hW2⟩)
          clear hW2 hb2
          generalize W1.heap.size = n1 at *
          go_wp2_with (first | (at_builtin; refine wpList_papp _ rfl (.tmp 19) (.tmp 23) rfl w (.slice A6 ps.length c6) ps (n1, zs[k].row) rfl hD2.out hp2.out hnw.out rfl hzl ?_; intro v3 w3 hD3; refine Hid.out ?_))
          refine Lib.hid ?_
          have HD3 := Lib.hid hD3
          clear hD3
          go_wp2_with fail
          go_roundw
          case rel => exact ⟨k + 1, _, by omega, by go_num, hst.out _, HD3⟩
          case measure => simp [intOf]; omega
        · have hst := Lib.hid (show ps.map (·.2) = posL (zs.take (k + 1)) by rw [hL.out, posL_no zs k hlt hc])
          clear hrow hBa
          go_wp2_with fail
          go_roundw
          case rel => exact ⟨k + 1, ps, by omega, by go_num, hst, hDx⟩
          case measure => simp [intOf]; omega
      · have hi1 : ¬ (k : Int) < (zs.length : Int) := by omega
        have hE := Lib.hid (show ps.map (·.2) = posL zs by rw [hL.out, List.take_of_length_le (by omega)])
        have hP := Lib.hid (hD.out.post hE.out)
        go_wp2_with fail
        go_ret
        exact hP.out
  · rw [Bool.not_eq_true] at h
    have ho : posD zs = [] := by unfold posD; rw [if_neg (by rw [h]; decide)]
    rw [ho]
    clear ho
    go_enter Try.func35, Try.ntmps35
    go_wp2_with fail
    refine (impl_diffOk A c zs _ HR.out hl HLM.out).mono ?_
    rintro e w1 ⟨rfl, hb1⟩
    rw [h]
    go_wp2_with fail
    go_ret
    exact itpost_none hb1
end Go.Proofs.Ytemcpdpbikgfcaa
namespace Go.Proofs.Ytemcpdpbikgfcaa
open Go.RowKit Go.Sort
set_option linter.unusedVariables false

theorem TGA.tabC {B : Nat} {w : World} {A : Option Addr} {ps : List PR} (h : TGA B w A ps) (hl : ∀ p ∈ ps, p.2.length ≤ 1048576) : TabC w w.heap.size A (ps.map (·.2)) := by
  rcases h with rfl | ⟨g, l, rfl, _, ho, _, _⟩
  · exact .inl rfl
  · refine .inr ⟨g, 0, rfl, ho.1.lt, fun i r hr => ?_⟩
    rw [List.getElem?_map, Option.map_eq_some_iff] at hr
    obtain ⟨p, hp, rfl⟩ := hr
    have hi : i < ps.length := (List.getElem?_eq_some_iff.1 hp).1
    have hm := List.mem_of_getElem? hp
    refine ⟨some ⟨p.1, 0, none⟩, p.2.length, ?_, ⟨Nat.le_refl _, by have := hl p hm; omega⟩, (ho.2.1 p hm).row (ho.2.1 p hm).lt⟩
    rw [Nat.zero_add, ho.1.cell, List.getElem?_append_left (by simpa using hi), List.getElem?_map, hp]
    rfl
theorem pos_small {zs : List GDiff} (h : diffOkB zs = true) : (posD zs).length ≤ 1048576 ∧ ∀ r ∈ posD zs, r.length ≤ 8 ∧ ∀ v ∈ r, v.t.size ≤ 60 := by
  obtain ⟨h1, _, h3⟩ := ok_small h
  have e : posD zs = posL zs := by unfold posD; rw [if_pos h]
  rw [e]
  have := posL_len zs
  exact ⟨by omega, posL_rows h3⟩
set_option maxRecDepth 100000 in
set_option maxHeartbeats 3200000 in
theorem impl_flips {lo lo' : Nat} (A B : Option Addr) (c d : Nat) (a b : List GDiff) (w : World) (ha : DiffsAt w lo w.heap.size A a) (hb : DiffsAt w lo' w.heap.size B b) (hl : a.length ≤ 1048576) (hl' : b.length ≤ 1048576)
    (hla : ∀ z ∈ a, z.row.length ≤ 1048576 ∧ ∀ v ∈ z.row, v.t.size ≤ maxLen) (hlb : ∀ z ∈ b, z.row.length ≤ 1048576 ∧ ∀ v ∈ z.row, v.t.size ≤ maxLen) :
    Calls Try.prog 25 #[.slice A a.length c, .slice B b.length d] w (IPost w (flipsD a b)) := by
  have HA := Lib.hid ha
  have HS := Lib.hid (sum_of A B c d a b w ha hb hl hl' hla hlb)
  clear ha hb hla hlb
  go_enter Try.func25, Try.ntmps25
  go_wp2_with fail
  refine HS.out.mono ?_
  rintro e w1 ⟨hb1, ⟨hs, A1, c1, ps, rfl, he, hG⟩ | ⟨hs, rfl⟩⟩
  · have hs' := hs
    unfold sumB at hs'
    simp only [Bool.and_eq_true] at hs'
    obtain ⟨⟨⟨o1, o2⟩, o3⟩, o4⟩ := hs'
    obtain ⟨s1, s2⟩ := pos_small o1
    obtain ⟨t1, t2⟩ := pos_small o4
    have HE := Lib.hid (flips_of o1 o2 o3 o4)
    have HD1 := Lib.hid (show DiffsAt w1 0 w1.heap.size A1 (addD a b) by rw [← he]; exact hG.diffs)
    have hpl : ps.length = (addD a b).length := by rw [← he]; simp
    have k1 := (ok_small o1).2.2
    have k4 := ok_small o4
    have K1 := Lib.hid (show ∀ z ∈ a, z.row.length ≤ 1048576 ∧ ∀ v ∈ z.row, v.t.size ≤ 1048576 from fun z hz => ⟨Nat.le_trans (k1 z hz).1 (by omega), fun v hv => Nat.le_trans ((k1 z hz).2 v hv) (by omega)⟩)
    have K4 := Lib.hid (show ∀ z ∈ addD a b, z.row.length ≤ 1048576 ∧ ∀ v ∈ z.row, v.t.size ≤ 1048576 from fun z hz => ⟨Nat.le_trans (k4.2.2 z hz).1 (by omega), fun v hv => Nat.le_trans ((k4.2.2 z hz).2 v hv) (by omega)⟩)
    have hal : (addD a b).length ≤ 1048576 := by have := k4.1; omega
    have HDst := Lib.hid (show ∀ W, DiffsAt W 0 W.heap.size A1 (addD a b) → Calls Try.prog 35 #[.slice A1 ps.length c1] W (ITPost W (posD (addD a b))) from fun W h => by rw [hpl]; exact impl_distinct A1 c1 (addD a b) W h hal K4.out)
    have S2 := Lib.hid s2
    have T2 := Lib.hid t2
    clear he hG hpl k1 k4 s2 t2 hs
    go_wp2_with fail
    refine (impl_distinct A c a _ (HA.out.to_ hb1) hl K1.out).mono ?_
    rintro e w2 ⟨A2, c2, qs, rfl, he2, hG2, hb2⟩
    have HD2 := Lib.hid (HD1.out.to_ hb2)
    have HT2 := Lib.hid (show TabC w2 w2.heap.size A2 (posD a) by rw [← he2]; exact hG2.tabC (fun p hp => Nat.le_trans (S2.out p.2 (by rw [← he2]; exact List.mem_map.2 ⟨p, hp, rfl⟩)).1 (by omega)))
    have hq2 : qs.length = (posD a).length := by rw [← he2]; simp
    have HQ2 := Lib.hid hq2
    have hB2 := below_next hb1 hb2 rfl rfl
    clear he2 hG2 hb1 hb2 HD1 hq2
    go_wp2_with fail
    refine (HDst.out _ HD2.out).mono ?_
    rintro e w3 ⟨A3, c3, rs, rfl, he3, hG3, hb3⟩
    have HT3 := Lib.hid (show TabC w3 w3.heap.size A3 (posD (addD a b)) by rw [← he3]; exact hG3.tabC (fun p hp => Nat.le_trans (T2.out p.2 (by rw [← he3]; exact List.mem_map.2 ⟨p, hp, rfl⟩)).1 (by omega)))
    have HQ3 := Lib.hid (show rs.length = (posD (addD a b)).length by rw [← he3]; simp)
    have HT2' := Lib.hid (HT2.out.to_ hb3)
    have hB3 := below_next hB2 hb3 rfl rfl
    clear he3 hG3 hb3 HT2 hB2
    have HDO := Lib.hid (show Calls Try.prog 21 #[.slice A2 qs.length c2, .slice A3 rs.length c3] w3 (IPost w3 (flipsD a b)) by
      rw [HQ2.out, HQ3.out, ← HE.out]
      exact impl_diffOf A2 A3 c2 c3 _ _ w3 HT2'.out HT3.out s1 t1 (fun r hr => ⟨Nat.le_trans (S2.out r hr).1 (by omega), fun v hv => Nat.le_trans ((S2.out r hr).2 v hv) (by unfold maxLen; omega)⟩) (fun r hr => ⟨Nat.le_trans (T2.out r hr).1 (by omega), fun v hv => Nat.le_trans ((T2.out r hr).2 v hv) (by unfold maxLen; omega)⟩))
    go_wp2_with fail
    refine HDO.out.mono ?_
    intro e w4 hI
    obtain ⟨A4, c4, us, rfl, h2, h3, h4⟩ := hI
    have HI := Lib.hid (IPost.next ⟨A4, c4, us, rfl, h2, h3, h4⟩ hB3)
    clear h2 h3 h4
    go_wp2_with fail
    go_ret
    exact HI.out
  · have HE := Lib.hid (show flipsD a b = [] by unfold flipsD; unfold sumB at hs; rw [hs]; rfl)
    clear hs
    go_wp2_with fail
    go_ret
    exact ⟨none, 0, [], rfl, HE.out.symm, .inl rfl, hb1⟩
end Go.Proofs.Ytemcpdpbikgfcaa
