/-
  impl.Distinct.
-/
import Derived.Test.YtkkgiojgejfhlaaTGA
import Derived.Test.YtkkgiojgejfhlaaDiffOkI
import Derived.Test.YtkkgiojgejfhlaaCopyRow
import Derived.Test.YtkkgiojgejfhlaaDistS
namespace Go.Proofs.Ytkkgiojgejfhlaa
open Go.RowKit Go.Sort
set_option linter.unusedVariables false

set_option maxRecDepth 100000 in
set_option maxHeartbeats 3200000 in
theorem impl_distinct {lo : Nat} (A : Option Addr) (c : Nat) (zs : List GDiff) (w : World) (hr : DiffsAt w lo w.heap.size A zs) (hl : zs.length ≤ 1048576) (hlr : ∀ z ∈ zs, z.row.length ≤ 1048576 ∧ ∀ v ∈ z.row, v.t.size ≤ 1048576) :
    Calls Try.prog 16 #[.slice A zs.length c] w (ITPost w (posD zs)) := by
  have HR := Lib.hid hr
  have HLR := Lib.hid hlr
  have HLM := Lib.hid (show ∀ z ∈ zs, z.row.length ≤ 1048576 ∧ ∀ v ∈ z.row, v.t.size ≤ maxLen from fun z hz => ⟨(hlr z hz).1, fun v hv => Nat.le_trans ((hlr z hz).2 v hv) (by unfold maxLen; omega)⟩)
  clear hr hlr
  by_cases h : diffOkB zs = true
  · have ho : posD zs = posL zs := by unfold posD; rw [if_pos h]
    rw [ho]
    clear ho
    go_enter Try.func16, Try.ntmps16
    go_wp2_with fail
    refine (impl_diffOk A c zs _ HR.out hl HLM.out).mono ?_
    rintro e w1 ⟨rfl, hb1⟩
    rw [h]
    go_wp2_with fail
    go_loopw [3, 12] (fun out i w' => ∃ (k : Nat) (ps : List PR), k ≤ zs.length ∧ i = .int .i64 k ∧ Hid (ps.map (·.2) = posL (zs.take k)) ∧ Hid (PAcc w w' out ps)) (fun _ i _ => zs.length - (intOf i).toNat)
    case atStart => exact ⟨0, [], Nat.zero_le _, rfl, Lib.hid rfl, Lib.hid (PAcc.start hb1 rfl)⟩
    case round =>
      obtain ⟨k, ps, hk, rfl, hL, hD⟩ := hrel
      obtain ⟨A6, c6, rfl, _⟩ := hD.out.slice
      have hLl := Lib.hid (show ps.length ≤ k by have h1 := congrArg List.length hL.out; have h2 := posL_len (zs.take k); simp at h1 h2; omega)
      by_cases hlt : k < zs.length
      · obtain ⟨g, o, rfl, _, hg, ⟨A', c', ⟨hcell, hcap⟩, hrow⟩, hcnt⟩ := (HR.out.to_ hD.out.low).at_ hlt
        have hi1 : (k : Int) < (zs.length : Int) := by omega
        have hi0 : (0 : Int) ≤ (k : Int) := by omega
        have hm := HLR.out _ (List.getElem_mem hlt)
        have hzl : ps.length ≤ 4194304 := by have := hLl.out; omega
        have hBa : Below wr.heap.size wr (wr.alloc (.cells #[.slice A' zs[k].row.length c', .int .i64 zs[k].count] 41)) := (Below.refl _ _).alloc (Nat.le_refl _) _
        have hDx := Lib.hid (hD.out.below hBa)
        by_cases hc : 0 < zs[k].count
        · have hrw := Lib.hid (show RowAt (wr.alloc (.cells #[.slice A' zs[k].row.length c', .int .i64 zs[k].count] 41)) (wr.alloc (.cells #[.slice A' zs[k].row.length c', .int .i64 zs[k].count] 41)).heap.size A' zs[k].row from (hrow.to_ hBa).row)
          have hst := Lib.hid (fun (x : Nat) => (show (ps ++ [(x, zs[k].row)]).map (·.2) = posL (zs.take (k + 1)) by rw [List.map_append, hL.out, posL_yes zs k hlt hc]; rfl))
          clear hrow hBa
          go_wp2_with fail
          clear hcell hcnt
          generalize wr.alloc (.cells #[.slice A' zs[k].row.length c', .int .i64 zs[k].count] 41) = W1 at *
          refine (copy_row A' c' zs[k].row _ hrw.out hm.1 hm.2).mono ?_
          rintro e W2 ⟨rfl, hW2, hb2⟩
          have hD2 := Lib.hid (hDx.out.below hb2)
          have hnw := Lib.hid (show W1.heap.size ∉ ps.map (·.1) from fun hmm => by
            rw [List.mem_map] at hmm
            obtain ⟨p, hp, e⟩ := hmm
            have := (hDx.out.row p hp).2.lt
            omega)
          have hp2 := Lib.hid (show w.heap.size ≤ W1.heap.size ∧ Whole W2 W1.heap.size 55 (flat zs[k].row) from ⟨hDx.out.low.size, hW2⟩)
          clear hW2 hb2
          generalize W1.heap.size = n1 at *
          go_wp2_with (first | (at_builtin; refine wpList_papp _ rfl (.tmp 19) (.tmp 23) rfl w (.slice A6 ps.length c6) ps (n1, zs[k].row) rfl hD2.out hp2.out hnw.out rfl hzl ?_; intro v3 w3 hD3; refine Hid.out ?_))
          refine Lib.hid ?_
          have HD3 := Lib.hid hD3
          clear hD3
          go_wp2_with fail
          go_roundw
          case rel => exact ⟨k + 1, _, by omega, by go_num, hst.out _, HD3⟩
          case measure => simp [intOf]; omega
        · have hst := Lib.hid (show ps.map (·.2) = posL (zs.take (k + 1)) by rw [hL.out, posL_no zs k hlt hc])
          clear hrow hBa
          go_wp2_with fail
          go_roundw
          case rel => exact ⟨k + 1, ps, by omega, by go_num, hst, hDx⟩
          case measure => simp [intOf]; omega
      · have hi1 : ¬ (k : Int) < (zs.length : Int) := by omega
        have hE := Lib.hid (show ps.map (·.2) = posL zs by rw [hL.out, List.take_of_length_le (by omega)])
        have hP := Lib.hid (hD.out.post hE.out)
        go_wp2_with fail
        go_ret
        exact hP.out
  · rw [Bool.not_eq_true] at h
    have ho : posD zs = [] := by unfold posD; rw [if_neg (by rw [h]; decide)]
    rw [ho]
    clear ho
    go_enter Try.func16, Try.ntmps16
    go_wp2_with fail
    refine (impl_diffOk A c zs _ HR.out hl HLM.out).mono ?_
    rintro e w1 ⟨rfl, hb1⟩
    rw [h]
    go_wp2_with fail
    go_ret
    exact itpost_none hb1
end Go.Proofs.Ytkkgiojgejfhlaa
