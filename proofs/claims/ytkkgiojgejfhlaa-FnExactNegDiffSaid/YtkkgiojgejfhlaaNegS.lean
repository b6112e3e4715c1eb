/-
  spec.l4Neg and spec.NegDiff. spec.NegDiff.
-/
import Derived.Test.YtkkgiojgejfhlaaGAcc
import Derived.Test.YtkkgiojgejfhlaaCopyD
import Derived.Test.YtkkgiojgejfhlaaDiffOkS
namespace Go.Proofs.Ytkkgiojgejfhlaa
open Go.RowKit Go.Sort
set_option linter.unusedVariables false

def neg1 (z : GDiff) : GDiff := ⟨z.row, -z.count⟩
def negL (zs : List GDiff) : List GDiff := zs.map neg1
def negD (zs : List GDiff) : List GDiff := if diffOkB zs = true then negL zs else []
def cntLe (M : Int) (zs : List GDiff) : Prop := ∀ z ∈ zs, -M ≤ z.count ∧ z.count ≤ M
theorem dok_cnt {zs : List GDiff} (h : diffOkB zs = true) : cntLe 1000000 zs := by
  intro z hz
  unfold diffOkB at h
  simp only [Bool.and_eq_true, List.all_eq_true] at h
  have h1 := h.1.2 z hz
  unfold goodD cntB at h1
  simp only [Bool.and_eq_true, decide_eq_true_eq] at h1
  exact ⟨h1.2.1.2, h1.2.2⟩
theorem dok_len {zs : List GDiff} (h : diffOkB zs = true) : zs.length ≤ 3000 := by
  unfold diffOkB at h
  simp only [Bool.and_eq_true, decide_eq_true_eq] at h
  exact h.1.1

set_option maxRecDepth 100000 in
set_option maxHeartbeats 3200000 in
theorem spec_negL {lo : Nat} (A : Option Addr) (c : Nat) (zs : List GDiff) (w : World) (hr : DiffsAt w lo w.heap.size A zs) (hl : zs.length ≤ 1048576) (hc : cntLe 1000000 zs) :
    Calls Try.prog 28 #[.slice A zs.length c] w (DPost w (negL zs)) := by
  have HR := Lib.hid hr
  have HC := Lib.hid hc
  clear hr hc
  go_enter Try.func28, Try.ntmps28
  go_wp2_with fail
  go_loopw [3, 4] (fun out i w' => ∃ (k : Nat) (L : List GDiff), k ≤ zs.length ∧ i = .int .i64 k ∧ Hid (L = negL (zs.take k)) ∧ Hid (DAcc w w' out L)) (fun _ i _ => zs.length - (intOf i).toNat)
  case atStart => exact ⟨0, [], Nat.zero_le _, rfl, Lib.hid rfl, Lib.hid (DAcc.start (Below.refl _ _) rfl)⟩
  case round =>
    obtain ⟨k, L, hk, rfl, hL, hD⟩ := hrel
    obtain ⟨A6, c6, rfl, _⟩ := hD.out.slice
    have hLl := Lib.hid (show L.length = k by rw [hL.out]; simp [negL]; omega)
    by_cases hlt : k < zs.length
    · obtain ⟨g, o, rfl, _, hg, ⟨A', c', ⟨hcell, hcap⟩, hrow⟩, hcnt⟩ := (HR.out.keep (fun b _ h => hD.out.low.block b h)).at_ hlt
      have hi1 : (k : Int) < (zs.length : Int) := by omega
      have hi0 : (0 : Int) ≤ (k : Int) := by omega
      have hcb := HC.out _ (List.getElem_mem hlt)
      have hst := Lib.hid (show L ++ [neg1 zs[k]] = negL (zs.take (k + 1)) by rw [hL.out]; unfold negL; rw [List.take_succ_eq_append_getElem hlt, List.map_append]; rfl)
      have hzl : L.length ≤ 4194304 := by rw [hLl.out]; omega
      have hp := Lib.hid (show DHok wr w.heap.size ((A', c'), neg1 zs[k]) from ⟨hrow.st hD.out.low.size, hcap⟩)
      have hwn : IntKind.i64.wrap (-zs[k].count) = -zs[k].count := by rw [IntKind.wrap_i64]; omega
      clear hrow
      go_wp2_with fail
      have hBd := Lib.hid (fun x => (show Below wr.heap.size wr (wr.alloc x).drew from ((Below.refl _ _).alloc (Nat.le_refl _) _).drew))
      go_region_law (refine step_dappW rfl (.tmp 12) (.tmp 25) rfl w wr (.slice A6 L.length c6) L ((A', c'), neg1 zs[k]) wr.heap.size rfl hD.out hp.out rfl (hBd.out _) (by simp [neg1]) (by simp [neg1]) hzl ?_; intro v2 W2 hD2)
      all_goals have HD2 := Lib.hid hD2
      all_goals clear hD2 hcell hcnt hBd
      all_goals go_wp2_with fail
      all_goals go_roundw
      all_goals first
        | exact ⟨k + 1, _, by omega, by go_num, hst, HD2⟩
        | (simp [intOf]; omega)
    · have hi1 : ¬ (k : Int) < (zs.length : Int) := by omega
      have hE := Lib.hid (show L = negL zs by rw [hL.out, List.take_of_length_le (by omega)])
      have hP := Lib.hid hD.out.post
      go_wp2_with fail
      go_ret
      rw [← hE.out]
      exact hP.out
end Go.Proofs.Ytkkgiojgejfhlaa
namespace Go.Proofs.Ytkkgiojgejfhlaa
open Go.RowKit Go.Sort
set_option linter.unusedVariables false

theorem negL_len (zs : List GDiff) : (negL zs).length = zs.length := by simp [negL]
theorem negL_rows {zs : List GDiff} {P : List GV → Prop} (h : ∀ z ∈ zs, P z.row) : ∀ z ∈ negL zs, P z.row := by
  intro z hz
  simp only [negL, List.mem_map] at hz
  obtain ⟨y, hy, rfl⟩ := hz
  exact h y hy
set_option maxRecDepth 100000 in
set_option maxHeartbeats 1600000 in
theorem spec_negDiff {lo : Nat} (A : Option Addr) (c : Nat) (zs : List GDiff) (w : World) (hr : DiffsAt w lo w.heap.size A zs) (hl : zs.length ≤ 1048576) (hlr : ∀ z ∈ zs, z.row.length ≤ 1048576 ∧ ∀ v ∈ z.row, v.t.size ≤ maxLen) :
    Calls Try.prog 11 #[.slice A zs.length c] w (DPost w (negD zs)) := by
  have HR := Lib.hid hr
  have HLR := Lib.hid hlr
  clear hr hlr
  by_cases h : diffOkB zs = true
  · have ho : negD zs = negL zs := by unfold negD; rw [if_pos h]
    rw [ho]
    clear ho
    have HC := Lib.hid (dok_cnt h)
    have HN := Lib.hid (show (negL zs).length ≤ 4194304 by rw [negL_len]; omega)
    have HRR := Lib.hid (negL_rows (P := fun r => r.length ≤ 1048576) (fun z hz => (HLR.out z hz).1))
    go_enter Try.func11, Try.ntmps11
    go_wp2_with fail
    refine (spec_diffOk A c zs _ HR.out (by omega) HLR.out).mono ?_
    rintro e w1 ⟨rfl, hb1⟩
    rw [h]
    go_wp2_with fail
    refine (spec_negL A c zs _ (HR.out.to_ hb1) hl HC.out).mono ?_
    rintro e w2 ⟨A2, c2, rfl, hc2, hd2, hb2⟩
    have hB2 := below_next hb1 hb2 rfl rfl
    have HD2 := Lib.hid hd2
    clear hd2 hc2
    go_wp2_with fail
    refine (spec_copyD A2 c2 (negL zs) _ HD2.out HN.out HRR.out).mono ?_
    rintro e w3 ⟨A3, c3, rfl, hc3, hd3, hb3⟩
    have hB3 := below_next hB2 hb3 rfl rfl
    have HD3 := Lib.hid hd3
    clear hd3
    go_wp2_with fail
    go_ret
    exact ⟨_, _, rfl, hc3, HD3.out, hB3⟩
  · rw [Bool.not_eq_true] at h
    have ho : negD zs = [] := by unfold negD; rw [if_neg (by rw [h]; decide)]
    rw [ho]
    clear ho
    go_enter Try.func11, Try.ntmps11
    go_wp2_with fail
    refine (spec_diffOk A c zs _ HR.out (by omega) HLR.out).mono ?_
    rintro e w1 ⟨rfl, hb1⟩
    rw [h]
    go_wp2_with fail
    go_ret
    exact ⟨_, _, rfl, ⟨Nat.le_refl _, Nat.zero_le _⟩, .inl rfl, hb1.alloc hb1.size _⟩
end Go.Proofs.Ytkkgiojgejfhlaa
