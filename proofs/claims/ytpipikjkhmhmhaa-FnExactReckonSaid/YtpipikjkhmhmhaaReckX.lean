/-
  spec.Reckon.
-/
import Derived.Test.YtpipikjkhmhmhaaReckS
import Derived.Test.YtpipikjkhmhmhaaSpecExpr
import Derived.Test.YtpipikjkhmhmhaaTreeOf
import Derived.Test.YtpipikjkhmhmhaaRowOkS
import Derived.Test.YtpipikjkhmhmhaaVRow
namespace Go.Proofs.Ytpipikjkhmhmhaa
open Go.RowKit Go.Sort
set_option linter.unusedVariables false

/-- What the reckoning of an expression answers. -/
def reckD (es : List GNode) (names : List ByteArray) (vals : List GV) : Option GV := if exprB es = true ∧ names.length = vals.length ∧ vals.all okG = true then evalT names vals (treeT es) else none
theorem reck_expr {es : List GNode} {names : List ByteArray} {vals : List GV} (h : exprB es = false) : reckD es names vals = none := by
  unfold reckD; rw [if_neg (fun h' => by rw [h] at h'; cases h'.1)]
theorem reck_len {es : List GNode} {names : List ByteArray} {vals : List GV} (h : names.length ≠ vals.length) : reckD es names vals = none := by
  unfold reckD; rw [if_neg (fun h' => h h'.2.1)]
theorem reck_vals {es : List GNode} {names : List ByteArray} {vals : List GV} (h : vals.all okG = false) : reckD es names vals = none := by
  unfold reckD; rw [if_neg (fun h' => by rw [h] at h'; cases h'.2.2)]
theorem reck_yes {t : Tr} {names : List ByteArray} {vals : List GV} (ht : Wf t) (h : exprB (treeN t) = true) (hn : names.length = vals.length) (hv : vals.all okG = true) : reckD (treeN t) names vals = evalT names vals t := by
  unfold reckD; rw [if_pos ⟨h, hn, hv⟩, treeT_is t ht]
theorem all_good {vals : List GV} (h : vals.all okG = true) : ∀ v ∈ vals, GoodV v := fun v hv => good_ok ((List.all_eq_true.1 h) v hv)
theorem all_okG_snoc (xs : List GV) (k : Nat) (h : k < xs.length) : (xs.take (k + 1)).all okG = ((xs.take k).all okG && okG xs[k]) := by
  rw [List.take_succ_eq_append_getElem h, List.all_append]; simp
theorem all_okG_bad (xs : List GV) (k : Nat) (h : k < xs.length) (hb : okG xs[k] = false) : xs.all okG = false := by
  rw [List.all_eq_false]; exact ⟨xs[k], List.getElem_mem h, by simp [hb]⟩
set_option maxRecDepth 100000 in
set_option maxHeartbeats 1600000 in
theorem spec_Reckon {lo lo1 lo2 : Nat} (A A1 A2 : Option Addr) (c c1 c2 : Nat) (es : List GNode) (names : List ByteArray) (vals : List GV) (w : World) (hk : costNodes es ≤ 1048576) (q : CapOk es.length c) (hf : fitNodes es) (hr : NodesAt w lo w.heap.size A es) (hs : StrsAt w lo1 w.heap.size A1 names) (hnl : names.length ≤ 1048576) (hv : ValuesAt w lo2 w.heap.size A2 vals) (hvf : fitValues vals) (hvk : costValues vals ≤ 1048576) :
    Calls Try.prog 30 #[.slice A es.length c, .slice A1 names.length c1, .slice A2 vals.length c2] w (ReckPost w (reckD es names vals)) := by
  have hvl : vals.length ≤ 1048576 := by unfold costValues at hvk; omega
  have hel : es.length ≤ 1048576 := by unfold costNodes at hk; omega
  have hB0 : Below w.heap.size w (w.alloc (.cells #[.int .i64 0, .int .i64 0, .string ⟨#[]⟩] 28)) := (Below.refl _ _).alloc (Nat.le_refl _) _
  have hW0 := Lib.hid (new3 w)
  have HR := Lib.hid (hr.to_ hB0)
  have HS := Lib.hid (hs.to_ hB0)
  have HV := Lib.hid (hv.to_ hB0)
  have HVF := Lib.hid hvf
  have HF := Lib.hid hf
  clear hr hs hv hvf hf
  cases hb : exprB es with
  | false =>
    have hL := Lib.hid (reck_expr (names := names) (vals := vals) hb)
    go_enter Try.func30, Try.ntmps30
    go_wp2_with fail
    refine (sp_expr_is false A c es _ hb hk q HF.out HR.out).mono ?_
    rintro e w1 ⟨rfl, hb1⟩
    have hB1 := below_next hB0 hb1 rfl rfl
    have hW1 := Lib.hid (hW0.out.below hb1 hW0.out.lt)
    obtain ⟨d0, d1, d2⟩ := cells3_ hW1.out
    have f0 := hW1.out.frozen 0
    have f1 := hW1.out.frozen 1
    have f2 := hW1.out.frozen 2
    go_wp2_with fail
    have hS := put3 (.int .i64 0) (.int .i64 0) (.string ⟨#[]⟩) hW1.out
    have hB9 := below3 (.int .i64 0) (.int .i64 0) (.string ⟨#[]⟩) hB1 (Nat.le_refl _)
    generalize (((w1.setCell _ _).setCell _ _).setCell _ _) = w9 at hS hB9 ⊢
    obtain ⟨z0, z1, z2⟩ := cells3_ hS
    exact bodyPost_ret (v := .tuple #[.agg #[.int .i64 0, .int .i64 0, .string ⟨#[]⟩], .bool false]) (by simp [results, Try.results30, go_sem, z0, z1, z2]) rfl ⟨by rw [hL.out]; rfl, hB9⟩
  | true =>
    obtain ⟨t, ht, rfl, _, hl100⟩ := expr_tree hb
    by_cases hn : names.length = vals.length
    · have hnb : ((names.length : Int) != (vals.length : Int)) = false := by simp [hn]
      have HN := Lib.hid hn
      clear hn
      go_enter Try.func30, Try.ntmps30
      go_wp2_with fail
      refine (sp_expr_is true A c (treeN t) _ hb hk q HF.out HR.out).mono ?_
      rintro e w1 ⟨rfl, hb1⟩
      have hB1 := below_next hB0 hb1 rfl rfl
      have hW1 := Lib.hid (hW0.out.below hb1 hW0.out.lt)
      have HR1 := Lib.hid (HR.out.to_ hb1)
      have HS1 := Lib.hid (HS.out.to_ hb1)
      have HV1 := Lib.hid (HV.out.to_ hb1)
      clear hW0 HR HS HV hB0
      go_wp2_with fail
      go_loopw [8] (fun i w' => ∃ k : Nat, k ≤ vals.length ∧ i = .int .i64 k ∧ Hid ((vals.take k).all okG = true) ∧ Below w1.heap.size w1 w') (fun i _ => vals.length - (intOf i).toNat)
      case atStart => exact ⟨0, Nat.zero_le _, rfl, Lib.hid rfl, Below.refl _ _⟩
      case round =>
        obtain ⟨k, hk', rfl, hal, hB⟩ := hrel
        have hBw := below_next hB1 hB rfl rfl
        by_cases hlt : k < vals.length
        · obtain ⟨g, o, rfl, _, hg, v0, v1, v2⟩ := (HV1.out.to_ hB).at_ hlt
          have hi0 : (0 : Int) ≤ (k : Int) := by omega
          have hi1 : (k : Int) < (vals.length : Int) := by omega
          have hm := (HVF.out.2 _ (List.getElem_mem hlt)).2.2
          have hsn := Lib.hid (all_okG_snoc vals k hlt)
          have hbd := Lib.hid (all_okG_bad vals k hlt)
          obtain ⟨bv, hbv⟩ : ∃ b, okG vals[k] = b := ⟨_, rfl⟩
          have HBV := Lib.hid hbv
          clear hbv
          go_wp2_with fail
          refine (spec_value_is bv vals[k] _ hm HBV.out).mono ?_
          rintro e w2 ⟨rfl, hb2⟩
          have hB2 := below_next hB hb2 rfl rfl
          clear v0 v1 v2
          cases bv with
          | true =>
            have HX := Lib.hid (show (vals.take (k + 1)).all okG = true by rw [hsn.out, hal.out, HBV.out]; rfl)
            go_wp2_with fail
            go_roundw
            case rel => exact ⟨k + 1, by omega, by go_num, HX, hB2⟩
            case measure => simp [intOf]; omega
          | false =>
            have hL := Lib.hid (reck_vals (es := treeN t) (names := names) (hbd.out HBV.out))
            have hB3 := below_next hB1 hB2 rfl rfl
            have hW2 := Lib.hid (hW1.out.below hB2 hW1.out.lt)
            obtain ⟨d0, d1, d2⟩ := cells3_ hW2.out
            have f0 := hW2.out.frozen 0
            have f1 := hW2.out.frozen 1
            have f2 := hW2.out.frozen 2
            go_wp2_with fail
            have hS := put3 (.int .i64 0) (.int .i64 0) (.string ⟨#[]⟩) hW2.out
            have hB9 := below3 (.int .i64 0) (.int .i64 0) (.string ⟨#[]⟩) hB3 (Nat.le_refl _)
            generalize (((w2.setCell _ _).setCell _ _).setCell _ _) = w9 at hS hB9 ⊢
            obtain ⟨z0, z1, z2⟩ := cells3_ hS
            exact bodyPost_ret (v := .tuple #[.agg #[.int .i64 0, .int .i64 0, .string ⟨#[]⟩], .bool false]) (by simp [results, Try.results30, go_sem, z0, z1, z2]) rfl ⟨by rw [hL.out]; rfl, hB9⟩
        · have hi1 : ¬ (k : Int) < (vals.length : Int) := by omega
          have HAL := Lib.hid (show vals.all okG = true by have h := hal.out; rwa [List.take_of_length_le (by omega)] at h)
          have hL := Lib.hid (reck_yes (names := names) ht hb HN.out HAL.out)
          have hW2 := Lib.hid (hW1.out.below hB hW1.out.lt)
          have HC := Lib.hid (spec_reckon names vals HN.out hnl (all_good HAL.out) A1 A2 c1 c2 lo1 lo2 t ht A c wr (by omega) q (HR1.out.to_ hB) (HS1.out.to_ hB) (HV1.out.to_ hB))
          go_wp2_with fail
          refine HC.out.mono ?_
          rintro e w2 ⟨rfl, hb2⟩
          have hB3 := below_next hBw hb2 rfl rfl
          have hW3 := Lib.hid (hW2.out.below hb2 hW2.out.lt)
          rw [← hL.out, resV_eq]
          have hE := Lib.hid (resV_eq (reckD (treeN t) names vals))
          generalize valO (reckD (treeN t) names vals) = cv at *
          generalize (reckD (treeN t) names vals).isSome = sc at *
          obtain ⟨d0, d1, d2⟩ := cells3_ hW3.out
          have f0 := hW3.out.frozen 0
          have f1 := hW3.out.frozen 1
          have f2 := hW3.out.frozen 2
          go_wp2_with fail
          have hS := put3 (.int .i64 cv.k) (.int .i64 cv.n) (.string cv.t) hW3.out
          have hB9 := below3 (.int .i64 cv.k) (.int .i64 cv.n) (.string cv.t) hB3 (Nat.le_refl _)
          generalize (((w2.setCell _ _).setCell _ _).setCell _ _) = w9 at hS hB9 ⊢
          obtain ⟨z0, z1, z2⟩ := cells3_ hS
          exact bodyPost_ret (v := .tuple #[.agg #[.int .i64 cv.k, .int .i64 cv.n, .string cv.t], .bool sc]) (by simp [results, Try.results30, go_sem, z0, z1, z2]) rfl ⟨by rw [hE.out], hB9⟩
    · have hnb : ((names.length : Int) != (vals.length : Int)) = true := by simp; omega
      have hL := Lib.hid (reck_len (es := treeN t) (names := names) (vals := vals) hn)
      clear hn
      go_enter Try.func30, Try.ntmps30
      go_wp2_with fail
      refine (sp_expr_is true A c (treeN t) _ hb hk q HF.out HR.out).mono ?_
      rintro e w1 ⟨rfl, hb1⟩
      have hB1 := below_next hB0 hb1 rfl rfl
      have hW1 := Lib.hid (hW0.out.below hb1 hW0.out.lt)
      obtain ⟨d0, d1, d2⟩ := cells3_ hW1.out
      have f0 := hW1.out.frozen 0
      have f1 := hW1.out.frozen 1
      have f2 := hW1.out.frozen 2
      go_wp2_with fail
      have hS := put3 (.int .i64 0) (.int .i64 0) (.string ⟨#[]⟩) hW1.out
      have hB9 := below3 (.int .i64 0) (.int .i64 0) (.string ⟨#[]⟩) hB1 (Nat.le_refl _)
      generalize (((w1.setCell _ _).setCell _ _).setCell _ _) = w9 at hS hB9 ⊢
      obtain ⟨z0, z1, z2⟩ := cells3_ hS
      exact bodyPost_ret (v := .tuple #[.agg #[.int .i64 0, .int .i64 0, .string ⟨#[]⟩], .bool false]) (by simp [results, Try.results30, go_sem, z0, z1, z2]) rfl ⟨by rw [hL.out]; rfl, hB9⟩
end Go.Proofs.Ytpipikjkhmhmhaa
