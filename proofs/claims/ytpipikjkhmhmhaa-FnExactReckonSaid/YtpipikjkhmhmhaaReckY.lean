/-
  impl.Reckon.
-/
import Derived.Test.YtpipikjkhmhmhaaReckX
import Derived.Test.YtpipikjkhmhmhaaReckI
import Derived.Test.YtpipikjkhmhmhaaAllVal
import Derived.Test.YtpipikjkhmhmhaaSizeM
import Derived.Test.YtpipikjkhmhmhaaExprOk
import Derived.Test.YtpipikjkhmhmhaaCopyRow
namespace Go.Proofs.Ytpipikjkhmhmhaa
open Go.RowKit Go.Sort
set_option linter.unusedVariables false

theorem reck_size {es : List GNode} {names : List ByteArray} {vals : List GV} (h : fitValues vals) : (valO (reckD es names vals)).t.size ≤ 60 := by
  have z60 : (valO none).t.size ≤ 60 := by decide
  unfold reckD
  split
  · rename_i hc
    obtain ⟨h1, h2, h3⟩ := hc
    obtain ⟨t, ht, rfl, _, _⟩ := expr_tree h1
    rw [treeT_is t ht]
    have key : ∀ (t : Tr), Wf t → (valO (evalT names vals t)).t.size ≤ 60 := by
      intro t ht
      cases t with
      | var s =>
        simp only [evalT]
        cases hx : vals[idxN names s]? with
        | none => exact z60
        | some v => exact okG_size ((List.all_eq_true.1 h3) v (List.mem_of_getElem? hx))
      | con v =>
        have h4 : conB v = true := ht
        unfold conB at h4
        rw [Bool.and_eq_true] at h4
        exact okG_size (v := v) h4.1
      | any => exact z60
      | op k l r =>
        simp only [evalT]
        split
        · unfold calcV
          split
          · exact (by decide : (ByteArray.empty).size ≤ 60)
          · exact z60
        · exact z60
    exact key t ht
  · exact z60
theorem ok_expr_is {lo : Nat} (b : Bool) (A : Option Addr) (c : Nat) (es : List GNode) (w : World) (h : exprB es = b) (hl : es.length ≤ 1048576) (q : CapOk es.length c) (hf : fitNodes es) (hr : NodesAt w lo w.heap.size A es) :
    Calls Try.prog 76 #[.slice A es.length c] w fun e w' => e = .returned (.bool b) ∧ Below w.heap.size w w' := by
  subst h; exact ok_expr A c es w hl q.1 q.2 hf hr
theorem all_vals_is {lo : Nat} (b : Bool) (A : Option Addr) (c : Nat) (xs : List GV) (w : World) (h : xs.all okG = b) (hf : fitValues xs) (hk : costValues xs ≤ 1048576) (hr : ValuesAt w lo w.heap.size A xs) :
    Calls Try.prog 77 #[.slice A xs.length c, .func (.func 78) #[] #[]] w fun e w' => e = .returned (.bool b) ∧ Below w.heap.size w w' := by
  subst h; exact all_Value A c xs w hf hk hr
set_option maxRecDepth 100000 in
set_option maxHeartbeats 1600000 in
theorem impl_Reckon {lo lo1 lo2 : Nat} (A A1 A2 : Option Addr) (c c1 c2 : Nat) (es : List GNode) (names : List ByteArray) (vals : List GV) (w : World) (hk : costNodes es ≤ 1048576) (q : CapOk es.length c) (hf : fitNodes es) (hr : NodesAt w lo w.heap.size A es) (hs : StrsAt w lo1 w.heap.size A1 names) (hnl : names.length ≤ 1048576) (hv : ValuesAt w lo2 w.heap.size A2 vals) (hvf : fitValues vals) (hvk : costValues vals ≤ 1048576) :
    Calls Try.prog 34 #[.slice A es.length c, .slice A1 names.length c1, .slice A2 vals.length c2] w (ReckPost w (reckD es names vals)) := by
  have hvl : vals.length ≤ 1048576 := by unfold costValues at hvk; omega
  have hel : es.length ≤ 1048576 := by unfold costNodes at hk; omega
  have hB0 : Below w.heap.size w (w.alloc (.cells #[.int .i64 0, .int .i64 0, .string ⟨#[]⟩] 28)) := (Below.refl _ _).alloc (Nat.le_refl _) _
  have hW0 := Lib.hid (new3 w)
  have HR := Lib.hid (hr.to_ hB0)
  have HS := Lib.hid (hs.to_ hB0)
  have HV := Lib.hid (hv.to_ hB0)
  have HVF := Lib.hid hvf
  have HF := Lib.hid hf
  clear hr hs hv hvf hf
  cases hb : exprB es with
  | false =>
    have hL := Lib.hid (reck_expr (names := names) (vals := vals) hb)
    go_enter Try.func34, Try.ntmps34
    go_wp2_with fail
    refine (ok_expr_is false A c es _ hb hel q HF.out HR.out).mono ?_
    rintro e w1 ⟨rfl, hb1⟩
    have hB1 := below_next hB0 hb1 rfl rfl
    have hW1 := Lib.hid (hW0.out.below hb1 hW0.out.lt)
    obtain ⟨d0, d1, d2⟩ := cells3_ hW1.out
    have f0 := hW1.out.frozen 0
    have f1 := hW1.out.frozen 1
    have f2 := hW1.out.frozen 2
    go_wp2_with fail
    have hS := put3 (.int .i64 0) (.int .i64 0) (.string ⟨#[]⟩) hW1.out
    have hB9 := below3 (.int .i64 0) (.int .i64 0) (.string ⟨#[]⟩) hB1 (Nat.le_refl _)
    generalize (((w1.setCell _ _).setCell _ _).setCell _ _) = w9 at hS hB9 ⊢
    obtain ⟨z0, z1, z2⟩ := cells3_ hS
    exact bodyPost_ret (v := .tuple #[.agg #[.int .i64 0, .int .i64 0, .string ⟨#[]⟩], .bool false]) (by simp [results, Try.results34, go_sem, z0, z1, z2]) rfl ⟨by rw [hL.out]; rfl, hB9⟩
  | true =>
    obtain ⟨t, ht, rfl, _, hl100⟩ := expr_tree hb
    by_cases hn : names.length = vals.length
    · have hnb : ((names.length : Int) != (vals.length : Int)) = false := by simp [hn]
      have HN := Lib.hid hn
      clear hn
      cases hav : vals.all okG with
      | false =>
        have hL := Lib.hid (reck_vals (es := treeN t) (names := names) hav)
        go_enter Try.func34, Try.ntmps34
        go_wp2_with fail
        refine (ok_expr_is true A c (treeN t) _ hb hel q HF.out HR.out).mono ?_
        rintro e w1 ⟨rfl, hb1⟩
        have hB1 := below_next hB0 hb1 rfl rfl
        have hW1 := Lib.hid (hW0.out.below hb1 hW0.out.lt)
        have HV1 := Lib.hid (HV.out.to_ hb1)
        clear hW0 HR HS HV hB0
        go_wp2_with fail
        refine (all_vals_is false A2 c2 vals _ hav HVF.out hvk HV1.out).mono ?_
        rintro e w2 ⟨rfl, hb2⟩
        have hB3 := below_next hB1 hb2 rfl rfl
        have hW2 := Lib.hid (hW1.out.below hb2 hW1.out.lt)
        obtain ⟨d0, d1, d2⟩ := cells3_ hW2.out
        have f0 := hW2.out.frozen 0
        have f1 := hW2.out.frozen 1
        have f2 := hW2.out.frozen 2
        go_wp2_with fail
        have hS := put3 (.int .i64 0) (.int .i64 0) (.string ⟨#[]⟩) hW2.out
        have hB9 := below3 (.int .i64 0) (.int .i64 0) (.string ⟨#[]⟩) hB3 (Nat.le_refl _)
        generalize (((w2.setCell _ _).setCell _ _).setCell _ _) = w9 at hS hB9 ⊢
        obtain ⟨z0, z1, z2⟩ := cells3_ hS
        exact bodyPost_ret (v := .tuple #[.agg #[.int .i64 0, .int .i64 0, .string ⟨#[]⟩], .bool false]) (by simp [results, Try.results34, go_sem, z0, z1, z2]) rfl ⟨by rw [hL.out]; rfl, hB9⟩
      | true =>
        have hL := Lib.hid (reck_yes (names := names) ht hb HN.out hav)
        have HSZ := Lib.hid (reck_size (es := treeN t) (names := names) HVF.out)
        have HC := Lib.hid (fun W => impl_reckon names vals HN.out hnl (all_good hav) A1 A2 c1 c2 lo1 lo2 t ht W)
        obtain ⟨T1, x1, hT⟩ := TV_iface t
        have HT := Lib.hid hT
        clear hT
        go_enter Try.func34, Try.ntmps34
        go_wp2_with fail
        refine (ok_expr_is true A c (treeN t) _ hb hel q HF.out HR.out).mono ?_
        rintro e w1 ⟨rfl, hb1⟩
        have hB1 := below_next hB0 hb1 rfl rfl
        have hW1 := Lib.hid (hW0.out.below hb1 hW0.out.lt)
        have HR1 := Lib.hid (HR.out.to_ hb1)
        have HS1 := Lib.hid (HS.out.to_ hb1)
        have HV1 := Lib.hid (HV.out.to_ hb1)
        clear hW0 HR HS HV hB0 hb1
        go_wp2_with fail
        refine (all_vals_is true A2 c2 vals _ hav HVF.out hvk HV1.out).mono ?_
        rintro e w2 ⟨rfl, hb2⟩
        have hB2 := below_next hB1 hb2 rfl rfl
        have hW2 := Lib.hid (hW1.out.below hb2 hW1.out.lt)
        have HR2 := Lib.hid (HR1.out.to_ hb2)
        have HS2 := Lib.hid (HS1.out.to_ hb2)
        have HV2 := Lib.hid (HV1.out.to_ hb2)
        clear hW1 HR1 HS1 HV1 hB1 hb2
        go_wp2_with fail
        refine (impl_treeOf t A c w2 ht (by omega) q HF.out HR2.out).mono ?_
        rintro e w3 ⟨rfl, hb3⟩
        rw [HT.out]
        have hB3 := below_next hB2 hb3 rfl rfl
        have hW3 := Lib.hid (hW2.out.below hb3 hW2.out.lt)
        have HS3 := Lib.hid (HS2.out.to_ hb3)
        have HV3 := Lib.hid (HV2.out.to_ hb3)
        have HC3 := Lib.hid (HC.out w3 HS3.out HV3.out)
        rw [HT.out] at HC3
        clear hW2 HS2 HV2 hB2 hb3 HR2 HC
        go_wp2_with fail
        refine HC3.out.mono ?_
        rintro e w4 ⟨rfl, hb4⟩
        have hB4 := below_next hB3 hb4 rfl rfl
        have hW4 := Lib.hid (hW3.out.below hb4 hW3.out.lt)
        rw [← hL.out, resV_eq]
        have hE := Lib.hid (resV_eq (reckD (treeN t) names vals))
        generalize valO (reckD (treeN t) names vals) = cv at *
        generalize (reckD (treeN t) names vals).isSome = sc at *
        clear hB3 hW3 hb4 HC3 HS3 HV3
        have HA := Lib.hid (new_at w4 _ rfl (.int .i64 cv.k) (.int .i64 cv.n) (.string cv.t))
        have hAl : Below w4.heap.size w4 (w4.alloc (.cells #[.int .i64 cv.k, .int .i64 cv.n, .string cv.t] 28)) := (Below.refl _ _).alloc (Nat.le_refl _) _
        have hB5 := below_next hB4 hAl rfl rfl
        have hW5 := Lib.hid (hW4.out.below hAl hW4.out.lt)
        clear hB4 hAl
        go_wp2_with fail
        have hz := hW4.out.lt
        clear hW4
        generalize w4.alloc (.cells #[.int .i64 cv.k, .int .i64 cv.n, .string cv.t] 28) = w5 at *
        generalize w4.heap.size = n4 at *
        refine (strings_clone cv.t w5 (by have := HSZ.out; omega)).mono ?_
        rintro e w6 ⟨rfl, hb6⟩
        have hB6 := below_next hB5 hb6 rfl rfl
        have HA6 := Lib.hid (HA.out.below hb6 HA.out.lt)
        have hW6 := Lib.hid (hW5.out.below hb6 hW5.out.lt)
        clear hb6 hB5 hW5 HA
        obtain ⟨y0, y1, y2⟩ := cells3_ HA6.out
        have u2 := HA6.out.frozen 2
        have hz5 : n4 < w6.heap.size := HA6.out.lt
        obtain ⟨d0, d1, d2⟩ := cells3_ hW6.out
        have f0 := hW6.out.frozen 0
        have f1 := hW6.out.frozen 1
        have f2 := hW6.out.frozen 2
        have hne : w.heap.size ≠ n4 := by omega
        go_wp2_with fail
        have hW7 := hW6.out.far (g' := n4) (i := 2) (u := .string cv.t) hne
        have hB7 : Below w.heap.size w (w6.setCell ⟨n4, 2, none⟩ (.string cv.t)) := hB6.setCell (show w.heap.size ≤ n4 by omega) _
        generalize w6.setCell ⟨n4, 2, none⟩ (.string cv.t) = w7 at *
        have hS := put3 (.int .i64 cv.k) (.int .i64 cv.n) (.string cv.t) hW7
        have hB9 := below3 (.int .i64 cv.k) (.int .i64 cv.n) (.string cv.t) hB7 (Nat.le_refl _)
        generalize (((w7.setCell _ _).setCell _ _).setCell _ _) = w9 at hS hB9 ⊢
        obtain ⟨z0, z1, z2⟩ := cells3_ hS
        exact bodyPost_ret (v := .tuple #[.agg #[.int .i64 cv.k, .int .i64 cv.n, .string cv.t], .bool sc]) (by simp [results, Try.results34, go_sem, z0, z1, z2]) rfl ⟨by rw [hE.out], hB9⟩
    · have hnb : ((names.length : Int) != (vals.length : Int)) = true := by simp; omega
      have hL := Lib.hid (reck_len (es := treeN t) (names := names) (vals := vals) hn)
      clear hn
      go_enter Try.func34, Try.ntmps34
      go_wp2_with fail
      refine (ok_expr_is true A c (treeN t) _ hb hel q HF.out HR.out).mono ?_
      rintro e w1 ⟨rfl, hb1⟩
      have hB1 := below_next hB0 hb1 rfl rfl
      have hW1 := Lib.hid (hW0.out.below hb1 hW0.out.lt)
      obtain ⟨d0, d1, d2⟩ := cells3_ hW1.out
      have f0 := hW1.out.frozen 0
      have f1 := hW1.out.frozen 1
      have f2 := hW1.out.frozen 2
      go_wp2_with fail
      have hS := put3 (.int .i64 0) (.int .i64 0) (.string ⟨#[]⟩) hW1.out
      have hB9 := below3 (.int .i64 0) (.int .i64 0) (.string ⟨#[]⟩) hB1 (Nat.le_refl _)
      generalize (((w1.setCell _ _).setCell _ _).setCell _ _) = w9 at hS hB9 ⊢
      obtain ⟨z0, z1, z2⟩ := cells3_ hS
      exact bodyPost_ret (v := .tuple #[.agg #[.int .i64 0, .int .i64 0, .string ⟨#[]⟩], .bool false]) (by simp [results, Try.results34, go_sem, z0, z1, z2]) rfl ⟨by rw [hL.out]; rfl, hB9⟩
end Go.Proofs.Ytpipikjkhmhmhaa
