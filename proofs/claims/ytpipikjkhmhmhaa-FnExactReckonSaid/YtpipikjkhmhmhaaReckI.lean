/-
  slices.Index over texts; impl.scope.value.
-/
import Derived.Test.YtpipikjkhmhmhaaCalcI
import Derived.Test.YtpipikjkhmhmhaaShelf
namespace Go.Proofs.Ytpipikjkhmhmhaa
open Go.RowKit Go.Sort
set_option linter.unusedVariables false

theorem same_text {a b : ByteArray} : (a.toList == b.toList) = true ↔ a = b := by
  constructor
  · intro h; exact toList_ext (beq_iff_eq.1 h)
  · rintro rfl; simp
theorem idxN_cons (z : ByteArray) (zs : List ByteArray) (s : ByteArray) : idxN (z :: zs) s = if z = s then 0 else idxN zs s + 1 := by
  unfold idxN
  rw [List.findIdx_cons]
  by_cases h : z = s
  · rw [if_pos h, same_text.2 h]; rfl
  · rw [if_neg h]
    have : (z.toList == s.toList) = false := by
      rw [← Bool.not_eq_true]; exact fun h' => h (same_text.1 h')
    rw [this]; rfl
theorem idxFrom_eq (s : ByteArray) : ∀ (zs : List ByteArray) (i : Nat), Lib.idxFromS zs s i = if idxN zs s < zs.length then ((i + idxN zs s : Nat) : Int) else -1
  | [], i => by simp [Lib.idxFromS]
  | z :: zs, i => by
    rw [Lib.idxFromS, idxN_cons]
    by_cases h : z = s
    · rw [if_pos h, if_pos h, if_pos (by simp)]; simp
    · rw [if_neg h, if_neg h, idxFrom_eq s zs (i + 1)]
      by_cases h2 : idxN zs s < zs.length
      · rw [if_pos h2, if_pos (by simp; omega)]; omega
      · rw [if_neg h2, if_neg (by simp; omega)]
theorem idxOf_eq (names : List ByteArray) (s : ByteArray) : Lib.idxOfS names s = findI names s := by
  unfold Lib.idxOfS findI
  rw [idxFrom_eq]
  simp
theorem impl_index {lo : Nat} (n : Int) (A : Option Addr) (c : Nat) (names : List ByteArray) (s : ByteArray) (w : World) (h : findI names s = n) (hl : names.length ≤ 1048576) (hr : StrsAt w lo w.heap.size A names) :
    Calls Try.prog 118 #[.slice A names.length c, .string s] w fun e w' => e = .returned (.int .i64 n) ∧ w = w' := by
  subst h
  rcases hr with rfl | ⟨g, o, rfl, h1, h2, hc⟩
  · exact (Try.slices_Index_string_empty A c s w).mono fun e w' ⟨he, hw⟩ => ⟨by rw [he, idxOf_eq], hw.symm⟩
  · refine (Try.slices_Index_string g o names.length c names s w (Nat.le_refl _) (by omega) (fun j hj => ?_)).mono fun e w' ⟨he, hw⟩ => ⟨by rw [he, List.take_length, idxOf_eq], hw.symm⟩
    have := hc j names[j] (List.getElem?_eq_getElem hj)
    rw [List.getD_eq_getElem?_getD, List.getElem?_eq_getElem hj]
    exact this
set_option maxRecDepth 100000 in
set_option maxHeartbeats 4000000 in
theorem impl_reckon (names : List ByteArray) (vals : List GV) (hnv : names.length = vals.length) (hnl : names.length ≤ 1048576) (hgood : ∀ v ∈ vals, GoodV v) (A1 A2 : Option Addr) (c1 c2 lo1 lo2 : Nat) : ∀ (t : Tr), Wf t → ∀ (w : World), StrsAt w lo1 w.heap.size A1 names → ValuesAt w lo2 w.heap.size A2 vals →
    Calls Try.prog 79 #[.agg #[.slice A1 names.length c1, .slice A2 vals.length c2], TV t] w (ReckPost w (evalT names vals t)) := by
  have HNV := Lib.hid hnv
  have HGOOD := Lib.hid hgood
  clear hnv hgood
  intro t
  induction t with
  | var s =>
    intro ht w hs hv
    unfold TV
    have a1 := fun W => as_var W (.string s)
    have hP := Lib.hid (show Whole ((w.alloc (.cells #[.slice A1 names.length c1, .slice A2 vals.length c2] 117)).alloc (.cells #[.int .i64 0, .int .i64 0, .string ⟨#[]⟩] 28)) w.heap.size 117 [.slice A1 names.length c1, .slice A2 vals.length c2] from (Whole.new w 117 [.slice A1 names.length c1, .slice A2 vals.length c2]).below ((Below.refl (w.heap.size + 1) _).alloc (by simp) _) (Nat.lt_succ_self _))
    have hBa : Below w.heap.size w (w.alloc (.cells #[.slice A1 names.length c1, .slice A2 vals.length c2] 117)) := (Below.refl _ _).alloc (Nat.le_refl _) _
    have hW := Lib.hid (new_at (w.alloc (.cells #[.slice A1 names.length c1, .slice A2 vals.length c2] 117)) (w.heap.size + 1) (by simp) (.int .i64 0) (.int .i64 0) (.string ⟨#[]⟩))
    have hB0 : Below w.heap.size w ((w.alloc (.cells #[.slice A1 names.length c1, .slice A2 vals.length c2] 117)).alloc (.cells #[.int .i64 0, .int .i64 0, .string ⟨#[]⟩] 28)) := hBa.alloc hBa.size _
    have hz0 : ((w.alloc (.cells #[.slice A1 names.length c1, .slice A2 vals.length c2] 117)).alloc (.cells #[.int .i64 0, .int .i64 0, .string ⟨#[]⟩] 28)).heap.size = w.heap.size + 1 + 1 := by simp
    clear hBa
    have HS := Lib.hid (hs.to_ hB0)
    have HV := Lib.hid (hv.to_ hB0)
    have HI := Lib.hid (idx_le names s)
    clear hs hv
    by_cases hi : idxN names s < names.length
    · have hF := Lib.hid (show findI names s = (idxN names s : Int) from findI_hit rfl hi)
      have hiv : idxN names s < vals.length := by have := HNV.out; omega
      have hL := Lib.hid (look_hit (names := names) (vals := vals) (s := s) rfl hiv)
      generalize idxN names s = k at *
      have hk0 : ¬ (k : Int) < 0 := by omega
      have hk1 : (0 : Int) ≤ (k : Int) := by omega
      have hk2 : (k : Int) < (vals.length : Int) := by omega
      go_enter Try.func79, Try.ntmps79
      go_wp2_with fail
      generalize hW1 : (w.alloc (.cells #[.slice A1 names.length c1, .slice A2 vals.length c2] 117)).alloc (.cells #[.int .i64 0, .int .i64 0, .string ⟨#[]⟩] 28) = W1 at *
      clear hW1
      refine (impl_index _ A1 c1 names s W1 hF.out hnl HS.out).mono ?_
      rintro e w2 ⟨rfl, rfl⟩
      have e1 : W1.cell? ⟨w.heap.size, 1, none⟩ = some (.slice A2 vals.length c2) := hP.out.cell 1
      obtain ⟨g2, o2, rfl, _, hg2, v0, v1, v2⟩ := HV.out.at_ hiv
      obtain ⟨d0, d1, d2⟩ := cells3_ hW.out
      have f0 := hW.out.frozen 0
      have f1 := hW.out.frozen 1
      have f2 := hW.out.frozen 2
      go_wp2_with fail
      have hS := put3 (.int .i64 vals[k].k) (.int .i64 vals[k].n) (.string vals[k].t) hW.out
      have hB9 := below3 (.int .i64 vals[k].k) (.int .i64 vals[k].n) (.string vals[k].t) hB0 (Nat.le_succ _)
      generalize (((W1.setCell _ _).setCell _ _).setCell _ _) = w9 at hS hB9 ⊢
      obtain ⟨z0, z1, z2⟩ := cells3_ hS
      exact bodyPost_ret (v := .tuple #[.agg #[.int .i64 vals[k].k, .int .i64 vals[k].n, .string vals[k].t], .bool true]) (by simp [results, Try.results79, go_sem, z0, z1, z2]) rfl ⟨by rw [hL.out]; rfl, hB9⟩
    · have hF := Lib.hid (show findI names s = -1 from findI_none (by omega))
      have hL := Lib.hid (look_none (names := names) (vals := vals) (s := s) (by have := HNV.out; omega))
      go_enter Try.func79, Try.ntmps79
      go_wp2_with fail
      generalize hW1 : (w.alloc (.cells #[.slice A1 names.length c1, .slice A2 vals.length c2] 117)).alloc (.cells #[.int .i64 0, .int .i64 0, .string ⟨#[]⟩] 28) = W1 at *
      clear hW1
      refine (impl_index _ A1 c1 names s W1 hF.out hnl HS.out).mono ?_
      rintro e w2 ⟨rfl, rfl⟩
      have e1 : W1.cell? ⟨w.heap.size, 1, none⟩ = some (.slice A2 vals.length c2) := hP.out.cell 1
      obtain ⟨d0, d1, d2⟩ := cells3_ hW.out
      have f0 := hW.out.frozen 0
      have f1 := hW.out.frozen 1
      have f2 := hW.out.frozen 2
      go_wp2_with fail
      have hS := put3 (.int .i64 0) (.int .i64 0) (.string ⟨#[]⟩) hW.out
      have hB9 := below3 (.int .i64 0) (.int .i64 0) (.string ⟨#[]⟩) hB0 (Nat.le_succ _)
      generalize (((W1.setCell _ _).setCell _ _).setCell _ _) = w9 at hS hB9 ⊢
      obtain ⟨z0, z1, z2⟩ := cells3_ hS
      exact bodyPost_ret (v := .tuple #[.agg #[.int .i64 0, .int .i64 0, .string ⟨#[]⟩], .bool false]) (by simp [results, Try.results79, go_sem, z0, z1, z2]) rfl ⟨by rw [hL.out]; rfl, hB9⟩
  | con v =>
    intro ht w hs hv
    unfold TV
    have a1 := fun W => as_con_var W (.agg #[.int .i64 v.k, .int .i64 v.n, .string v.t])
    have a2 := fun W => as_con W (.agg #[.int .i64 v.k, .int .i64 v.n, .string v.t])
    have hP := Lib.hid (show Whole ((w.alloc (.cells #[.slice A1 names.length c1, .slice A2 vals.length c2] 117)).alloc (.cells #[.int .i64 0, .int .i64 0, .string ⟨#[]⟩] 28)) w.heap.size 117 [.slice A1 names.length c1, .slice A2 vals.length c2] from (Whole.new w 117 [.slice A1 names.length c1, .slice A2 vals.length c2]).below ((Below.refl (w.heap.size + 1) _).alloc (by simp) _) (Nat.lt_succ_self _))
    have hBa : Below w.heap.size w (w.alloc (.cells #[.slice A1 names.length c1, .slice A2 vals.length c2] 117)) := (Below.refl _ _).alloc (Nat.le_refl _) _
    have hW := Lib.hid (new_at (w.alloc (.cells #[.slice A1 names.length c1, .slice A2 vals.length c2] 117)) (w.heap.size + 1) (by simp) (.int .i64 0) (.int .i64 0) (.string ⟨#[]⟩))
    have hB0 : Below w.heap.size w ((w.alloc (.cells #[.slice A1 names.length c1, .slice A2 vals.length c2] 117)).alloc (.cells #[.int .i64 0, .int .i64 0, .string ⟨#[]⟩] 28)) := hBa.alloc hBa.size _
    have hz0 : ((w.alloc (.cells #[.slice A1 names.length c1, .slice A2 vals.length c2] 117)).alloc (.cells #[.int .i64 0, .int .i64 0, .string ⟨#[]⟩] 28)).heap.size = w.heap.size + 1 + 1 := by simp
    clear hBa
    have hL := Lib.hid (show evalT names vals (.con v) = some v from rfl)
    clear hs hv
    clear hP hW hz0 hB0
    go_enter Try.func79, Try.ntmps79
    go_wp2_with fail
    have hs1 : (w.alloc (.cells #[.slice A1 names.length c1, .slice A2 vals.length c2] 117)).heap.size = w.heap.size + 1 := by simp
    have hB1 : Below w.heap.size w (w.alloc (.cells #[.slice A1 names.length c1, .slice A2 vals.length c2] 117)) := (Below.refl _ _).alloc (Nat.le_refl _) _
    generalize w.alloc (.cells #[.slice A1 names.length c1, .slice A2 vals.length c2] 117) = W1 at *
    have hS := new_at W1 _ hs1 (.int .i64 v.k) (.int .i64 v.n) (.string v.t)
    have hB2 := hB1.alloc hB1.size (.cells #[.int .i64 v.k, .int .i64 v.n, .string v.t] 28)
    generalize W1.alloc (.cells #[.int .i64 v.k, .int .i64 v.n, .string v.t] 28) = W2 at *
    obtain ⟨z0, z1, z2⟩ := cells3_ (hS.below ((Below.refl W2.heap.size W2).alloc (Nat.le_refl _) (.cells #[.int .i64 v.k, .int .i64 v.n, .string v.t] 151)) hS.lt)
    have hB3 := hB2.alloc hB2.size (.cells #[.int .i64 v.k, .int .i64 v.n, .string v.t] 151)
    generalize W2.alloc (.cells #[.int .i64 v.k, .int .i64 v.n, .string v.t] 151) = W3 at *
    exact bodyPost_ret (v := .tuple #[.agg #[.int .i64 v.k, .int .i64 v.n, .string v.t], .bool true]) (by simp [results, Try.results79, go_sem, z0, z1, z2]) rfl ⟨by rw [hL.out]; rfl, hB3⟩
  | any =>
    intro ht w hs hv
    unfold TV
    have a1 := fun W => as_any_var W (.agg #[])
    have a2 := fun W => as_any_con W (.agg #[])
    have a3 := fun W => as_any_op W (.agg #[])
    have hP := Lib.hid (show Whole ((w.alloc (.cells #[.slice A1 names.length c1, .slice A2 vals.length c2] 117)).alloc (.cells #[.int .i64 0, .int .i64 0, .string ⟨#[]⟩] 28)) w.heap.size 117 [.slice A1 names.length c1, .slice A2 vals.length c2] from (Whole.new w 117 [.slice A1 names.length c1, .slice A2 vals.length c2]).below ((Below.refl (w.heap.size + 1) _).alloc (by simp) _) (Nat.lt_succ_self _))
    have hBa : Below w.heap.size w (w.alloc (.cells #[.slice A1 names.length c1, .slice A2 vals.length c2] 117)) := (Below.refl _ _).alloc (Nat.le_refl _) _
    have hW := Lib.hid (new_at (w.alloc (.cells #[.slice A1 names.length c1, .slice A2 vals.length c2] 117)) (w.heap.size + 1) (by simp) (.int .i64 0) (.int .i64 0) (.string ⟨#[]⟩))
    have hB0 : Below w.heap.size w ((w.alloc (.cells #[.slice A1 names.length c1, .slice A2 vals.length c2] 117)).alloc (.cells #[.int .i64 0, .int .i64 0, .string ⟨#[]⟩] 28)) := hBa.alloc hBa.size _
    have hz0 : ((w.alloc (.cells #[.slice A1 names.length c1, .slice A2 vals.length c2] 117)).alloc (.cells #[.int .i64 0, .int .i64 0, .string ⟨#[]⟩] 28)).heap.size = w.heap.size + 1 + 1 := by simp
    clear hBa
    have hL := Lib.hid (show evalT names vals .any = none from rfl)
    clear hs hv
    go_enter Try.func79, Try.ntmps79
    go_wp2_with fail
    generalize hW1 : (w.alloc (.cells #[.slice A1 names.length c1, .slice A2 vals.length c2] 117)).alloc (.cells #[.int .i64 0, .int .i64 0, .string ⟨#[]⟩] 28) = W1 at *
    clear hW1
    obtain ⟨z0, z1, z2⟩ := cells3_ hW.out
    exact bodyPost_ret (v := .tuple #[.agg #[.int .i64 0, .int .i64 0, .string ⟨#[]⟩], .bool false]) (by simp [results, Try.results79, go_sem, z0, z1, z2]) rfl ⟨by rw [hL.out]; rfl, hB0⟩
  | op k l r ihl ihr =>
    intro ht w hs hv
    obtain ⟨hk, hwl, hwr⟩ := ht
    obtain ⟨T1, x1, h1⟩ := TV_iface l
    obtain ⟨T2, x2, h2⟩ := TV_iface r
    rw [h1] at ihl
    rw [h2] at ihr
    unfold TV
    rw [h1, h2]
    have a1 := fun W => as_op_var W (.agg #[.int .i64 k, .iface T1 x1, .iface T2 x2])
    have a2 := fun W => as_op_con W (.agg #[.int .i64 k, .iface T1 x1, .iface T2 x2])
    have a3 := fun W => as_op W (.agg #[.int .i64 k, .iface T1 x1, .iface T2 x2])
    have hP := Lib.hid (show Whole ((w.alloc (.cells #[.slice A1 names.length c1, .slice A2 vals.length c2] 117)).alloc (.cells #[.int .i64 0, .int .i64 0, .string ⟨#[]⟩] 28)) w.heap.size 117 [.slice A1 names.length c1, .slice A2 vals.length c2] from (Whole.new w 117 [.slice A1 names.length c1, .slice A2 vals.length c2]).below ((Below.refl (w.heap.size + 1) _).alloc (by simp) _) (Nat.lt_succ_self _))
    have hBa : Below w.heap.size w (w.alloc (.cells #[.slice A1 names.length c1, .slice A2 vals.length c2] 117)) := (Below.refl _ _).alloc (Nat.le_refl _) _
    have hW := Lib.hid (new_at (w.alloc (.cells #[.slice A1 names.length c1, .slice A2 vals.length c2] 117)) (w.heap.size + 1) (by simp) (.int .i64 0) (.int .i64 0) (.string ⟨#[]⟩))
    have hB0 : Below w.heap.size w ((w.alloc (.cells #[.slice A1 names.length c1, .slice A2 vals.length c2] 117)).alloc (.cells #[.int .i64 0, .int .i64 0, .string ⟨#[]⟩] 28)) := hBa.alloc hBa.size _
    have hz0 : ((w.alloc (.cells #[.slice A1 names.length c1, .slice A2 vals.length c2] 117)).alloc (.cells #[.int .i64 0, .int .i64 0, .string ⟨#[]⟩] 28)).heap.size = w.heap.size + 1 + 1 := by simp
    clear hBa
    have HS := Lib.hid (hs.to_ hB0)
    have HV := Lib.hid (hv.to_ hB0)
    have IHL := Lib.hid (ihl hwl)
    have IHR := Lib.hid (ihr hwr)
    clear hs hv ihl ihr h1 h2
    have HGL := Lib.hid (good_valO (eval_good names vals HGOOD.out l hwl))
    have HGR := Lib.hid (good_valO (eval_good names vals HGOOD.out r hwr))
    have HE := Lib.hid (show evalT names vals (.op k l r) = calcV k (valO (evalT names vals l)) (valO (evalT names vals r)) by
      by_cases k1 : (valO (evalT names vals l)).k = 1
      · by_cases k2 : (valO (evalT names vals r)).k = 1
        · exact eval_op names vals k l r k1 k2
        · rw [eval_op_r names vals k l r k2]; unfold calcV; rw [if_neg (fun h => k2 h.2.1)]
      · rw [eval_op_l names vals k l r k1]; unfold calcV; rw [if_neg (fun h => k1 h.1)])
    generalize evalT names vals (.op k l r) = ev at *
    generalize evalT names vals l = ol at *
    generalize evalT names vals r = oq at *
    go_enter Try.func79, Try.ntmps79
    go_wp2_with fail
    generalize hW1 : (w.alloc (.cells #[.slice A1 names.length c1, .slice A2 vals.length c2] 117)).alloc (.cells #[.int .i64 0, .int .i64 0, .string ⟨#[]⟩] 28) = W1 at *
    clear hW1
    have HO := Lib.hid (show Whole (W1.alloc (.cells #[.int .i64 k, .iface T1 x1, .iface T2 x2] 153)) (w.heap.size + 1 + 1) 153 [.int .i64 k, .iface T1 x1, .iface T2 x2] by rw [← hz0]; exact Whole.new W1 _ _)
    have hA2 : Below W1.heap.size W1 (W1.alloc (.cells #[.int .i64 k, .iface T1 x1, .iface T2 x2] 153)) := (Below.refl _ _).alloc (Nat.le_refl _) _
    have hB2 := below_next hB0 hA2 rfl rfl
    have hP2 := Lib.hid (hP.out.below hA2 hP.out.lt)
    have hW2 := Lib.hid (hW.out.below hA2 hW.out.lt)
    have HS2 := Lib.hid (HS.out.to_ hA2)
    have HV2 := Lib.hid (HV.out.to_ hA2)
    clear hP hW HS HV hA2 hB0 a1 a2 a3 hz0
    generalize W1.alloc (.cells #[.int .i64 k, .iface T1 x1, .iface T2 x2] 153) = W2 at *
    refine (IHL.out W2 HS2.out HV2.out).mono ?_
    rintro e w3 ⟨rfl, hb3⟩
    rw [resV_eq]
    generalize valO ol = a at *
    generalize ol.isSome = sa at *
    have hB3 := below_next hB2 hb3 rfl rfl
    have hP3 := Lib.hid (hP2.out.below hb3 hP2.out.lt)
    have hW3 := Lib.hid (hW2.out.below hb3 hW2.out.lt)
    have HO3 := Lib.hid (HO.out.below hb3 HO.out.lt)
    have HS3 := Lib.hid (HS2.out.to_ hb3)
    have HV3 := Lib.hid (HV2.out.to_ hb3)
    clear hP2 hW2 HS2 HV2 HO hb3 hB2
    have e0 : w3.cell? ⟨w.heap.size, 0, none⟩ = some (.slice A1 names.length c1) := hP3.out.cell 0
    have e1 : w3.cell? ⟨w.heap.size, 1, none⟩ = some (.slice A2 vals.length c2) := hP3.out.cell 1
    have g2 : w3.cell? ⟨w.heap.size + 1 + 1, 2, none⟩ = some (.iface T2 x2) := HO3.out.cell 2
    have hz3 : w.heap.size < w3.heap.size := hP3.out.lt
    have hz4 : w.heap.size + 1 + 1 < w3.heap.size := HO3.out.lt
    have HA := Lib.hid (new_at w3 _ rfl (.int .i64 a.k) (.int .i64 a.n) (.string a.t))
    have hAl : Below w3.heap.size w3 (w3.alloc (.cells #[.int .i64 a.k, .int .i64 a.n, .string a.t] 28)) := (Below.refl _ _).alloc (Nat.le_refl _) _
    go_wp2_with fail
    clear e0 e1 g2 hz3 hz4
    have hB4 := below_next hB3 hAl rfl rfl
    have HO4 := Lib.hid (HO3.out.below hAl HO3.out.lt)
    have hW4 := Lib.hid (hW3.out.below hAl hW3.out.lt)
    have HS4 := Lib.hid (HS3.out.to_ hAl)
    have HV4 := Lib.hid (HV3.out.to_ hAl)
    clear hP3 hW3 HS3 HV3 HO3 hAl hB3
    generalize w3.alloc (.cells #[.int .i64 a.k, .int .i64 a.n, .string a.t] 28) = w4 at *
    generalize w3.heap.size = n3 at *
    refine (IHR.out w4 HS4.out HV4.out).mono ?_
    rintro e w5 ⟨rfl, hb5⟩
    rw [resV_eq]
    generalize valO oq = b at *
    generalize oq.isSome = sb at *
    have hB5 := below_next hB4 hb5 rfl rfl
    have HO5 := Lib.hid (HO4.out.below hb5 HO4.out.lt)
    have hW5 := Lib.hid (hW4.out.below hb5 hW4.out.lt)
    have HA5 := Lib.hid (HA.out.below hb5 HA.out.lt)
    clear hb5 hB4 HO4 hW4 HA HS4 HV4
    have g0 : w5.cell? ⟨w.heap.size + 1 + 1, 0, none⟩ = some (.int .i64 k) := HO5.out.cell 0
    obtain ⟨y0, y1, y2⟩ := cells3_ HA5.out
    have hz3 : n3 < w5.heap.size := HA5.out.lt
    have hz4 : w.heap.size + 1 + 1 < w5.heap.size := HO5.out.lt
    have hAl : Below w5.heap.size w5 (w5.alloc (.cells #[.int .i64 b.k, .int .i64 b.n, .string b.t] 28)) := (Below.refl _ _).alloc (Nat.le_refl _) _
    go_wp2_with fail
    have hB6 := below_next hB5 hAl rfl rfl
    have hW6 := Lib.hid (hW5.out.below hAl hW5.out.lt)
    clear g0 y0 y1 y2 hz3 hz4 hB5 hW5 hAl HO5 HA5
    generalize w5.alloc (.cells #[.int .i64 b.k, .int .i64 b.n, .string b.t] 28) = w6 at *
    refine (impl_calc k a b w6 hk HGL.out HGR.out).mono ?_
    rintro e w7 ⟨rfl, hb7⟩
    rw [← HE.out]
    have hB7 := below_next hB6 hb7 rfl rfl
    have hW7 := Lib.hid (hW6.out.below hb7 hW6.out.lt)
    clear hb7 hB6 hW6 hk
    rw [resV_eq]
    have hL := Lib.hid (show resV ev = _ from resV_eq ev)
    generalize valO ev = cv at *
    generalize ev.isSome = sc at *
    obtain ⟨d0, d1, d2⟩ := cells3_ hW7.out
    have f0 := hW7.out.frozen 0
    have f1 := hW7.out.frozen 1
    have f2 := hW7.out.frozen 2
    go_wp2_with fail
    have hS := put3 (.int .i64 cv.k) (.int .i64 cv.n) (.string cv.t) hW7.out
    have hB9 := below3 (.int .i64 cv.k) (.int .i64 cv.n) (.string cv.t) hB7 (Nat.le_succ _)
    generalize (((w7.setCell _ _).setCell _ _).setCell _ _) = w9 at hS hB9 ⊢
    obtain ⟨z0, z1, z2⟩ := cells3_ hS
    exact bodyPost_ret (v := .tuple #[.agg #[.int .i64 cv.k, .int .i64 cv.n, .string cv.t], .bool sc]) (by simp [results, Try.results79, go_sem, z0, z1, z2]) rfl ⟨by rw [hL.out], hB9⟩
end Go.Proofs.Ytpipikjkhmhmhaa
