/-
  impl.calculate.
-/
import Derived.Test.YtpipikjkhmhmhaaReckS
import Derived.Test.YtpipikjkhmhmhaaValueOk
namespace Go.Proofs.Ytpipikjkhmhmhaa
open Go.RowKit Go.Sort
set_option linter.unusedVariables false

theorem new_at (W : World) (n : Nat) (h : W.heap.size = n) (x y z : Value) : Whole (W.alloc (.cells #[x, y, z] 28)) n 28 [x, y, z] := by subst h; exact Whole.new W _ _
theorem value_int (n : Int) : valueOkB 1 n ⟨#[]⟩ = (decide (-1000000000 ≤ n) && decide (n ≤ 1000000000)) := by
  have h : (⟨#[]⟩ : ByteArray).toList = [] := by rw [Lib.toList_data]
  unfold valueOkB
  rw [Bool.eq_iff_iff]
  simp [h]
theorem calc_yes {k : Int} {a b : GV} {n : Int} (ka : a.k = 1) (kb : b.k = 1) (hn : calcN k a.n b.n = n) (h : valueOkB 1 n ⟨#[]⟩ = true) : calcV k a b = some ⟨1, n, ⟨#[]⟩⟩ := by
  rw [value_int] at h
  simp only [Bool.and_eq_true, decide_eq_true_eq] at h
  unfold calcV
  rw [hn, if_pos ⟨ka, kb, h.1, h.2⟩]
  rfl
theorem calc_no {k : Int} {a b : GV} {n : Int} (hn : calcN k a.n b.n = n) (h : valueOkB 1 n ⟨#[]⟩ = false) : calcV k a b = none := by
  rw [value_int] at h
  simp only [Bool.and_eq_false_iff, decide_eq_false_iff_not] at h
  unfold calcV
  rw [hn, if_neg (by omega)]
set_option maxRecDepth 100000 in
set_option maxHeartbeats 1600000 in
theorem impl_calc (k : Int) (a b : GV) (w : World) (hk : k = 3 ∨ k = 4 ∨ k = 5) (ha : GoodV a) (hb : GoodV b) :
    Calls Try.prog 119 #[.int .i64 k, .agg #[.int .i64 a.k, .int .i64 a.n, .string a.t], .agg #[.int .i64 b.k, .int .i64 b.n, .string b.t]] w (ReckPost w (calcV k a b)) := by
  by_cases ka : a.k = 1
  · have kab : (a.k != 1) = false := by simp [ka]
    by_cases kb : b.k = 1
    · have kbb : (b.k != 1) = false := by simp [kb]
      have hra := ha ka
      have hrb := hb kb
      have hcw := calc_wide (k := 5) ha hb ka kb
      rw [show calcN 5 a.n b.n = a.n * b.n from rfl] at hcw
      have wm : IntKind.i64.wrap (a.n * b.n) = a.n * b.n := by rw [IntKind.wrap_i64]; omega
      have wa : IntKind.i64.wrap (a.n + b.n) = a.n + b.n := by rw [IntKind.wrap_i64]; omega
      have ws : IntKind.i64.wrap (a.n - b.n) = a.n - b.n := by rw [IntKind.wrap_i64]; omega
      rcases hk with rfl | rfl | rfl
      · go_enter Try.func119, Try.ntmps119
        have HY := Lib.hid (calc_yes (k := 3) (n := a.n + b.n) ka kb rfl)
        have HN := Lib.hid (calc_no (k := 3) (a := a) (b := b) (n := a.n + b.n) rfl)
        go_wp2_with fail
        have hs2 : ((w.alloc (.cells #[.int .i64 1, .int .i64 a.n, .string a.t] 28)).alloc (.cells #[.int .i64 1, .int .i64 b.n, .string b.t] 28)).heap.size = w.heap.size + 1 + 1 := by simp
        have hB2 : Below w.heap.size w ((w.alloc (.cells #[.int .i64 1, .int .i64 a.n, .string a.t] 28)).alloc (.cells #[.int .i64 1, .int .i64 b.n, .string b.t] 28)) := ((Below.refl _ _).alloc (Nat.le_refl _) _).alloc (by simp) _
        generalize (w.alloc (.cells #[.int .i64 1, .int .i64 a.n, .string a.t] 28)).alloc (.cells #[.int .i64 1, .int .i64 b.n, .string b.t] 28) = W2 at *
        have HR3 := Lib.hid (new_at W2 _ hs2 (.int .i64 0) (.int .i64 0) (.string ⟨#[]⟩))
        have hs3 : (W2.alloc (.cells #[.int .i64 0, .int .i64 0, .string ⟨#[]⟩] 28)).heap.size = w.heap.size + 1 + 1 + 1 := by simp [hs2]
        have hB3 := hB2.alloc hB2.size (.cells #[.int .i64 0, .int .i64 0, .string ⟨#[]⟩] 28)
        generalize W2.alloc (.cells #[.int .i64 0, .int .i64 0, .string ⟨#[]⟩] 28) = W3 at *
        have HT4 := Lib.hid (new_at W3 _ hs3 (.int .i64 1) (.int .i64 (a.n + b.n)) (.string ⟨#[]⟩))
        have hA4 : Below W3.heap.size W3 (W3.alloc (.cells #[.int .i64 1, .int .i64 (a.n + b.n), .string ⟨#[]⟩] 28)) := (Below.refl _ _).alloc (Nat.le_refl _) _
        have HR4 := Lib.hid (HR3.out.below hA4 HR3.out.lt)
        have hB4 := below_next hB3 hA4 rfl rfl
        clear hA4 hB3 hB2 hs2 HR3
        generalize W3.alloc (.cells #[.int .i64 1, .int .i64 (a.n + b.n), .string ⟨#[]⟩] 28) = W4 at *
        clear wm wa ws hcw
        generalize a.n + b.n = n at *
        refine (impl_value 1 n ⟨#[]⟩ W4 (by unfold maxLen; decide)).mono ?_
        rintro e w5 ⟨rfl, hb5⟩
        have hB5 := Lib.hid (below_next hB4 hb5 rfl rfl)
        have HR5 := Lib.hid (HR4.out.below hb5 HR4.out.lt)
        have HT5 := Lib.hid (HT4.out.below hb5 HT4.out.lt)
        clear hb5 hB4 HR4 HT4
        obtain ⟨x0, x1, x2⟩ := cells3_ HT5.out
        obtain ⟨d0, d1, d2⟩ := cells3_ HR5.out
        have f0 := HR5.out.frozen 0
        have f1 := HR5.out.frozen 1
        have f2 := HR5.out.frozen 2
        cases hv : valueOkB 1 n ⟨#[]⟩ with
        | true =>
          have hL := Lib.hid (HY.out hv)
          go_wp2_with fail
          have hS := put3 (.int .i64 1) (.int .i64 n) (.string ⟨#[]⟩) HR5.out
          have hB9 := below3 (.int .i64 1) (.int .i64 n) (.string ⟨#[]⟩) hB5.out (Nat.le_add_right _ 2)
          generalize (((w5.setCell _ _).setCell _ _).setCell _ _) = w9 at hS hB9 ⊢
          obtain ⟨c0, c1, c2⟩ := cells3_ hS
          exact bodyPost_ret (v := .tuple #[.agg #[.int .i64 1, .int .i64 n, .string ⟨#[]⟩], .bool true]) (by simp [results, Try.results119, go_sem, c0, c1, c2]) rfl ⟨by rw [hL.out]; rfl, hB9⟩
        | false =>
          have hL := Lib.hid (HN.out hv)
          go_wp2_with fail
          have hS := put3 (.int .i64 0) (.int .i64 0) (.string ⟨#[]⟩) HR5.out
          have hB9 := below3 (.int .i64 0) (.int .i64 0) (.string ⟨#[]⟩) hB5.out (Nat.le_add_right _ 2)
          generalize (((w5.setCell _ _).setCell _ _).setCell _ _) = w9 at hS hB9 ⊢
          obtain ⟨c0, c1, c2⟩ := cells3_ hS
          exact bodyPost_ret (v := .tuple #[.agg #[.int .i64 0, .int .i64 0, .string ⟨#[]⟩], .bool false]) (by simp [results, Try.results119, go_sem, c0, c1, c2]) rfl ⟨by rw [hL.out]; rfl, hB9⟩
      · go_enter Try.func119, Try.ntmps119
        have HY := Lib.hid (calc_yes (k := 4) (n := a.n - b.n) ka kb rfl)
        have HN := Lib.hid (calc_no (k := 4) (a := a) (b := b) (n := a.n - b.n) rfl)
        go_wp2_with fail
        have hs2 : ((w.alloc (.cells #[.int .i64 1, .int .i64 a.n, .string a.t] 28)).alloc (.cells #[.int .i64 1, .int .i64 b.n, .string b.t] 28)).heap.size = w.heap.size + 1 + 1 := by simp
        have hB2 : Below w.heap.size w ((w.alloc (.cells #[.int .i64 1, .int .i64 a.n, .string a.t] 28)).alloc (.cells #[.int .i64 1, .int .i64 b.n, .string b.t] 28)) := ((Below.refl _ _).alloc (Nat.le_refl _) _).alloc (by simp) _
        generalize (w.alloc (.cells #[.int .i64 1, .int .i64 a.n, .string a.t] 28)).alloc (.cells #[.int .i64 1, .int .i64 b.n, .string b.t] 28) = W2 at *
        have HR3 := Lib.hid (new_at W2 _ hs2 (.int .i64 0) (.int .i64 0) (.string ⟨#[]⟩))
        have hs3 : (W2.alloc (.cells #[.int .i64 0, .int .i64 0, .string ⟨#[]⟩] 28)).heap.size = w.heap.size + 1 + 1 + 1 := by simp [hs2]
        have hB3 := hB2.alloc hB2.size (.cells #[.int .i64 0, .int .i64 0, .string ⟨#[]⟩] 28)
        generalize W2.alloc (.cells #[.int .i64 0, .int .i64 0, .string ⟨#[]⟩] 28) = W3 at *
        have HT4 := Lib.hid (new_at W3 _ hs3 (.int .i64 1) (.int .i64 (a.n - b.n)) (.string ⟨#[]⟩))
        have hA4 : Below W3.heap.size W3 (W3.alloc (.cells #[.int .i64 1, .int .i64 (a.n - b.n), .string ⟨#[]⟩] 28)) := (Below.refl _ _).alloc (Nat.le_refl _) _
        have HR4 := Lib.hid (HR3.out.below hA4 HR3.out.lt)
        have hB4 := below_next hB3 hA4 rfl rfl
        clear hA4 hB3 hB2 hs2 HR3
        generalize W3.alloc (.cells #[.int .i64 1, .int .i64 (a.n - b.n), .string ⟨#[]⟩] 28) = W4 at *
        clear wm wa ws hcw
        generalize a.n - b.n = n at *
        refine (impl_value 1 n ⟨#[]⟩ W4 (by unfold maxLen; decide)).mono ?_
        rintro e w5 ⟨rfl, hb5⟩
        have hB5 := Lib.hid (below_next hB4 hb5 rfl rfl)
        have HR5 := Lib.hid (HR4.out.below hb5 HR4.out.lt)
        have HT5 := Lib.hid (HT4.out.below hb5 HT4.out.lt)
        clear hb5 hB4 HR4 HT4
        obtain ⟨x0, x1, x2⟩ := cells3_ HT5.out
        obtain ⟨d0, d1, d2⟩ := cells3_ HR5.out
        have f0 := HR5.out.frozen 0
        have f1 := HR5.out.frozen 1
        have f2 := HR5.out.frozen 2
        cases hv : valueOkB 1 n ⟨#[]⟩ with
        | true =>
          have hL := Lib.hid (HY.out hv)
          go_wp2_with fail
          have hS := put3 (.int .i64 1) (.int .i64 n) (.string ⟨#[]⟩) HR5.out
          have hB9 := below3 (.int .i64 1) (.int .i64 n) (.string ⟨#[]⟩) hB5.out (Nat.le_add_right _ 2)
          generalize (((w5.setCell _ _).setCell _ _).setCell _ _) = w9 at hS hB9 ⊢
          obtain ⟨c0, c1, c2⟩ := cells3_ hS
          exact bodyPost_ret (v := .tuple #[.agg #[.int .i64 1, .int .i64 n, .string ⟨#[]⟩], .bool true]) (by simp [results, Try.results119, go_sem, c0, c1, c2]) rfl ⟨by rw [hL.out]; rfl, hB9⟩
        | false =>
          have hL := Lib.hid (HN.out hv)
          go_wp2_with fail
          have hS := put3 (.int .i64 0) (.int .i64 0) (.string ⟨#[]⟩) HR5.out
          have hB9 := below3 (.int .i64 0) (.int .i64 0) (.string ⟨#[]⟩) hB5.out (Nat.le_add_right _ 2)
          generalize (((w5.setCell _ _).setCell _ _).setCell _ _) = w9 at hS hB9 ⊢
          obtain ⟨c0, c1, c2⟩ := cells3_ hS
          exact bodyPost_ret (v := .tuple #[.agg #[.int .i64 0, .int .i64 0, .string ⟨#[]⟩], .bool false]) (by simp [results, Try.results119, go_sem, c0, c1, c2]) rfl ⟨by rw [hL.out]; rfl, hB9⟩
      · go_enter Try.func119, Try.ntmps119
        have HY := Lib.hid (calc_yes (k := 5) (n := a.n * b.n) ka kb rfl)
        have HN := Lib.hid (calc_no (k := 5) (a := a) (b := b) (n := a.n * b.n) rfl)
        go_wp2_with fail
        have hs2 : ((w.alloc (.cells #[.int .i64 1, .int .i64 a.n, .string a.t] 28)).alloc (.cells #[.int .i64 1, .int .i64 b.n, .string b.t] 28)).heap.size = w.heap.size + 1 + 1 := by simp
        have hB2 : Below w.heap.size w ((w.alloc (.cells #[.int .i64 1, .int .i64 a.n, .string a.t] 28)).alloc (.cells #[.int .i64 1, .int .i64 b.n, .string b.t] 28)) := ((Below.refl _ _).alloc (Nat.le_refl _) _).alloc (by simp) _
        generalize (w.alloc (.cells #[.int .i64 1, .int .i64 a.n, .string a.t] 28)).alloc (.cells #[.int .i64 1, .int .i64 b.n, .string b.t] 28) = W2 at *
        have HR3 := Lib.hid (new_at W2 _ hs2 (.int .i64 0) (.int .i64 0) (.string ⟨#[]⟩))
        have hs3 : (W2.alloc (.cells #[.int .i64 0, .int .i64 0, .string ⟨#[]⟩] 28)).heap.size = w.heap.size + 1 + 1 + 1 := by simp [hs2]
        have hB3 := hB2.alloc hB2.size (.cells #[.int .i64 0, .int .i64 0, .string ⟨#[]⟩] 28)
        generalize W2.alloc (.cells #[.int .i64 0, .int .i64 0, .string ⟨#[]⟩] 28) = W3 at *
        have HT4 := Lib.hid (new_at W3 _ hs3 (.int .i64 1) (.int .i64 (a.n * b.n)) (.string ⟨#[]⟩))
        have hA4 : Below W3.heap.size W3 (W3.alloc (.cells #[.int .i64 1, .int .i64 (a.n * b.n), .string ⟨#[]⟩] 28)) := (Below.refl _ _).alloc (Nat.le_refl _) _
        have HR4 := Lib.hid (HR3.out.below hA4 HR3.out.lt)
        have hB4 := below_next hB3 hA4 rfl rfl
        clear hA4 hB3 hB2 hs2 HR3
        generalize W3.alloc (.cells #[.int .i64 1, .int .i64 (a.n * b.n), .string ⟨#[]⟩] 28) = W4 at *
        clear wm wa ws hcw
        generalize a.n * b.n = n at *
        refine (impl_value 1 n ⟨#[]⟩ W4 (by unfold maxLen; decide)).mono ?_
        rintro e w5 ⟨rfl, hb5⟩
        have hB5 := Lib.hid (below_next hB4 hb5 rfl rfl)
        have HR5 := Lib.hid (HR4.out.below hb5 HR4.out.lt)
        have HT5 := Lib.hid (HT4.out.below hb5 HT4.out.lt)
        clear hb5 hB4 HR4 HT4
        obtain ⟨x0, x1, x2⟩ := cells3_ HT5.out
        obtain ⟨d0, d1, d2⟩ := cells3_ HR5.out
        have f0 := HR5.out.frozen 0
        have f1 := HR5.out.frozen 1
        have f2 := HR5.out.frozen 2
        cases hv : valueOkB 1 n ⟨#[]⟩ with
        | true =>
          have hL := Lib.hid (HY.out hv)
          go_wp2_with fail
          have hS := put3 (.int .i64 1) (.int .i64 n) (.string ⟨#[]⟩) HR5.out
          have hB9 := below3 (.int .i64 1) (.int .i64 n) (.string ⟨#[]⟩) hB5.out (Nat.le_add_right _ 2)
          generalize (((w5.setCell _ _).setCell _ _).setCell _ _) = w9 at hS hB9 ⊢
          obtain ⟨c0, c1, c2⟩ := cells3_ hS
          exact bodyPost_ret (v := .tuple #[.agg #[.int .i64 1, .int .i64 n, .string ⟨#[]⟩], .bool true]) (by simp [results, Try.results119, go_sem, c0, c1, c2]) rfl ⟨by rw [hL.out]; rfl, hB9⟩
        | false =>
          have hL := Lib.hid (HN.out hv)
          go_wp2_with fail
          have hS := put3 (.int .i64 0) (.int .i64 0) (.string ⟨#[]⟩) HR5.out
          have hB9 := below3 (.int .i64 0) (.int .i64 0) (.string ⟨#[]⟩) hB5.out (Nat.le_add_right _ 2)
          generalize (((w5.setCell _ _).setCell _ _).setCell _ _) = w9 at hS hB9 ⊢
          obtain ⟨c0, c1, c2⟩ := cells3_ hS
          exact bodyPost_ret (v := .tuple #[.agg #[.int .i64 0, .int .i64 0, .string ⟨#[]⟩], .bool false]) (by simp [results, Try.results119, go_sem, c0, c1, c2]) rfl ⟨by rw [hL.out]; rfl, hB9⟩
    · have kbb : (b.k != 1) = true := by simp [kb]
      have hL := Lib.hid (show calcV k a b = none by unfold calcV; rw [if_neg (fun h => kb h.2.1)])
      go_enter Try.func119, Try.ntmps119
      go_wp2_with fail
      have hs2 : ((w.alloc (.cells #[.int .i64 1, .int .i64 a.n, .string a.t] 28)).alloc (.cells #[.int .i64 b.k, .int .i64 b.n, .string b.t] 28)).heap.size = w.heap.size + 1 + 1 := by simp
      have hB2 : Below w.heap.size w ((w.alloc (.cells #[.int .i64 1, .int .i64 a.n, .string a.t] 28)).alloc (.cells #[.int .i64 b.k, .int .i64 b.n, .string b.t] 28)) := ((Below.refl _ _).alloc (Nat.le_refl _) _).alloc (by simp) _
      generalize (w.alloc (.cells #[.int .i64 1, .int .i64 a.n, .string a.t] 28)).alloc (.cells #[.int .i64 b.k, .int .i64 b.n, .string b.t] 28) = W2 at *
      obtain ⟨c0, c1, c2⟩ := cells3_ (new_at W2 _ hs2 (.int .i64 0) (.int .i64 0) (.string ⟨#[]⟩))
      have hB9 := hB2.alloc hB2.size (.cells #[.int .i64 0, .int .i64 0, .string ⟨#[]⟩] 28)
      generalize W2.alloc (.cells #[.int .i64 0, .int .i64 0, .string ⟨#[]⟩] 28) = w9 at *
      exact bodyPost_ret (v := .tuple #[.agg #[.int .i64 0, .int .i64 0, .string ⟨#[]⟩], .bool false]) (by simp [results, Try.results119, go_sem, c0, c1, c2]) rfl ⟨by rw [hL.out]; rfl, hB9⟩
  · have kab : (a.k != 1) = true := by simp [ka]
    have hL := Lib.hid (show calcV k a b = none by unfold calcV; rw [if_neg (fun h => ka h.1)])
    go_enter Try.func119, Try.ntmps119
    go_wp2_with fail
    have hs2 : ((w.alloc (.cells #[.int .i64 a.k, .int .i64 a.n, .string a.t] 28)).alloc (.cells #[.int .i64 b.k, .int .i64 b.n, .string b.t] 28)).heap.size = w.heap.size + 1 + 1 := by simp
    have hB2 : Below w.heap.size w ((w.alloc (.cells #[.int .i64 a.k, .int .i64 a.n, .string a.t] 28)).alloc (.cells #[.int .i64 b.k, .int .i64 b.n, .string b.t] 28)) := ((Below.refl _ _).alloc (Nat.le_refl _) _).alloc (by simp) _
    generalize (w.alloc (.cells #[.int .i64 a.k, .int .i64 a.n, .string a.t] 28)).alloc (.cells #[.int .i64 b.k, .int .i64 b.n, .string b.t] 28) = W2 at *
    obtain ⟨c0, c1, c2⟩ := cells3_ (new_at W2 _ hs2 (.int .i64 0) (.int .i64 0) (.string ⟨#[]⟩))
    have hB9 := hB2.alloc hB2.size (.cells #[.int .i64 0, .int .i64 0, .string ⟨#[]⟩] 28)
    generalize W2.alloc (.cells #[.int .i64 0, .int .i64 0, .string ⟨#[]⟩] 28) = w9 at *
    exact bodyPost_ret (v := .tuple #[.agg #[.int .i64 0, .int .i64 0, .string ⟨#[]⟩], .bool false]) (by simp [results, Try.results119, go_sem, c0, c1, c2]) rfl ⟨by rw [hL.out]; rfl, hB9⟩
end Go.Proofs.Ytpipikjkhmhmhaa
