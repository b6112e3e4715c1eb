/-
  impl.all over values.
-/
import Derived.Test.YtpipikjkhmhmhaaValueOk
import Derived.Test.YtpipikjkhmhmhaaRowOkS
import Derived.Test.YtpipikjkhmhmhaaTyVal
namespace Go.Proofs.Ytpipikjkhmhmhaa
open Go.RowKit Go.Sort
set_option linter.unusedVariables false

theorem ok_valueA (x : GV) (w : World) (hf : fitValue x) (hk : costValue x ≤ 1048576) : Calls Try.prog 78 #[.agg #[.int .i64 x.k, .int .i64 x.n, .string x.t]] w fun e w' => e = .returned (.bool (okG x)) ∧ Below w.heap.size w w' := impl_value x.k x.n x.t w hf.2.2
set_option maxHeartbeats 800000 in
theorem all_Value_clo (x : GV) (b : Bool) (g : Nat) (w : World) (hb : okG x = b) (hf : fitValue x) (hk : costValue x ≤ 1048576) (hg : w.cell? ⟨g, 0, none⟩ = some (.func (.func 78) #[] #[])) :
    Calls Try.prog 116 #[.agg #[.int .i64 x.k, .int .i64 x.n, .string x.t], .pointer (some ⟨g, 0, none⟩)] w fun e w' => e = .returned (.bool (!b)) ∧ Below w.heap.size w w' := by
  have hgl : g < w.heap.size := World.block_lt_of_cell? w ⟨g, 0, none⟩ hg
  have hB0 : Below w.heap.size w (w.alloc (.cells #[.int .i64 x.k, .int .i64 x.n, .string x.t] 28)) := (Below.refl _ _).alloc (Nat.le_refl _) _
  go_enter Try.func116, Try.ntmps116
  go_wp2_with fail
  refine (ok_valueA x _ hf hk).mono ?_
  rintro e w1 ⟨rfl, hb1⟩
  have hB1 := below_next hB0 hb1 rfl rfl
  rw [hb]
  go_wp2_with fail
  go_ret
  exact ⟨rfl, hB1⟩
theorem all_Value_snoc (xs : List (GV)) (k : Nat) (h : k < xs.length) : (xs.take (k + 1)).all okG = ((xs.take k).all okG && okG xs[k]) := by
  rw [List.take_succ_eq_append_getElem h, List.all_append]; simp
theorem all_Value_bad (xs : List (GV)) (k : Nat) (h : k < xs.length) (hb : okG xs[k] = false) : xs.all okG = false := by
  rw [List.all_eq_false]; exact ⟨xs[k], List.getElem_mem h, by simp [hb]⟩
set_option maxHeartbeats 1600000 in
theorem all_Value_index {lo : Nat} (A : Option Addr) (c g : Nat) (xs : List (GV)) (w : World) (hf : fitValues xs) (hk : costValues xs ≤ 1048576) (hr : ValuesAt w lo w.heap.size A xs) (hg : w.cell? ⟨g, 0, none⟩ = some (.func (.func 78) #[] #[])) :
    Calls Try.prog 135 #[.slice A xs.length c, .func (.func 116) #[] #[.pointer (some ⟨g, 0, none⟩)]] w fun e w' => ∃ z : Int, e = .returned (.int .i64 z) ∧ decide (0 ≤ z) = (!xs.all okG) ∧ Below w.heap.size w w' := by
  have hl : xs.length ≤ 1048576 := by unfold costValues at hk; omega
  have FX := Lib.hid hf.2
  have HK := Lib.hid hk
  have HR := Lib.hid hr
  have HG := Lib.hid hg
  have hgl : g < w.heap.size := World.block_lt_of_cell? w ⟨g, 0, none⟩ hg
  clear hf hk hr hg
  go_enter Try.func135, Try.ntmps135
  go_wp2_with fail
  go_loopw [8] (fun i w' => ∃ k : Nat, k ≤ xs.length ∧ i = .int .i64 k ∧ Hid ((xs.take k).all okG = true) ∧ Below w.heap.size w w') (fun i _ => xs.length - (intOf i).toNat)
  case atStart => exact ⟨0, Nat.zero_le _, rfl, Lib.hid rfl, Below.refl _ _⟩
  case round =>
    obtain ⟨k, hk, rfl, hal, hB⟩ := hrel
    by_cases hlt : k < xs.length
    · obtain ⟨g1, o1, rfl, hg0, hg1, he⟩ := (HR.out.to_ hB).at_ hlt
      have hi0 : (0 : Int) ≤ (k : Int) := by omega
      have hi1 : (k : Int) < (xs.length : Int) := by omega
      have hm := FX.out _ (List.getElem_mem hlt)
      have hck : costValue xs[k] ≤ 1048576 := by have h1 := HK.out; have h2 := sumC_mem costValue xs _ (List.getElem_mem hlt); unfold costValues at h1; omega
      have hgc : wr.cell? ⟨g, 0, none⟩ = some (.func (.func 78) #[] #[]) := (hB.cell (p := ⟨g, 0, none⟩) hgl).trans HG.out
      have hsn := Lib.hid (all_Value_snoc xs k hlt)
      obtain ⟨h0, h1, h2⟩ := he
      obtain ⟨b, hbx⟩ : ∃ b, okG xs[k] = b := ⟨_, rfl⟩
      have HB := Lib.hid hbx
      clear hbx
      go_wp2_with fail
      refine (all_Value_clo xs[k] b g _ HB.out hm hck hgc).mono ?_
      rintro e w2 ⟨rfl, hb2⟩
      have hB2 := below_next hB hb2 rfl rfl
      clear h0 h1 h2 hgc
      cases b with
      | true =>
        have HX := Lib.hid (show (xs.take (k + 1)).all okG = true by rw [hsn.out, hal.out, HB.out]; rfl)
        go_wp2_with fail
        go_roundw
        case rel => exact ⟨k + 1, by omega, by go_num, HX, hB2⟩
        case measure => simp [intOf]; omega
      | false =>
        have HX := Lib.hid (all_Value_bad xs k hlt HB.out)
        go_wp2_with fail
        go_ret
        exact ⟨k, rfl, by rw [HX.out]; simp, hB2⟩
    · have hi1 : ¬ (k : Int) < (xs.length : Int) := by omega
      have HX := Lib.hid (show xs.all okG = true by have h := hal.out; rwa [List.take_of_length_le (by omega)] at h)
      go_wp2_with fail
      go_ret
      exact ⟨-1, rfl, by rw [HX.out]; rfl, hB⟩
theorem all_Value_contains {lo : Nat} (A : Option Addr) (c g : Nat) (xs : List (GV)) (w : World) (hf : fitValues xs) (hk : costValues xs ≤ 1048576) (hr : ValuesAt w lo w.heap.size A xs) (hg : w.cell? ⟨g, 0, none⟩ = some (.func (.func 78) #[] #[])) :
    Calls Try.prog 115 #[.slice A xs.length c, .func (.func 116) #[] #[.pointer (some ⟨g, 0, none⟩)]] w fun e w' => e = .returned (.bool (!xs.all okG)) ∧ Below w.heap.size w w' := by
  go_enter Try.func115, Try.ntmps115
  go_wp2_with fail
  refine (all_Value_index A c g xs _ hf hk hr hg).mono ?_
  rintro e w1 ⟨z, rfl, hz, hb1⟩
  have HZ := Lib.hid hz
  clear hz
  go_wp2_with fail
  go_ret
  exact ⟨ret_bool HZ.out, hb1⟩
theorem all_Value {lo : Nat} (A : Option Addr) (c : Nat) (xs : List (GV)) (w : World) (hf : fitValues xs) (hk : costValues xs ≤ 1048576) (hr : ValuesAt w lo w.heap.size A xs) :
    Calls Try.prog 77 #[.slice A xs.length c, .func (.func 78) #[] #[]] w fun e w' => e = .returned (.bool (xs.all okG)) ∧ Below w.heap.size w w' := by
  have hB0 : Below w.heap.size w (w.alloc (.cells #[.func (.func 78) #[] #[]] 107)) := (Below.refl _ _).alloc (Nat.le_refl _) _
  go_enter Try.func77, Try.ntmps77
  go_wp2_with fail
  refine (all_Value_contains A c w.heap.size xs _ hf hk (hr.to_ hB0) (by go_simp)).mono ?_
  rintro e w1 ⟨rfl, hb1⟩
  have hB1 := below_next hB0 hb1 rfl rfl
  obtain ⟨b, hbx⟩ : ∃ b, xs.all okG = b := ⟨_, rfl⟩
  have HBX := Lib.hid hbx
  rw [hbx]
  clear hbx
  go_wp2_with fail
  go_ret
  exact ⟨ret_bool (by rw [HBX.out]), hB1⟩

end Go.Proofs.Ytpipikjkhmhmhaa
