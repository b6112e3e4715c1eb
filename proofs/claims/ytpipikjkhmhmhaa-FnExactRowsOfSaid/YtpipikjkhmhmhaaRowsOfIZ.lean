/-
  spec.RowsOf. impl.rowsOf.
-/
import Derived.Test.YtpipikjkhmhmhaaCmpSZ
import Derived.Test.YtpipikjkhmhmhaaDbOkS
import Derived.Test.YtpipikjkhmhmhaaCopyTCZ
namespace Go.Proofs.Ytpipikjkhmhmhaa
open Go.RowKit Go.Sort
set_option linter.unusedVariables false

set_option maxRecDepth 100000 in
set_option maxHeartbeats 1600000 in
theorem spec_rowsOf {lo : Nat} (A : Option Addr) (c : Nat) (xs : List GRel) (s : ByteArray) (w : World) (hf : fitRels xs) (hk : costRels xs ≤ 1048576) (hr : RelsAt w lo w.heap.size A xs) :
    Calls Try.prog 21 #[.slice A xs.length c, .string s] w (TPost w (rowsOfB xs s)) := by
  have hl : xs.length ≤ 1048576 := by unfold costRels at hk; omega
  have HFT := Lib.hid (rowsR_fit (db_fit hk) s)
  have HR := Lib.hid hr
  clear hr
  cases h : dbOkB xs with
  | true =>
    have hE := Lib.hid (show rowsOfB xs s = rowsR xs s by unfold rowsOfB; rw [if_pos h])
    go_enter Try.func21, Try.ntmps21
    go_wp2_with fail
    refine (spec_dbOk A c xs _ hf hk HR.out).mono ?_
    rintro e w1 ⟨rfl, hb1⟩
    rw [h]
    go_wp2_with fail
    refine (spec_relRows A c xs s _ hl (HR.out.to_ hb1)).mono ?_
    rintro e w2 ⟨A2, c2, rfl, hc2, ht2, hb2⟩
    have hB2 := below_next hb1 hb2 rfl rfl
    have HT2 := Lib.hid ht2.tab
    clear ht2 hc2
    go_wp2_with fail
    refine (spec_copyT A2 c2 (rowsR xs s) _ HT2.out HFT.out.1 (fun r hr => (HFT.out.2 r hr).1)).mono ?_
    rintro e w3 ⟨A3, c3, rfl, hc3, ht3, hb3⟩
    have hB3 := below_next hB2 hb3 rfl rfl
    have HT3 := Lib.hid ht3
    clear ht3
    go_wp2_with fail
    go_ret
    exact ⟨A3, c3, by rw [hE.out]; rfl, by rw [hE.out]; exact hc3, by rw [hE.out]; exact HT3.out, hB3⟩
  | false =>
    have hE := Lib.hid (show rowsOfB xs s = [] by unfold rowsOfB; rw [if_neg (by rw [h]; decide)])
    go_enter Try.func21, Try.ntmps21
    go_wp2_with fail
    refine (spec_dbOk A c xs _ hf hk HR.out).mono ?_
    rintro e w1 ⟨rfl, hb1⟩
    rw [h]
    go_wp2_with fail
    go_ret
    exact ⟨_, _, by rw [hE.out]; rfl, by rw [hE.out]; exact ⟨Nat.le_refl _, Nat.zero_le _⟩, by rw [hE.out]; exact .inl rfl, hb1.alloc hb1.size _⟩
end Go.Proofs.Ytpipikjkhmhmhaa
namespace Go.Proofs.Ytpipikjkhmhmhaa
open Go.RowKit Go.Sort
set_option linter.unusedVariables false

set_option maxRecDepth 100000 in
set_option maxHeartbeats 1600000 in
theorem impl_relRows {lo : Nat} (A : Option Addr) (c : Nat) (xs : List GRel) (s : ByteArray) (w : World) (hl : xs.length ≤ 1048576) (hr : RelsAt w lo w.heap.size A xs) :
    Calls Try.prog 64 #[.slice A xs.length c, .string s] w (RowsAns w xs s) := by
  have HR := Lib.hid hr
  clear hr
  go_enter Try.func64, Try.ntmps64
  go_wp2_with fail
  go_loopw [9] (fun i w' => ∃ k : Nat, k ≤ xs.length ∧ i = .int .i64 k ∧ Hid (k ≤ findR xs s) ∧ Below w.heap.size w w') (fun i _ => xs.length - (intOf i).toNat)
  case atStart => exact ⟨0, Nat.zero_le _, rfl, Lib.hid (Nat.zero_le _), Below.refl _ _⟩
  case round =>
    obtain ⟨k, hk, rfl, hT, hB⟩ := hrel
    by_cases hlt : k < xs.length
    · obtain ⟨g, o, rfl, hg0, hg, c0, A', c', ⟨c1, hcap⟩, s1⟩ := (HR.out.to_ hB).at_ hlt
      have hi2 : (0 : Int) ≤ (k : Int) := by omega
      have hi3 : (k : Int) < (xs.length : Int) := by omega
      obtain ⟨b, hb⟩ : ∃ b, (xs[k].name.toList == s.toList) = b := ⟨_, rfl⟩
      have HAT := Lib.hid (findR_at xs s k hlt hT.out)
      have HNX := Lib.hid (findR_next xs s k hlt hT.out)
      have hBa : Below wr.heap.size wr (wr.alloc (.cells #[.string xs[k].name, .slice A' xs[k].rows.length c'] 94)) := (Below.refl _ _).alloc (Nat.le_refl _) _
      have hB1 := below_next hB hBa rfl rfl
      cases b with
      | true =>
        have hE := Lib.hid (rowsR_hit xs s k hlt (HAT.out hb))
        have hP : Hid (RowsAns w xs s (.returned (.slice A' xs[k].rows.length c')) (wr.alloc (.cells #[.string xs[k].name, .slice A' xs[k].rows.length c'] 94))) := Lib.hid ⟨A', c', by rw [hE.out], by rw [hE.out]; exact hcap, by rw [hE.out]; exact s1.tabC.to_ hBa, hB1⟩
        clear s1
        go_wp2_with fail
        go_ret
        exact hP.out
      | false =>
        have hT2 := Lib.hid (HNX.out hb)
        clear s1
        go_wp2_with fail
        go_roundw
        case rel => exact ⟨k + 1, by omega, by go_num, hT2, hB1⟩
        case measure => simp [intOf]; omega
    · have hi3 : ¬ (k : Int) < (xs.length : Int) := by omega
      have hE := Lib.hid (rowsR_none xs s (by have := hT.out; omega))
      go_wp2_with fail
      go_ret
      exact ⟨_, _, by rw [hE.out]; rfl, by rw [hE.out]; exact ⟨Nat.le_refl _, Nat.zero_le _⟩, by rw [hE.out]; exact .inl rfl, hB⟩
end Go.Proofs.Ytpipikjkhmhmhaa
