/-
  How the laws measure nodes.
-/
import Derived.Test.YtpipikjkhmhmhaaTyNode
import Derived.Test.YtpipikjkhmhmhaaSzVal
import Derived.Test.YtpipikjkhmhmhaaSzStr
namespace Go.Proofs.Ytpipikjkhmhmhaa
open Go.RowKit Go.Sort
set_option linter.unusedVariables false

set_option maxHeartbeats 1600000 in
theorem sz_Node (x : GNode) (left : Int) (w : World) (hf : fitNode x) (h0 : 0 ≤ left) (h1 : left ≤ 1048576) :
    Calls Try.prog 69 #[.agg #[.int .i64 x.k, .string x.name, .int .i64 x.v.k, .int .i64 x.v.n, .string x.v.t, .int .i64 x.size], .int .i64 left] w fun e w' => e = .returned (.int .i64 (szC (costNode x) left)) ∧ Below w.heap.size w w' := by
  have F := Lib.hid hf
  clear hf
  have m1 : x.name.size ≤ 9223372036854775807 := by have h := F.out.2.1; unfold maxLen at h; exact h
  have m4 : x.v.t.size ≤ 9223372036854775807 := by have h := F.out.2.2.2.2.1; unfold maxLen at h; exact h
  have hct := Lib.hid (show costNode x = x.name.size + costValue x.v from rfl)
  have hB0 : Below w.heap.size w (w.alloc (.cells #[.int .i64 x.k, .string x.name, .int .i64 x.v.k, .int .i64 x.v.n, .string x.v.t, .int .i64 x.size] 104)) := (Below.refl _ _).alloc (Nat.le_refl _) _
  have hP := Lib.hid (Whole.new w 104 [.int .i64 x.k, .string x.name, .int .i64 x.v.k, .int .i64 x.v.n, .string x.v.t, .int .i64 x.size])
  by_cases hn0 : left - (x.name.size : Nat) < 0
  · have H := Lib.hid (show szC (costNode x) left = -1 by rw [hct.out]; unfold szC; rw [if_pos (by omega)])
    go_enter Try.func69, Try.ntmps69
    go_wp2_with fail
    go_ret
    exact ⟨ret_int (by rw [H.out]), hB0⟩
  go_enter Try.func69, Try.ntmps69
  go_wp2_with fail
  refine (sz_Value x.v _ _ ⟨F.out.2.2.1, F.out.2.2.2.1, F.out.2.2.2.2.1⟩ (by omega) (by omega)).mono ?_
  rintro e w1 ⟨rfl, hb1⟩
  have hB1' := below_next hB0 hb1 rfl rfl
  by_cases hn1 : left - (x.name.size : Nat) - (costValue x.v : Nat) < 0
  · have hs : szC (costValue x.v) (left - (x.name.size : Nat)) = -1 := by unfold szC; rw [if_pos hn1]
    have H := Lib.hid (show szC (costNode x) left = -1 by rw [hct.out]; unfold szC; rw [if_pos (by omega)])
    rw [hs]
    clear hs
    go_wp2_with fail
    go_ret
    exact ⟨ret_int (by rw [H.out]), hB1'⟩
  have hs1 : szC (costValue x.v) (left - (x.name.size : Nat)) = left - (x.name.size : Nat) - (costValue x.v : Nat) := by unfold szC; rw [if_neg hn1]
  rw [hs1]
  clear hs1
  have H := Lib.hid (show szC (costNode x) left = left - (x.name.size : Nat) - (costValue x.v : Nat) by rw [hct.out]; unfold szC; rw [if_neg (by omega)] <;> omega)
  go_wp2_with fail
  go_ret
  exact ⟨ret_int (by rw [H.out]), hB1'⟩

set_option maxHeartbeats 1600000 in
theorem sz_Nodes {lo : Nat} (A : Option Addr) (c : Nat) (xs : List (GNode)) (left : Int) (w : World) (hf : fitNodes xs) (hr : NodesAt w lo w.heap.size A xs) (h0 : 0 ≤ left) (h1 : left ≤ 1048576) :
    Calls Try.prog 27 #[.slice A xs.length c, .int .i64 left] w fun e w' => e = .returned (.int .i64 (szC (costNodes xs) left)) ∧ Below w.heap.size w w' := by
  have hl : xs.length ≤ 9223372036854775807 := by have h := hf.1; unfold maxLen at h; exact h
  have FX := Lib.hid hf.2
  clear hf
  have hct := Lib.hid (show costNodes xs = xs.length + sumC costNode xs from rfl)
  have HR := Lib.hid hr
  clear hr
  by_cases hlen : left - xs.length < 0
  · have H := Lib.hid (show szC (costNodes xs) left = -1 by rw [hct.out]; unfold szC; rw [if_pos (by omega)])
    go_enter Try.func27, Try.ntmps27
    go_wp2_with fail
    go_ret
    exact ⟨ret_int (by rw [H.out]), Below.refl _ _⟩
  go_enter Try.func27, Try.ntmps27
  go_wp2_with fail
  go_loopw [1, 5] (fun l i w' => ∃ k : Nat, k ≤ xs.length ∧ i = .int .i64 k ∧ l = .int .i64 (left - xs.length - (sumC costNode (xs.take k) : Nat)) ∧ 0 ≤ left - xs.length - (sumC costNode (xs.take k) : Nat) ∧ Below w.heap.size w w') (fun _ i _ => xs.length - (intOf i).toNat)
  case atStart => exact ⟨0, Nat.zero_le _, rfl, by simp [sumC], by simp [sumC]; omega, Below.refl _ _⟩
  case round =>
    obtain ⟨k, hk, rfl, rfl, hp, hB⟩ := hrel
    by_cases hlt : k < xs.length
    · obtain ⟨g, o, rfl, hg0, hg, he⟩ := (HR.out.to_ hB).at_ hlt
      have hst := Lib.hid (sumC_take costNode xs k hlt)
      have htot := sumC_le costNode xs (k + 1)
      have hm := FX.out _ (List.getElem_mem hlt)
      have hi1 : (k : Int) < (xs.length : Int) := by omega
      have hi0 : (0 : Int) ≤ (k : Int) := by omega
      obtain ⟨h0x, h1x, h2x, h3x, h4x, h5x⟩ := he
      go_wp2_with fail
      refine (sz_Node xs[k] _ _ hm hp (by omega)).mono ?_
      rintro e w2 ⟨rfl, hb2⟩
      have hB2 := below_next hB hb2 rfl rfl
      clear h0x h1x h2x h3x h4x h5x
      by_cases hneg : left - xs.length - (sumC costNode (xs.take k) : Nat) - (costNode xs[k] : Nat) < 0
      · have hs : szC (costNode xs[k]) (left - xs.length - (sumC costNode (xs.take k) : Nat)) = -1 := by unfold szC; rw [if_pos hneg]
        have H := Lib.hid (show szC (costNodes xs) left = -1 by have := hst.out; rw [hct.out]; unfold szC; rw [if_pos (by omega)])
        rw [hs]
        clear hs
        go_wp2_with fail
        go_ret
        exact ⟨ret_int (by rw [H.out]), hB2⟩
      · have hs : szC (costNode xs[k]) (left - xs.length - (sumC costNode (xs.take k) : Nat)) = left - xs.length - (sumC costNode (xs.take (k + 1)) : Nat) := by have := hst.out; unfold szC; rw [if_neg hneg]; omega
        have hp2 : 0 ≤ left - xs.length - (sumC costNode (xs.take (k + 1)) : Nat) := by have := hst.out; omega
        rw [hs]
        clear hs
        go_wp2_with fail
        go_roundw
        case rel => exact ⟨k + 1, by omega, by go_num, rfl, hp2, hB2⟩
        case measure => simp [intOf]; omega
    · have H := Lib.hid (show szC (costNodes xs) left = left - xs.length - (sumC costNode (xs.take k) : Nat) by
        rw [List.take_of_length_le (by omega)] at hp ⊢
        rw [hct.out]; unfold szC; rw [if_neg (by omega)]; omega)
      have hi1 : ¬ (k : Int) < (xs.length : Int) := by omega
      go_wp2_with fail
      go_ret
      exact ⟨ret_int (by rw [H.out]), hB⟩

end Go.Proofs.Ytpipikjkhmhmhaa
