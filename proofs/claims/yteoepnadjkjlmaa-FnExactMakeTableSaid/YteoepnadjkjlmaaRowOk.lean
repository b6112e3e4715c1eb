/-
  Contracts of spec.l1RowOk and impl.rowOk: both answer rowOkB.
-/
import Derived.Test.YteoepnadjkjlmaaMem
import Derived.Test.YteoepnadjkjlmaaValueOk
import Derived.Test.YteoepnadjkjlmaaRowOkS
namespace Go.Proofs.Yteoepnadjkjlmaa
open Go.RowKit
set_option linter.unusedVariables false

set_option maxHeartbeats 800000 in
theorem impl_row (A : Option Addr) (c : Nat) (r : List GV) (w : World) (hr : RowAt w w.heap.size A r) (hl : r.length ≤ 1048576) (hv : ∀ v ∈ r, v.t.size ≤ maxLen) :
    Calls Try.prog 42 #[.slice A r.length c] w fun e w' => e = .returned (.bool (rowOkB r)) ∧ Below w.heap.size w w' := by
  by_cases h8 : (8 : Int) < r.length
  · have H := Lib.hid (show rowOkB r = false by unfold rowOkB; simp; omega)
    go_enter Try.func42, Try.ntmps42
    go_wp2
    go_ret
    exact ⟨ret_bool (by rw [H.out]), Below.refl _ _⟩
  go_enter Try.func42, Try.ntmps42
  go_wp2
  go_loopw [10] (fun i w' => ∃ k : Nat, k ≤ r.length ∧ i = .int .i64 k ∧ Hid ((r.take k).all okG = true) ∧ Below w.heap.size w w') (fun i _ => r.length - (intOf i).toNat)
  case atStart => exact ⟨0, Nat.zero_le _, rfl, Lib.hid rfl, Below.refl _ _⟩
  case round =>
    obtain ⟨k, hk, rfl, hal, hB⟩ := hrel
    by_cases hlt : k < r.length
    · obtain ⟨g, o, rfl, hg, c0, c1, c2⟩ := (hr.to_ hB).at_ hlt
      have hm := hv _ (List.getElem_mem hlt)
      have hsn := Lib.hid (all_take_snoc r k hlt)
      go_wp2_with fail
      refine (impl_value _ _ _ _ hm).mono ?_
      rintro e w2 ⟨rfl, hb2⟩
      have hB2 : Below w.heap.size w w2 := (hB.alloc hB.size _).trans (hb2.mono (by have := hB.size; simp; omega))
      clear c0 c1 c2
      by_cases hok : okG r[k] = true
      · have hb : valueOkB r[k].k r[k].n r[k].t = true := hok
        have H := Lib.hid (show (r.take (k + 1)).all okG = true by rw [hsn.out, hal.out, hok]; rfl)
        clear hok
        go_wp2_with fail
        go_roundw
        case rel => exact ⟨k + 1, by omega, by go_num, H, hB2⟩
        case measure => simp [intOf]; omega
      · have hb : valueOkB r[k].k r[k].n r[k].t = false := by rw [Bool.not_eq_true] at hok; exact hok
        have H := Lib.hid (show rowOkB r = false by unfold rowOkB; rw [all_bad r k hlt hb]; rfl)
        clear hok
        go_wp2_with fail
        go_ret
        exact ⟨ret_bool (by rw [H.out]), hB2⟩
    · have H := Lib.hid (show rowOkB r = true by
        have h := hal.out
        rw [List.take_of_length_le (by omega)] at h
        unfold rowOkB; rw [h]; simp; omega)
      go_wp2_with fail
      go_ret
      exact ⟨ret_bool (by rw [H.out]), hB⟩
end Go.Proofs.Yteoepnadjkjlmaa
