/-
  impl.keyOf.
-/
import Derived.Test.YtggkggaihfcjmaaStepMZ
import Derived.Test.YtggkggaihfcjmaaRowIZ
namespace Go.Proofs.Ytggkggaihfcjmaa
open Go.RowKit
set_option linter.unusedVariables false

/-- What impl.keyOf leaves. -/
def KeyPost (w : World) (r : List GV) (e : Ending) (w' : World) : Prop := e = .returned (keyV r) ∧ Below w.heap.size w w'
theorem zeros_flat : flat (List.replicate 8 zGV) = [.int .i64 0, .int .i64 0, .string ⟨#[]⟩, .int .i64 0, .int .i64 0, .string ⟨#[]⟩, .int .i64 0, .int .i64 0, .string ⟨#[]⟩, .int .i64 0, .int .i64 0, .string ⟨#[]⟩, .int .i64 0, .int .i64 0, .string ⟨#[]⟩, .int .i64 0, .int .i64 0, .string ⟨#[]⟩, .int .i64 0, .int .i64 0, .string ⟨#[]⟩, .int .i64 0, .int .i64 0, .string ⟨#[]⟩] := rfl
theorem zeros_drop {r : List GV} (hl : r.length ≤ 8) : flat r ++ (flat (List.replicate 8 zGV)).drop (flat r).length = flat (pad r) := by
  have e : List.replicate 8 zGV = List.replicate r.length zGV ++ List.replicate (8 - r.length) zGV := by rw [List.replicate_append_replicate]; congr 1; omega
  rw [e, flat_append]
  unfold pad
  rw [flat_append, List.drop_append_of_le_length (by rw [flat_length, flat_length]; simp), List.drop_eq_nil_of_le (by rw [flat_length, flat_length]; simp), List.nil_append]
theorem flat_ones (r : List GV) : (flat r).toArray.all (·.oneCell') = true := by
  rw [Array.all_eq_true_iff_forall_mem]
  intro v hv
  exact flat_one r v (by simpa using hv)
set_option maxRecDepth 100000 in
set_option maxHeartbeats 1600000 in
theorem key_of (A : Option Addr) (c : Nat) (r : List GV) (w : World) (hr : RowAt w w.heap.size A r) (hl : r.length ≤ 8) :
    Calls Try.prog 65 #[.slice A r.length c] w (KeyPost w r) := by
  have HC := Lib.hid (show ∃ (W1 : World) (m : Value), (Builtin.copy_ #[53, 53] 3 #[.slice (some ⟨w.heap.size + 1, 0, none⟩) 8 8, .slice A r.length c]).run Try.prog ((w.alloc (.cells #[.int .i64 0, .int .i64 0, .string ⟨#[]⟩, .int .i64 0, .int .i64 0, .string ⟨#[]⟩, .int .i64 0, .int .i64 0, .string ⟨#[]⟩, .int .i64 0, .int .i64 0, .string ⟨#[]⟩, .int .i64 0, .int .i64 0, .string ⟨#[]⟩, .int .i64 0, .int .i64 0, .string ⟨#[]⟩, .int .i64 0, .int .i64 0, .string ⟨#[]⟩, .int .i64 0, .int .i64 0, .string ⟨#[]⟩] 83)).alloc (.cells #[.int .i64 0, .int .i64 0, .string ⟨#[]⟩, .int .i64 0, .int .i64 0, .string ⟨#[]⟩, .int .i64 0, .int .i64 0, .string ⟨#[]⟩, .int .i64 0, .int .i64 0, .string ⟨#[]⟩, .int .i64 0, .int .i64 0, .string ⟨#[]⟩, .int .i64 0, .int .i64 0, .string ⟨#[]⟩, .int .i64 0, .int .i64 0, .string ⟨#[]⟩, .int .i64 0, .int .i64 0, .string ⟨#[]⟩] 83)) = .ok m W1 ∧ Whole W1 (w.heap.size + 1) 83 (flat (pad r)) ∧ Whole W1 w.heap.size 83 (flat (List.replicate 8 zGV)) ∧ Below w.heap.size w W1 by
    have hB0 : Below w.heap.size w ((w.alloc (.cells #[.int .i64 0, .int .i64 0, .string ⟨#[]⟩, .int .i64 0, .int .i64 0, .string ⟨#[]⟩, .int .i64 0, .int .i64 0, .string ⟨#[]⟩, .int .i64 0, .int .i64 0, .string ⟨#[]⟩, .int .i64 0, .int .i64 0, .string ⟨#[]⟩, .int .i64 0, .int .i64 0, .string ⟨#[]⟩, .int .i64 0, .int .i64 0, .string ⟨#[]⟩, .int .i64 0, .int .i64 0, .string ⟨#[]⟩] 83)).alloc (.cells #[.int .i64 0, .int .i64 0, .string ⟨#[]⟩, .int .i64 0, .int .i64 0, .string ⟨#[]⟩, .int .i64 0, .int .i64 0, .string ⟨#[]⟩, .int .i64 0, .int .i64 0, .string ⟨#[]⟩, .int .i64 0, .int .i64 0, .string ⟨#[]⟩, .int .i64 0, .int .i64 0, .string ⟨#[]⟩, .int .i64 0, .int .i64 0, .string ⟨#[]⟩, .int .i64 0, .int .i64 0, .string ⟨#[]⟩] 83)) := ((Below.refl _ _).alloc (Nat.le_refl _) _).alloc (by simp) _
    have hW : Whole ((w.alloc (.cells #[.int .i64 0, .int .i64 0, .string ⟨#[]⟩, .int .i64 0, .int .i64 0, .string ⟨#[]⟩, .int .i64 0, .int .i64 0, .string ⟨#[]⟩, .int .i64 0, .int .i64 0, .string ⟨#[]⟩, .int .i64 0, .int .i64 0, .string ⟨#[]⟩, .int .i64 0, .int .i64 0, .string ⟨#[]⟩, .int .i64 0, .int .i64 0, .string ⟨#[]⟩, .int .i64 0, .int .i64 0, .string ⟨#[]⟩] 83)).alloc (.cells #[.int .i64 0, .int .i64 0, .string ⟨#[]⟩, .int .i64 0, .int .i64 0, .string ⟨#[]⟩, .int .i64 0, .int .i64 0, .string ⟨#[]⟩, .int .i64 0, .int .i64 0, .string ⟨#[]⟩, .int .i64 0, .int .i64 0, .string ⟨#[]⟩, .int .i64 0, .int .i64 0, .string ⟨#[]⟩, .int .i64 0, .int .i64 0, .string ⟨#[]⟩, .int .i64 0, .int .i64 0, .string ⟨#[]⟩] 83)) (w.heap.size + 1) 83 (flat (List.replicate 8 zGV)) := by
      have := Whole.new (w.alloc (.cells #[.int .i64 0, .int .i64 0, .string ⟨#[]⟩, .int .i64 0, .int .i64 0, .string ⟨#[]⟩, .int .i64 0, .int .i64 0, .string ⟨#[]⟩, .int .i64 0, .int .i64 0, .string ⟨#[]⟩, .int .i64 0, .int .i64 0, .string ⟨#[]⟩, .int .i64 0, .int .i64 0, .string ⟨#[]⟩, .int .i64 0, .int .i64 0, .string ⟨#[]⟩, .int .i64 0, .int .i64 0, .string ⟨#[]⟩] 83)) 83 (flat (List.replicate 8 zGV))
      rw [show (w.alloc (.cells #[.int .i64 0, .int .i64 0, .string ⟨#[]⟩, .int .i64 0, .int .i64 0, .string ⟨#[]⟩, .int .i64 0, .int .i64 0, .string ⟨#[]⟩, .int .i64 0, .int .i64 0, .string ⟨#[]⟩, .int .i64 0, .int .i64 0, .string ⟨#[]⟩, .int .i64 0, .int .i64 0, .string ⟨#[]⟩, .int .i64 0, .int .i64 0, .string ⟨#[]⟩, .int .i64 0, .int .i64 0, .string ⟨#[]⟩] 83)).heap.size = w.heap.size + 1 by simp] at this
      exact this
    have hV : Whole ((w.alloc (.cells #[.int .i64 0, .int .i64 0, .string ⟨#[]⟩, .int .i64 0, .int .i64 0, .string ⟨#[]⟩, .int .i64 0, .int .i64 0, .string ⟨#[]⟩, .int .i64 0, .int .i64 0, .string ⟨#[]⟩, .int .i64 0, .int .i64 0, .string ⟨#[]⟩, .int .i64 0, .int .i64 0, .string ⟨#[]⟩, .int .i64 0, .int .i64 0, .string ⟨#[]⟩, .int .i64 0, .int .i64 0, .string ⟨#[]⟩] 83)).alloc (.cells #[.int .i64 0, .int .i64 0, .string ⟨#[]⟩, .int .i64 0, .int .i64 0, .string ⟨#[]⟩, .int .i64 0, .int .i64 0, .string ⟨#[]⟩, .int .i64 0, .int .i64 0, .string ⟨#[]⟩, .int .i64 0, .int .i64 0, .string ⟨#[]⟩, .int .i64 0, .int .i64 0, .string ⟨#[]⟩, .int .i64 0, .int .i64 0, .string ⟨#[]⟩, .int .i64 0, .int .i64 0, .string ⟨#[]⟩] 83)) w.heap.size 83 (flat (List.replicate 8 zGV)) := by
      exact (Whole.new w 83 (flat (List.replicate 8 zGV))).below (B := w.heap.size + 1) (((Below.refl _ _).alloc (by simp) (.cells #[.int .i64 0, .int .i64 0, .string ⟨#[]⟩, .int .i64 0, .int .i64 0, .string ⟨#[]⟩, .int .i64 0, .int .i64 0, .string ⟨#[]⟩, .int .i64 0, .int .i64 0, .string ⟨#[]⟩, .int .i64 0, .int .i64 0, .string ⟨#[]⟩, .int .i64 0, .int .i64 0, .string ⟨#[]⟩, .int .i64 0, .int .i64 0, .string ⟨#[]⟩, .int .i64 0, .int .i64 0, .string ⟨#[]⟩] 83))) (by omega)
    rcases hr with rfl | ⟨g, o, rfl, hg, hc⟩
    · refine ⟨_, _, run_copy_k0 _ _ _ _ _ _ 3 _ _ _ _ _ _ Try.underlying53 sizeV (by simp), ?_, hV, hB0⟩
      simpa [pad, flat] using hW
    · have h := run_copy_k Try.prog _ 53 53 3 52 3 (w.heap.size + 1) 0 8 8 ⟨g, o, none⟩ r.length c _ _ (flat r) Try.underlying53 sizeV hW (by rw [flat_length, show Nat.min r.length 8 = r.length from Nat.min_eq_left hl]) (row_cells fun i v h => (hc i v h).below hB0 hg) (by rw [flat_length]; simp [flat_length]; omega) (flat_one r)
      refine ⟨_, _, h, ?_, ?_, below_setRow hB0 (Nat.le_succ _) _⟩
      · refine (setRow_heap _ (w.heap.size + 1) _ _ _ _ hW).trans ?_
        rw [List.take_zero, List.nil_append, Nat.zero_add, List.toList_toArray, zeros_drop hl]
      · unfold Whole at hV ⊢
        rw [← hV]
        exact (below_setRow (B := w.heap.size + 1) (Below.refl _ _) (Nat.le_refl _) _).block w.heap.size (by omega))
  obtain ⟨W1, m, hcp, hW1, hV1, hB1⟩ := HC.out
  have HW := Lib.hid hW1
  have HV := Lib.hid hV1
  have HI := Lib.hid (show (Try.prog.info? 83).map (·.size) = some (flat (pad r)).toArray.size by rw [List.size_toArray, flat_length, pad_length hl]; exact infoKey)
  have HS := Lib.hid (show (flat (List.replicate 8 zGV)).toArray.size = (flat (pad r)).toArray.size by rw [List.size_toArray, List.size_toArray, flat_length, flat_length, pad_length hl, List.length_replicate])
  have hb0 : w.heap.size ≠ w.heap.size + 1 := by omega
  clear HC hW1 hV1 hr
  go_enter Try.func65, Try.ntmps65
  go_wp2_with (first | (refine wpList_load_row rfl _ (.tmp 3) rfl (w.heap.size + 1) rfl _ (flat (pad r)).toArray _ _ HW.out keyArr rfl HI.out ?_) | (refine wpList_store_row rfl _ (.tmp 2) (.tmp 7) rfl w.heap.size (flat (pad r)).toArray rfl rfl _ _ HV.out HI.out HS.out (flat_ones _) ?_))
  clear hcp
  refine bodyPost_ret (v := keyV r) (results_cell_row (fn := Try.f65) rfl _ _ w.heap.size _ (flat (pad r)).toArray (0, 0) _ rfl (setRow_heap _ _ _ _ _ _ HV.out) keyArr rfl HI.out) rfl ⟨rfl, below_setRow hB1 (Nat.le_refl _) _⟩
end Go.Proofs.Ytggkggaihfcjmaa
