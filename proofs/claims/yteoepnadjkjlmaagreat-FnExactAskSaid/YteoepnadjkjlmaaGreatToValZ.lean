/-
  How the laws measure rows. How the laws measure tables. How the laws measure databases. laws.toValue.
-/
import Derived.Test.YteoepnadjkjlmaaGreatRowStZ
import Derived.Test.YteoepnadjkjlmaaGreatSzValZ
namespace Go.Proofs.YteoepnadjkjlmaaGreat
open Go.RowKit Go.Sort
set_option linter.unusedVariables false

set_option maxHeartbeats 1600000 in
theorem sz_Values {lo : Nat} (A : Option Addr) (c : Nat) (xs : List (GV)) (left : Int) (w : World) (hf : fitValues xs) (hr : ValuesAt w lo w.heap.size A xs) (h0 : 0 ≤ left) (h1 : left ≤ 1048576) :
    Calls Tryz.prog 62 #[.slice A xs.length c, .int .i64 left] w fun e w' => e = .returned (.int .i64 (szC (costValues xs) left)) ∧ Below w.heap.size w w' := by
  have hl : xs.length ≤ 9223372036854775807 := by have h := hf.1; unfold maxLen at h; exact h
  have FX := Lib.hid hf.2
  clear hf
  have hct := Lib.hid (show costValues xs = xs.length + sumC costValue xs from rfl)
  have HR := Lib.hid hr
  clear hr
  by_cases hlen : left - xs.length < 0
  · have H := Lib.hid (show szC (costValues xs) left = -1 by rw [hct.out]; unfold szC; rw [if_pos (by omega)])
    go_enter Tryz.func62, Tryz.ntmps62
    go_wp2_with fail
    go_ret
    exact ⟨ret_int (by rw [H.out]), Below.refl _ _⟩
  go_enter Tryz.func62, Tryz.ntmps62
  go_wp2_with fail
  go_loopw [1, 5] (fun l i w' => ∃ k : Nat, k ≤ xs.length ∧ i = .int .i64 k ∧ l = .int .i64 (left - xs.length - (sumC costValue (xs.take k) : Nat)) ∧ 0 ≤ left - xs.length - (sumC costValue (xs.take k) : Nat) ∧ Below w.heap.size w w') (fun _ i _ => xs.length - (intOf i).toNat)
  case atStart => exact ⟨0, Nat.zero_le _, rfl, by simp [sumC], by simp [sumC]; omega, Below.refl _ _⟩
  case round =>
    obtain ⟨k, hk, rfl, rfl, hp, hB⟩ := hrel
    by_cases hlt : k < xs.length
    · obtain ⟨g, o, rfl, hg0, hg, he⟩ := (HR.out.to_ hB).at_ hlt
      have hst := Lib.hid (sumC_take costValue xs k hlt)
      have htot := sumC_le costValue xs (k + 1)
      have hm := FX.out _ (List.getElem_mem hlt)
      have hi1 : (k : Int) < (xs.length : Int) := by omega
      have hi0 : (0 : Int) ≤ (k : Int) := by omega
      obtain ⟨h0x, h1x, h2x⟩ := he
      go_wp2_with fail
      refine (sz_Value xs[k] _ _ hm hp (by omega)).mono ?_
      rintro e w2 ⟨rfl, hb2⟩
      have hB2 := below_next hB hb2 rfl rfl
      clear h0x h1x h2x
      by_cases hneg : left - xs.length - (sumC costValue (xs.take k) : Nat) - (costValue xs[k] : Nat) < 0
      · have hs : szC (costValue xs[k]) (left - xs.length - (sumC costValue (xs.take k) : Nat)) = -1 := by unfold szC; rw [if_pos hneg]
        have H := Lib.hid (show szC (costValues xs) left = -1 by have := hst.out; rw [hct.out]; unfold szC; rw [if_pos (by omega)])
        rw [hs]
        clear hs
        go_wp2_with fail
        go_ret
        exact ⟨ret_int (by rw [H.out]), hB2⟩
      · have hs : szC (costValue xs[k]) (left - xs.length - (sumC costValue (xs.take k) : Nat)) = left - xs.length - (sumC costValue (xs.take (k + 1)) : Nat) := by have := hst.out; unfold szC; rw [if_neg hneg]; omega
        have hp2 : 0 ≤ left - xs.length - (sumC costValue (xs.take (k + 1)) : Nat) := by have := hst.out; omega
        rw [hs]
        clear hs
        go_wp2_with fail
        go_roundw
        case rel => exact ⟨k + 1, by omega, by go_num, rfl, hp2, hB2⟩
        case measure => simp [intOf]; omega
    · have H := Lib.hid (show szC (costValues xs) left = left - xs.length - (sumC costValue (xs.take k) : Nat) by
        rw [List.take_of_length_le (by omega)] at hp ⊢
        rw [hct.out]; unfold szC; rw [if_neg (by omega)]; omega)
      have hi1 : ¬ (k : Int) < (xs.length : Int) := by omega
      go_wp2_with fail
      go_ret
      exact ⟨ret_int (by rw [H.out]), hB⟩

end Go.Proofs.YteoepnadjkjlmaaGreat
namespace Go.Proofs.YteoepnadjkjlmaaGreat
open Go.RowKit Go.Sort
set_option linter.unusedVariables false

set_option maxHeartbeats 1600000 in
theorem sz_ValueSs {lo : Nat} (A : Option Addr) (c : Nat) (xs : List (List GV)) (left : Int) (w : World) (hf : fitValueSs xs) (hr : ValueSsAt w lo w.heap.size A xs) (h0 : 0 ≤ left) (h1 : left ≤ 1048576) :
    Calls Tryz.prog 40 #[.slice A xs.length c, .int .i64 left] w fun e w' => e = .returned (.int .i64 (szC (costValueSs xs) left)) ∧ Below w.heap.size w w' := by
  have hl : xs.length ≤ 9223372036854775807 := by have h := hf.1; unfold maxLen at h; exact h
  have FX := Lib.hid hf.2
  clear hf
  have hct := Lib.hid (show costValueSs xs = xs.length + sumC costValueS xs from rfl)
  have HR := Lib.hid hr
  clear hr
  by_cases hlen : left - xs.length < 0
  · have H := Lib.hid (show szC (costValueSs xs) left = -1 by rw [hct.out]; unfold szC; rw [if_pos (by omega)])
    go_enter Tryz.func40, Tryz.ntmps40
    go_wp2_with fail
    go_ret
    exact ⟨ret_int (by rw [H.out]), Below.refl _ _⟩
  go_enter Tryz.func40, Tryz.ntmps40
  go_wp2_with fail
  go_loopw [1, 5] (fun l i w' => ∃ k : Nat, k ≤ xs.length ∧ i = .int .i64 k ∧ l = .int .i64 (left - xs.length - (sumC costValueS (xs.take k) : Nat)) ∧ 0 ≤ left - xs.length - (sumC costValueS (xs.take k) : Nat) ∧ Below w.heap.size w w') (fun _ i _ => xs.length - (intOf i).toNat)
  case atStart => exact ⟨0, Nat.zero_le _, rfl, by simp [sumC], by simp [sumC]; omega, Below.refl _ _⟩
  case round =>
    obtain ⟨k, hk, rfl, rfl, hp, hB⟩ := hrel
    by_cases hlt : k < xs.length
    · obtain ⟨g, o, rfl, hg0, hg, he⟩ := (HR.out.to_ hB).at_ hlt
      have hst := Lib.hid (sumC_take costValueS xs k hlt)
      have htot := sumC_le costValueS xs (k + 1)
      have hm := FX.out _ (List.getElem_mem hlt)
      have hi1 : (k : Int) < (xs.length : Int) := by omega
      have hi0 : (0 : Int) ≤ (k : Int) := by omega
      obtain ⟨A0, c0, ⟨h0y, q0⟩, s0⟩ := he
      go_wp2_with fail
      refine (sz_Values A0 c0 xs[k] _ _ hm s0 hp (by omega)).mono ?_
      rintro e w2 ⟨rfl, hb2⟩
      have hB2 := below_next hB hb2 rfl rfl
      clear h0y
      have hce : costValueS xs[k] = costValues xs[k] := rfl
      by_cases hneg : left - xs.length - (sumC costValueS (xs.take k) : Nat) - (costValues xs[k] : Nat) < 0
      · have hs : szC (costValues xs[k]) (left - xs.length - (sumC costValueS (xs.take k) : Nat)) = -1 := by unfold szC; rw [if_pos hneg]
        have H := Lib.hid (show szC (costValueSs xs) left = -1 by have := hst.out; rw [hct.out]; unfold szC; rw [if_pos (by omega)])
        rw [hs]
        clear hs hce
        go_wp2_with fail
        go_ret
        exact ⟨ret_int (by rw [H.out]), hB2⟩
      · have hs : szC (costValues xs[k]) (left - xs.length - (sumC costValueS (xs.take k) : Nat)) = left - xs.length - (sumC costValueS (xs.take (k + 1)) : Nat) := by have := hst.out; unfold szC; rw [if_neg hneg]; omega
        have hp2 : 0 ≤ left - xs.length - (sumC costValueS (xs.take (k + 1)) : Nat) := by have := hst.out; omega
        rw [hs]
        clear hs hce
        go_wp2_with fail
        go_roundw
        case rel => exact ⟨k + 1, by omega, by go_num, rfl, hp2, hB2⟩
        case measure => simp [intOf]; omega
    · have H := Lib.hid (show szC (costValueSs xs) left = left - xs.length - (sumC costValueS (xs.take k) : Nat) by
        rw [List.take_of_length_le (by omega)] at hp ⊢
        rw [hct.out]; unfold szC; rw [if_neg (by omega)]; omega)
      have hi1 : ¬ (k : Int) < (xs.length : Int) := by omega
      go_wp2_with fail
      go_ret
      exact ⟨ret_int (by rw [H.out]), hB⟩

end Go.Proofs.YteoepnadjkjlmaaGreat
namespace Go.Proofs.YteoepnadjkjlmaaGreat
open Go.RowKit Go.Sort
set_option linter.unusedVariables false

set_option maxHeartbeats 1600000 in
theorem sz_Rel {lo : Nat} (x : GRel) (A1 : Option Addr) (c1 : Nat) (left : Int) (w : World) (hf : fitRel x) (s1 : ValueSsAt w lo w.heap.size A1 x.rows) (h0 : 0 ≤ left) (h1 : left ≤ 1048576) :
    Calls Tryz.prog 17 #[.agg #[.string x.name, .slice A1 x.rows.length c1], .int .i64 left] w fun e w' => e = .returned (.int .i64 (szC (costRel x) left)) ∧ Below w.heap.size w w' := by
  have F := Lib.hid hf
  clear hf
  have m0 : x.name.size ≤ 9223372036854775807 := by have h := F.out.1; unfold maxLen at h; exact h
  have hct := Lib.hid (show costRel x = x.name.size + costValueSs x.rows from rfl)
  have hB0 : Below w.heap.size w (w.alloc (.cells #[.string x.name, .slice A1 x.rows.length c1] 46)) := (Below.refl _ _).alloc (Nat.le_refl _) _
  have hP := Lib.hid (Whole.new w 46 [.string x.name, .slice A1 x.rows.length c1])
  by_cases hn0 : left - (x.name.size : Nat) < 0
  · have H := Lib.hid (show szC (costRel x) left = -1 by rw [hct.out]; unfold szC; rw [if_pos (by omega)])
    go_enter Tryz.func17, Tryz.ntmps17
    go_wp2_with fail
    go_ret
    exact ⟨ret_int (by rw [H.out]), hB0⟩
  go_enter Tryz.func17, Tryz.ntmps17
  go_wp2_with fail
  refine (sz_ValueSs A1 c1 x.rows _ _ F.out.2 (s1.to_ hB0) (by omega) (by omega)).mono ?_
  rintro e w1 ⟨rfl, hb1⟩
  have hB1' := below_next hB0 hb1 rfl rfl
  by_cases hn1 : left - (x.name.size : Nat) - (costValueSs x.rows : Nat) < 0
  · have hs : szC (costValueSs x.rows) (left - (x.name.size : Nat)) = -1 := by unfold szC; rw [if_pos hn1]
    have H := Lib.hid (show szC (costRel x) left = -1 by rw [hct.out]; unfold szC; rw [if_pos (by omega)])
    rw [hs]
    clear hs
    go_wp2_with fail
    go_ret
    exact ⟨ret_int (by rw [H.out]), hB1'⟩
  have hs1 : szC (costValueSs x.rows) (left - (x.name.size : Nat)) = left - (x.name.size : Nat) - (costValueSs x.rows : Nat) := by unfold szC; rw [if_neg hn1]
  rw [hs1]
  clear hs1
  have H := Lib.hid (show szC (costRel x) left = left - (x.name.size : Nat) - (costValueSs x.rows : Nat) by rw [hct.out]; unfold szC; rw [if_neg (by omega)] <;> omega)
  go_wp2_with fail
  go_ret
  exact ⟨ret_int (by rw [H.out]), hB1'⟩

set_option maxHeartbeats 1600000 in
theorem sz_Rels {lo : Nat} (A : Option Addr) (c : Nat) (xs : List (GRel)) (left : Int) (w : World) (hf : fitRels xs) (hr : RelsAt w lo w.heap.size A xs) (h0 : 0 ≤ left) (h1 : left ≤ 1048576) :
    Calls Tryz.prog 4 #[.slice A xs.length c, .int .i64 left] w fun e w' => e = .returned (.int .i64 (szC (costRels xs) left)) ∧ Below w.heap.size w w' := by
  have hl : xs.length ≤ 9223372036854775807 := by have h := hf.1; unfold maxLen at h; exact h
  have FX := Lib.hid hf.2
  clear hf
  have hct := Lib.hid (show costRels xs = xs.length + sumC costRel xs from rfl)
  have HR := Lib.hid hr
  clear hr
  by_cases hlen : left - xs.length < 0
  · have H := Lib.hid (show szC (costRels xs) left = -1 by rw [hct.out]; unfold szC; rw [if_pos (by omega)])
    go_enter Tryz.func4, Tryz.ntmps4
    go_wp2_with fail
    go_ret
    exact ⟨ret_int (by rw [H.out]), Below.refl _ _⟩
  go_enter Tryz.func4, Tryz.ntmps4
  go_wp2_with fail
  go_loopw [1, 5] (fun l i w' => ∃ k : Nat, k ≤ xs.length ∧ i = .int .i64 k ∧ l = .int .i64 (left - xs.length - (sumC costRel (xs.take k) : Nat)) ∧ 0 ≤ left - xs.length - (sumC costRel (xs.take k) : Nat) ∧ Below w.heap.size w w') (fun _ i _ => xs.length - (intOf i).toNat)
  case atStart => exact ⟨0, Nat.zero_le _, rfl, by simp [sumC], by simp [sumC]; omega, Below.refl _ _⟩
  case round =>
    obtain ⟨k, hk, rfl, rfl, hp, hB⟩ := hrel
    by_cases hlt : k < xs.length
    · obtain ⟨g, o, rfl, hg0, hg, he⟩ := (HR.out.to_ hB).at_ hlt
      have hst := Lib.hid (sumC_take costRel xs k hlt)
      have htot := sumC_le costRel xs (k + 1)
      have hm := FX.out _ (List.getElem_mem hlt)
      have hi1 : (k : Int) < (xs.length : Int) := by omega
      have hi0 : (0 : Int) ≤ (k : Int) := by omega
      obtain ⟨h0x, h1x⟩ := he
      obtain ⟨A1, c1, ⟨h1y, q1⟩, s1⟩ := h1x
      go_wp2_with fail
      refine (sz_Rel xs[k] A1 c1 _ _ hm s1 hp (by omega)).mono ?_
      rintro e w2 ⟨rfl, hb2⟩
      have hB2 := below_next hB hb2 rfl rfl
      clear h0x h1y
      by_cases hneg : left - xs.length - (sumC costRel (xs.take k) : Nat) - (costRel xs[k] : Nat) < 0
      · have hs : szC (costRel xs[k]) (left - xs.length - (sumC costRel (xs.take k) : Nat)) = -1 := by unfold szC; rw [if_pos hneg]
        have H := Lib.hid (show szC (costRels xs) left = -1 by have := hst.out; rw [hct.out]; unfold szC; rw [if_pos (by omega)])
        rw [hs]
        clear hs
        go_wp2_with fail
        go_ret
        exact ⟨ret_int (by rw [H.out]), hB2⟩
      · have hs : szC (costRel xs[k]) (left - xs.length - (sumC costRel (xs.take k) : Nat)) = left - xs.length - (sumC costRel (xs.take (k + 1)) : Nat) := by have := hst.out; unfold szC; rw [if_neg hneg]; omega
        have hp2 : 0 ≤ left - xs.length - (sumC costRel (xs.take (k + 1)) : Nat) := by have := hst.out; omega
        rw [hs]
        clear hs
        go_wp2_with fail
        go_roundw
        case rel => exact ⟨k + 1, by omega, by go_num, rfl, hp2, hB2⟩
        case measure => simp [intOf]; omega
    · have H := Lib.hid (show szC (costRels xs) left = left - xs.length - (sumC costRel (xs.take k) : Nat) by
        rw [List.take_of_length_le (by omega)] at hp ⊢
        rw [hct.out]; unfold szC; rw [if_neg (by omega)]; omega)
      have hi1 : ¬ (k : Int) < (xs.length : Int) := by omega
      go_wp2_with fail
      go_ret
      exact ⟨ret_int (by rw [H.out]), hB⟩

end Go.Proofs.YteoepnadjkjlmaaGreat
namespace Go.Proofs.YteoepnadjkjlmaaGreat
open Go.RowKit Go.Sort
set_option linter.unusedVariables false

def ToValue (w : World) (x : GV) (e : Ending) (w' : World) : Prop := e = .returned (.agg #[.int .i64 x.k, .int .i64 x.n, .string x.t]) ∧ UF w' w.heap.size w'.heap.size ∧ Below w.heap.size w w'
set_option maxRecDepth 100000 in
set_option maxHeartbeats 3200000 in
theorem to_Value (x : GV) (w : World) :
    Calls Tryz.prog 85 #[.agg #[.int .i64 x.k, .int .i64 x.n, .string x.t]] w (ToValue w x) := by
  go_enter Tryz.func85, Tryz.ntmps85
  go_wp2
  refine bodyPost_ret (v := .agg #[.int .i64 x.k, .int .i64 x.n, .string x.t]) (by simp [results, Tryz.results85, go_sem]) rfl ⟨rfl, ?_, ?_⟩
  · exact (((UF.start w).alloc _ _).alloc _ _).alloc _ _
  · exact (((Below.refl _ _).alloc (Nat.le_refl _) _).alloc (by simp) _).alloc (by simp; omega) _

end Go.Proofs.YteoepnadjkjlmaaGreat
