/-
  spec.ShowRow.
-/
import Derived.Test.YteoepnadjkjlmaaShowSpec2
namespace Go.Proofs.Yteoepnadjkjlmaa
open Go.RowKit
set_option linter.unusedVariables false

def joinL : List GV → List UInt8
  | [] => []
  | v :: r => showL v ++ r.flatMap fun u => 44 :: 32 :: showL u
theorem join_one (v : GV) : joinL [v] = showL v := by simp [joinL]
theorem join_snoc (r : List GV) (v : GV) (h : r ≠ []) : joinL (r ++ [v]) = joinL r ++ [44, 32] ++ showL v := by
  cases r with
  | nil => exact absurd rfl h
  | cons u r => simp [joinL]
theorem flat_len (r : List GV) (h : ∀ v ∈ r, okG v = true) : (r.flatMap fun u => 44 :: 32 :: showL u).length ≤ 124 * r.length := by
  induction r with
  | nil => simp
  | cons u r ih =>
    have h1 := showL_len (h u (by simp))
    have h2 := ih (fun v hv => h v (by simp [hv]))
    simp only [List.flatMap_cons, List.length_append, List.length_cons]
    omega
theorem join_len (r : List GV) (h : ∀ v ∈ r, okG v = true) (hp : 0 < r.length) : (joinL r).length + 2 ≤ 124 * r.length := by
  cases r with
  | nil => simp at hp
  | cons u r =>
    have h1 := showL_len (h u (by simp))
    have h2 := flat_len r (fun v hv => h v (by simp [hv]))
    simp only [joinL, List.length_append, List.length_cons]
    omega
theorem str_app (a b : List UInt8) : (⟨a.toArray⟩ ++ ⟨b.toArray⟩ : ByteArray) = ⟨(a ++ b).toArray⟩ := by
  apply ByteArray.ext
  simp [ByteArray.data_append]
def showRowL (r : List GV) : List UInt8 := 40 :: (joinL r ++ [41])
def showR (r : List GV) : ByteArray := if rowOkB r = true then ⟨(showRowL r).toArray⟩ else ⟨#[]⟩
theorem row_ok {r : List GV} (h : rowOkB r = true) : (∀ v ∈ r, okG v = true) ∧ r.length ≤ 8 := by
  unfold rowOkB at h; simp at h; exact ⟨h.1, h.2⟩
set_option maxRecDepth 100000 in
set_option maxHeartbeats 3200000 in
theorem spec_showRow (A : Option Addr) (c : Nat) (r : List GV) (w : World) (hr : RowAt w w.heap.size A r) (hl : r.length ≤ 1048576) (hv : ∀ v ∈ r, v.t.size ≤ maxLen) :
    Calls Try.prog 34 #[.slice A r.length c] w fun e w' => e = .returned (.string (showR r)) ∧ Below w.heap.size w w' := by
  by_cases hok : rowOkB r = true
  · obtain ⟨hall, h8⟩ := row_ok hok
    have H := Lib.hid (show showR r = ⟨(showRowL r).toArray⟩ by unfold showR; rw [if_pos hok])
    go_enter Try.func34, Try.ntmps34
    go_wp2_with fail
    refine (spec_row A c r _ hr hl hv).mono ?_
    rintro e w1 ⟨rfl, hb1⟩
    go_wp2_with fail
    go_loopw [3, 4] (fun s i w' => ∃ k : Nat, k ≤ r.length ∧ i = .int .i64 k ∧ s = .string ⟨(40 :: joinL (r.take k)).toArray⟩ ∧ Below w.heap.size w w') (fun _ i _ => r.length - (intOf i).toNat)
    case atStart => exact ⟨0, Nat.zero_le _, rfl, rfl, hb1⟩
    case round =>
      obtain ⟨k, hk, rfl, rfl, hB⟩ := hrel
      by_cases hlt : k < r.length
      · obtain ⟨g, o, rfl, hg, c0, c1, c2⟩ := (hr.to_ hB).at_ hlt
        have hokk := hall _ (List.getElem_mem hlt)
        have hsl := showL_len hokk
        have hlen2 : (joinL (r.take k)).length ≤ 992 := by
          rcases Nat.eq_zero_or_pos k with h0 | h0
          · subst h0; simp [joinL]
          · have := join_len (r.take k) (fun v hv => hall v (List.mem_of_mem_take hv)) (by rw [List.length_take]; omega)
            rw [List.length_take] at this; omega
        generalize hJ : joinL (r.take k) = J at hlen2
        have HJ := Lib.hid hJ
        clear hJ
        by_cases hk0 : k = 0
        · have hd : decide (0 < k) = false := by simp; omega
          have hd2 : decide ((0 : Int) < (k : Int)) = false := by simp; omega
          have hj := Lib.hid (show joinL (r.take (k + 1)) = J ++ showL r[k] by
            rw [← HJ.out]
            subst hk0
            rw [List.take_succ_eq_append_getElem hlt, List.take_zero, List.nil_append, join_one]; rfl)
          clear hk0
          go_wp2_with fail
          refine (spec_l1Show r[k] _ hokk).mono ?_
          rintro e w3 ⟨rfl, hb3⟩
          have hB4 := below_next hB hb3 rfl rfl
          clear c0 c1 c2
          generalize hX : showL r[k] = X at *
          go_wp2_with fail
          go_roundw
          case rel => exact ⟨k + 1, by omega, by go_num, by rw [hj.out]; exact congrArg Value.string (str_app (40 :: J) X), hB4⟩
          case measure => simp [intOf]; omega
        · have hd : 0 < k := by omega
          have hd2 : (0 : Int) < (k : Int) := by omega
          have hj := Lib.hid (show joinL (r.take (k + 1)) = J ++ [44, 32] ++ showL r[k] by
            rw [← HJ.out, List.take_succ_eq_append_getElem hlt]
            exact join_snoc _ _ (fun h => by have := congrArg List.length h; simp at this; rcases this with h' | h' <;> simp_all))
          clear hk0
          go_wp2_with fail
          refine (spec_l1Show r[k] _ hokk).mono ?_
          rintro e w3 ⟨rfl, hb3⟩
          have hB4 := below_next hB hb3 rfl rfl
          clear c0 c1 c2
          generalize hX : showL r[k] = X at *
          go_wp2_with fail
          go_roundw
          case rel =>
            refine ⟨k + 1, by omega, by go_num, ?_, hB4⟩
            rw [hj.out, show (⟨#[44, 32]⟩ : ByteArray) = ⟨([44, 32] : List UInt8).toArray⟩ from rfl, str_app, str_app]
            rfl
          case measure => simp [intOf]; omega
      · have htk : r.take k = r := List.take_of_length_le (by omega)
        rw [htk]
        have hlen : (joinL r).length ≤ 992 := by
          rcases Nat.eq_zero_or_pos r.length with h0 | h0
          · rw [List.eq_nil_of_length_eq_zero h0]; simp [joinL]
          · have := join_len r hall h0; omega
        clear htk
        unfold showRowL at H
        generalize joinL r = J at hlen H
        go_wp2_with fail
        go_ret
        exact ⟨by rw [H.out]; exact congrArg (fun s => Ending.returned (Value.string s)) (str_app (40 :: J) [41]), hB⟩
  · have H := Lib.hid (show showR r = ⟨#[]⟩ by unfold showR; rw [if_neg hok])
    rw [Bool.not_eq_true] at hok
    go_enter Try.func34, Try.ntmps34
    go_wp2_with fail
    refine (spec_row A c r _ hr hl hv).mono ?_
    rintro e w1 ⟨rfl, hb1⟩
    go_wp2_with fail
    go_ret
    exact ⟨by rw [H.out]; rfl, hb1⟩
end Go.Proofs.Yteoepnadjkjlmaa
