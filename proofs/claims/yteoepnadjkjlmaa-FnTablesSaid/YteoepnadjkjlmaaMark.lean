/-
  laws.markValueS, laws.heldValueS.
-/
import Derived.Test.YteoepnadjkjlmaaMarkAZ
namespace Go.Proofs.Yteoepnadjkjlmaa
open Go.RowKit Go.Sort
set_option linter.unusedVariables false

def markV (k i : Nat) : GV := ⟨((k + 3 * i : Nat) : Int), ((k + 3 * i + 1 : Nat) : Int), mT (k + 3 * i + 2)⟩
def marked (k n : Nat) : List GV := (List.range n).map (markV k)
theorem marked_succ (k n : Nat) : marked k (n + 1) = marked k n ++ [markV k n] := by unfold marked; rw [List.range_succ]; simp
theorem marked_len (k n : Nat) : (marked k n).length = n := by simp [marked]
theorem marked_at (k n i : Nat) (h : i < n) : (marked k n)[i]'(by rw [marked_len]; exact h) = markV k i := by simp [marked]
theorem set2 (a b : List Value) (x y z x' y' : Value) : ((a ++ x :: y :: z :: b).set a.length x').set (a.length + 1) y' = a ++ x' :: y' :: z :: b := by
  simp
theorem set1 (a b : List Value) (x y z z' : Value) : (a ++ x :: y :: z :: b).set (a.length + 2) z' = a ++ x :: y :: z' :: b := by
  simp
theorem drop3 (l : List Value) (i : Nat) (h : i + 3 ≤ l.length) : ∃ x y z, l.drop i = x :: y :: z :: l.drop (i + 3) := by
  rw [List.drop_eq_getElem_cons (by omega : i < l.length), List.drop_eq_getElem_cons (by omega : i + 1 < l.length), List.drop_eq_getElem_cons (by omega : i + 1 + 1 < l.length)]
  exact ⟨_, _, _, rfl⟩

set_option maxRecDepth 100000 in
set_option maxHeartbeats 1600000 in
theorem mark_row (g cap n k : Nat) (l : List Value) (w : World) (hW : Whole w g 54 l) (hl : n * 3 ≤ l.length) (hk : 1 ≤ k) (hk2 : k ≤ 100000000) (hn : n ≤ 100000000) :
    Calls Try.prog 29 #[.slice (some ⟨g, 0, none⟩) n cap, .int .i64 k] w fun e w' => e = .returned (.int .i64 ((k + 3 * n : Nat) : Int)) ∧ Whole w' g 54 (flat (marked k n) ++ l.drop (n * 3)) ∧ w.grownBy w' (some g) := by
  have HW := Lib.hid (show Whole w g 54 (flat (marked k 0) ++ l.drop (0 * 3)) by simpa [marked, flat] using hW)
  clear hW
  go_enter Try.func29, Try.ntmps29
  go_wp2_with fail
  go_loopw [1, 5] (fun kk i w' => ∃ j : Nat, j ≤ n ∧ kk = .int .i64 ((k + 3 * j : Nat) : Int) ∧ i = .int .i64 j ∧ Hid (Whole w' g 54 (flat (marked k j) ++ l.drop (j * 3))) ∧ Hid (w.grownBy w' (some g))) (fun _ i _ => n - (intOf i).toNat)
  case atStart => exact ⟨0, Nat.zero_le _, rfl, rfl, HW, Lib.hid (grown_refl w g)⟩
  case round =>
    obtain ⟨j, hj, rfl, rfl, hWj, hG⟩ := hrel
    by_cases hlt : j < n
    · obtain ⟨x, y, z, hr⟩ := drop3 l (j * 3) (by omega)
      have hfl : (flat (marked k j)).length = j * 3 := by rw [flat_length, marked_len]
      have hW1 := hWj.out
      rw [hr] at hW1
      have q0 := hW1.cell (j * 3)
      have q1 := hW1.cell (j * 3 + 1)
      rw [List.getElem?_append_right (by omega), hfl] at q0 q1
      simp at q0 q1
      have r0 := hW1.frozen (j * 3)
      have r1 := hW1.frozen (j * 3 + 1)
      have hW2 := Lib.hid ((hW1.set_ (j * 3) (.int .i64 ((k + 3 * j : Nat) : Int))).set_ (j * 3 + 1) (.int .i64 ((k + 3 * j + 1 : Nat) : Int)))
      have hG2 := Lib.hid (show w.grownBy ((wr.setCell ⟨g, j * 3, none⟩ (.int .i64 ((k + 3 * j : Nat) : Int))).setCell ⟨g, j * 3 + 1, none⟩ (.int .i64 ((k + 3 * j + 1 : Nat) : Int))) (some g) from grown_set (grown_set hG.out))
      have HF := Lib.hid hfl
      have HR := Lib.hid hr
      clear hfl hr hW1
      have e1 : ((k + 3 * j + 1 : Nat) : Int) = ((k + 3 * j : Nat) : Int) + 1 := by omega
      have e2 : ((k + 3 * j + 2 : Nat) : Int) = ((k + 3 * j : Nat) : Int) + 1 + 1 := by omega
      have hmt := fun W => mark_text (k + 3 * j + 2) W (by omega) (by omega)
      have hbd : ((k + 3 * j : Nat) : Int) ≤ 400000000 := by omega
      have hbd0 : (0 : Int) ≤ ((k + 3 * j : Nat) : Int) := by omega
      have H3 := Lib.hid (show ((k + 3 * (j + 1) : Nat) : Int) = ((k + 3 * j : Nat) : Int) + 1 + 1 + 1 by omega)
      rw [e2] at hmt
      rw [e1] at hW2 hG2
      have HE1 := Lib.hid e1
      clear e1 e2
      generalize hK : ((k + 3 * j : Nat) : Int) = K at *
      go_wp2_with fail
      refine (hmt _).mono ?_
      rintro e w2 ⟨rfl, hb2⟩
      have hW3 := hW2.out.below hb2 hW2.out.lt
      have hz : ((flat (marked k j) ++ x :: y :: z :: l.drop (j * 3 + 3)).set (j * 3) (.int .i64 K)).set (j * 3 + 1) (.int .i64 (K + 1)) = flat (marked k j) ++ .int .i64 K :: .int .i64 (K + 1) :: z :: l.drop (j * 3 + 3) := by
        have := set2 (flat (marked k j)) (l.drop (j * 3 + 3)) x y z (.int .i64 K) (.int .i64 (K + 1))
        rw [HF.out] at this
        exact this
      rw [hz] at hW3
      have q2 := hW3.cell (j * 3 + 2)
      rw [List.getElem?_append_right (by rw [HF.out]; omega), HF.out] at q2
      simp at q2
      have r2 := hW3.frozen (j * 3 + 2)
      have HW3 := Lib.hid hW3
      have hG3 := Lib.hid (grown_next hG2.out (grown_below hb2))
      clear q0 q1 r0 r1 hW3 hz hmt
      have hW4 := Lib.hid (show Whole (w2.setCell ⟨g, j * 3 + 2, none⟩ (.string (mT (k + 3 * j + 2)))) g 54 (flat (marked k (j + 1)) ++ l.drop ((j + 1) * 3)) by
        have h4 := HW3.out.set_ (j * 3 + 2) (.string (mT (k + 3 * j + 2)))
        have h5 := set1 (flat (marked k j)) (l.drop (j * 3 + 3)) (.int .i64 K) (.int .i64 (K + 1)) z (.string (mT (k + 3 * j + 2)))
        rw [HF.out] at h5
        rw [h5] at h4
        have h6 : flat (marked k (j + 1)) ++ l.drop ((j + 1) * 3) = flat (marked k j) ++ .int .i64 K :: .int .i64 (K + 1) :: .string (mT (k + 3 * j + 2)) :: l.drop (j * 3 + 3) := by
          rw [marked_succ, flat_append, show (j + 1) * 3 = j * 3 + 3 by omega]
          simp only [flat, markV, List.append_assoc, List.cons_append, List.nil_append, HE1.out, hK]
        rw [h6]; exact h4)
      have hG4 := Lib.hid (grown_set (i := j * 3 + 2) (u := .string (mT (k + 3 * j + 2))) hG3.out)
      go_wp2_with fail
      go_roundw
      case rel => exact ⟨j + 1, by omega, by rw [H3.out], by go_num, hW4, hG4⟩
      case measure => simp [intOf]; omega
    · go_wp2_with fail
      go_ret
      obtain rfl : j = n := by omega
      exact ⟨rfl, hWj.out, hG.out⟩

set_option maxRecDepth 100000 in
set_option maxHeartbeats 1600000 in
theorem held_row (A : Option Addr) (cap n k : Nat) (w : World) (hr : RowAt w w.heap.size A (marked k n)) (hk : 1 ≤ k) (hk2 : k ≤ 100000000) (hn : n ≤ 100000000) :
    Calls Try.prog 30 #[.slice A n cap, .int .i64 k] w fun e w' => e = .returned (.int .i64 ((k + 3 * n : Nat) : Int)) ∧ Below w.heap.size w w' := by
  go_enter Try.func30, Try.ntmps30
  go_wp2_with fail
  go_loopw [1, 5] (fun kk i w' => ∃ j : Nat, j ≤ n ∧ kk = .int .i64 ((k + 3 * j : Nat) : Int) ∧ i = .int .i64 j ∧ Below w.heap.size w w') (fun _ i _ => n - (intOf i).toNat)
  case atStart => exact ⟨0, Nat.zero_le _, rfl, rfl, Below.refl _ _⟩
  case round =>
    obtain ⟨j, hj, rfl, rfl, hB⟩ := hrel
    by_cases hlt : j < n
    · obtain ⟨g, o, rfl, hg, c0, c1, c2⟩ := (hr.to_ hB).at_ (i := j) (by rw [marked_len]; exact hlt)
      rw [marked_at k n j hlt] at c0 c1 c2
      simp only [markV] at c0 c1 c2
      have e1 : ((k + 3 * j + 1 : Nat) : Int) = ((k + 3 * j : Nat) : Int) + 1 := by omega
      have e2 : ((k + 3 * j + 2 : Nat) : Int) = ((k + 3 * j : Nat) : Int) + 1 + 1 := by omega
      have hmt := fun W => mark_text (k + 3 * j + 2) W (by omega) (by omega)
      have hbd : ((k + 3 * j : Nat) : Int) ≤ 400000000 := by omega
      have hbd0 : (0 : Int) ≤ ((k + 3 * j : Nat) : Int) := by omega
      have H3 := Lib.hid (show ((k + 3 * (j + 1) : Nat) : Int) = ((k + 3 * j : Nat) : Int) + 1 + 1 + 1 by omega)
      rw [e2] at hmt
      rw [e1] at c1
      clear e1 e2
      generalize hK : ((k + 3 * j : Nat) : Int) = K at *
      have hi0 : (0 : Int) ≤ (j : Int) := by omega
      have hi1 : (j : Int) < (n : Int) := by omega
      have q2 := cell_regrown c2
      have hself : ((mT (k + 3 * j + 2)).toList == (mT (k + 3 * j + 2)).toList) = true := by simp
      generalize mT (k + 3 * j + 2) = M at *
      go_wp2_with fail
      refine wp_region_quiet_below (by kernel_rfl) (by kernel_rfl) ?_
      repeat (go_big_quiet_step (first
        | (go_at_call 49; exact Calls.regrown_of (hmt _))))
      refine wpQuiet_nil ?_
      intro _ hw'
      obtain ⟨⟨dq, osq⟩, hw''⟩ := hw'
      subst hw''
      have hB2 := below_next hB (below_regrown wr dq osq) rfl rfl
      generalize grow (redrawn wr dq) osq = wx at *
      clear q2 c0 c1 c2
      go_wp2_with fail
      go_roundw
      case rel => exact ⟨j + 1, by omega, by rw [H3.out], by go_num, hB2⟩
      case measure => simp [intOf]; omega
    · go_wp2_with fail
      go_ret
      obtain rfl : j = n := by omega
      exact ⟨rfl, hB⟩
end Go.Proofs.Yteoepnadjkjlmaa
