/-
  laws.markStringS and laws.heldStringS on a list of texts of the call's own.
-/
import Derived.Test.YtmbdccbgcobflaaSRow
import Derived.Test.YtmbdccbgcobflaaMarkA
import Derived.Test.YtmbdccbgcobflaaToNode
namespace Go.Proofs.Ytmbdccbgcobflaa
open Go.RowKit Go.Sort
set_option linter.unusedVariables false

def markN (k n : Nat) : List ByteArray := (List.range n).map fun i => mT (k + i)
theorem markN_len (k n : Nat) : (markN k n).length = n := by simp [markN]
theorem markN_at (k n j : Nat) (h : j < n) : (markN k n)[j]? = some (mT (k + j)) := by simp [markN, h]
theorem markN_step (k j : Nat) (l : List ByteArray) (h : j < l.length) : (markN k j ++ l.drop j).set j (mT (k + j)) = markN k (j + 1) ++ l.drop (j + 1) := by
  have : l.drop j = l[j] :: l.drop (j + 1) := List.drop_eq_getElem_cons h
  rw [this, List.set_append, if_neg (by rw [markN_len]; omega), markN_len, Nat.sub_self, List.set_cons_zero]
  simp only [markN, List.range_succ, List.map_append, List.map_cons, List.map_nil, List.append_assoc, List.singleton_append]
theorem srow_at {B : Nat} {w : World} {A : Option Addr} {n c : Nat} {l : List ByteArray} (hn : l.length = n) (h : SRow B w (.slice A n c) l) {j : Nat} (hj : j < n) :
    ∃ g x, A = some ⟨g, 0, none⟩ ∧ B ≤ g ∧ g < w.heap.size ∧ l[j]? = some x ∧ w.cell? ⟨g, j, none⟩ = some (.string x) ∧ w.frozen? ⟨g, j, none⟩ = false := by
  subst hn
  rcases h.2 with ⟨_, h0⟩ | ⟨g, cap, cur, e, hg, hh, hc1, hc2, hc3, hc4⟩
  · omega
  · cases e
    refine ⟨g, l[j], rfl, hg, (Array.getElem?_eq_some_iff.1 hh).1, List.getElem?_eq_getElem hj, ?_, by simp [World.frozen?, hh]⟩
    have : w.cell? ⟨g, j, none⟩ = cur.toList[j]? := by simp [World.cell?, hh]
    rw [this, ← List.getElem?_take_of_lt (show j < l.length * 1 by omega), hc4]
    simp [strL, hj]
theorem srow_set {B : Nat} {w : World} {g n c j : Nat} {l : List ByteArray} {x : ByteArray} (h : SRow B w (.slice (some ⟨g, 0, none⟩) n c) l) : SRow B (w.setCell ⟨g, j, none⟩ (.string x)) (.slice (some ⟨g, 0, none⟩) n c) (l.set j x) := by
  rcases h.2 with ⟨e, _⟩ | ⟨g', cap, cur, e, hg, hh, hc1, hc2, hc3, hc4⟩
  · cases e
  · cases e
    have hW : Whole w g 9 cur.toList := by unfold Whole; rw [Array.toArray_toList]; exact hh
    refine ⟨by simp [strL], .inr ⟨g, c, (cur.toList.set j (.string x)).toArray, by simp, hg, hW.set_ _ _, by simpa using hc1, hc2, by simp [hc3], ?_⟩⟩
    simp only [List.length_set]
    rw [List.take_set, hc4]
    simp [strL, List.map_set]
theorem SRow.to_ {B : Nat} {w w' : World} {v : Value} {l : List ByteArray} (h : SRow B w v l) (hb : Below w.heap.size w w') : SRow B w' v l := by
  refine ⟨h.1, ?_⟩
  rcases h.2 with h' | ⟨g, cap, cur, e, hg, hc, hr⟩
  · exact .inl h'
  · exact .inr ⟨g, cap, cur, e, hg, (hb.block g (Array.getElem?_eq_some_iff.1 hc).1).trans hc, hr⟩
theorem grown_setb {w wr w0 : World} {g j : Nat} {u : Value} (h : w.grownBy wr (some g)) (hb : Below wr.heap.size wr w0) : w.grownBy (w0.setCell ⟨g, j, none⟩ u) (some g) :=
  ⟨hb.os.trans h.os, hb.tape.trans h.tape, hb.output.trans h.output, by simp [World.setCell]; exact Nat.le_trans h.size hb.size, fun k hk hne => by
    rw [Below.heap_setCell w0 ⟨g, j, none⟩ u k (by intro e; exact hne (by rw [e])), hb.block k (Nat.lt_of_lt_of_le hk h.size), h.block k hk hne]⟩
theorem grown_same (w : World) (row : Option Nat) : w.grownBy w row := ⟨rfl, rfl, rfl, Nat.le_refl _, fun _ _ _ => rfl⟩

set_option maxRecDepth 100000 in
set_option maxHeartbeats 1600000 in
theorem mark_names {B : Nat} (A : Option Addr) (c n k : Nat) (l : List ByteArray) (w : World) (h : SRow B w (.slice A n c) l) (hn : l.length = n) (hk : 1 ≤ k) (hk2 : k ≤ 100000000) (hl : n ≤ 4194304) :
    Calls Try.prog 11 #[.slice A n c, .int .i64 k] w fun e w' => e = .returned (.int .i64 ((k + n : Nat) : Int)) ∧ SRow B w' (.slice A n c) (markN k n) ∧ w.grownBy w' (Value.slice A n c).ownBlock := by
  have HR := Lib.hid h
  have HN := Lib.hid hn
  clear h hn
  go_enter Try.func11, Try.ntmps11
  go_wp2_with fail
  go_loopw [1, 5] (fun kk i w' => ∃ j : Nat, j ≤ n ∧ kk = .int .i64 ((k + j : Nat) : Int) ∧ i = .int .i64 j ∧ Hid (SRow B w' (.slice A n c) (markN k j ++ l.drop j)) ∧ Hid (w.grownBy w' (Value.slice A n c).ownBlock)) (fun _ i _ => n - (intOf i).toNat)
  case atStart => exact ⟨0, Nat.zero_le _, rfl, rfl, Lib.hid (by simpa [markN] using HR.out), Lib.hid (grown_same _ _)⟩
  case round =>
    obtain ⟨j, hj, rfl, rfl, hS, hG⟩ := hrel
    have hlen := Lib.hid (show (markN k j ++ l.drop j).length = n by rw [List.length_append, markN_len, List.length_drop, HN.out]; omega)
    by_cases hlt : j < n
    · obtain ⟨g, x, rfl, hgB, hg, _, hc, hf⟩ := srow_at hlen.out hS.out hlt
      have hst := Lib.hid (markN_step k j l (by rw [HN.out]; exact hlt))
      have hmt := fun W => mark_text (k + j) W (by omega) (by omega)
      have hbd : ((k + j : Nat) : Int) ≤ 400000000 := by omega
      have hbd0 : (0 : Int) ≤ ((k + j : Nat) : Int) := by omega
      have H3 := Lib.hid (show ((k + (j + 1) : Nat) : Int) = ((k + j : Nat) : Int) + 1 by omega)
      generalize hK : ((k + j : Nat) : Int) = K at *
      have hi0 : (0 : Int) ≤ (j : Int) := by omega
      have hi1 : (j : Int) < (n : Int) := by omega
      go_wp2_with fail
      refine (hmt _).mono ?_
      rintro e w0 ⟨rfl, hb0⟩
      have hc0 : w0.cell? ⟨g, j, none⟩ = some (.string x) := (hb0.cell (p := ⟨g, j, none⟩) hg).trans hc
      have hf0 : w0.frozen? ⟨g, j, none⟩ = false := (hb0.frozen (p := ⟨g, j, none⟩) hg).trans hf
      have hS2 := Lib.hid (show SRow B (w0.setCell ⟨g, j, none⟩ (.string (mT (k + j)))) (.slice (some ⟨g, 0, none⟩) n c) (markN k (j + 1) ++ l.drop (j + 1)) by rw [← hst.out]; exact srow_set (hS.out.to_ hb0))
      have hG2 := Lib.hid (show w.grownBy (w0.setCell ⟨g, j, none⟩ (.string (mT (k + j)))) (Value.slice (some ⟨g, 0, none⟩) n c).ownBlock from grown_setb hG.out hb0)
      clear hc hf hb0 hmt
      go_wp2_with fail
      go_roundw
      case rel => exact ⟨j + 1, by omega, by rw [H3.out], by go_num, hS2, hG2⟩
      case measure => simp [intOf]; omega
    · have hi1 : ¬ (j : Int) < (n : Int) := by omega
      have hd := Lib.hid (show markN k j ++ l.drop j = markN k n by rw [List.drop_of_length_le (by rw [HN.out]; omega), List.append_nil, show j = n by omega])
      have hjn := Lib.hid (show j = n by omega)
      go_wp2_with fail
      go_ret
      obtain rfl := hjn.out
      exact ⟨rfl, by rw [← hd.out]; exact hS.out, hG.out⟩
set_option maxRecDepth 100000 in
set_option maxHeartbeats 1600000 in
theorem held_names {B : Nat} (A : Option Addr) (c n k : Nat) (w : World) (h : SRow B w (.slice A n c) (markN k n)) (hk : 1 ≤ k) (hk2 : k ≤ 100000000) (hl : n ≤ 4194304) :
    Calls Try.prog 12 #[.slice A n c, .int .i64 k] w fun e w' => e = .returned (.int .i64 ((k + n : Nat) : Int)) ∧ Below w.heap.size w w' := by
  have HR := Lib.hid h
  clear h
  go_enter Try.func12, Try.ntmps12
  go_wp2_with fail
  go_loopw [1, 5] (fun kk i w' => ∃ j : Nat, j ≤ n ∧ kk = .int .i64 ((k + j : Nat) : Int) ∧ i = .int .i64 j ∧ Below w.heap.size w w') (fun _ i _ => n - (intOf i).toNat)
  case atStart => exact ⟨0, Nat.zero_le _, rfl, rfl, Below.refl _ _⟩
  case round =>
    obtain ⟨j, hj, rfl, rfl, hB⟩ := hrel
    by_cases hlt : j < n
    · obtain ⟨g, x, rfl, hgB, hg, hx, hc, hf⟩ := srow_at (markN_len k n) (HR.out.to_ hB) hlt
      rw [markN_at k n j hlt] at hx
      cases hx
      have hmt := fun W => mark_text (k + j) W (by omega) (by omega)
      have hbd : ((k + j : Nat) : Int) ≤ 400000000 := by omega
      have hbd0 : (0 : Int) ≤ ((k + j : Nat) : Int) := by omega
      have H3 := Lib.hid (show ((k + (j + 1) : Nat) : Int) = ((k + j : Nat) : Int) + 1 by omega)
      generalize hK : ((k + j : Nat) : Int) = K at *
      have hi0 : (0 : Int) ≤ (j : Int) := by omega
      have hi1 : (j : Int) < (n : Int) := by omega
      have q2 := cell_regrown hc
      have hself : ((mT (k + j)).toList == (mT (k + j)).toList) = true := by simp
      generalize mT (k + j) = M at *
      go_wp2_with fail
      refine wp_region_quiet_below (by kernel_rfl) (by kernel_rfl) ?_
      repeat (go_big_quiet_step (first
        | (go_at_call 29; exact Calls.regrown_of (hmt _))))
      refine wpQuiet_nil ?_
      intro _ hw'
      obtain ⟨⟨dq, osq⟩, hw''⟩ := hw'
      subst hw''
      have hB2 := below_next hB (below_regrown wr dq osq) rfl rfl
      generalize grow (redrawn wr dq) osq = wx at *
      clear q2 hc
      go_wp2_with fail
      go_roundw
      case rel => exact ⟨j + 1, by omega, by rw [H3.out], by go_num, hB2⟩
      case measure => simp [intOf]; omega
    · have hi1 : ¬ (j : Int) < (n : Int) := by omega
      have hjn := Lib.hid (show j = n by omega)
      go_wp2_with fail
      go_ret
      obtain rfl := hjn.out
      exact ⟨rfl, hB⟩
end Go.Proofs.Ytmbdccbgcobflaa
