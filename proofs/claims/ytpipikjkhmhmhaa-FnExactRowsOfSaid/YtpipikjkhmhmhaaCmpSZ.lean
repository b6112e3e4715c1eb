/-
  The rows of a relation; spec.l5Rows, impl.rowsOf. Contracts of spec.l1Sign and spec.CompareValues.
-/
import Derived.Test.YtpipikjkhmhmhaaDbOkMZ
import Derived.Test.YtpipikjkhmhmhaaTabOkMZ
namespace Go.Proofs.Ytpipikjkhmhmhaa
open Go.RowKit Go.Sort
set_option linter.unusedVariables false

/-- The place of a relation: the first one of this name; the length if there is none. -/
def findR (xs : List GRel) (s : ByteArray) : Nat := xs.findIdx (fun x => x.name.toList == s.toList)
def rowsR (xs : List GRel) (s : ByteArray) : List (List GV) := match xs[findR xs s]? with
  | some x => x.rows
  | none => []
def rowsOfB (xs : List GRel) (s : ByteArray) : List (List GV) := if dbOkB xs = true then rowsR xs s else []
theorem findR_at (xs : List GRel) (s : ByteArray) (k : Nat) (h : k < xs.length) (hk : k ≤ findR xs s) (hb : (xs[k].name.toList == s.toList) = true) : findR xs s = k := by
  unfold findR at hk ⊢
  rcases Nat.lt_or_ge k (xs.findIdx (fun x => x.name.toList == s.toList)) with h' | h'
  · have := List.not_of_lt_findIdx h'
    simp only [hb] at this
    cases this
  · omega
theorem findR_next (xs : List GRel) (s : ByteArray) (k : Nat) (h : k < xs.length) (hk : k ≤ findR xs s) (hb : (xs[k].name.toList == s.toList) = false) : k + 1 ≤ findR xs s := by
  rcases Nat.lt_or_ge k (findR xs s) with h' | h'
  · exact h'
  · have e : findR xs s = k := by omega
    have h2 : xs.findIdx (fun x => x.name.toList == s.toList) < xs.length := by unfold findR at e; omega
    have := List.findIdx_getElem (w := h2)
    unfold findR at e
    simp only [e] at this
    rw [hb] at this
    cases this
theorem rowsR_hit (xs : List GRel) (s : ByteArray) (k : Nat) (h : k < xs.length) (he : findR xs s = k) : rowsR xs s = xs[k].rows := by
  unfold rowsR; rw [he, List.getElem?_eq_getElem h]
theorem rowsR_none (xs : List GRel) (s : ByteArray) (h : xs.length ≤ findR xs s) : rowsR xs s = [] := by
  unfold rowsR; rw [List.getElem?_eq_none h]
theorem rowsR_fit {xs : List GRel} (h : ∀ x ∈ xs, RelFit x) (s : ByteArray) : (rowsR xs s).length ≤ 1048576 ∧ ∀ r ∈ rowsR xs s, r.length ≤ 1048576 ∧ ∀ v ∈ r, v.t.size ≤ 1048576 := by
  unfold rowsR
  split
  · rename_i x hx
    exact h x (List.mem_of_getElem? hx)
  · exact ⟨by simp, by simp⟩
/-- What a look for rows answers: the very rows in memory, or nothing. -/
def RowsAns (w : World) (xs : List GRel) (s : ByteArray) (e : Ending) (w' : World) : Prop := ∃ A c, e = .returned (.slice A (rowsR xs s).length c) ∧ CapOk (rowsR xs s).length c ∧ TabC w' w'.heap.size A (rowsR xs s) ∧ Below w.heap.size w w'

set_option maxRecDepth 100000 in
set_option maxHeartbeats 1600000 in
theorem spec_relRows {lo : Nat} (A : Option Addr) (c : Nat) (xs : List GRel) (s : ByteArray) (w : World) (hl : xs.length ≤ 1048576) (hr : RelsAt w lo w.heap.size A xs) :
    Calls Try.prog 63 #[.slice A xs.length c, .string s] w (RowsAns w xs s) := by
  have HR := Lib.hid hr
  clear hr
  go_enter Try.func63, Try.ntmps63
  go_wp2_with fail
  go_loopw [5] (fun i w' => ∃ k : Nat, k ≤ xs.length ∧ i = .int .i64 k ∧ Hid (k ≤ findR xs s) ∧ Below w.heap.size w w') (fun i _ => xs.length - (intOf i).toNat)
  case atStart => exact ⟨0, Nat.zero_le _, rfl, Lib.hid (Nat.zero_le _), Below.refl _ _⟩
  case round =>
    obtain ⟨k, hk, rfl, hT, hB⟩ := hrel
    by_cases hlt : k < xs.length
    · obtain ⟨g, o, rfl, hg0, hg, c0, A', c', ⟨c1, hcap⟩, s1⟩ := (HR.out.to_ hB).at_ hlt
      have hi2 : (0 : Int) ≤ (k : Int) := by omega
      have hi3 : (k : Int) < (xs.length : Int) := by omega
      obtain ⟨b, hb⟩ : ∃ b, (xs[k].name.toList == s.toList) = b := ⟨_, rfl⟩
      have HAT := Lib.hid (findR_at xs s k hlt hT.out)
      have HNX := Lib.hid (findR_next xs s k hlt hT.out)
      cases b with
      | true =>
        have hE := Lib.hid (rowsR_hit xs s k hlt (HAT.out hb))
        have hP : Hid (RowsAns w xs s (.returned (.slice A' xs[k].rows.length c')) wr) := Lib.hid ⟨A', c', by rw [hE.out], by rw [hE.out]; exact hcap, by rw [hE.out]; exact s1.tabC, hB⟩
        clear s1
        go_wp2_with fail
        go_ret
        exact hP.out
      | false =>
        have hT2 := Lib.hid (HNX.out hb)
        clear s1
        go_wp2_with fail
        go_roundw
        case rel => exact ⟨k + 1, by omega, by go_num, hT2, hB⟩
        case measure => simp [intOf]; omega
    · have hi3 : ¬ (k : Int) < (xs.length : Int) := by omega
      have hE := Lib.hid (rowsR_none xs s (by have := hT.out; omega))
      go_wp2_with fail
      go_ret
      exact ⟨_, _, by rw [hE.out]; rfl, by rw [hE.out]; exact ⟨Nat.le_refl _, Nat.zero_le _⟩, by rw [hE.out]; exact .inl rfl, hB.alloc hB.size _⟩
end Go.Proofs.Ytpipikjkhmhmhaa
namespace Go.Proofs.Ytpipikjkhmhmhaa
open Go.RowKit
set_option linter.unusedVariables false

theorem sign_any (b : Bool) (w : World) :
    Calls Try.prog 98 #[.bool b] w fun e w' => e = .returned (.int .i64 (signB b)) ∧ w = w' := by
  cases b <;> (go_enter Try.func98, Try.ntmps98; go_wp2; go_ret; exact ⟨rfl, rfl⟩)

set_option maxHeartbeats 400000 in
theorem spec_compare (k n : Int) (t : ByteArray) (k' n' : Int) (t' : ByteArray) (w : World) :
    Calls Try.prog 97 #[.agg #[.int .i64 k, .int .i64 n, .string t], .agg #[.int .i64 k', .int .i64 n', .string t']] w fun e w' => e = .returned (.int .i64 (cmpV k n t k' n' t')) ∧ Below w.heap.size w w' := by
  by_cases hk : k = k'
  · subst hk
    by_cases hn : n = n'
    · subst hn
      by_cases ht : t = t'
      · subst ht
        have H := Lib.hid (cmpV_self k n t)
        go_enter Try.func97, Try.ntmps97
        go_wp2_with (go_at_call 98; refine (sign_any _ _).mono ?_; rintro e w' ⟨rfl, rfl⟩)
        go_ret
        exact ⟨ret_int (by rw [H.out]), ((Below.refl _ _).alloc (Nat.le_refl _) _).alloc (by simp) _⟩
      · have H := Lib.hid (cmpV_t k n t t' ht)
        have hb : (t.toList == t'.toList) = false := by
          rw [beq_eq_false_iff_ne]
          intro h
          rw [Lib.toList_data, Lib.toList_data] at h
          exact ht (ByteArray.ext (Array.toList_inj.1 h))
        clear ht
        go_enter Try.func97, Try.ntmps97
        go_wp2_with (go_at_call 98; refine (sign_any _ _).mono ?_; rintro e w' ⟨rfl, rfl⟩)
        go_ret
        exact ⟨ret_int (by rw [H.out]), ((Below.refl _ _).alloc (Nat.le_refl _) _).alloc (by simp) _⟩
    · have H := Lib.hid (cmpV_n k n n' t t' hn)
      have hb : (n != n') = true := by simp [hn]
      clear hn
      go_enter Try.func97, Try.ntmps97
      go_wp2_with (go_at_call 98; refine (sign_any _ _).mono ?_; rintro e w' ⟨rfl, rfl⟩)
      go_ret
      exact ⟨ret_int (by rw [H.out]), ((Below.refl _ _).alloc (Nat.le_refl _) _).alloc (by simp) _⟩
  · have H := Lib.hid (cmpV_k k n k' n' t t' hk)
    have hb : (k != k') = true := by simp [hk]
    clear hk
    go_enter Try.func97, Try.ntmps97
    go_wp2_with (go_at_call 98; refine (sign_any _ _).mono ?_; rintro e w' ⟨rfl, rfl⟩)
    go_ret
    exact ⟨ret_int (by rw [H.out]), ((Below.refl _ _).alloc (Nat.le_refl _) _).alloc (by simp) _⟩
end Go.Proofs.Ytpipikjkhmhmhaa
