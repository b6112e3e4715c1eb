/-
  What a text must be; spec.l1TextOk. spec.ValueOk. What a row must be; spec.l1RowOk.
-/
import Derived.Test.YtpipikjkhmhmhaaMemBZ
import Derived.WalkKit
import Derived.ProofKit
import Derived.Below
import Derived.Lib.Hide
namespace Go.Proofs.Ytpipikjkhmhmhaa
open Go.RowKit
set_option linter.unusedVariables false

def goodByte (c : UInt8) : Bool := decide (32 ≤ (c.toNat : Int)) && decide ((c.toNat : Int) ≤ 126)
def goodBytes (l : List UInt8) : Bool := l.all goodByte
def textOkB (t : ByteArray) : Bool := goodBytes t.data.toList && decide (t.size ≤ 60)

theorem take_snoc (s : ByteArray) (k : Nat) (h : k < s.size) : s.data.toList.take (k + 1) = s.data.toList.take k ++ [s[k]] := by
  rw [List.take_succ_eq_append_getElem (by simpa using h)]; rfl
theorem good_snoc (l : List UInt8) (c : UInt8) : goodBytes (l ++ [c]) = (goodBytes l && goodByte c) := by
  simp [goodBytes]
theorem good_of_take (s : ByteArray) (k : Nat) (h : k < s.size) (hg : goodByte s[k] = false) : goodBytes s.data.toList = false := by
  unfold goodBytes
  rw [List.all_eq_false]
  exact ⟨s[k], by simp [ByteArray.getElem_eq_getElem_data], by simp [hg]⟩

set_option maxHeartbeats 400000 in
theorem spec_text (s : ByteArray) (w : World) (hs : s.size ≤ maxLen) :
    Calls Try.prog 109 #[.string s] w fun e w' => e = .returned (.bool (textOkB s)) ∧ w = w' := by
  unfold maxLen at hs
  go_enter Try.func109, Try.ntmps109
  go_wp2
  go_loop [3] (fun i => ∃ k : Nat, k ≤ s.size ∧ i = .int .i64 k ∧ goodBytes (s.data.toList.take k) = true) (fun i => s.size - (intOf i).toNat)
  case atStart => exact ⟨0, Nat.zero_le _, rfl, rfl⟩
  case round =>
    obtain ⟨k, hk, rfl, hgood⟩ := hrel
    have HG := Lib.hid hgood
    clear hgood
    by_cases hlt : k < s.size
    · have hsn := good_snoc (s.data.toList.take k) s[k]
      have hts := take_snoc s k hlt
      rw [← hts] at hsn
      have HS := Lib.hid hsn
      clear hsn hts
      by_cases h1 : (s[k].toNat : Int) < 32
      · have hb : goodByte s[k] = false := by simp [goodByte]; omega
        have HB := Lib.hid (good_of_take s k hlt hb)
        clear hb
        go_wp2
        go_ret
        exact ⟨ret_bool (by unfold textOkB; rw [HB.out]; rfl), rfl⟩
      · by_cases h2 : (126 : Int) < s[k].toNat
        · have hb : goodByte s[k] = false := by simp [goodByte]; omega
          have HB := Lib.hid (good_of_take s k hlt hb)
          clear hb
          go_wp2
          go_ret
          exact ⟨ret_bool (by unfold textOkB; rw [HB.out]; rfl), rfl⟩
        · have HB := Lib.hid (show goodByte s[k] = true by simp [goodByte]; omega)
          go_wp2
          go_round
          case rel => exact ⟨k + 1, by omega, by go_num, by rw [HS.out, HG.out, HB.out]; rfl⟩
          case measure => simp [intOf]; omega
    · go_wp2
      go_ret
      refine ⟨ret_bool ?_, rfl⟩
      have h := HG.out
      rw [List.take_of_length_le (by simp; omega)] at h
      unfold textOkB
      rw [h]
      simp
      omega
end Go.Proofs.Ytpipikjkhmhmhaa
namespace Go.Proofs.Ytpipikjkhmhmhaa
open Go.RowKit
set_option linter.unusedVariables false

def valueOkB (k n : Int) (t : ByteArray) : Bool :=
  if k = 1 then decide (-1000000000 ≤ n) && decide (n ≤ 1000000000) && t.toList.isEmpty
  else if k = 2 then decide (n = 0) && textOkB t
  else if k = 3 then decide (1 ≤ n) && decide (n ≤ 1000000000) && t.toList.isEmpty
  else false

set_option maxHeartbeats 400000 in
theorem spec_value (k n : Int) (t : ByteArray) (w : World) (ht : t.size ≤ maxLen) :
    Calls Try.prog 72 #[.agg #[.int .i64 k, .int .i64 n, .string t]] w fun e w' => e = .returned (.bool (valueOkB k n t)) ∧ Below w.heap.size w w' := by
  go_enter Try.func72, Try.ntmps72
  go_wp2_with (go_at_call 109; refine (spec_text _ _ ht).mono ?_; rintro e w' ⟨rfl, rfl⟩)
  all_goals go_ret
  all_goals refine ⟨ret_bool ?_, (Below.refl _ _).alloc (Nat.le_refl _) _⟩
  all_goals simp_all [valueOkB]
  all_goals omega
end Go.Proofs.Ytpipikjkhmhmhaa
namespace Go.Proofs.Ytpipikjkhmhmhaa
open Go.RowKit
set_option linter.unusedVariables false

def okG (v : GV) : Bool := valueOkB v.k v.n v.t
def rowOkB (r : List GV) : Bool := r.all okG && decide (r.length ≤ 8)
theorem all_take_snoc (r : List GV) (k : Nat) (h : k < r.length) : (r.take (k + 1)).all okG = ((r.take k).all okG && okG r[k]) := by
  rw [List.take_succ_eq_append_getElem h, List.all_append]; simp only [List.all_cons, List.all_nil, Bool.and_true]
theorem all_bad (r : List GV) (k : Nat) (h : k < r.length) (hb : okG r[k] = false) : r.all okG = false := by
  rw [List.all_eq_false]; exact ⟨r[k], List.getElem_mem h, by simp [hb]⟩

set_option maxHeartbeats 800000 in
theorem spec_row (A : Option Addr) (c : Nat) (r : List GV) (w : World) (hr : RowAt w w.heap.size A r) (hl : r.length ≤ 1048576) (hv : ∀ v ∈ r, v.t.size ≤ maxLen) :
    Calls Try.prog 94 #[.slice A r.length c] w fun e w' => e = .returned (.bool (rowOkB r)) ∧ Below w.heap.size w w' := by
  go_enter Try.func94, Try.ntmps94
  go_wp2
  go_loopw [3] (fun i w' => ∃ k : Nat, k ≤ r.length ∧ i = .int .i64 k ∧ Hid ((r.take k).all okG = true) ∧ Below w.heap.size w w') (fun i _ => r.length - (intOf i).toNat)
  case atStart => exact ⟨0, Nat.zero_le _, rfl, Lib.hid rfl, Below.refl _ _⟩
  case round =>
    obtain ⟨k, hk, rfl, hal, hB⟩ := hrel
    by_cases hlt : k < r.length
    · obtain ⟨g, o, rfl, hg, c0, c1, c2⟩ := (hr.to_ hB).at_ hlt
      have hm := hv _ (List.getElem_mem hlt)
      have hsn := Lib.hid (all_take_snoc r k hlt)
      go_wp2_with fail
      refine (spec_value _ _ _ _ hm).mono ?_
      rintro e w2 ⟨rfl, hb2⟩
      have hB2 := below_next hB hb2 rfl rfl
      clear c0 c1 c2
      by_cases hok : okG r[k] = true
      · have hb : valueOkB r[k].k r[k].n r[k].t = true := hok
        have H := Lib.hid (show (r.take (k + 1)).all okG = true by rw [hsn.out, hal.out, hok]; rfl)
        clear hok
        go_wp2_with fail
        go_roundw
        case rel => exact ⟨k + 1, by omega, by go_num, H, hB2⟩
        case measure => simp [intOf]; omega
      · have hb : valueOkB r[k].k r[k].n r[k].t = false := by rw [Bool.not_eq_true] at hok; exact hok
        have H := Lib.hid (show rowOkB r = false by unfold rowOkB; rw [all_bad r k hlt hb]; rfl)
        clear hok
        go_wp2_with fail
        go_ret
        exact ⟨ret_bool (by rw [H.out]), hB2⟩
    · have H := Lib.hid (show rowOkB r = decide (r.length ≤ 8) by
        have h := hal.out
        rw [List.take_of_length_le (by omega)] at h
        unfold rowOkB; rw [h]; rfl)
      go_wp2_with fail
      go_ret
      exact ⟨ret_bool (by rw [H.out]; simp; omega), hB⟩
theorem spec_row_is (b : Bool) (A : Option Addr) (c : Nat) (r : List GV) (w : World) (hb : rowOkB r = b) (hr : RowAt w w.heap.size A r) (hl : r.length ≤ 1048576) (hv : ∀ v ∈ r, v.t.size ≤ maxLen) :
    Calls Try.prog 94 #[.slice A r.length c] w fun e w' => e = .returned (.bool b) ∧ Below w.heap.size w w' := by
  subst hb; exact spec_row A c r w hr hl hv
end Go.Proofs.Ytpipikjkhmhmhaa
