/-
  How tables read. What a text must be; spec.l1TextOk. spec.ValueOk.
-/
import Derived.Test.YtggkggaihfcjmaaOpenD
import Derived.Test.YtggkggaihfcjmaaSzTabZ
import Derived.Test.YtggkggaihfcjmaaRetZ
import Derived.WalkKit
import Derived.ProofKit
import Derived.Below
import Derived.Lib.Hide
namespace Go.Proofs.Ytggkggaihfcjmaa
open Go.ChangeShapes Go.WideShapes Go.ChangeAt Go.RowKit Go.Joins Go.Deep
set_option linter.unusedVariables false

section
variable {H : Type} {enc : TypeId × Value → H} {W : World} {base b : Nat} {spare : Nat → Bool} {held : Bool}
set_option maxRecDepth 100000 in
theorem open_ValueSs {fuel : Nat} {cs : List Value} {y : DataW H × List MemPlace} (h : DataW.trod enc Try.prog W b spare held fuel 30 cs = some y) :
    ∃ (A : Option Addr) (len c : Nat) (xs : List (List GV)), cs = [.slice A len c] ∧ len = xs.length ∧ (CapOk xs.length c ∧ ValueSsAt W 0 W.heap.size A xs) ∧ fitValueSs xs := by
  rcases open_slice Try.underlying30 h with ⟨hcs, hx⟩ | ⟨a, len, cap, m, n, D, Pl, hcs, hbb, hl, hm, hmm, hx, hi⟩
  · exact ⟨none, 0, 0, [], hcs, rfl, ⟨⟨Nat.le_refl _, Nat.zero_le _⟩, .inl rfl⟩, Nat.zero_le _, by simp⟩
  · have hce : Try.prog.cellsOf 63 = 1 := by kernel_rfl
    rw [hce] at hi
    have hlm : len ≤ m := by rw [hmm]; split <;> omega
    have hel : ∀ i, i < m → ∃ x : List GV, ValueSAt W 0 W.heap.size a.block (a.off + i) x ∧ fitValueS x := by
      intro i him
      obtain ⟨cs', hc, ht⟩ := hi i him
      obtain ⟨A0, l0, c0, x, e0, el, ⟨v0, s0⟩, hfit⟩ := open_Values ht
      subst e0 el
      obtain ⟨_, _, hat⟩ := World.cells?_some hc
      have g0 := hat 0 (by simp)
      simp at g0
      rw [Go.Deep.add_add] at g0
      exact ⟨x, ⟨A0, c0, ⟨cell_add0 g0, v0⟩, s0⟩, hfit⟩
    obtain ⟨f, hf⟩ := choose_lt (α := List GV) (n := len) (p := fun i x => ValueSAt W 0 W.heap.size a.block (a.off + i) x ∧ fitValueS x) (fun i hil => hel i (by omega))
    refine ⟨some a, len, cap, (List.range len).map f, hcs, by simp, ⟨⟨by simp; exact hl, hm⟩, ?_⟩, by simp; omega, ?_⟩
    · rcases Nat.eq_zero_or_pos len with rfl | hpos
      · exact .inl (by simp)
      · have h00 : ∃ u, W.cell? a = some u := by
          obtain ⟨cs', hc, ht⟩ := hi 0 (by omega)
          obtain ⟨_, hln, hat⟩ := World.cells?_some hc
          have g0 := hat 0 (by omega)
          rw [Nat.zero_mul, show (a.add 0).add 0 = a by simp [Addr.add]] at g0
          rw [List.getElem?_eq_getElem (by omega)] at g0
          exact ⟨_, g0⟩
        obtain ⟨u0, hu0⟩ := h00
        have hsp := World.cell?_spot hu0
        have hlt := World.block_lt_of_cell? W a hu0
        refine .inr ⟨a.block, a.off, by obtain ⟨bk, of, sp⟩ := a; simp at hsp; rw [hsp], Nat.zero_le _, hlt, fun i x hx => ?_⟩
        simp only [List.getElem?_map, Option.map_eq_some_iff] at hx
        obtain ⟨j, hj, rfl⟩ := hx
        obtain ⟨hil, rfl⟩ := List.getElem?_eq_some_iff.1 hj
        simp only [List.length_range] at hil
        rw [List.getElem_range]
        exact (hf i hil).1
    · intro x hx
      simp at hx
      obtain ⟨i, hi', rfl⟩ := hx
      exact (hf i hi').2
end
section
variable {H : Type} {enc : TypeId × Value → H} {W : World} {base b : Nat} {spare : Nat → Bool} {held : Bool}
set_option maxRecDepth 100000 in
theorem open_ValueSs_arg {v : Value} {d : DataW H} {p : List MemPlace} (hv : Value.okWide Try.prog W .any base 30 v) (h : DataW.Trod enc Try.prog W b spare held 30 v d p) :
    ∃ (A : Option Addr) (c : Nat) (xs : List (List GV)), v = .slice A xs.length c ∧ fitValueSs xs ∧ ValueSsAt W 0 W.heap.size A xs := by
  obtain ⟨a, len, cap, rfl⟩ := okWide_slice Try.underlying30 hv
  obtain ⟨fuel, hf⟩ := h
  obtain ⟨A, l, c, xs, hcs, rfl, ⟨_, hr⟩, hfit⟩ := open_ValueSs hf
  simp [Value.cells] at hcs
  obtain ⟨rfl, rfl, rfl⟩ := hcs
  exact ⟨_, _, xs, rfl, hfit, hr⟩
end
end Go.Proofs.Ytggkggaihfcjmaa
namespace Go.Proofs.Ytggkggaihfcjmaa
open Go.RowKit
set_option linter.unusedVariables false

def goodByte (c : UInt8) : Bool := decide (32 ≤ (c.toNat : Int)) && decide ((c.toNat : Int) ≤ 126)
def goodBytes (l : List UInt8) : Bool := l.all goodByte
def textOkB (t : ByteArray) : Bool := goodBytes t.data.toList && decide (t.size ≤ 60)

theorem take_snoc (s : ByteArray) (k : Nat) (h : k < s.size) : s.data.toList.take (k + 1) = s.data.toList.take k ++ [s[k]] := by
  rw [List.take_succ_eq_append_getElem (by simpa using h)]; rfl
theorem good_snoc (l : List UInt8) (c : UInt8) : goodBytes (l ++ [c]) = (goodBytes l && goodByte c) := by
  simp [goodBytes]
theorem good_of_take (s : ByteArray) (k : Nat) (h : k < s.size) (hg : goodByte s[k] = false) : goodBytes s.data.toList = false := by
  unfold goodBytes
  rw [List.all_eq_false]
  exact ⟨s[k], by simp [ByteArray.getElem_eq_getElem_data], by simp [hg]⟩

set_option maxHeartbeats 400000 in
theorem spec_text (s : ByteArray) (w : World) (hs : s.size ≤ maxLen) :
    Calls Try.prog 110 #[.string s] w fun e w' => e = .returned (.bool (textOkB s)) ∧ w = w' := by
  unfold maxLen at hs
  go_enter Try.func110, Try.ntmps110
  go_wp2
  go_loop [3] (fun i => ∃ k : Nat, k ≤ s.size ∧ i = .int .i64 k ∧ goodBytes (s.data.toList.take k) = true) (fun i => s.size - (intOf i).toNat)
  case atStart => exact ⟨0, Nat.zero_le _, rfl, rfl⟩
  case round =>
    obtain ⟨k, hk, rfl, hgood⟩ := hrel
    have HG := Lib.hid hgood
    clear hgood
    by_cases hlt : k < s.size
    · have hsn := good_snoc (s.data.toList.take k) s[k]
      have hts := take_snoc s k hlt
      rw [← hts] at hsn
      have HS := Lib.hid hsn
      clear hsn hts
      by_cases h1 : (s[k].toNat : Int) < 32
      · have hb : goodByte s[k] = false := by simp [goodByte]; omega
        have HB := Lib.hid (good_of_take s k hlt hb)
        clear hb
        go_wp2
        go_ret
        exact ⟨ret_bool (by unfold textOkB; rw [HB.out]; rfl), rfl⟩
      · by_cases h2 : (126 : Int) < s[k].toNat
        · have hb : goodByte s[k] = false := by simp [goodByte]; omega
          have HB := Lib.hid (good_of_take s k hlt hb)
          clear hb
          go_wp2
          go_ret
          exact ⟨ret_bool (by unfold textOkB; rw [HB.out]; rfl), rfl⟩
        · have HB := Lib.hid (show goodByte s[k] = true by simp [goodByte]; omega)
          go_wp2
          go_round
          case rel => exact ⟨k + 1, by omega, by go_num, by rw [HS.out, HG.out, HB.out]; rfl⟩
          case measure => simp [intOf]; omega
    · go_wp2
      go_ret
      refine ⟨ret_bool ?_, rfl⟩
      have h := HG.out
      rw [List.take_of_length_le (by simp; omega)] at h
      unfold textOkB
      rw [h]
      simp
      omega
end Go.Proofs.Ytggkggaihfcjmaa
namespace Go.Proofs.Ytggkggaihfcjmaa
open Go.RowKit
set_option linter.unusedVariables false

def valueOkB (k n : Int) (t : ByteArray) : Bool :=
  if k = 1 then decide (-1000000000 ≤ n) && decide (n ≤ 1000000000) && t.toList.isEmpty
  else if k = 2 then decide (n = 0) && textOkB t
  else if k = 3 then decide (1 ≤ n) && decide (n ≤ 1000000000) && t.toList.isEmpty
  else false

set_option maxHeartbeats 400000 in
theorem spec_value (k n : Int) (t : ByteArray) (w : World) (ht : t.size ≤ maxLen) :
    Calls Try.prog 100 #[.agg #[.int .i64 k, .int .i64 n, .string t]] w fun e w' => e = .returned (.bool (valueOkB k n t)) ∧ Below w.heap.size w w' := by
  go_enter Try.func100, Try.ntmps100
  go_wp2_with (go_at_call 110; refine (spec_text _ _ ht).mono ?_; rintro e w' ⟨rfl, rfl⟩)
  all_goals go_ret
  all_goals refine ⟨ret_bool ?_, (Below.refl _ _).alloc (Nat.le_refl _) _⟩
  all_goals simp_all [valueOkB]
  all_goals omega
end Go.Proofs.Ytggkggaihfcjmaa
