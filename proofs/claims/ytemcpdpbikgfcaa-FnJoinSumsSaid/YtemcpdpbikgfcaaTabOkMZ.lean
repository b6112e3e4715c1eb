/-
  What a text must be; spec.l1TextOk. spec.ValueOk. What a row must be; spec.l1RowOk. The order of values: mathematics. The order of rows: mathematics. What a table must be: mathematics.
-/
import Derived.Test.YtemcpdpbikgfcaaMemBZ
import Derived.WalkKit
import Derived.ProofKit
import Derived.Below
import Derived.Lib.Hide
import Derived.Laws.Cover1
import Derived.Deep.RegionHeld3
import Derived.Sort.Walk0
namespace Go.Proofs.Ytemcpdpbikgfcaa
open Go.RowKit
set_option linter.unusedVariables false

def goodByte (c : UInt8) : Bool := decide (32 ≤ (c.toNat : Int)) && decide ((c.toNat : Int) ≤ 126)
def goodBytes (l : List UInt8) : Bool := l.all goodByte
def textOkB (t : ByteArray) : Bool := goodBytes t.data.toList && decide (t.size ≤ 60)

theorem take_snoc (s : ByteArray) (k : Nat) (h : k < s.size) : s.data.toList.take (k + 1) = s.data.toList.take k ++ [s[k]] := by
  rw [List.take_succ_eq_append_getElem (by simpa using h)]; rfl
theorem good_snoc (l : List UInt8) (c : UInt8) : goodBytes (l ++ [c]) = (goodBytes l && goodByte c) := by
  simp [goodBytes]
theorem good_of_take (s : ByteArray) (k : Nat) (h : k < s.size) (hg : goodByte s[k] = false) : goodBytes s.data.toList = false := by
  unfold goodBytes
  rw [List.all_eq_false]
  exact ⟨s[k], by simp [ByteArray.getElem_eq_getElem_data], by simp [hg]⟩

set_option maxHeartbeats 400000 in
theorem spec_text (s : ByteArray) (w : World) (hs : s.size ≤ maxLen) :
    Calls Try.prog 110 #[.string s] w fun e w' => e = .returned (.bool (textOkB s)) ∧ w = w' := by
  unfold maxLen at hs
  go_enter Try.func110, Try.ntmps110
  go_wp2
  go_loop [3] (fun i => ∃ k : Nat, k ≤ s.size ∧ i = .int .i64 k ∧ goodBytes (s.data.toList.take k) = true) (fun i => s.size - (intOf i).toNat)
  case atStart => exact ⟨0, Nat.zero_le _, rfl, rfl⟩
  case round =>
    obtain ⟨k, hk, rfl, hgood⟩ := hrel
    have HG := Lib.hid hgood
    clear hgood
    by_cases hlt : k < s.size
    · have hsn := good_snoc (s.data.toList.take k) s[k]
      have hts := take_snoc s k hlt
      rw [← hts] at hsn
      have HS := Lib.hid hsn
      clear hsn hts
      by_cases h1 : (s[k].toNat : Int) < 32
      · have hb : goodByte s[k] = false := by simp [goodByte]; omega
        have HB := Lib.hid (good_of_take s k hlt hb)
        clear hb
        go_wp2
        go_ret
        exact ⟨ret_bool (by unfold textOkB; rw [HB.out]; rfl), rfl⟩
      · by_cases h2 : (126 : Int) < s[k].toNat
        · have hb : goodByte s[k] = false := by simp [goodByte]; omega
          have HB := Lib.hid (good_of_take s k hlt hb)
          clear hb
          go_wp2
          go_ret
          exact ⟨ret_bool (by unfold textOkB; rw [HB.out]; rfl), rfl⟩
        · have HB := Lib.hid (show goodByte s[k] = true by simp [goodByte]; omega)
          go_wp2
          go_round
          case rel => exact ⟨k + 1, by omega, by go_num, by rw [HS.out, HG.out, HB.out]; rfl⟩
          case measure => simp [intOf]; omega
    · go_wp2
      go_ret
      refine ⟨ret_bool ?_, rfl⟩
      have h := HG.out
      rw [List.take_of_length_le (by simp; omega)] at h
      unfold textOkB
      rw [h]
      simp
      omega
end Go.Proofs.Ytemcpdpbikgfcaa
namespace Go.Proofs.Ytemcpdpbikgfcaa
open Go.RowKit
set_option linter.unusedVariables false

def valueOkB (k n : Int) (t : ByteArray) : Bool :=
  if k = 1 then decide (-1000000000 ≤ n) && decide (n ≤ 1000000000) && t.toList.isEmpty
  else if k = 2 then decide (n = 0) && textOkB t
  else if k = 3 then decide (1 ≤ n) && decide (n ≤ 1000000000) && t.toList.isEmpty
  else false

set_option maxHeartbeats 400000 in
theorem spec_value (k n : Int) (t : ByteArray) (w : World) (ht : t.size ≤ maxLen) :
    Calls Try.prog 100 #[.agg #[.int .i64 k, .int .i64 n, .string t]] w fun e w' => e = .returned (.bool (valueOkB k n t)) ∧ Below w.heap.size w w' := by
  go_enter Try.func100, Try.ntmps100
  go_wp2_with (go_at_call 110; refine (spec_text _ _ ht).mono ?_; rintro e w' ⟨rfl, rfl⟩)
  all_goals go_ret
  all_goals refine ⟨ret_bool ?_, (Below.refl _ _).alloc (Nat.le_refl _) _⟩
  all_goals simp_all [valueOkB]
  all_goals omega
end Go.Proofs.Ytemcpdpbikgfcaa
namespace Go.Proofs.Ytemcpdpbikgfcaa
open Go.RowKit
set_option linter.unusedVariables false

def okG (v : GV) : Bool := valueOkB v.k v.n v.t
def rowOkB (r : List GV) : Bool := r.all okG && decide (r.length ≤ 8)
theorem all_take_snoc (r : List GV) (k : Nat) (h : k < r.length) : (r.take (k + 1)).all okG = ((r.take k).all okG && okG r[k]) := by
  rw [List.take_succ_eq_append_getElem h, List.all_append]; simp only [List.all_cons, List.all_nil, Bool.and_true]
theorem all_bad (r : List GV) (k : Nat) (h : k < r.length) (hb : okG r[k] = false) : r.all okG = false := by
  rw [List.all_eq_false]; exact ⟨r[k], List.getElem_mem h, by simp [hb]⟩

set_option maxHeartbeats 800000 in
theorem spec_row (A : Option Addr) (c : Nat) (r : List GV) (w : World) (hr : RowAt w w.heap.size A r) (hl : r.length ≤ 1048576) (hv : ∀ v ∈ r, v.t.size ≤ maxLen) :
    Calls Try.prog 77 #[.slice A r.length c] w fun e w' => e = .returned (.bool (rowOkB r)) ∧ Below w.heap.size w w' := by
  go_enter Try.func77, Try.ntmps77
  go_wp2
  go_loopw [3] (fun i w' => ∃ k : Nat, k ≤ r.length ∧ i = .int .i64 k ∧ Hid ((r.take k).all okG = true) ∧ Below w.heap.size w w') (fun i _ => r.length - (intOf i).toNat)
  case atStart => exact ⟨0, Nat.zero_le _, rfl, Lib.hid rfl, Below.refl _ _⟩
  case round =>
    obtain ⟨k, hk, rfl, hal, hB⟩ := hrel
    by_cases hlt : k < r.length
    · obtain ⟨g, o, rfl, hg, c0, c1, c2⟩ := (hr.to_ hB).at_ hlt
      have hm := hv _ (List.getElem_mem hlt)
      have hsn := Lib.hid (all_take_snoc r k hlt)
      go_wp2_with fail
      refine (spec_value _ _ _ _ hm).mono ?_
      rintro e w2 ⟨rfl, hb2⟩
      have hB2 := below_next hB hb2 rfl rfl
      clear c0 c1 c2
      by_cases hok : okG r[k] = true
      · have hb : valueOkB r[k].k r[k].n r[k].t = true := hok
        have H := Lib.hid (show (r.take (k + 1)).all okG = true by rw [hsn.out, hal.out, hok]; rfl)
        clear hok
        go_wp2_with fail
        go_roundw
        case rel => exact ⟨k + 1, by omega, by go_num, H, hB2⟩
        case measure => simp [intOf]; omega
      · have hb : valueOkB r[k].k r[k].n r[k].t = false := by rw [Bool.not_eq_true] at hok; exact hok
        have H := Lib.hid (show rowOkB r = false by unfold rowOkB; rw [all_bad r k hlt hb]; rfl)
        clear hok
        go_wp2_with fail
        go_ret
        exact ⟨ret_bool (by rw [H.out]), hB2⟩
    · have H := Lib.hid (show rowOkB r = decide (r.length ≤ 8) by
        have h := hal.out
        rw [List.take_of_length_le (by omega)] at h
        unfold rowOkB; rw [h]; rfl)
      go_wp2_with fail
      go_ret
      exact ⟨ret_bool (by rw [H.out]; simp; omega), hB⟩
theorem spec_row_is (b : Bool) (A : Option Addr) (c : Nat) (r : List GV) (w : World) (hb : rowOkB r = b) (hr : RowAt w w.heap.size A r) (hl : r.length ≤ 1048576) (hv : ∀ v ∈ r, v.t.size ≤ maxLen) :
    Calls Try.prog 77 #[.slice A r.length c] w fun e w' => e = .returned (.bool b) ∧ Below w.heap.size w w' := by
  subst hb; exact spec_row A c r w hr hl hv
end Go.Proofs.Ytemcpdpbikgfcaa
namespace Go.Proofs.Ytemcpdpbikgfcaa
open Go.RowKit
set_option linter.unusedVariables false

def cmpI (a b : Int) : Int := if a < b then -1 else if b < a then 1 else 0

def ltT (a b : ByteArray) : Bool := Op.bytesLess a.toList b.toList
def cmpT (a b : ByteArray) : Int := if ltT a b = true then -1 else if a = b then 0 else 1
def or3 (a b c : Int) : Int := if a ≠ 0 then a else if b ≠ 0 then b else c
def cmpV (k n : Int) (t : ByteArray) (k' n' : Int) (t' : ByteArray) : Int := or3 (cmpI k k') (cmpI n n') (cmpT t t')
def signB (b : Bool) : Int := if b = true then -1 else 1
theorem cmpI_self (a : Int) : cmpI a a = 0 := by unfold cmpI; rw [if_neg (by omega), if_neg (by omega)]
theorem cmpI_ne {a b : Int} (h : a ≠ b) : cmpI a b = signB (decide (a < b)) := by
  unfold cmpI signB
  by_cases hl : a < b
  · simp [hl]
  · rw [if_neg hl, if_pos (by omega)]; simp [hl]
theorem signB_ne0 (b : Bool) : signB b ≠ 0 := by cases b <;> simp [signB]
theorem ltT_irrefl (a : ByteArray) : ltT a a = false := by
  unfold ltT; rw [bytesLess_eq]; simp
theorem cmpT_self (a : ByteArray) : cmpT a a = 0 := by
  unfold cmpT; rw [ltT_irrefl]; simp
theorem cmpT_ne {a b : ByteArray} (h : a ≠ b) : cmpT a b = signB (Op.bytesLess a.toList b.toList) := by
  unfold cmpT ltT signB; rw [if_neg h]
theorem cmpV_self (k n : Int) (t : ByteArray) : cmpV k n t k n t = 0 := by simp [cmpV, or3, cmpI_self, cmpT_self]
theorem cmpV_t (k n : Int) (t t' : ByteArray) (h : t ≠ t') : cmpV k n t k n t' = signB (Op.bytesLess t.toList t'.toList) := by simp [cmpV, or3, cmpI_self, cmpT_ne h]
theorem cmpV_n (k n n' : Int) (t t' : ByteArray) (h : n ≠ n') : cmpV k n t k n' t' = signB (decide (n < n')) := by
  unfold cmpV or3; rw [cmpI_self, cmpI_ne h]; simp [signB_ne0]
theorem cmpV_k (k n k' n' : Int) (t t' : ByteArray) (h : k ≠ k') : cmpV k n t k' n' t' = signB (decide (k < k')) := by
  unfold cmpV or3; rw [cmpI_ne h]; simp [signB_ne0]
end Go.Proofs.Ytemcpdpbikgfcaa
namespace Go.Proofs.Ytemcpdpbikgfcaa
open Go.RowKit
set_option linter.unusedVariables false

def cmpG (a b : GV) : Int := cmpV a.k a.n a.t b.k b.n b.t
def cmpR : List GV → List GV → Int
  | [], [] => 0
  | [], _ :: _ => -1
  | _ :: _, [] => 1
  | a :: x, b :: y => if cmpG a b = 0 then cmpR x y else cmpG a b
theorem cmpR_step {x y : List GV} {k : Nat} (h : k < x.length) (h' : k < y.length) :
    cmpR (x.drop k) (y.drop k) = if cmpG x[k] y[k] = 0 then cmpR (x.drop (k + 1)) (y.drop (k + 1)) else cmpG x[k] y[k] := by
  rw [List.drop_eq_getElem_cons h, List.drop_eq_getElem_cons h']
  rfl
theorem cmpR_nil {x y : List GV} (h : x = [] ∨ y = []) : cmpR x y = cmpI x.length y.length := by
  rcases h with rfl | rfl
  · cases y with
    | nil => simp [cmpR, cmpI]
    | cons b y => simp only [cmpR, cmpI, List.length_nil, List.length_cons]; rw [if_pos (by omega)]
  · cases x with
    | nil => simp [cmpR, cmpI]
    | cons b y => simp only [cmpR, cmpI, List.length_nil, List.length_cons]; rw [if_neg (by omega), if_pos (by omega)]
theorem cmpR_end {x y : List GV} {k : Nat} (h : k ≤ x.length) (h' : k ≤ y.length) (hk : k = x.length ∨ k = y.length) : cmpR (x.drop k) (y.drop k) = cmpI x.length y.length := by
  rw [cmpR_nil (by rcases hk with rfl | rfl; exact .inl (by simp); exact .inr (by simp))]
  simp only [List.length_drop, cmpI]
  by_cases h1 : (x.length : Int) < y.length
  · rw [if_pos (by omega), if_pos h1]
  · rw [if_neg (by omega), if_neg h1]
    by_cases h2 : (y.length : Int) < x.length
    · rw [if_pos (by omega), if_pos h2]
    · rw [if_neg (by omega), if_neg h2]
end Go.Proofs.Ytemcpdpbikgfcaa
namespace Go.Proofs.Ytemcpdpbikgfcaa
open Go.RowKit
set_option linter.unusedVariables false

def wid : List (List GV) → Nat
  | [] => 0
  | r :: _ => r.length
def goodRow (n : Nat) (r : List GV) : Bool := rowOkB r && decide (r.length = n)
def rowsOkB (rows : List (List GV)) : Bool := rows.all (goodRow (wid rows)) && decide (rows.length ≤ 3000)
def ascB : List (List GV) → Bool
  | a :: b :: rows => decide (cmpR a b < 0) && ascB (b :: rows)
  | _ => true
def tableOkB (rows : List (List GV)) : Bool := rowsOkB rows && ascB rows

theorem wid_eq {rows : List (List GV)} (h : 0 < rows.length) : wid rows = rows[0].length := by
  cases rows with
  | nil => simp at h
  | cons r rows => rfl
theorem allr_snoc (n : Nat) (r : List (List GV)) (k : Nat) (h : k < r.length) : (r.take (k + 1)).all (goodRow n) = ((r.take k).all (goodRow n) && goodRow n r[k]) := by
  rw [List.take_succ_eq_append_getElem h, List.all_append]; simp only [List.all_cons, List.all_nil, Bool.and_true]
theorem allr_bad (n : Nat) (r : List (List GV)) (k : Nat) (h : k < r.length) (hb : goodRow n r[k] = false) : r.all (goodRow n) = false := by
  rw [List.all_eq_false]; exact ⟨r[k], List.getElem_mem h, by simp [hb]⟩
theorem asc_snoc : ∀ (rows : List (List GV)) (k : Nat) (h : k + 1 < rows.length), ascB (rows.take (k + 2)) = (ascB (rows.take (k + 1)) && decide (cmpR rows[k] rows[k + 1] < 0))
  | a :: b :: rows, 0, h => by simp [ascB]
  | a :: b :: rows, k + 1, h => by
    have := asc_snoc (b :: rows) k (by simpa using h)
    simp only [List.take_succ_cons, ascB] at this ⊢
    rw [this, Bool.and_assoc]
    rfl
  | [a], k, h => by simp at h
  | [], k, h => by simp at h
theorem asc_bad : ∀ (rows : List (List GV)) (k : Nat) (h : k + 1 < rows.length), ¬ cmpR rows[k] rows[k + 1] < 0 → ascB rows = false
  | a :: b :: rows, 0, h, hb => by simp [ascB]; intro h; simp at hb; omega
  | a :: b :: rows, k + 1, h, hb => by
    have := asc_bad (b :: rows) k (by simpa using h) (by simpa using hb)
    simp only [ascB, this, Bool.and_false]
  | [a], k, h, hb => by simp at h
  | [], k, h, hb => by simp at h
theorem asc_one (rows : List (List GV)) : ascB (rows.take 1) = true := by
  cases rows <;> simp [ascB]
theorem table_bad {rows : List (List GV)} (h : rows.all (goodRow (wid rows)) = false) : tableOkB rows = false := by
  unfold tableOkB rowsOkB; rw [h]; rfl
theorem table_asc {rows : List (List GV)} (h : ascB rows = false) : tableOkB rows = false := by
  unfold tableOkB; rw [h]; simp
end Go.Proofs.Ytemcpdpbikgfcaa
