/-
  Small words for memory: what a call that changes no old block leaves alone. Small words for answers. Rows of values in memory: what a slice of the struct Value reads as, and what keeps it. What a text must be; spec.l1TextOk. spec.ValueOk. What a row must be; spec.l1RowOk.
-/
import Derived.Test.YteoepnadjkjlmaaGreatChecked
import Derived.WalkKit
import Derived.ProofKit
import Derived.Below
import Derived.Lib.Hide
namespace Go.Proofs.YteoepnadjkjlmaaGreat
open Go.RowKit

theorem bcell {W w1 : World} {B : Nat} (hb : Below B W w1) : (∀ b o, b < B → w1.cell? ⟨b, o, none⟩ = W.cell? ⟨b, o, none⟩) ∧ (∀ b o, b < B → w1.frozen? ⟨b, o, none⟩ = W.frozen? ⟨b, o, none⟩) :=
  ⟨fun b o h => hb.cell (p := ⟨b, o, none⟩) h, fun b o h => hb.frozen (p := ⟨b, o, none⟩) h⟩
theorem below_next {a b c : World} {m n : Nat} (h : Below m a b) (k : Below n b c) (hm : a.heap.size = m) (hn : b.heap.size = n) : Below m a c := by
  subst hm hn
  exact h.trans (k.mono h.size)
end Go.Proofs.YteoepnadjkjlmaaGreat
namespace Go.Proofs.YteoepnadjkjlmaaGreat
open Go.RowKit
set_option linter.unusedVariables false

theorem ret_bool {a b : Bool} (h : a = b) : Ending.returned (.bool a) = .returned (.bool b) := by rw [h]
theorem ret_int {k : IntKind} {a b : Int} (h : a = b) : Ending.returned (.int k a) = .returned (.int k b) := by rw [h]
end Go.Proofs.YteoepnadjkjlmaaGreat
namespace Go.Proofs.YteoepnadjkjlmaaGreat
open Go.RowKit
set_option linter.unusedVariables false

/-- The three fields of a value. -/
structure GV where
  k : Int
  n : Int
  t : ByteArray
def GV.fit (v : GV) : Prop := (Lit.int .i64 v.k).wf = true ∧ (Lit.int .i64 v.n).wf = true ∧ v.t.size ≤ maxLen
/-- A value's three cells. -/
def VAt (w : World) (g o : Nat) (v : GV) : Prop :=
  w.cell? ⟨g, o, none⟩ = some (.int .i64 v.k) ∧ w.cell? ⟨g, o + 1, none⟩ = some (.int .i64 v.n) ∧ w.cell? ⟨g, o + 2, none⟩ = some (.string v.t)
/-- A slice of values below block B reads as the list vs. -/
def RowAt (w : World) (B : Nat) (A : Option Addr) (vs : List GV) : Prop :=
  vs = [] ∨ ∃ g o, A = some ⟨g, o, none⟩ ∧ g < B ∧ ∀ i v, vs[i]? = some v → VAt w g (o + i * 3) v
theorem VAt.below {w w' : World} {B g o : Nat} {v : GV} (h : VAt w g o v) (hb : Below B w w') (hg : g < B) : VAt w' g o v := by
  obtain ⟨h0, h1, h2⟩ := h
  exact ⟨(hb.cell (p := ⟨g, o, none⟩) hg).trans h0, (hb.cell (p := ⟨g, o + 1, none⟩) hg).trans h1, (hb.cell (p := ⟨g, o + 2, none⟩) hg).trans h2⟩
theorem RowAt.below {w w' : World} {B B' : Nat} {A : Option Addr} {vs : List GV} (h : RowAt w B A vs) (hb : Below B' w w') (hB : B ≤ B') : RowAt w' B A vs := by
  rcases h with h | ⟨g, o, hA, hg, hc⟩
  · exact .inl h
  · exact .inr ⟨g, o, hA, hg, fun i v hv => (hc i v hv).below hb (by omega)⟩
theorem RowAt.mono {w : World} {B B' : Nat} {A : Option Addr} {vs : List GV} (h : RowAt w B A vs) (hB : B ≤ B') : RowAt w B' A vs := by
  rcases h with h | ⟨g, o, hA, hg, hc⟩
  · exact .inl h
  · exact .inr ⟨g, o, hA, by omega, hc⟩
theorem RowAt.at_ {w : World} {B : Nat} {A : Option Addr} {vs : List GV} (h : RowAt w B A vs) {i : Nat} (hi : i < vs.length) :
    ∃ g o, A = some ⟨g, o, none⟩ ∧ g < B ∧ VAt w g (o + i * 3) vs[i] := by
  rcases h with h | ⟨g, o, hA, hg, hc⟩
  · subst h; simp at hi
  · exact ⟨g, o, hA, hg, hc i _ (List.getElem?_eq_getElem hi)⟩
theorem RowAt.to_ {w w' : World} {A : Option Addr} {vs : List GV} (h : RowAt w w.heap.size A vs) (hb : Below w.heap.size w w') : RowAt w' w'.heap.size A vs := (h.below hb (Nat.le_refl _)).mono hb.size
/-- How much of its number a law's size check takes for a row. -/
def costV (vs : List GV) : Nat := (vs.map fun v => v.t.size).sum
def cost (vs : List GV) : Nat := vs.length + costV vs
def szC (c : Nat) (left : Int) : Int := if left - c < 0 then -1 else left - c
theorem len_cost (vs : List GV) : vs.length ≤ cost vs := by unfold cost; omega
theorem szC_pos {c : Nat} {left : Int} (h : 0 ≤ szC c left) : (c : Int) ≤ left ∧ szC c left ≤ left := by
  unfold szC at h ⊢
  by_cases h1 : left - c < 0
  · rw [if_pos h1] at h; omega
  · rw [if_neg h1]; omega
theorem costV_take (vs : List GV) (i : Nat) (h : i < vs.length) : costV (vs.take (i + 1)) = costV (vs.take i) + vs[i].t.size := by
  unfold costV
  rw [List.take_succ_eq_append_getElem h, List.map_append, List.sum_append]
  simp only [List.map_cons, List.map_nil, List.sum_cons, List.sum_nil, Nat.add_zero]
theorem costV_take_le (vs : List GV) (i : Nat) : costV (vs.take i) ≤ costV vs := by
  unfold costV
  conv => rhs; rw [← List.take_append_drop i vs]
  rw [List.map_append, List.sum_append]
  omega
end Go.Proofs.YteoepnadjkjlmaaGreat
namespace Go.Proofs.YteoepnadjkjlmaaGreat
open Go.RowKit
set_option linter.unusedVariables false

def goodByte (c : UInt8) : Bool := decide (32 ≤ (c.toNat : Int)) && decide ((c.toNat : Int) ≤ 126)
def goodBytes (l : List UInt8) : Bool := l.all goodByte
def textOkB (t : ByteArray) : Bool := goodBytes t.data.toList && decide (t.size ≤ 60)

theorem take_snoc (s : ByteArray) (k : Nat) (h : k < s.size) : s.data.toList.take (k + 1) = s.data.toList.take k ++ [s[k]] := by
  rw [List.take_succ_eq_append_getElem (by simpa using h)]; rfl
theorem good_snoc (l : List UInt8) (c : UInt8) : goodBytes (l ++ [c]) = (goodBytes l && goodByte c) := by
  simp [goodBytes]
theorem good_of_take (s : ByteArray) (k : Nat) (h : k < s.size) (hg : goodByte s[k] = false) : goodBytes s.data.toList = false := by
  unfold goodBytes
  rw [List.all_eq_false]
  exact ⟨s[k], by simp [ByteArray.getElem_eq_getElem_data], by simp [hg]⟩

set_option maxHeartbeats 400000 in
theorem spec_text (s : ByteArray) (w : World) (hs : s.size ≤ maxLen) :
    Calls Tryz.prog 93 #[.string s] w fun e w' => e = .returned (.bool (textOkB s)) ∧ w = w' := by
  unfold maxLen at hs
  go_enter Tryz.func93, Tryz.ntmps93
  go_wp2
  go_loop [3] (fun i => ∃ k : Nat, k ≤ s.size ∧ i = .int .i64 k ∧ goodBytes (s.data.toList.take k) = true) (fun i => s.size - (intOf i).toNat)
  case atStart => exact ⟨0, Nat.zero_le _, rfl, rfl⟩
  case round =>
    obtain ⟨k, hk, rfl, hgood⟩ := hrel
    have HG := Lib.hid hgood
    clear hgood
    by_cases hlt : k < s.size
    · have hsn := good_snoc (s.data.toList.take k) s[k]
      have hts := take_snoc s k hlt
      rw [← hts] at hsn
      have HS := Lib.hid hsn
      clear hsn hts
      by_cases h1 : (s[k].toNat : Int) < 32
      · have hb : goodByte s[k] = false := by simp [goodByte]; omega
        have HB := Lib.hid (good_of_take s k hlt hb)
        clear hb
        go_wp2
        go_ret
        exact ⟨ret_bool (by unfold textOkB; rw [HB.out]; rfl), rfl⟩
      · by_cases h2 : (126 : Int) < s[k].toNat
        · have hb : goodByte s[k] = false := by simp [goodByte]; omega
          have HB := Lib.hid (good_of_take s k hlt hb)
          clear hb
          go_wp2
          go_ret
          exact ⟨ret_bool (by unfold textOkB; rw [HB.out]; rfl), rfl⟩
        · have HB := Lib.hid (show goodByte s[k] = true by simp [goodByte]; omega)
          go_wp2
          go_round
          case rel => exact ⟨k + 1, by omega, by go_num, by rw [HS.out, HG.out, HB.out]; rfl⟩
          case measure => simp [intOf]; omega
    · go_wp2
      go_ret
      refine ⟨ret_bool ?_, rfl⟩
      have h := HG.out
      rw [List.take_of_length_le (by simp; omega)] at h
      unfold textOkB
      rw [h]
      simp
      omega
end Go.Proofs.YteoepnadjkjlmaaGreat
namespace Go.Proofs.YteoepnadjkjlmaaGreat
open Go.RowKit
set_option linter.unusedVariables false

def valueOkB (k n : Int) (t : ByteArray) : Bool :=
  if k = 1 then decide (-1000000000 ≤ n) && decide (n ≤ 1000000000) && t.toList.isEmpty
  else if k = 2 then decide (n = 0) && textOkB t
  else if k = 3 then decide (1 ≤ n) && decide (n ≤ 1000000000) && t.toList.isEmpty
  else false

set_option maxHeartbeats 400000 in
theorem spec_value (k n : Int) (t : ByteArray) (w : World) (ht : t.size ≤ maxLen) :
    Calls Tryz.prog 82 #[.agg #[.int .i64 k, .int .i64 n, .string t]] w fun e w' => e = .returned (.bool (valueOkB k n t)) ∧ Below w.heap.size w w' := by
  go_enter Tryz.func82, Tryz.ntmps82
  go_wp2_with (go_at_call 93; refine (spec_text _ _ ht).mono ?_; rintro e w' ⟨rfl, rfl⟩)
  all_goals go_ret
  all_goals refine ⟨ret_bool ?_, (Below.refl _ _).alloc (Nat.le_refl _) _⟩
  all_goals simp_all [valueOkB]
  all_goals omega
end Go.Proofs.YteoepnadjkjlmaaGreat
namespace Go.Proofs.YteoepnadjkjlmaaGreat
open Go.RowKit
set_option linter.unusedVariables false

def okG (v : GV) : Bool := valueOkB v.k v.n v.t
def rowOkB (r : List GV) : Bool := r.all okG && decide (r.length ≤ 8)
theorem all_take_snoc (r : List GV) (k : Nat) (h : k < r.length) : (r.take (k + 1)).all okG = ((r.take k).all okG && okG r[k]) := by
  rw [List.take_succ_eq_append_getElem h, List.all_append]; simp only [List.all_cons, List.all_nil, Bool.and_true]
theorem all_bad (r : List GV) (k : Nat) (h : k < r.length) (hb : okG r[k] = false) : r.all okG = false := by
  rw [List.all_eq_false]; exact ⟨r[k], List.getElem_mem h, by simp [hb]⟩

set_option maxHeartbeats 800000 in
theorem spec_row (A : Option Addr) (c : Nat) (r : List GV) (w : World) (hr : RowAt w w.heap.size A r) (hl : r.length ≤ 1048576) (hv : ∀ v ∈ r, v.t.size ≤ maxLen) :
    Calls Tryz.prog 66 #[.slice A r.length c] w fun e w' => e = .returned (.bool (rowOkB r)) ∧ Below w.heap.size w w' := by
  go_enter Tryz.func66, Tryz.ntmps66
  go_wp2
  go_loopw [3] (fun i w' => ∃ k : Nat, k ≤ r.length ∧ i = .int .i64 k ∧ Hid ((r.take k).all okG = true) ∧ Below w.heap.size w w') (fun i _ => r.length - (intOf i).toNat)
  case atStart => exact ⟨0, Nat.zero_le _, rfl, Lib.hid rfl, Below.refl _ _⟩
  case round =>
    obtain ⟨k, hk, rfl, hal, hB⟩ := hrel
    by_cases hlt : k < r.length
    · obtain ⟨g, o, rfl, hg, c0, c1, c2⟩ := (hr.to_ hB).at_ hlt
      have hm := hv _ (List.getElem_mem hlt)
      have hsn := Lib.hid (all_take_snoc r k hlt)
      go_wp2_with fail
      refine (spec_value _ _ _ _ hm).mono ?_
      rintro e w2 ⟨rfl, hb2⟩
      have hB2 := below_next hB hb2 rfl rfl
      clear c0 c1 c2
      by_cases hok : okG r[k] = true
      · have hb : valueOkB r[k].k r[k].n r[k].t = true := hok
        have H := Lib.hid (show (r.take (k + 1)).all okG = true by rw [hsn.out, hal.out, hok]; rfl)
        clear hok
        go_wp2_with fail
        go_roundw
        case rel => exact ⟨k + 1, by omega, by go_num, H, hB2⟩
        case measure => simp [intOf]; omega
      · have hb : valueOkB r[k].k r[k].n r[k].t = false := by rw [Bool.not_eq_true] at hok; exact hok
        have H := Lib.hid (show rowOkB r = false by unfold rowOkB; rw [all_bad r k hlt hb]; rfl)
        clear hok
        go_wp2_with fail
        go_ret
        exact ⟨ret_bool (by rw [H.out]), hB2⟩
    · have H := Lib.hid (show rowOkB r = decide (r.length ≤ 8) by
        have h := hal.out
        rw [List.take_of_length_le (by omega)] at h
        unfold rowOkB; rw [h]; rfl)
      go_wp2_with fail
      go_ret
      exact ⟨ret_bool (by rw [H.out]; simp; omega), hB⟩
theorem spec_row_is (b : Bool) (A : Option Addr) (c : Nat) (r : List GV) (w : World) (hb : rowOkB r = b) (hr : RowAt w w.heap.size A r) (hl : r.length ≤ 1048576) (hv : ∀ v ∈ r, v.t.size ≤ maxLen) :
    Calls Tryz.prog 66 #[.slice A r.length c] w fun e w' => e = .returned (.bool b) ∧ Below w.heap.size w w' := by
  subst hb; exact spec_row A c r w hr hl hv
end Go.Proofs.YteoepnadjkjlmaaGreat
