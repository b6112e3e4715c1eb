/-
  The cursor of the draws: spec.l1New, spec.l1Byte, spec.l1Below, spec.l1Once. Slices of values that a call made itself; a struct's three cells.
-/
import Derived.Test.YtemcpdpbikgfcaaMakeZ
import Derived.Test.YtemcpdpbikgfcaaMemBZ
import Derived.Laws.Bits64b
import Derived.Deep.QuietTactic
import Derived.BigQuiet
import Derived.Lib.QuietBelow
import Derived.Laws.AppendOwn
namespace Go.Proofs.Ytemcpdpbikgfcaa
open Go.RowKit Go.Sort
set_option linter.unusedVariables false

/-- A slice of bytes below block B reads as the list xs. -/
def BAt (w : World) (B : Nat) (A : Option Addr) (xs : List UInt8) : Prop :=
  xs = [] ∨ ∃ g o, A = some ⟨g, o, none⟩ ∧ g < B ∧ ∀ i c, xs[i]? = some c → w.cell? ⟨g, o + i, none⟩ = some (.int .u8 (c.toNat : Int))
theorem BAt.below {w w' : World} {B B' : Nat} {A : Option Addr} {xs : List UInt8} (h : BAt w B A xs) (hb : Below B' w w') (hB : B ≤ B') : BAt w' B A xs := by
  rcases h with h | ⟨g, o, hA, hg, hc⟩
  · exact .inl h
  · exact .inr ⟨g, o, hA, hg, fun i c hi => (hb.cell (p := ⟨g, o + i, none⟩) (by show g < B'; omega)).trans (hc i c hi)⟩
theorem BAt.at_ {w : World} {B : Nat} {A : Option Addr} {xs : List UInt8} (h : BAt w B A xs) {i : Nat} (hi : i < xs.length) :
    ∃ g o, A = some ⟨g, o, none⟩ ∧ g < B ∧ w.cell? ⟨g, o + i, none⟩ = some (.int .u8 (xs[i].toNat : Int)) := by
  rcases h with rfl | ⟨g, o, hA, hg, hc⟩
  · simp at hi
  · exact ⟨g, o, hA, hg, hc i _ (List.getElem?_eq_getElem hi)⟩
/-- The block g is a cursor over the bytes xs. -/
def Cur (w : World) (g : Nat) (A : Option Addr) (c : Nat) (xs : List UInt8) : Prop := ∃ (i : Nat) (h : Int), i ≤ xs.length ∧ Whole w g 109 [.slice A xs.length c, .int .i64 i, .int .i64 h]
theorem and_range (x : Int) (m : Nat) (hm : m < 9223372036854775808) : 0 ≤ bits .and .i64 x (m : Int) ∧ bits .and .i64 x (m : Int) ≤ m := by
  have h2 : (BitVec.ofInt 64 (m : Int)).toNat = m := by
    rw [BitVec.ofInt_natCast, BitVec.toNat_ofNat]; exact Nat.mod_eq_of_lt (by omega)
  have e : bits .and .i64 x (m : Int) = IntKind.i64.wrap (((BitVec.ofInt 64 x &&& BitVec.ofInt 64 (m : Int)).toNat : Nat) : Int) := rfl
  rw [e, BitVec.toNat_and, h2, IntKind.wrap_i64]
  have := Nat.and_le_right (n := (BitVec.ofInt 64 x).toNat) (m := m)
  omega

set_option maxRecDepth 100000 in
set_option maxHeartbeats 800000 in
theorem l1_new (A : Option Addr) (c : Nat) (xs : List UInt8) (w : World) (hx : BAt w w.heap.size A xs) (hl : xs.length ≤ 1048576) :
    Calls Try.prog 70 #[.slice A xs.length c] w fun e w' => e = .returned (.pointer (some ⟨w.heap.size, 0, none⟩)) ∧ Cur w' w.heap.size A c xs ∧ Below w.heap.size w w' := by
  go_enter Try.func70, Try.ntmps70
  go_wp2_with fail
  go_loopw [3, 4] (fun h i w' => ∃ (k : Nat) (z : Int), k ≤ xs.length ∧ i = .int .i64 k ∧ h = .int .i64 z ∧ 0 ≤ z ∧ z ≤ 1073741823 ∧ w = w') (fun _ i _ => xs.length - (intOf i).toNat)
  case atStart => exact ⟨0, 70001 + xs.length, Nat.zero_le _, rfl, rfl, by omega, by omega, rfl⟩
  case round =>
    obtain ⟨k, z, hk, rfl, rfl, hz0, hz1, rfl⟩ := hrel
    by_cases hlt : k < xs.length
    · obtain ⟨g, o, rfl, hg, c0⟩ := hx.at_ hlt
      have hi0 : (0 : Int) ≤ (k : Int) := by omega
      have hi1 : (k : Int) < (xs.length : Int) := by omega
      go_wp2_with fail
      go_roundw
      case rel => exact ⟨k + 1, _, by omega, by go_num, rfl, (and_range _ 1073741823 (by decide)).1, (and_range _ 1073741823 (by decide)).2, trivial⟩
      case measure => simp [intOf]; omega
    · go_wp2_with fail
      go_ret
      exact ⟨rfl, ⟨0, z, Nat.zero_le _, Whole.new w _ [.slice A xs.length c, .int .i64 0, .int .i64 z]⟩, (Below.refl _ _).alloc (Nat.le_refl _) _⟩

set_option maxRecDepth 100000 in
set_option maxHeartbeats 800000 in
theorem l1_byte (g : Nat) (A : Option Addr) (c : Nat) (xs : List UInt8) (w : World) (hC : Cur w g A c xs) (hx : BAt w g A xs) (hl : xs.length ≤ 1048576) :
    Calls Try.prog 106 #[.pointer (some ⟨g, 0, none⟩)] w fun e w' => ∃ x : Int, e = .returned (.int .i64 x) ∧ 0 ≤ x ∧ x ≤ 255 ∧ Cur w' g A c xs ∧ w.grownBy w' (some g) := by
  obtain ⟨i, h, hi, hW⟩ := hC
  have c0 := hW.cell 0
  have c1 := hW.cell 1
  have c2 := hW.cell 2
  have f0 := hW.frozen 0
  have f1 := hW.frozen 1
  have f2 := hW.frozen 2
  simp at c0 c1 c2
  have HW := Lib.hid hW
  clear hW
  go_enter Try.func106, Try.ntmps106
  go_wp2_with fail
  generalize hh : wrap64 (wrap64 (h * 6364136223846793005) + 1442695040888963407) = h1
  have hW1 : Whole (w.setCell ⟨g, 2, none⟩ (.int .i64 h1)) g 109 [.slice A xs.length c, .int .i64 i, .int .i64 h1] := HW.out.set_ 2 (.int .i64 h1)
  have hG1 : w.grownBy (w.setCell ⟨g, 2, none⟩ (.int .i64 h1)) (some g) := ⟨rfl, rfl, rfl, by simp [World.setCell], fun k hk hne => Below.heap_setCell _ _ _ _ (by intro e; exact hne (by rw [e]))⟩
  have hx1 : BAt (w.setCell ⟨g, 2, none⟩ (.int .i64 h1)) g A xs := hx.below (B' := g) ((Below.refl _ _).setCell (p := ⟨g, 2, none⟩) (Nat.le_refl _) _) (Nat.le_refl _)
  clear c0 c1 c2 f0 f1 f2 hh
  generalize w.setCell ⟨g, 2, none⟩ (.int .i64 h1) = w1 at hW1 hG1 hx1 ⊢
  have c0 := hW1.cell 0
  have c1 := hW1.cell 1
  have c2 := hW1.cell 2
  have f0 := hW1.frozen 0
  have f1 := hW1.frozen 1
  have f2 := hW1.frozen 2
  simp at c0 c1 c2
  have HW1 := Lib.hid hW1
  clear hW1
  go_quiet (fail)
  go_wp2_with fail
  have hW2 : Whole (w1.drewN nq) g 109 [.slice A xs.length c, .int .i64 i, .int .i64 h1] := HW1.out
  have hG2 : w.grownBy (w1.drewN nq) (some g) := ⟨hG1.os, hG1.tape, hG1.output, hG1.size, hG1.block⟩
  have hx2 : BAt (w1.drewN nq) g A xs := hx1
  generalize w1.drewN nq = w2 at hW2 hG2 hx2 ⊢
  clear c0 c1 c2 f0 f1 f2
  have c0 := hW2.cell 0
  have c1 := hW2.cell 1
  have c2 := hW2.cell 2
  have f0 := hW2.frozen 0
  have f1 := hW2.frozen 1
  have f2 := hW2.frozen 2
  simp at c0 c1 c2
  have HW2 := Lib.hid hW2
  clear hW2
  have hxr := and_range (bits .xor .i64 (h1 / 8589934592) (h1 / 35184372088832)) 255 (by decide)
  have HX := Lib.hid hxr
  simp only [Int.cast_ofNat_Int] at HX
  clear hxr
  generalize bits .and .i64 (bits .xor .i64 (h1 / 8589934592) (h1 / 35184372088832)) 255 = x at HX ⊢
  obtain ⟨hx0, hx255⟩ := HX.out
  by_cases hlt : i < xs.length
  · obtain ⟨gb, ob, rfl, hgb, cb⟩ := hx2.at_ hlt
    have hi0 : (0 : Int) ≤ (i : Int) := by omega
    have hi1 : (i : Int) < (xs.length : Int) := by omega
    have hbyte : (xs[i].toNat : Int) ≤ 255 := by have := xs[i].toNat_lt; omega
    go_quiet (fail)
    go_wp2_with fail
    have hW3 : Whole (w2.drewN nq) g 109 [.slice (some ⟨gb, ob, none⟩) xs.length c, .int .i64 i, .int .i64 h1] := HW2.out
    have hG3 : w.grownBy (w2.drewN nq) (some g) := ⟨hG2.os, hG2.tape, hG2.output, hG2.size, hG2.block⟩
    have hcb3 : (w2.drewN nq).cell? ⟨gb, ob + i, none⟩ = some (.int .u8 (xs[i].toNat : Int)) := cb
    generalize w2.drewN nq = w3 at hW3 hG3 hcb3 ⊢
    clear c0 c1 c2 f0 f1 f2
    have c0 := hW3.cell 0
    have c1 := hW3.cell 1
    have c2 := hW3.cell 2
    have f0 := hW3.frozen 0
    have f1 := hW3.frozen 1
    have f2 := hW3.frozen 2
    simp at c0 c1 c2
    have HW3 := Lib.hid hW3
    clear hW3
    go_quiet (fail)
    go_wp2_with fail
    go_ret
    have hW4 : Whole ((w3.drewN nq).setCell ⟨g, 1, none⟩ (.int .i64 ((i : Int) + 1))) g 109 [.slice (some ⟨gb, ob, none⟩) xs.length c, .int .i64 ((i : Int) + 1), .int .i64 h1] := HW3.out.set_ 1 (.int .i64 ((i : Int) + 1))
    refine ⟨_, rfl, (and_range _ 255 (by decide)).1, (and_range _ 255 (by decide)).2, ⟨i + 1, h1, hlt, hW4⟩, ⟨hG3.os, hG3.tape, hG3.output, by simpa [World.setCell] using hG3.size, fun k hk hne => ?_⟩⟩
    rw [Below.heap_setCell _ _ _ _ (by intro e; exact hne (by rw [e]))]
    exact hG3.block k hk hne
  · have hi1 : ¬ (i : Int) < (xs.length : Int) := by omega
    go_quiet (fail)
    go_wp2_with fail
    go_ret
    exact ⟨x, rfl, by omega, by omega, ⟨i, h1, hi, HW2.out⟩, ⟨hG2.os, hG2.tape, hG2.output, hG2.size, hG2.block⟩⟩

theorem Cur.lt {w : World} {g : Nat} {A : Option Addr} {c : Nat} {xs : List UInt8} (h : Cur w g A c xs) : g < w.heap.size := by
  obtain ⟨i, h, hi, hW⟩ := h; exact hW.lt
theorem BAt.grown {w w' : World} {g : Nat} {A : Option Addr} {xs : List UInt8} (h : BAt w g A xs) (hg : w.grownBy w' (some g)) (hl : g < w.heap.size) : BAt w' g A xs := by
  rcases h with h | ⟨gb, o, hA, hgb, hc⟩
  · exact .inl h
  · refine .inr ⟨gb, o, hA, hgb, fun i c hi => ?_⟩
    rw [World.cell?_of_block (hg.block gb (by omega) (fun e => by injection e; omega))]
    exact hc i c hi
theorem grown_to {w w1 w2 : World} {b : Nat} (h : w.grownBy w1 (some b)) (k : w1.grownBy w2 (some b)) : w.grownBy w2 (some b) :=
  ⟨k.os.trans h.os, k.tape.trans h.tape, k.output.trans h.output, Nat.le_trans h.size k.size, fun i hi hne => (k.block i (Nat.lt_of_lt_of_le hi h.size) hne).trans (h.block i hi hne)⟩
/-- What a draw leaves: the cursor moves, else nothing of old changes. -/
def Drawn (w w' : World) (g : Nat) (A : Option Addr) (c : Nat) (xs : List UInt8) : Prop := Cur w' g A c xs ∧ BAt w' g A xs ∧ w.grownBy w' (some g)
theorem byte_drawn (g : Nat) (A : Option Addr) (c : Nat) (xs : List UInt8) (w : World) (hC : Cur w g A c xs) (hx : BAt w g A xs) (hl : xs.length ≤ 1048576) :
    Calls Try.prog 106 #[.pointer (some ⟨g, 0, none⟩)] w fun e w' => ∃ x : Int, e = .returned (.int .i64 x) ∧ 0 ≤ x ∧ x ≤ 255 ∧ Drawn w w' g A c xs :=
  (l1_byte g A c xs w hC hx hl).mono fun e w' ⟨x, h1, h2, h3, h4, h5⟩ => ⟨x, h1, h2, h3, h4, hx.grown h5 hC.lt, h5⟩

set_option maxRecDepth 100000 in
set_option maxHeartbeats 800000 in
theorem l1_below (g : Nat) (A : Option Addr) (c : Nat) (xs : List UInt8) (n : Nat) (w : World) (hC : Cur w g A c xs) (hx : BAt w g A xs) (hl : xs.length ≤ 1048576) (hn : 0 < n) (hn2 : n ≤ 1048577) :
    Calls Try.prog 93 #[.pointer (some ⟨g, 0, none⟩), .int .i64 n] w fun e w' => ∃ x : Nat, e = .returned (.int .i64 x) ∧ x < n ∧ Drawn w w' g A c xs := by
  have hn0 : ¬ (n : Int) ≤ 0 := by omega
  by_cases h256 : n ≤ 256
  · have hni : (n : Int) ≤ 256 := by omega
    go_enter Try.func93, Try.ntmps93
    go_wp2_with fail
    refine (byte_drawn g A c xs _ hC hx hl).mono ?_
    rintro e w1 ⟨x, rfl, hx0, hx1, hD⟩
    obtain ⟨m, rfl⟩ := Int.eq_ofNat_of_zero_le hx0
    go_wp2_with fail
    go_ret
    exact ⟨m % n, by simp, Nat.mod_lt _ hn, hD⟩
  · have hni : ¬ (n : Int) ≤ 256 := by omega
    go_enter Try.func93, Try.ntmps93
    go_wp2_with fail
    refine (byte_drawn g A c xs _ hC hx hl).mono ?_
    rintro e w1 ⟨x1, rfl, hx10, hx11, hD1⟩
    go_wp2_with fail
    refine (byte_drawn g A c xs _ hD1.1 hD1.2.1 hl).mono ?_
    rintro e w2 ⟨x2, rfl, hx20, hx21, hD2⟩
    go_wp2_with fail
    refine (byte_drawn g A c xs _ hD2.1 hD2.2.1 hl).mono ?_
    rintro e w3 ⟨x3, rfl, hx30, hx31, hD3⟩
    go_wp2_with fail
    refine (byte_drawn g A c xs _ hD3.1 hD3.2.1 hl).mono ?_
    rintro e w4 ⟨x4, rfl, hx40, hx41, hD4⟩
    obtain ⟨m1, rfl⟩ := Int.eq_ofNat_of_zero_le hx10
    obtain ⟨m2, rfl⟩ := Int.eq_ofNat_of_zero_le hx20
    obtain ⟨m3, rfl⟩ := Int.eq_ofNat_of_zero_le hx30
    obtain ⟨m4, rfl⟩ := Int.eq_ofNat_of_zero_le hx40
    go_wp2_with fail
    go_ret
    exact ⟨(m1 * 16777216 + m2 * 65536 + m3 * 256 + m4) % n, by simp, Nat.mod_lt _ hn, hD4.1, hD4.2.1, grown_to hD1.2.2 (grown_to hD2.2.2 (grown_to hD3.2.2 hD4.2.2))⟩
set_option maxHeartbeats 400000 in
theorem l1_once (g : Nat) (A : Option Addr) (c : Nat) (xs : List UInt8) (n : Nat) (w : World) (hC : Cur w g A c xs) (hx : BAt w g A xs) (hl : xs.length ≤ 1048576) (hn : 0 < n) (hn2 : n ≤ 1048577) :
    Calls Try.prog 95 #[.pointer (some ⟨g, 0, none⟩), .int .i64 n] w fun e w' => ∃ b : Bool, e = .returned (.bool b) ∧ Drawn w w' g A c xs := by
  go_enter Try.func95, Try.ntmps95
  go_wp2_with fail
  refine (l1_below g A c xs n _ hC hx hl hn hn2).mono ?_
  rintro e w1 ⟨x, rfl, hx1, hD⟩
  go_wp2_with fail
  go_ret
  exact ⟨_, rfl, hD⟩
end Go.Proofs.Ytemcpdpbikgfcaa
namespace Go.Proofs.Ytemcpdpbikgfcaa
open Go.RowKit
set_option linter.unusedVariables false

/-- A slice of values of the call's own, from block B on, that holds r. -/
def VRow (B : Nat) (w : World) (v : Value) (r : List GV) : Prop := w.ownsRow B 52 3 v r.length (flat r)
theorem VRow.row {B : Nat} {w : World} {v : Value} {r : List GV} (h : VRow B w v r) : ∃ A c, v = .slice A r.length c ∧ RowAt w w.heap.size A r := by
  rcases h.2 with ⟨rfl, h0⟩ | ⟨g, cap, cur, rfl, hg, hh, hc1, hc2, hc3, hc4⟩
  · exact ⟨none, 0, by rw [h0], .inl (List.eq_nil_of_length_eq_zero h0)⟩
  · refine ⟨_, cap, rfl, .inr ⟨g, 0, rfl, ?_, fun i v hv => ?_⟩⟩
    · rcases Nat.lt_or_ge g w.heap.size with h' | h'
      · exact h'
      · rw [Array.getElem?_eq_none h'] at hh; cases hh
    · obtain ⟨f0, f1, f2⟩ := flat_at r i v hv
      have hi : i < r.length := (List.getElem?_eq_some_iff.1 hv).1
      have key : ∀ j, j < r.length * 3 → w.cell? ⟨g, j, none⟩ = (flat r)[j]? := fun j hj => by
        have h1 : w.cell? ⟨g, j, none⟩ = cur.toList[j]? := by simp [World.cell?, hh]
        rw [h1, ← hc4, List.getElem?_take_of_lt hj]
      rw [Nat.zero_add]
      exact ⟨(key _ (by omega)).trans f0, (key _ (by omega)).trans f1, (key _ (by omega)).trans f2⟩
theorem VRow.below {B : Nat} {w w' : World} {v : Value} {r : List GV} (h : VRow B w v r) (hb : Below w.heap.size w w') : VRow B w' v r := by
  refine ⟨h.1, ?_⟩
  rcases h.2 with h' | ⟨g, cap, cur, e, hg, hh, hr⟩
  · exact .inl h'
  · refine .inr ⟨g, cap, cur, e, hg, ?_, hr⟩
    have : g < w.heap.size := by
      rcases Nat.lt_or_ge g w.heap.size with h' | h'
      · exact h'
      · rw [Array.getElem?_eq_none h'] at hh; cases hh
    rw [hb.block g this]; exact hh
theorem VRow.mono {B B' : Nat} {w : World} {v : Value} {r : List GV} (h : VRow B w v r) (hB : B' ≤ B) : VRow B' w v r := by
  refine ⟨h.1, ?_⟩
  rcases h.2 with h' | ⟨g, cap, cur, e, hg, hr⟩
  · exact .inl h'
  · exact .inr ⟨g, cap, cur, e, by omega, hr⟩
theorem vrow_app {B : Nat} {w2 : World} {v2 : Value} {r : List GV} {v : GV} (h : w2.ownsRow B 52 3 v2 (r.length + 1) (flat r ++ [.int .i64 v.k, .int .i64 v.n, .string v.t])) : VRow B w2 v2 (r ++ [v]) := by
  unfold VRow
  rw [flat_append, List.length_append]
  exact h
theorem news_three (w : World) (a b c : Value) (t : TypeId) : ∀ j u, [a, b, c][j]? = some u → (w.alloc (.cells #[a, b, c] t)).cell? ((⟨w.heap.size, 0, none⟩ : Addr).add j) = some u := by
  intro j u hj
  match j, hj with
  | 0, hj => simp at hj; subst hj; simp [Addr.add]
  | 1, hj => simp at hj; subst hj; simp [Addr.add]
  | 2, hj => simp at hj; subst hj; simp [Addr.add]
theorem one_three (k n : Int) (t : ByteArray) : ∀ u ∈ [Value.int .i64 k, .int .i64 n, .string t], u.oneCell' = true := by
  intro u hu; simp at hu; rcases hu with rfl | rfl | rfl <;> rfl
theorem vrow_nil (B : Nat) (w : World) : VRow B w (.slice none 0 0) [] := ⟨rfl, .inl ⟨rfl, rfl⟩⟩
theorem vrow_new (w : World) : VRow w.heap.size (w.alloc (.cells #[] 52)) (.slice (some ⟨w.heap.size, 0, none⟩) 0 0) [] :=
  ⟨rfl, .inr ⟨w.heap.size, 0, #[], rfl, Nat.le_refl _, heap_alloc_new w _, Nat.le_refl _, by unfold maxLen; omega, rfl, rfl⟩⟩
theorem put3 {w : World} {g : Nat} {t : TypeId} {a b c : Value} (x y z : Value) (h : Whole w g t [a, b, c]) :
    Whole (((w.setCell ⟨g, 0, none⟩ x).setCell ⟨g, 1, none⟩ y).setCell ⟨g, 2, none⟩ z) g t [x, y, z] := ((h.set_ 0 x).set_ 1 y).set_ 2 z
theorem below3 {B g : Nat} {a w : World} (x y z : Value) (h : Below B a w) (hg : B ≤ g) : Below B a (((w.setCell ⟨g, 0, none⟩ x).setCell ⟨g, 1, none⟩ y).setCell ⟨g, 2, none⟩ z) :=
  ((h.setCell hg x).setCell hg y).setCell hg z
theorem cells3_ {w : World} {g : Nat} {t : TypeId} {x y z : Value} (h : Whole w g t [x, y, z]) : w.cell? ⟨g, 0, none⟩ = some x ∧ w.cell? ⟨g, 1, none⟩ = some y ∧ w.cell? ⟨g, 2, none⟩ = some z :=
  ⟨h.cell 0, h.cell 1, h.cell 2⟩
def VV (v : GV) : Value := .agg #[.int .i64 v.k, .int .i64 v.n, .string v.t]
def zeroV : List Value := [.int .i64 0, .int .i64 0, .string ByteArray.empty]
theorem new3 (w : World) : Whole (w.alloc (.cells #[.int .i64 0, .int .i64 0, .string ⟨#[]⟩] 52)) w.heap.size 52 zeroV := Whole.new w _ _
theorem own_ge {w : World} {base : Nat} {e : TypeId} {size n : Nat} {v : Value} {xs : List Value} (h : w.ownsRow base e size v n xs) : ∀ k, v.ownBlock = some k → base ≤ k := by
  intro k hk
  rcases h.2 with ⟨rfl, _⟩ | ⟨g, cap, cur, rfl, hg, _⟩
  · simp [Value.ownBlock] at hk
  · simp [Value.ownBlock] at hk; omega
theorem grown_next {w w1 w2 : World} {b : Nat} (h : w.grownBy w1 (some b)) (k : w1.grownBy w2 (some b)) : w.grownBy w2 (some b) :=
  ⟨k.os.trans h.os, k.tape.trans h.tape, k.output.trans h.output, Nat.le_trans h.size k.size, fun i hi hne => (k.block i (Nat.lt_of_lt_of_le hi h.size) hne).trans (h.block i hi hne)⟩
theorem grown_below {w w' : World} {b : Option Nat} (h : Below w.heap.size w w') : w.grownBy w' b := ⟨h.os, h.tape, h.output, h.size, fun k hk _ => h.block k hk⟩
theorem grown_set {w w1 : World} {g i : Nat} {u : Value} (h : w.grownBy w1 (some g)) : w.grownBy (w1.setCell ⟨g, i, none⟩ u) (some g) :=
  ⟨h.os, h.tape, h.output, by simpa [World.setCell] using h.size, fun k hk hne => by
    rw [Below.heap_setCell _ _ _ _ (by intro e; exact hne (by rw [e]))]; exact h.block k hk hne⟩
theorem grown_refl (w : World) (g : Nat) : w.grownBy w (some g) := ⟨rfl, rfl, rfl, Nat.le_refl _, fun _ _ _ => rfl⟩
theorem flat_one (r : List GV) : ∀ u ∈ flat r, u.oneCell' = true := by
  induction r with
  | nil => intro u hu; simp [flat] at hu
  | cons v r ih => intro u hu; simp [flat] at hu; rcases hu with rfl | rfl | rfl | h; rfl; rfl; rfl; exact ih u h
theorem Whole.far {w : World} {g g' i : Nat} {t : TypeId} {l : List Value} {u : Value} (h : Whole w g t l) (hne : g ≠ g') : Whole (w.setCell ⟨g', i, none⟩ u) g t l := by
  unfold Whole at h ⊢; rw [Below.heap_setCell _ _ _ _ hne]; exact h
theorem frozen3 {w : World} {g : Nat} {t : TypeId} {x y z : Value} (h : Whole w g t [x, y, z]) : w.frozen? ⟨g, 0, none⟩ = false ∧ w.frozen? ⟨g, 1, none⟩ = false ∧ w.frozen? ⟨g, 2, none⟩ = false :=
  ⟨h.frozen 0, h.frozen 1, h.frozen 2⟩
theorem infoU8 : (Try.prog.info? 5).map (fun i => (i.zero, i.size, i.bytes)) = some (some (.int .u8 0), 1, 1) := by kernel_rfl
theorem flat_get : ∀ (vs : List GV) (j : Nat) (u : Value), (flat vs)[j]? = some u → ∃ i v, vs[i]? = some v ∧ ((j = i * 3 ∧ u = .int .i64 v.k) ∨ (j = i * 3 + 1 ∧ u = .int .i64 v.n) ∨ (j = i * 3 + 2 ∧ u = .string v.t))
  | [], j, u, h => by simp [flat] at h
  | x :: vs, 0, u, h => by simp [flat] at h; exact ⟨0, x, rfl, .inl ⟨rfl, h.symm⟩⟩
  | x :: vs, 1, u, h => by simp [flat] at h; exact ⟨0, x, rfl, .inr (.inl ⟨rfl, h.symm⟩)⟩
  | x :: vs, 2, u, h => by simp [flat] at h; exact ⟨0, x, rfl, .inr (.inr ⟨rfl, h.symm⟩)⟩
  | x :: vs, j + 3, u, h => by
    obtain ⟨i, v, hv, h'⟩ := flat_get vs j u (by simpa [flat] using h)
    refine ⟨i + 1, v, by simpa using hv, ?_⟩
    rcases h' with ⟨rfl, e⟩ | ⟨rfl, e⟩ | ⟨rfl, e⟩
    · exact .inl ⟨by omega, e⟩
    · exact .inr (.inl ⟨by omega, e⟩)
    · exact .inr (.inr ⟨by omega, e⟩)
end Go.Proofs.Ytemcpdpbikgfcaa
