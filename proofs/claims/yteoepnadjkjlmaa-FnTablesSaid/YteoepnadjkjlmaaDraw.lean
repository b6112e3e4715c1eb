/-
  The cursor of the draws: spec.l1New, spec.l1Byte, spec.l1Below, spec.l1Once.
-/
import Derived.Test.YteoepnadjkjlmaaMake
import Derived.Test.YteoepnadjkjlmaaRetZ
import Derived.Laws.Bits64b
import Derived.Deep.QuietTactic
import Derived.BigQuiet
import Derived.Lib.QuietBelow
namespace Go.Proofs.Yteoepnadjkjlmaa
open Go.RowKit Go.Sort
set_option linter.unusedVariables false

/-- A slice of bytes below block B reads as the list xs. -/
def BAt (w : World) (B : Nat) (A : Option Addr) (xs : List UInt8) : Prop :=
  xs = [] ∨ ∃ g o, A = some ⟨g, o, none⟩ ∧ g < B ∧ ∀ i c, xs[i]? = some c → w.cell? ⟨g, o + i, none⟩ = some (.int .u8 (c.toNat : Int))
theorem BAt.below {w w' : World} {B B' : Nat} {A : Option Addr} {xs : List UInt8} (h : BAt w B A xs) (hb : Below B' w w') (hB : B ≤ B') : BAt w' B A xs := by
  rcases h with h | ⟨g, o, hA, hg, hc⟩
  · exact .inl h
  · exact .inr ⟨g, o, hA, hg, fun i c hi => (hb.cell (p := ⟨g, o + i, none⟩) (by show g < B'; omega)).trans (hc i c hi)⟩
theorem BAt.at_ {w : World} {B : Nat} {A : Option Addr} {xs : List UInt8} (h : BAt w B A xs) {i : Nat} (hi : i < xs.length) :
    ∃ g o, A = some ⟨g, o, none⟩ ∧ g < B ∧ w.cell? ⟨g, o + i, none⟩ = some (.int .u8 (xs[i].toNat : Int)) := by
  rcases h with rfl | ⟨g, o, hA, hg, hc⟩
  · simp at hi
  · exact ⟨g, o, hA, hg, hc i _ (List.getElem?_eq_getElem hi)⟩
/-- The block g is a cursor over the bytes xs. -/
def Cur (w : World) (g : Nat) (A : Option Addr) (c : Nat) (xs : List UInt8) : Prop := ∃ (i : Nat) (h : Int), i ≤ xs.length ∧ Whole w g 63 [.slice A xs.length c, .int .i64 i, .int .i64 h]
theorem and_range (x : Int) (m : Nat) (hm : m < 9223372036854775808) : 0 ≤ bits .and .i64 x (m : Int) ∧ bits .and .i64 x (m : Int) ≤ m := by
  have h2 : (BitVec.ofInt 64 (m : Int)).toNat = m := by
    rw [BitVec.ofInt_natCast, BitVec.toNat_ofNat]; exact Nat.mod_eq_of_lt (by omega)
  have e : bits .and .i64 x (m : Int) = IntKind.i64.wrap (((BitVec.ofInt 64 x &&& BitVec.ofInt 64 (m : Int)).toNat : Nat) : Int) := rfl
  rw [e, BitVec.toNat_and, h2, IntKind.wrap_i64]
  have := Nat.and_le_right (n := (BitVec.ofInt 64 x).toNat) (m := m)
  omega

set_option maxRecDepth 100000 in
set_option maxHeartbeats 800000 in
theorem l1_new (A : Option Addr) (c : Nat) (xs : List UInt8) (w : World) (hx : BAt w w.heap.size A xs) (hl : xs.length ≤ 1048576) :
    Calls Try.prog 31 #[.slice A xs.length c] w fun e w' => e = .returned (.pointer (some ⟨w.heap.size, 0, none⟩)) ∧ Cur w' w.heap.size A c xs ∧ Below w.heap.size w w' := by
  go_enter Try.func31, Try.ntmps31
  go_wp2_with fail
  go_loopw [3, 4] (fun h i w' => ∃ (k : Nat) (z : Int), k ≤ xs.length ∧ i = .int .i64 k ∧ h = .int .i64 z ∧ 0 ≤ z ∧ z ≤ 1073741823 ∧ w = w') (fun _ i _ => xs.length - (intOf i).toNat)
  case atStart => exact ⟨0, 70001 + xs.length, Nat.zero_le _, rfl, rfl, by omega, by omega, rfl⟩
  case round =>
    obtain ⟨k, z, hk, rfl, rfl, hz0, hz1, rfl⟩ := hrel
    by_cases hlt : k < xs.length
    · obtain ⟨g, o, rfl, hg, c0⟩ := hx.at_ hlt
      have hi0 : (0 : Int) ≤ (k : Int) := by omega
      have hi1 : (k : Int) < (xs.length : Int) := by omega
      go_wp2_with fail
      go_roundw
      case rel => exact ⟨k + 1, _, by omega, by go_num, rfl, (and_range _ 1073741823 (by decide)).1, (and_range _ 1073741823 (by decide)).2, trivial⟩
      case measure => simp [intOf]; omega
    · go_wp2_with fail
      go_ret
      exact ⟨rfl, ⟨0, z, Nat.zero_le _, Whole.new w _ [.slice A xs.length c, .int .i64 0, .int .i64 z]⟩, (Below.refl _ _).alloc (Nat.le_refl _) _⟩

set_option maxRecDepth 100000 in
set_option maxHeartbeats 800000 in
theorem l1_byte (g : Nat) (A : Option Addr) (c : Nat) (xs : List UInt8) (w : World) (hC : Cur w g A c xs) (hx : BAt w g A xs) (hl : xs.length ≤ 1048576) :
    Calls Try.prog 66 #[.pointer (some ⟨g, 0, none⟩)] w fun e w' => ∃ x : Int, e = .returned (.int .i64 x) ∧ 0 ≤ x ∧ x ≤ 255 ∧ Cur w' g A c xs ∧ w.grownBy w' (some g) := by
  obtain ⟨i, h, hi, hW⟩ := hC
  have c0 := hW.cell 0
  have c1 := hW.cell 1
  have c2 := hW.cell 2
  have f0 := hW.frozen 0
  have f1 := hW.frozen 1
  have f2 := hW.frozen 2
  simp at c0 c1 c2
  have HW := Lib.hid hW
  clear hW
  go_enter Try.func66, Try.ntmps66
  go_wp2_with fail
  generalize hh : wrap64 (wrap64 (h * 6364136223846793005) + 1442695040888963407) = h1
  have hW1 : Whole (w.setCell ⟨g, 2, none⟩ (.int .i64 h1)) g 63 [.slice A xs.length c, .int .i64 i, .int .i64 h1] := HW.out.set_ 2 (.int .i64 h1)
  have hG1 : w.grownBy (w.setCell ⟨g, 2, none⟩ (.int .i64 h1)) (some g) := ⟨rfl, rfl, rfl, by simp [World.setCell], fun k hk hne => Below.heap_setCell _ _ _ _ (by intro e; exact hne (by rw [e]))⟩
  have hx1 : BAt (w.setCell ⟨g, 2, none⟩ (.int .i64 h1)) g A xs := hx.below (B' := g) ((Below.refl _ _).setCell (p := ⟨g, 2, none⟩) (Nat.le_refl _) _) (Nat.le_refl _)
  clear c0 c1 c2 f0 f1 f2 hh
  generalize w.setCell ⟨g, 2, none⟩ (.int .i64 h1) = w1 at hW1 hG1 hx1 ⊢
  have c0 := hW1.cell 0
  have c1 := hW1.cell 1
  have c2 := hW1.cell 2
  have f0 := hW1.frozen 0
  have f1 := hW1.frozen 1
  have f2 := hW1.frozen 2
  simp at c0 c1 c2
  have HW1 := Lib.hid hW1
  clear hW1
  go_quiet (fail)
  go_wp2_with fail
  have hW2 : Whole (w1.drewN nq) g 63 [.slice A xs.length c, .int .i64 i, .int .i64 h1] := HW1.out
  have hG2 : w.grownBy (w1.drewN nq) (some g) := ⟨hG1.os, hG1.tape, hG1.output, hG1.size, hG1.block⟩
  have hx2 : BAt (w1.drewN nq) g A xs := hx1
  generalize w1.drewN nq = w2 at hW2 hG2 hx2 ⊢
  clear c0 c1 c2 f0 f1 f2
  have c0 := hW2.cell 0
  have c1 := hW2.cell 1
  have c2 := hW2.cell 2
  have f0 := hW2.frozen 0
  have f1 := hW2.frozen 1
  have f2 := hW2.frozen 2
  simp at c0 c1 c2
  have HW2 := Lib.hid hW2
  clear hW2
  have hxr := and_range (bits .xor .i64 (h1 / 8589934592) (h1 / 35184372088832)) 255 (by decide)
  have HX := Lib.hid hxr
  simp only [Int.cast_ofNat_Int] at HX
  clear hxr
  generalize bits .and .i64 (bits .xor .i64 (h1 / 8589934592) (h1 / 35184372088832)) 255 = x at HX ⊢
  obtain ⟨hx0, hx255⟩ := HX.out
  by_cases hlt : i < xs.length
  · obtain ⟨gb, ob, rfl, hgb, cb⟩ := hx2.at_ hlt
    have hi0 : (0 : Int) ≤ (i : Int) := by omega
    have hi1 : (i : Int) < (xs.length : Int) := by omega
    have hbyte : (xs[i].toNat : Int) ≤ 255 := by have := xs[i].toNat_lt; omega
    go_quiet (fail)
    go_wp2_with fail
    have hW3 : Whole (w2.drewN nq) g 63 [.slice (some ⟨gb, ob, none⟩) xs.length c, .int .i64 i, .int .i64 h1] := HW2.out
    have hG3 : w.grownBy (w2.drewN nq) (some g) := ⟨hG2.os, hG2.tape, hG2.output, hG2.size, hG2.block⟩
    have hcb3 : (w2.drewN nq).cell? ⟨gb, ob + i, none⟩ = some (.int .u8 (xs[i].toNat : Int)) := cb
    generalize w2.drewN nq = w3 at hW3 hG3 hcb3 ⊢
    clear c0 c1 c2 f0 f1 f2
    have c0 := hW3.cell 0
    have c1 := hW3.cell 1
    have c2 := hW3.cell 2
    have f0 := hW3.frozen 0
    have f1 := hW3.frozen 1
    have f2 := hW3.frozen 2
    simp at c0 c1 c2
    have HW3 := Lib.hid hW3
    clear hW3
    go_quiet (fail)
    go_wp2_with fail
    go_ret
    have hW4 : Whole ((w3.drewN nq).setCell ⟨g, 1, none⟩ (.int .i64 ((i : Int) + 1))) g 63 [.slice (some ⟨gb, ob, none⟩) xs.length c, .int .i64 ((i : Int) + 1), .int .i64 h1] := HW3.out.set_ 1 (.int .i64 ((i : Int) + 1))
    refine ⟨_, rfl, (and_range _ 255 (by decide)).1, (and_range _ 255 (by decide)).2, ⟨i + 1, h1, hlt, hW4⟩, ⟨hG3.os, hG3.tape, hG3.output, by simpa [World.setCell] using hG3.size, fun k hk hne => ?_⟩⟩
    rw [Below.heap_setCell _ _ _ _ (by intro e; exact hne (by rw [e]))]
    exact hG3.block k hk hne
  · have hi1 : ¬ (i : Int) < (xs.length : Int) := by omega
    go_quiet (fail)
    go_wp2_with fail
    go_ret
    exact ⟨x, rfl, by omega, by omega, ⟨i, h1, hi, HW2.out⟩, ⟨hG2.os, hG2.tape, hG2.output, hG2.size, hG2.block⟩⟩

theorem Cur.lt {w : World} {g : Nat} {A : Option Addr} {c : Nat} {xs : List UInt8} (h : Cur w g A c xs) : g < w.heap.size := by
  obtain ⟨i, h, hi, hW⟩ := h; exact hW.lt
theorem BAt.grown {w w' : World} {g : Nat} {A : Option Addr} {xs : List UInt8} (h : BAt w g A xs) (hg : w.grownBy w' (some g)) (hl : g < w.heap.size) : BAt w' g A xs := by
  rcases h with h | ⟨gb, o, hA, hgb, hc⟩
  · exact .inl h
  · refine .inr ⟨gb, o, hA, hgb, fun i c hi => ?_⟩
    rw [World.cell?_of_block (hg.block gb (by omega) (fun e => by injection e; omega))]
    exact hc i c hi
theorem grown_to {w w1 w2 : World} {b : Nat} (h : w.grownBy w1 (some b)) (k : w1.grownBy w2 (some b)) : w.grownBy w2 (some b) :=
  ⟨k.os.trans h.os, k.tape.trans h.tape, k.output.trans h.output, Nat.le_trans h.size k.size, fun i hi hne => (k.block i (Nat.lt_of_lt_of_le hi h.size) hne).trans (h.block i hi hne)⟩
/-- What a draw leaves: the cursor moves, else nothing of old changes. -/
def Drawn (w w' : World) (g : Nat) (A : Option Addr) (c : Nat) (xs : List UInt8) : Prop := Cur w' g A c xs ∧ BAt w' g A xs ∧ w.grownBy w' (some g)
theorem byte_drawn (g : Nat) (A : Option Addr) (c : Nat) (xs : List UInt8) (w : World) (hC : Cur w g A c xs) (hx : BAt w g A xs) (hl : xs.length ≤ 1048576) :
    Calls Try.prog 66 #[.pointer (some ⟨g, 0, none⟩)] w fun e w' => ∃ x : Int, e = .returned (.int .i64 x) ∧ 0 ≤ x ∧ x ≤ 255 ∧ Drawn w w' g A c xs :=
  (l1_byte g A c xs w hC hx hl).mono fun e w' ⟨x, h1, h2, h3, h4, h5⟩ => ⟨x, h1, h2, h3, h4, hx.grown h5 hC.lt, h5⟩

set_option maxRecDepth 100000 in
set_option maxHeartbeats 800000 in
theorem l1_below (g : Nat) (A : Option Addr) (c : Nat) (xs : List UInt8) (n : Nat) (w : World) (hC : Cur w g A c xs) (hx : BAt w g A xs) (hl : xs.length ≤ 1048576) (hn : 0 < n) (hn2 : n ≤ 1048577) :
    Calls Try.prog 50 #[.pointer (some ⟨g, 0, none⟩), .int .i64 n] w fun e w' => ∃ x : Nat, e = .returned (.int .i64 x) ∧ x < n ∧ Drawn w w' g A c xs := by
  have hn0 : ¬ (n : Int) ≤ 0 := by omega
  by_cases h256 : n ≤ 256
  · have hni : (n : Int) ≤ 256 := by omega
    go_enter Try.func50, Try.ntmps50
    go_wp2_with fail
    refine (byte_drawn g A c xs _ hC hx hl).mono ?_
    rintro e w1 ⟨x, rfl, hx0, hx1, hD⟩
    obtain ⟨m, rfl⟩ := Int.eq_ofNat_of_zero_le hx0
    go_wp2_with fail
    go_ret
    exact ⟨m % n, by simp, Nat.mod_lt _ hn, hD⟩
  · have hni : ¬ (n : Int) ≤ 256 := by omega
    go_enter Try.func50, Try.ntmps50
    go_wp2_with fail
    refine (byte_drawn g A c xs _ hC hx hl).mono ?_
    rintro e w1 ⟨x1, rfl, hx10, hx11, hD1⟩
    go_wp2_with fail
    refine (byte_drawn g A c xs _ hD1.1 hD1.2.1 hl).mono ?_
    rintro e w2 ⟨x2, rfl, hx20, hx21, hD2⟩
    go_wp2_with fail
    refine (byte_drawn g A c xs _ hD2.1 hD2.2.1 hl).mono ?_
    rintro e w3 ⟨x3, rfl, hx30, hx31, hD3⟩
    go_wp2_with fail
    refine (byte_drawn g A c xs _ hD3.1 hD3.2.1 hl).mono ?_
    rintro e w4 ⟨x4, rfl, hx40, hx41, hD4⟩
    obtain ⟨m1, rfl⟩ := Int.eq_ofNat_of_zero_le hx10
    obtain ⟨m2, rfl⟩ := Int.eq_ofNat_of_zero_le hx20
    obtain ⟨m3, rfl⟩ := Int.eq_ofNat_of_zero_le hx30
    obtain ⟨m4, rfl⟩ := Int.eq_ofNat_of_zero_le hx40
    go_wp2_with fail
    go_ret
    exact ⟨(m1 * 16777216 + m2 * 65536 + m3 * 256 + m4) % n, by simp, Nat.mod_lt _ hn, hD4.1, hD4.2.1, grown_to hD1.2.2 (grown_to hD2.2.2 (grown_to hD3.2.2 hD4.2.2))⟩
set_option maxHeartbeats 400000 in
theorem l1_once (g : Nat) (A : Option Addr) (c : Nat) (xs : List UInt8) (n : Nat) (w : World) (hC : Cur w g A c xs) (hx : BAt w g A xs) (hl : xs.length ≤ 1048576) (hn : 0 < n) (hn2 : n ≤ 1048577) :
    Calls Try.prog 52 #[.pointer (some ⟨g, 0, none⟩), .int .i64 n] w fun e w' => ∃ b : Bool, e = .returned (.bool b) ∧ Drawn w w' g A c xs := by
  go_enter Try.func52, Try.ntmps52
  go_wp2_with fail
  refine (l1_below g A c xs n _ hC hx hl hn hn2).mono ?_
  rintro e w1 ⟨x, rfl, hx1, hD⟩
  go_wp2_with fail
  go_ret
  exact ⟨_, rfl, hD⟩
end Go.Proofs.Yteoepnadjkjlmaa
