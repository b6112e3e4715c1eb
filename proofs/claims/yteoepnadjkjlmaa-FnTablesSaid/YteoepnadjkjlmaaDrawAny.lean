/-
  spec.l1DrawAny.
-/
import Derived.Test.YteoepnadjkjlmaaDrawRow
namespace Go.Proofs.Yteoepnadjkjlmaa
open Go.RowKit Go.Sort
set_option linter.unusedVariables false

def sixV : List Value := [.int .i64 1000000000, .int .i64 1000000001, .int .i64 (-1000000000), .int .i64 (-1000000001), .int .i64 0, .int .i64 (-9223372036854775808)]
/-- The two boxes of l1DrawAny: the answer's, at block b, and the value's, at block d. -/
def Boxes (w w1 : World) (b d : Nat) (v : GV) (g : Nat) (A : Option Addr) (c : Nat) (xs : List UInt8) : Prop :=
  Whole w1 b 54 zeroV ∧ Whole w1 d 54 [.int .i64 v.k, .int .i64 v.n, .string v.t] ∧ St w1 g A c xs ∧ w.grownBy w1 (some g)
theorem Boxes.draw {w w1 w2 : World} {b d g : Nat} {v : GV} {A : Option Addr} {c : Nat} {xs : List UInt8} (h : Boxes w w1 b d v g A c xs) (hD : Drawn w1 w2 g A c xs) (hb : g < b) (hd : g < d) : Boxes w w2 b d v g A c xs :=
  ⟨h.1.drawn hD.2.2 (by omega), h.2.1.drawn hD.2.2 (by omega), ⟨hD.1, hD.2.1⟩, grown_to h.2.2.2 hD.2.2⟩
theorem Boxes.alloc {w w1 : World} {b d g : Nat} {v : GV} {A : Option Addr} {c : Nat} {xs : List UInt8} (h : Boxes w w1 b d v g A c xs) (o : Obj) : Boxes w (w1.alloc o) b d v g A c xs := by
  have hb : Below w1.heap.size w1 (w1.alloc o) := (Below.refl _ _).alloc (Nat.le_refl _) _
  exact ⟨h.1.below hb h.1.lt, h.2.1.below hb h.2.1.lt, h.2.2.1.alloc o, grown_alloc2 h.2.2.2 o⟩
theorem Boxes.setK {w w1 : World} {b d g : Nat} {v : GV} {A : Option Addr} {c : Nat} {xs : List UInt8} (h : Boxes w w1 b d v g A c xs) (hb : b < d) (hd : g < d) (hw : w.heap.size ≤ d) (k : Int) : Boxes w (w1.setCell ⟨d, 0, none⟩ (.int .i64 k)) b d ⟨k, v.n, v.t⟩ g A c xs :=
  ⟨h.1.far (by omega), h.2.1.set_ 0 _, h.2.2.1.set_ hd, grown_new h.2.2.2 hw⟩
theorem Boxes.setN {w w1 : World} {b d g : Nat} {v : GV} {A : Option Addr} {c : Nat} {xs : List UInt8} (h : Boxes w w1 b d v g A c xs) (hb : b < d) (hd : g < d) (hw : w.heap.size ≤ d) (n : Int) : Boxes w (w1.setCell ⟨d, 1, none⟩ (.int .i64 n)) b d ⟨v.k, n, v.t⟩ g A c xs :=
  ⟨h.1.far (by omega), h.2.1.set_ 1 _, h.2.2.1.set_ hd, grown_new h.2.2.2 hw⟩
theorem Boxes.setT {w w1 : World} {b d g : Nat} {v : GV} {A : Option Addr} {c : Nat} {xs : List UInt8} (h : Boxes w w1 b d v g A c xs) (hb : b < d) (hd : g < d) (hw : w.heap.size ≤ d) (t : ByteArray) : Boxes w (w1.setCell ⟨d, 2, none⟩ (.string t)) b d ⟨v.k, v.n, t⟩ g A c xs :=
  ⟨h.1.far (by omega), h.2.1.set_ 2 _, h.2.2.1.set_ hd, grown_new h.2.2.2 hw⟩

theorem conv_zero (y : Nat) (w : World) (hy : y < 2) :
    (convert 30 9 (.slice (some ⟨w.heap.size, 0, none⟩) y y)).run Try.prog (w.alloc (.cells (madeCells #[.int .u8 0] y) 5)) = .ok (.string ⟨(List.replicate y (0 : UInt8)).toArray⟩) (w.alloc (.cells (madeCells #[.int .u8 0] y) 5)) := by
  have h := run_convert_bytes_back (P := Try.prog) (w.alloc (.cells (madeCells #[.int .u8 0] y) 5)) 30 9 5 ⟨w.heap.size, 0, none⟩ y (List.replicate y (0 : UInt8)) Try.underlying30 Try.underlying5 Try.underlying9 (fun j hj => by
    simp at hj
    have hj0 : j = 0 := by omega
    have hy1 : y = 1 := by omega
    subst hj0 hy1
    have e : (⟨w.heap.size, 0, none⟩ : Addr).add 0 = ⟨w.heap.size, 0, none⟩ := rfl
    rw [e]
    simp [madeCells])
  rw [List.length_replicate] at h
  exact h
set_option maxRecDepth 100000 in
set_option maxHeartbeats 600000 in
theorem draw_any (g : Nat) (A : Option Addr) (c : Nat) (xs : List UInt8) (w : World) (hS : St w g A c xs) (hl : xs.length ≤ 1048576) :
    Calls Try.prog 53 #[.pointer (some ⟨g, 0, none⟩)] w (ValPost w g A c xs) := by
  have hgl := hS.lt
  have hS0 := hS.alloc (.cells #[.int .i64 0, .int .i64 0, .string ⟨#[]⟩] 54)
  have hG0 : w.grownBy (w.alloc (.cells #[.int .i64 0, .int .i64 0, .string ⟨#[]⟩] 54)) (some g) := World.grownBy_alloc w _ _
  have hN := Lib.hid (new3 w)
  go_enter Try.func53, Try.ntmps53
  go_wp2_with fail
  refine (draw_value g A c xs _ hS0 hl).mono ?_
  rintro e w1 ⟨v, rfl, hvt, hS1, hG1⟩
  have hN1 := hN.out.drawn hG1 (by omega)
  have hbd : w.heap.size < w1.heap.size := hN1.lt
  have hBx := Lib.hid (show Boxes w (w1.alloc (.cells #[.int .i64 v.k, .int .i64 v.n, .string v.t] 54)) w.heap.size w1.heap.size v g A c xs from
    ⟨hN1.below ((Below.refl w1.heap.size _).alloc (Nat.le_refl _) _) hbd, Whole.new w1 _ [.int .i64 v.k, .int .i64 v.n, .string v.t], hS1.alloc _, grown_alloc2 (grown_to hG0 hG1) _⟩)
  clear hS0 hS hG0 hN hN1 hS1 hG1
  unfold VV
  go_wp2_with fail
  refine (l1_once g A c xs 8 _ hBx.out.2.2.1.1 hBx.out.2.2.1.2 hl (by omega) (by omega)).mono ?_
  rintro e w2 ⟨b, rfl, hD2⟩
  have hB2 := Lib.hid (hBx.out.draw hD2 hgl (by omega))
  clear hBx hD2
  generalize hd : w1.heap.size = d at *
  have hne1 : ¬ w.heap.size = d := by omega
  have hne2 : ¬ d = w.heap.size := by omega
  have hgd : g < d := by omega
  have hwd : w.heap.size ≤ d := by omega
  cases b with
  | false =>
    have hX := hB2.out
    obtain ⟨a0, a1, a2⟩ := cells3_ hX.1
    obtain ⟨f0, f1, f2⟩ := frozen3 hX.1
    obtain ⟨b0, b1, b2⟩ := cells3_ hX.2.1
    obtain ⟨f3, f4, f5⟩ := frozen3 hX.2.1
    clear hX
    go_wp2_with fail
    have hX := hB2.out
    obtain ⟨c0, c1, c2⟩ := cells3_ (put3 (.int .i64 (v.k)) (.int .i64 (v.n)) (.string v.t) hX.1)
    have hY := ((hX.2.2.1.set_ (i := 0) (u := .int .i64 (v.k)) hgl).set_ (i := 1) (u := .int .i64 (v.n)) hgl).set_ (i := 2) (u := .string v.t) hgl
    have hZ := grown_new (i := 2) (u := .string v.t) (grown_new (i := 1) (u := .int .i64 (v.n)) (grown_new (i := 0) (u := .int .i64 (v.k)) hX.2.2.2 (Nat.le_refl _)) (Nat.le_refl _)) (Nat.le_refl _)
    clear hX
    generalize (((w2.setCell _ _).setCell _ _).setCell _ _) = w9 at c0 c1 c2 hY hZ ⊢
    exact bodyPost_ret (v := VV ⟨v.k, v.n, v.t⟩) (by simp [VV, results, Try.results53, go_sem, c0, c1, c2]) rfl ⟨_, rfl, hvt, hY, hZ⟩
  | true =>
    go_wp2_with fail
    refine (l1_below g A c xs 4 _ hB2.out.2.2.1.1 hB2.out.2.2.1.2 hl (by omega) (by omega)).mono ?_
    rintro e w3 ⟨x, rfl, hx, hD3⟩
    have hB3 := Lib.hid (hB2.out.draw hD3 hgl (by omega))
    clear hB2 hD3
    have hx4 : x = 0 ∨ x = 1 ∨ x = 2 ∨ x = 3 := by omega
    rcases hx4 with rfl | rfl | rfl | rfl
    · go_wp2_with fail
      refine (l1_below g A c xs 5 _ hB3.out.2.2.1.1 hB3.out.2.2.1.2 hl (by omega) (by omega)).mono ?_
      rintro e w4 ⟨y, rfl, hy, hD4⟩
      have hB4 := Lib.hid (hB3.out.draw hD4 hgl (by omega))
      clear hB3 hD4
      have hX := hB4.out
      obtain ⟨a0, a1, a2⟩ := cells3_ hX.1
      obtain ⟨f0, f1, f2⟩ := frozen3 hX.1
      obtain ⟨b0, b1, b2⟩ := cells3_ hX.2.1
      obtain ⟨f3, f4, f5⟩ := frozen3 hX.2.1
      clear hX
      go_wp2_with fail
      have hX := hB4.out.setK hbd hgd hwd (y : Int)
      obtain ⟨c0, c1, c2⟩ := cells3_ (put3 (.int .i64 ((y : Int))) (.int .i64 (v.n)) (.string v.t) hX.1)
      have hY := ((hX.2.2.1.set_ (i := 0) (u := .int .i64 ((y : Int))) hgl).set_ (i := 1) (u := .int .i64 (v.n)) hgl).set_ (i := 2) (u := .string v.t) hgl
      have hZ := grown_new (i := 2) (u := .string v.t) (grown_new (i := 1) (u := .int .i64 (v.n)) (grown_new (i := 0) (u := .int .i64 ((y : Int))) hX.2.2.2 (Nat.le_refl _)) (Nat.le_refl _)) (Nat.le_refl _)
      clear hX
      generalize ((((w4.setCell _ _).setCell _ _).setCell _ _).setCell _ _) = w9 at c0 c1 c2 hY hZ ⊢
      exact bodyPost_ret (v := VV ⟨(y : Int), v.n, v.t⟩) (by simp [VV, results, Try.results53, go_sem, c0, c1, c2]) rfl ⟨_, rfl, hvt, hY, hZ⟩
    · have hBa := Lib.hid (hB3.out.alloc (.cells sixV.toArray 2))
      have hF := Lib.hid (Whole.new w3 2 sixV)
      have hz3 := hB3.out.2.1.lt
      have hg3 := hB3.out.2.2.1.lt
      go_wp2_with fail
      refine (l1_below g A c xs 6 (w3.alloc (.cells sixV.toArray 2)) hBa.out.2.2.1.1 hBa.out.2.2.1.2 hl (by omega) (by omega)).mono ?_
      rintro e w4 ⟨y, rfl, hy, hD4⟩
      have hB4 := Lib.hid (hBa.out.draw hD4 hgl (by omega))
      have hF4 := hF.out.drawn hD4.2.2 (by omega)
      obtain ⟨z, hz⟩ : ∃ z : Int, w4.cell? ⟨w3.heap.size, y, none⟩ = some (.int .i64 z) := by
        rw [hF4.cell]
        have : y = 0 ∨ y = 1 ∨ y = 2 ∨ y = 3 ∨ y = 4 ∨ y = 5 := by omega
        rcases this with rfl | rfl | rfl | rfl | rfl | rfl
        all_goals exact ⟨_, rfl⟩
      have hyi : (y : Int) < 6 := by omega
      clear hB3 hD4 hBa hF hF4
      have hX := hB4.out
      obtain ⟨a0, a1, a2⟩ := cells3_ hX.1
      obtain ⟨f0, f1, f2⟩ := frozen3 hX.1
      obtain ⟨b0, b1, b2⟩ := cells3_ hX.2.1
      obtain ⟨f3, f4, f5⟩ := frozen3 hX.2.1
      clear hX
      go_wp2_with fail
      have hX := hB4.out.setN hbd hgd hwd z
      obtain ⟨c0, c1, c2⟩ := cells3_ (put3 (.int .i64 (v.k)) (.int .i64 (z)) (.string v.t) hX.1)
      have hY := ((hX.2.2.1.set_ (i := 0) (u := .int .i64 (v.k)) hgl).set_ (i := 1) (u := .int .i64 (z)) hgl).set_ (i := 2) (u := .string v.t) hgl
      have hZ := grown_new (i := 2) (u := .string v.t) (grown_new (i := 1) (u := .int .i64 (z)) (grown_new (i := 0) (u := .int .i64 (v.k)) hX.2.2.2 (Nat.le_refl _)) (Nat.le_refl _)) (Nat.le_refl _)
      clear hX
      generalize ((((w4.setCell _ _).setCell _ _).setCell _ _).setCell _ _) = w9 at c0 c1 c2 hY hZ ⊢
      exact bodyPost_ret (v := VV ⟨v.k, z, v.t⟩) (by simp [VV, results, Try.results53, go_sem, c0, c1, c2]) rfl ⟨_, rfl, hvt, hY, hZ⟩
    · 
      have hX := hB3.out
      obtain ⟨a0, a1, a2⟩ := cells3_ hX.1
      obtain ⟨f0, f1, f2⟩ := frozen3 hX.1
      obtain ⟨b0, b1, b2⟩ := cells3_ hX.2.1
      obtain ⟨f3, f4, f5⟩ := frozen3 hX.2.1
      clear hX
      go_wp2_with fail
      have hX := hB3.out.setT hbd hgd hwd ⟨#[116]⟩
      obtain ⟨c0, c1, c2⟩ := cells3_ (put3 (.int .i64 (v.k)) (.int .i64 (v.n)) (.string ⟨#[116]⟩) hX.1)
      have hY := ((hX.2.2.1.set_ (i := 0) (u := .int .i64 (v.k)) hgl).set_ (i := 1) (u := .int .i64 (v.n)) hgl).set_ (i := 2) (u := .string ⟨#[116]⟩) hgl
      have hZ := grown_new (i := 2) (u := .string ⟨#[116]⟩) (grown_new (i := 1) (u := .int .i64 (v.n)) (grown_new (i := 0) (u := .int .i64 (v.k)) hX.2.2.2 (Nat.le_refl _)) (Nat.le_refl _)) (Nat.le_refl _)
      clear hX
      generalize ((((w3.setCell _ _).setCell _ _).setCell _ _).setCell _ _) = w9 at c0 c1 c2 hY hZ ⊢
      exact bodyPost_ret (v := VV ⟨v.k, v.n, ⟨#[116]⟩⟩) (by simp [VV, results, Try.results53, go_sem, c0, c1, c2]) rfl ⟨_, rfl, (show (1 : Nat) ≤ 100 by omega), hY, hZ⟩
    · go_wp2_with fail
      refine (l1_below g A c xs 2 _ hB3.out.2.2.1.1 hB3.out.2.2.1.2 hl (by omega) (by omega)).mono ?_
      rintro e w4 ⟨y, rfl, hy, hD4⟩
      have hB4 := Lib.hid (hB3.out.draw hD4 hgl (by omega))
      clear hB3 hD4
      have hX := hB4.out
      obtain ⟨a0, a1, a2⟩ := cells3_ hX.1
      obtain ⟨f0, f1, f2⟩ := frozen3 hX.1
      obtain ⟨b0, b1, b2⟩ := cells3_ hX.2.1
      obtain ⟨f3, f4, f5⟩ := frozen3 hX.2.1
      clear hX
      obtain ⟨i0, hi, hz0, hz1, hz2⟩ := info_parts infoU8
      have hmk := fun W => run_make (P := Try.prog) W 30 5 i0 _ Try.underlying30 hi hz0 .i64 .i64 y y (by omega) (by omega) (by rw [hz2]; omega) (by omega)
      have hcv := conv_zero y w4 hy
      have hcs : ((⟨(List.replicate y (0 : UInt8)).toArray⟩ : ByteArray)).size ≤ 100 := by show (List.replicate y (0 : UInt8)).toArray.size ≤ 100; simp; omega
      have hB5 := Lib.hid (hB4.out.alloc (.cells (madeCells #[.int .u8 0] y) 5))
      have hz4 := hB4.out.2.1.lt
      have hz5 := hB4.out.1.lt
      generalize (⟨(List.replicate y (0 : UInt8)).toArray⟩ : ByteArray) = T at hcv hcs
      go_wp2_with fail
      have hX := (hB4.out.setT hbd hgd hwd T).setK hbd hgd hwd 2
      have hP := put3 (.int .i64 2) (.int .i64 v.n) (.string T) hX.1
      have hP2 := hP.below ((Below.refl _ _).alloc (Nat.le_refl _) (.cells (madeCells #[.int .u8 0] y) 5)) hP.lt
      obtain ⟨c0, c1, c2⟩ := cells3_ hP2
      have hY := (((hX.2.2.1.set_ (i := 0) (u := .int .i64 2) hgl).set_ (i := 1) (u := .int .i64 v.n) hgl).set_ (i := 2) (u := .string T) hgl).alloc (.cells (madeCells #[.int .u8 0] y) 5)
      have hZ := grown_alloc2 (grown_new (i := 2) (u := .string T) (grown_new (i := 1) (u := .int .i64 v.n) (grown_new (i := 0) (u := .int .i64 2) hX.2.2.2 (Nat.le_refl _)) (Nat.le_refl _)) (Nat.le_refl _)) (.cells (madeCells #[.int .u8 0] y) 5)
      clear hX hP hP2
      generalize World.alloc (((((w4.setCell _ _).setCell _ _).setCell _ _).setCell _ _).setCell _ _) _ = w9 at c0 c1 c2 hY hZ ⊢
      exact bodyPost_ret (v := VV ⟨2, v.n, T⟩) (by simp [VV, results, Try.results53, go_sem, c0, c1, c2]) rfl ⟨_, rfl, hcs, hY, hZ⟩
end Go.Proofs.Yteoepnadjkjlmaa
