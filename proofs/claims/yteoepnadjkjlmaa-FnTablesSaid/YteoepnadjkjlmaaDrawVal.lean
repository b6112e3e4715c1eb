/-
  The draws of values and rows: spec.l1DrawValue, spec.l1DrawAny, spec.l1DrawRow.
-/
import Derived.Test.YteoepnadjkjlmaaDrawSt
import Derived.Test.YteoepnadjkjlmaaVRow
namespace Go.Proofs.Yteoepnadjkjlmaa
open Go.RowKit Go.Sort
set_option linter.unusedVariables false

/-- What a draw of a value leaves. -/
def ValPost (w : World) (g : Nat) (A : Option Addr) (c : Nat) (xs : List UInt8) (e : Ending) (w' : World) : Prop := ∃ v : GV, e = .returned (VV v) ∧ v.t.size ≤ 100 ∧ St w' g A c xs ∧ w.grownBy w' (some g)
def five : List Value := [.string ⟨#[97]⟩, .string ⟨#[98]⟩, .string ⟨#[99]⟩, .string ⟨#[]⟩, .string ⟨#[113, 34, 92, 32, 120]⟩]

set_option maxRecDepth 100000 in
set_option maxHeartbeats 1600000 in
theorem draw_value (g : Nat) (A : Option Addr) (c : Nat) (xs : List UInt8) (w : World) (hS : St w g A c xs) (hl : xs.length ≤ 1048576) :
    Calls Try.prog 67 #[.pointer (some ⟨g, 0, none⟩)] w (ValPost w g A c xs) := by
  have hgl := hS.lt
  have hS0 := hS.alloc (.cells #[.int .i64 0, .int .i64 0, .string ⟨#[]⟩] 54)
  have hG0 : w.grownBy (w.alloc (.cells #[.int .i64 0, .int .i64 0, .string ⟨#[]⟩] 54)) (some g) := World.grownBy_alloc w _ _
  have hN := Lib.hid (new3 w)
  go_enter Try.func67, Try.ntmps67
  go_wp2_with fail
  refine (l1_once g A c xs 3 _ hS0.1 hS0.2 hl (by omega) (by omega)).mono ?_
  rintro e w1 ⟨b, rfl, hD1⟩
  have hS1 : St w1 g A c xs := ⟨hD1.1, hD1.2.1⟩
  have hG1 := Lib.hid (grown_to hG0 hD1.2.2)
  have hN1 := Lib.hid (hN.out.drawn hD1.2.2 (by omega))
  have hz1 := hN1.out.lt
  clear hD1 hS0 hS hG0 hN
  cases b with
  | true =>
    have hSa := hS1.alloc (.cells five.toArray 9)
    have hF1 := Lib.hid (Whole.new w1 9 five)
    have hNa := Lib.hid (hN1.out.below (w' := w1.alloc (.cells five.toArray 9)) ((Below.refl w1.heap.size _).alloc (Nat.le_refl _) _) hz1)
    have hgl1 := hS1.lt
    go_wp2_with fail
    refine (l1_below g A c xs 5 (w1.alloc (.cells five.toArray 9)) hSa.1 hSa.2 hl (by omega) (by omega)).mono ?_
    rintro e w3 ⟨x, rfl, hx, hD3⟩
    have hS3 : St w3 g A c xs := ⟨hD3.1, hD3.2.1⟩
    have hG3 := Lib.hid (grown_to (grown_alloc2 hG1.out _) hD3.2.2)
    have hN3 := Lib.hid (hNa.out.drawn hD3.2.2 (by omega))
    have hF3 := hF1.out.drawn hD3.2.2 (by omega)
    obtain ⟨T, hT, hTs⟩ : ∃ T : ByteArray, w3.cell? ⟨w1.heap.size, x, none⟩ = some (.string T) ∧ T.size ≤ 100 := by
      rw [hF3.cell]
      have : x = 0 ∨ x = 1 ∨ x = 2 ∨ x = 3 ∨ x = 4 := by omega
      rcases this with rfl | rfl | rfl | rfl | rfl
      all_goals exact ⟨_, rfl, by decide⟩
    obtain ⟨a0, a1, a2⟩ := cells3_ hN3.out
    obtain ⟨f0, f1, f2⟩ := frozen3 hN3.out
    have hxi : (x : Int) < 5 := by omega
    clear hD3 hG1 hN1 hF3 hF1 hSa hNa
    go_wp2_with fail
    obtain ⟨c0, c1, c2⟩ := cells3_ (put3 (.int .i64 2) (.int .i64 0) (.string T) hN3.out)
    have hY : St (((w3.setCell ⟨w.heap.size, 0, none⟩ (.int .i64 2)).setCell ⟨w.heap.size, 1, none⟩ (.int .i64 0)).setCell ⟨w.heap.size, 2, none⟩ (.string T)) g A c xs := ((hS3.set_ hgl).set_ hgl).set_ hgl
    have hZ : w.grownBy (((w3.setCell ⟨w.heap.size, 0, none⟩ (.int .i64 2)).setCell ⟨w.heap.size, 1, none⟩ (.int .i64 0)).setCell ⟨w.heap.size, 2, none⟩ (.string T)) (some g) := grown_new (grown_new (grown_new hG3.out (Nat.le_refl _)) (Nat.le_refl _)) (Nat.le_refl _)
    generalize (((w3.setCell _ _).setCell _ _).setCell _ _) = w4 at c0 c1 c2 hY hZ ⊢
    exact bodyPost_ret (v := VV ⟨2, 0, T⟩) (by simp [VV, results, Try.results67, go_sem, c0, c1, c2]) rfl ⟨_, rfl, hTs, hY, hZ⟩
  | false =>
    go_wp2_with fail
    refine (l1_once g A c xs 12 _ hS1.1 hS1.2 hl (by omega) (by omega)).mono ?_
    rintro e w2 ⟨b, rfl, hD2⟩
    have hS2 : St w2 g A c xs := ⟨hD2.1, hD2.2.1⟩
    have hG2 := Lib.hid (grown_to hG1.out hD2.2.2)
    have hN2 := Lib.hid (hN1.out.drawn hD2.2.2 (by omega))
    have hz2 := hN2.out.lt
    clear hD2 hS1 hG1 hN1 hz1
    cases b with
    | true =>
      go_wp2_with fail
      refine (l1_below g A c xs 3 _ hS2.1 hS2.2 hl (by omega) (by omega)).mono ?_
      rintro e w3 ⟨x, rfl, hx, hD3⟩
      have hS3 : St w3 g A c xs := ⟨hD3.1, hD3.2.1⟩
      have hG3 := Lib.hid (grown_to hG2.out hD3.2.2)
      have hN3 := Lib.hid (hN2.out.drawn hD3.2.2 (by omega))
      obtain ⟨a0, a1, a2⟩ := cells3_ hN3.out
      obtain ⟨f0, f1, f2⟩ := frozen3 hN3.out
      clear hD3 hS2 hG2 hN2 hz2
      go_wp2_with fail
      obtain ⟨c0, c1, c2⟩ := cells3_ (put3 (.int .i64 3) (.int .i64 (1 + (x : Int))) (.string ⟨#[]⟩) hN3.out)
      have hY : St (((w3.setCell ⟨w.heap.size, 0, none⟩ (.int .i64 3)).setCell ⟨w.heap.size, 1, none⟩ (.int .i64 (1 + (x : Int)))).setCell ⟨w.heap.size, 2, none⟩ (.string ⟨#[]⟩)) g A c xs := ((hS3.set_ hgl).set_ hgl).set_ hgl
      have hZ : w.grownBy (((w3.setCell ⟨w.heap.size, 0, none⟩ (.int .i64 3)).setCell ⟨w.heap.size, 1, none⟩ (.int .i64 (1 + (x : Int)))).setCell ⟨w.heap.size, 2, none⟩ (.string ⟨#[]⟩)) (some g) := grown_new (grown_new (grown_new hG3.out (Nat.le_refl _)) (Nat.le_refl _)) (Nat.le_refl _)
      generalize (((w3.setCell _ _).setCell _ _).setCell _ _) = w4 at c0 c1 c2 hY hZ ⊢
      exact bodyPost_ret (v := VV ⟨3, 1 + (x : Int), ⟨#[]⟩⟩) (by simp [VV, results, Try.results67, go_sem, c0, c1, c2]) rfl ⟨_, rfl, Nat.zero_le _, hY, hZ⟩
    | false =>
      go_wp2_with fail
      refine (l1_below g A c xs 5 _ hS2.1 hS2.2 hl (by omega) (by omega)).mono ?_
      rintro e w3 ⟨x, rfl, hx, hD3⟩
      have hS3 : St w3 g A c xs := ⟨hD3.1, hD3.2.1⟩
      have hG3 := Lib.hid (grown_to hG2.out hD3.2.2)
      have hN3 := Lib.hid (hN2.out.drawn hD3.2.2 (by omega))
      obtain ⟨a0, a1, a2⟩ := cells3_ hN3.out
      obtain ⟨f0, f1, f2⟩ := frozen3 hN3.out
      clear hD3 hS2 hG2 hN2 hz2
      go_wp2_with fail
      obtain ⟨c0, c1, c2⟩ := cells3_ (put3 (.int .i64 1) (.int .i64 ((x : Int) - 1)) (.string ⟨#[]⟩) hN3.out)
      have hY : St (((w3.setCell ⟨w.heap.size, 0, none⟩ (.int .i64 1)).setCell ⟨w.heap.size, 1, none⟩ (.int .i64 ((x : Int) - 1))).setCell ⟨w.heap.size, 2, none⟩ (.string ⟨#[]⟩)) g A c xs := ((hS3.set_ hgl).set_ hgl).set_ hgl
      have hZ : w.grownBy (((w3.setCell ⟨w.heap.size, 0, none⟩ (.int .i64 1)).setCell ⟨w.heap.size, 1, none⟩ (.int .i64 ((x : Int) - 1))).setCell ⟨w.heap.size, 2, none⟩ (.string ⟨#[]⟩)) (some g) := grown_new (grown_new (grown_new hG3.out (Nat.le_refl _)) (Nat.le_refl _)) (Nat.le_refl _)
      generalize (((w3.setCell _ _).setCell _ _).setCell _ _) = w4 at c0 c1 c2 hY hZ ⊢
      exact bodyPost_ret (v := VV ⟨1, (x : Int) - 1, ⟨#[]⟩⟩) (by simp [VV, results, Try.results67, go_sem, c0, c1, c2]) rfl ⟨_, rfl, Nat.zero_le _, hY, hZ⟩
end Go.Proofs.Yteoepnadjkjlmaa
