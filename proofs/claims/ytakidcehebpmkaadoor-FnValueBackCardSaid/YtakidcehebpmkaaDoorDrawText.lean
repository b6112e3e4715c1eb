/-
  spec.DrawReadRow.
-/
import Derived.Test.YtakidcehebpmkaaDoorDraws
namespace Go.Proofs.YtakidcehebpmkaaDoor
open Go.RowKit Go.Sort
set_option linter.unusedVariables false

def seven : List Value := [.string ⟨#[40]⟩, .string ⟨#[41]⟩, .string ⟨#[44]⟩, .string ⟨#[32]⟩, .string ⟨#[34]⟩, .string ⟨#[92]⟩, .string ⟨#[55]⟩]
theorem seven_at (y : Nat) (h : y < 7) : ∃ Y : ByteArray, seven[y]? = some (.string Y) ∧ Y.size ≤ 6 := by
  have : y = 0 ∨ y = 1 ∨ y = 2 ∨ y = 3 ∨ y = 4 ∨ y = 5 ∨ y = 6 := by omega
  rcases this with rfl | rfl | rfl | rfl | rfl | rfl | rfl
  all_goals exact ⟨_, rfl, by decide⟩
theorem seven_arr {y : Nat} {Y : ByteArray} (h : seven[y]? = some (.string Y)) : (#[.string ⟨#[40]⟩, .string ⟨#[41]⟩, .string ⟨#[44]⟩, .string ⟨#[32]⟩, .string ⟨#[34]⟩, .string ⟨#[92]⟩, .string ⟨#[55]⟩] : Array Value)[y]? = some (.string Y) := by
  have e : (#[.string ⟨#[40]⟩, .string ⟨#[41]⟩, .string ⟨#[44]⟩, .string ⟨#[32]⟩, .string ⟨#[34]⟩, .string ⟨#[92]⟩, .string ⟨#[55]⟩] : Array Value) = seven.toArray := rfl
  rw [e, List.getElem?_toArray]; exact h
theorem seven_get {y : Nat} {Y : ByteArray} (h : seven[y]? = some (.string Y)) : ∃ hh : y < ([.string ⟨#[40]⟩, .string ⟨#[41]⟩, .string ⟨#[44]⟩, .string ⟨#[32]⟩, .string ⟨#[34]⟩, .string ⟨#[92]⟩, .string ⟨#[55]⟩] : List Value).length, ([.string ⟨#[40]⟩, .string ⟨#[41]⟩, .string ⟨#[44]⟩, .string ⟨#[32]⟩, .string ⟨#[34]⟩, .string ⟨#[92]⟩, .string ⟨#[55]⟩] : List Value)[y] = .string Y := List.getElem?_eq_some_iff.1 h
theorem showR_size (r : List GV) : (showR r).size ≤ 992 := by
  unfold showR
  split
  · rename_i h
    obtain ⟨h1, h2⟩ := row_ok h
    have h3 : (joinL r).length ≤ 990 := by
      rcases Nat.eq_zero_or_pos r.length with h0 | h0
      · rw [List.eq_nil_of_length_eq_zero h0]; simp [joinL]
      · have := join_len r h1 h0; omega
    rw [size_le (list_text _)]
    simp only [showRowL, List.length_cons, List.length_append, List.length_nil]
    omega
  · exact Nat.zero_le _

set_option maxRecDepth 100000 in
set_option maxHeartbeats 1600000 in
theorem draw_readRow (A : Option Addr) (c : Nat) (xs : List UInt8) (w : World) (hx : BAt w w.heap.size A xs) (hl : xs.length ≤ 1048576) :
    Calls Tryd.prog 18 #[.slice A xs.length c] w fun e w' => ∃ T : ByteArray, e = .returned (.string T) ∧ T.size ≤ 2000 ∧ Below w.heap.size w w' := by
  go_enter Tryd.func18, Tryd.ntmps18
  go_wp2_with fail
  refine (l1_new A c xs _ hx hl).mono ?_
  rintro e w1 ⟨rfl, hC, hb1⟩
  have hS1 := st_new hC hx hb1
  clear hC
  go_wp2_with fail
  refine (l1_below w.heap.size A c xs 6 _ hS1.1 hS1.2 hl (by omega) (by omega)).mono ?_
  rintro e w2 ⟨n, rfl, hn, hD2⟩
  have hB2 := Lib.hid (hb1.grown hD2.2.2 hb1.size (fun k hk => by injection hk; omega))
  go_wp2_with fail
  refine (draw_row w.heap.size A c xs n _ ⟨hD2.1, hD2.2.1⟩ hl (by omega)).mono ?_
  rintro e w3 ⟨u, r, rfl, ⟨a3, c3, rfl⟩, hV3, hr3, ht3, hS3, hG3⟩
  have hB3 := Lib.hid (hB2.out.grown hG3 hB2.out.size (fun k hk => by injection hk; omega))
  obtain ⟨A3, cc3, he3, hR3⟩ := hV3.row
  injection he3 with he3 _ hc3
  subst he3 hc3
  have ht3 := Lib.hid ht3
  clear hD2 hG3 hV3 hB2 hb1 hS1
  go_wp2_with fail
  refine (spec_showRow _ c3 r _ hR3 (by omega) (fun v hv => by have := ht3.out v hv; unfold maxLen; omega)).mono ?_
  rintro e w4 ⟨rfl, hb4⟩
  have hB4 := Lib.hid (below_next hB3.out hb4 rfl rfl)
  have hS4 := hS3.below hb4
  have hsz := showR_size r
  generalize showR r = T at *
  clear hS3 hR3 hb4 hB3
  go_wp2_with fail
  refine (l1_once w.heap.size A c xs 3 _ hS4.1 hS4.2 hl (by omega) (by omega)).mono ?_
  rintro e w5 ⟨b, rfl, hD5⟩
  have hB5 := Lib.hid (hB4.out.grown hD5.2.2 hB4.out.size (fun k hk => by injection hk; omega))
  have hS5 : St w5 w.heap.size A c xs := ⟨hD5.1, hD5.2.1⟩
  clear hD5 hB4 hS4
  cases b with
  | false =>
    go_wp2_with fail
    go_ret
    exact ⟨T, rfl, by omega, hB5.out⟩
  | true =>
    have hbl := fun W hC hx => l1_below w.heap.size A c xs (T.size + 1) W hC hx hl (by omega) (by omega)
    have ec : ((T.size + 1 : Nat) : Int) = (T.size : Int) + 1 := by omega
    rw [ec] at hbl
    go_wp2_with fail
    refine (hbl _ hS5.1 hS5.2).mono ?_
    rintro e w6 ⟨k, rfl, hk, hD6⟩
    have hB6 := Lib.hid (hB5.out.grown hD6.2.2 hB5.out.size (fun k hk => by injection hk; omega))
    have hS6 : St w6 w.heap.size A c xs := ⟨hD6.1, hD6.2.1⟩
    have hk0 : (0 : Int) ≤ (k : Int) := by omega
    have hk1 : (k : Int) ≤ (T.size : Int) := by omega
    have hgl6 := hS6.lt
    clear hD6 hB5 hS5 hbl ec
    go_wp2_with fail
    have hSA := Lib.hid (show St (w6.alloc (.cells #[.string ⟨#[40]⟩, .string ⟨#[41]⟩, .string ⟨#[44]⟩, .string ⟨#[32]⟩, .string ⟨#[34]⟩, .string ⟨#[92]⟩, .string ⟨#[55]⟩] 9)).drew w.heap.size A c xs from hS6.alloc _)
    have hSD := Lib.hid (show St w6.drew w.heap.size A c xs from hS6)
    have hWA := Lib.hid (show Whole (w6.alloc (.cells #[.string ⟨#[40]⟩, .string ⟨#[41]⟩, .string ⟨#[44]⟩, .string ⟨#[32]⟩, .string ⟨#[34]⟩, .string ⟨#[92]⟩, .string ⟨#[55]⟩] 9)).drew w6.heap.size 9 seven from Whole.new w6 9 seven)
    have hBA := Lib.hid (show Below w.heap.size w (w6.alloc (.cells #[.string ⟨#[40]⟩, .string ⟨#[41]⟩, .string ⟨#[44]⟩, .string ⟨#[32]⟩, .string ⟨#[34]⟩, .string ⟨#[92]⟩, .string ⟨#[55]⟩] 9)).drew from (hB6.out.alloc hB6.out.size _).drew)
    have hBD := Lib.hid (show Below w.heap.size w w6.drew from hB6.out.drew)
    go_region_with (first
      | (go_at_call 40; refine (l1_below w.heap.size A c xs 7 _ hSA.out.1 hSA.out.2 hl (by omega) (by omega)).mono ?_; rintro e w7 ⟨y, rfl, hy, hD7⟩; have hyi : (y : Int) < 7 := by omega
         have hy0 : (0 : Int) ≤ (y : Int) := by omega
         obtain ⟨Y, hY1, hY2⟩ := seven_at y hy
         have hF := hWA.out.drawn hD7.2.2 (by omega)
         have hcell : w7.cell? ⟨w6.heap.size, y, none⟩ = some (.string Y) := (hF.cell y).trans hY1
         have hEnd := Lib.hid (show Below w.heap.size w w7 from hBA.out.grown hD7.2.2 hBA.out.size (fun k hk => by injection hk; omega))
         clear hD7 hF)
      | (go_at_call 40; refine (l1_below w.heap.size A c xs 7 _ hSD.out.1 hSD.out.2 hl (by omega) (by omega)).mono ?_; rintro e w7 ⟨y, rfl, hy, hD7⟩; have hyi : (y : Int) < 7 := by omega
         have hy0 : (0 : Int) ≤ (y : Int) := by omega
         obtain ⟨Y, hY1, hY2⟩ := seven_at y hy
         have hlit : (#[.string ⟨#[40]⟩, .string ⟨#[41]⟩, .string ⟨#[44]⟩, .string ⟨#[32]⟩, .string ⟨#[34]⟩, .string ⟨#[92]⟩, .string ⟨#[55]⟩] : Array Value)[y]? = some (.string Y) := seven_arr hY1
         obtain ⟨hlen, hlit2⟩ := seven_get hY1
         have hEnd := Lib.hid (show Below w.heap.size w w7 from hBD.out.grown hD7.2.2 hBD.out.size (fun k hk => by injection hk; omega))
         clear hD7))
    all_goals go_wp2_with fail
    all_goals
      go_ret
      refine ⟨_, rfl, by simp only [ByteArray.size_append, ByteArray.size_extract]; omega, ?_⟩
      first | exact hEnd.out | exact hEnd.out.alloc hEnd.out.size _
end Go.Proofs.YtakidcehebpmkaaDoor
