/-
  Slices of values that a call made itself; a struct's three cells. laws.markText. laws.markValueS, laws.heldValueS.
-/
import Derived.Test.YteoepnadjkjlmaaGreatMakeZ
import Derived.Laws.AppendOwn
import Derived.Test.YteoepnadjkjlmaaGreatDigitsZ
import Derived.Lib.QuietBelow
import Derived.BigQuiet
namespace Go.Proofs.YteoepnadjkjlmaaGreat
open Go.RowKit
set_option linter.unusedVariables false

/-- A slice of values of the call's own, from block B on, that holds r. -/
def VRow (B : Nat) (w : World) (v : Value) (r : List GV) : Prop := w.ownsRow B 79 3 v r.length (flat r)
theorem VRow.row {B : Nat} {w : World} {v : Value} {r : List GV} (h : VRow B w v r) : ∃ A c, v = .slice A r.length c ∧ RowAt w w.heap.size A r := by
  rcases h.2 with ⟨rfl, h0⟩ | ⟨g, cap, cur, rfl, hg, hh, hc1, hc2, hc3, hc4⟩
  · exact ⟨none, 0, by rw [h0], .inl (List.eq_nil_of_length_eq_zero h0)⟩
  · refine ⟨_, cap, rfl, .inr ⟨g, 0, rfl, ?_, fun i v hv => ?_⟩⟩
    · rcases Nat.lt_or_ge g w.heap.size with h' | h'
      · exact h'
      · rw [Array.getElem?_eq_none h'] at hh; cases hh
    · obtain ⟨f0, f1, f2⟩ := flat_at r i v hv
      have hi : i < r.length := (List.getElem?_eq_some_iff.1 hv).1
      have key : ∀ j, j < r.length * 3 → w.cell? ⟨g, j, none⟩ = (flat r)[j]? := fun j hj => by
        have h1 : w.cell? ⟨g, j, none⟩ = cur.toList[j]? := by simp [World.cell?, hh]
        rw [h1, ← hc4, List.getElem?_take_of_lt hj]
      rw [Nat.zero_add]
      exact ⟨(key _ (by omega)).trans f0, (key _ (by omega)).trans f1, (key _ (by omega)).trans f2⟩
theorem VRow.below {B : Nat} {w w' : World} {v : Value} {r : List GV} (h : VRow B w v r) (hb : Below w.heap.size w w') : VRow B w' v r := by
  refine ⟨h.1, ?_⟩
  rcases h.2 with h' | ⟨g, cap, cur, e, hg, hh, hr⟩
  · exact .inl h'
  · refine .inr ⟨g, cap, cur, e, hg, ?_, hr⟩
    have : g < w.heap.size := by
      rcases Nat.lt_or_ge g w.heap.size with h' | h'
      · exact h'
      · rw [Array.getElem?_eq_none h'] at hh; cases hh
    rw [hb.block g this]; exact hh
theorem VRow.mono {B B' : Nat} {w : World} {v : Value} {r : List GV} (h : VRow B w v r) (hB : B' ≤ B) : VRow B' w v r := by
  refine ⟨h.1, ?_⟩
  rcases h.2 with h' | ⟨g, cap, cur, e, hg, hr⟩
  · exact .inl h'
  · exact .inr ⟨g, cap, cur, e, by omega, hr⟩
theorem vrow_app {B : Nat} {w2 : World} {v2 : Value} {r : List GV} {v : GV} (h : w2.ownsRow B 79 3 v2 (r.length + 1) (flat r ++ [.int .i64 v.k, .int .i64 v.n, .string v.t])) : VRow B w2 v2 (r ++ [v]) := by
  unfold VRow
  rw [flat_append, List.length_append]
  exact h
theorem news_three (w : World) (a b c : Value) (t : TypeId) : ∀ j u, [a, b, c][j]? = some u → (w.alloc (.cells #[a, b, c] t)).cell? ((⟨w.heap.size, 0, none⟩ : Addr).add j) = some u := by
  intro j u hj
  match j, hj with
  | 0, hj => simp at hj; subst hj; simp [Addr.add]
  | 1, hj => simp at hj; subst hj; simp [Addr.add]
  | 2, hj => simp at hj; subst hj; simp [Addr.add]
theorem one_three (k n : Int) (t : ByteArray) : ∀ u ∈ [Value.int .i64 k, .int .i64 n, .string t], u.oneCell' = true := by
  intro u hu; simp at hu; rcases hu with rfl | rfl | rfl <;> rfl
theorem vrow_nil (B : Nat) (w : World) : VRow B w (.slice none 0 0) [] := ⟨rfl, .inl ⟨rfl, rfl⟩⟩
theorem vrow_new (w : World) : VRow w.heap.size (w.alloc (.cells #[] 79)) (.slice (some ⟨w.heap.size, 0, none⟩) 0 0) [] :=
  ⟨rfl, .inr ⟨w.heap.size, 0, #[], rfl, Nat.le_refl _, heap_alloc_new w _, Nat.le_refl _, by unfold maxLen; omega, rfl, rfl⟩⟩
theorem put3 {w : World} {g : Nat} {t : TypeId} {a b c : Value} (x y z : Value) (h : Whole w g t [a, b, c]) :
    Whole (((w.setCell ⟨g, 0, none⟩ x).setCell ⟨g, 1, none⟩ y).setCell ⟨g, 2, none⟩ z) g t [x, y, z] := ((h.set_ 0 x).set_ 1 y).set_ 2 z
theorem below3 {B g : Nat} {a w : World} (x y z : Value) (h : Below B a w) (hg : B ≤ g) : Below B a (((w.setCell ⟨g, 0, none⟩ x).setCell ⟨g, 1, none⟩ y).setCell ⟨g, 2, none⟩ z) :=
  ((h.setCell hg x).setCell hg y).setCell hg z
theorem cells3_ {w : World} {g : Nat} {t : TypeId} {x y z : Value} (h : Whole w g t [x, y, z]) : w.cell? ⟨g, 0, none⟩ = some x ∧ w.cell? ⟨g, 1, none⟩ = some y ∧ w.cell? ⟨g, 2, none⟩ = some z :=
  ⟨h.cell 0, h.cell 1, h.cell 2⟩
def VV (v : GV) : Value := .agg #[.int .i64 v.k, .int .i64 v.n, .string v.t]
def zeroV : List Value := [.int .i64 0, .int .i64 0, .string ByteArray.empty]
theorem new3 (w : World) : Whole (w.alloc (.cells #[.int .i64 0, .int .i64 0, .string ⟨#[]⟩] 79)) w.heap.size 79 zeroV := Whole.new w _ _
theorem own_ge {w : World} {base : Nat} {e : TypeId} {size n : Nat} {v : Value} {xs : List Value} (h : w.ownsRow base e size v n xs) : ∀ k, v.ownBlock = some k → base ≤ k := by
  intro k hk
  rcases h.2 with ⟨rfl, _⟩ | ⟨g, cap, cur, rfl, hg, _⟩
  · simp [Value.ownBlock] at hk
  · simp [Value.ownBlock] at hk; omega
theorem grown_next {w w1 w2 : World} {b : Nat} (h : w.grownBy w1 (some b)) (k : w1.grownBy w2 (some b)) : w.grownBy w2 (some b) :=
  ⟨k.os.trans h.os, k.tape.trans h.tape, k.output.trans h.output, Nat.le_trans h.size k.size, fun i hi hne => (k.block i (Nat.lt_of_lt_of_le hi h.size) hne).trans (h.block i hi hne)⟩
theorem grown_below {w w' : World} {b : Option Nat} (h : Below w.heap.size w w') : w.grownBy w' b := ⟨h.os, h.tape, h.output, h.size, fun k hk _ => h.block k hk⟩
theorem grown_set {w w1 : World} {g i : Nat} {u : Value} (h : w.grownBy w1 (some g)) : w.grownBy (w1.setCell ⟨g, i, none⟩ u) (some g) :=
  ⟨h.os, h.tape, h.output, by simpa [World.setCell] using h.size, fun k hk hne => by
    rw [Below.heap_setCell _ _ _ _ (by intro e; exact hne (by rw [e]))]; exact h.block k hk hne⟩
theorem grown_refl (w : World) (g : Nat) : w.grownBy w (some g) := ⟨rfl, rfl, rfl, Nat.le_refl _, fun _ _ _ => rfl⟩
theorem flat_one (r : List GV) : ∀ u ∈ flat r, u.oneCell' = true := by
  induction r with
  | nil => intro u hu; simp [flat] at hu
  | cons v r ih => intro u hu; simp [flat] at hu; rcases hu with rfl | rfl | rfl | h; rfl; rfl; rfl; exact ih u h
theorem Whole.far {w : World} {g g' i : Nat} {t : TypeId} {l : List Value} {u : Value} (h : Whole w g t l) (hne : g ≠ g') : Whole (w.setCell ⟨g', i, none⟩ u) g t l := by
  unfold Whole at h ⊢; rw [Below.heap_setCell _ _ _ _ hne]; exact h
theorem frozen3 {w : World} {g : Nat} {t : TypeId} {x y z : Value} (h : Whole w g t [x, y, z]) : w.frozen? ⟨g, 0, none⟩ = false ∧ w.frozen? ⟨g, 1, none⟩ = false ∧ w.frozen? ⟨g, 2, none⟩ = false :=
  ⟨h.frozen 0, h.frozen 1, h.frozen 2⟩
theorem infoU8 : (Tryz.prog.info? 5).map (fun i => (i.zero, i.size, i.bytes)) = some (some (.int .u8 0), 1, 1) := by kernel_rfl
theorem flat_get : ∀ (vs : List GV) (j : Nat) (u : Value), (flat vs)[j]? = some u → ∃ i v, vs[i]? = some v ∧ ((j = i * 3 ∧ u = .int .i64 v.k) ∨ (j = i * 3 + 1 ∧ u = .int .i64 v.n) ∨ (j = i * 3 + 2 ∧ u = .string v.t))
  | [], j, u, h => by simp [flat] at h
  | x :: vs, 0, u, h => by simp [flat] at h; exact ⟨0, x, rfl, .inl ⟨rfl, h.symm⟩⟩
  | x :: vs, 1, u, h => by simp [flat] at h; exact ⟨0, x, rfl, .inr (.inl ⟨rfl, h.symm⟩)⟩
  | x :: vs, 2, u, h => by simp [flat] at h; exact ⟨0, x, rfl, .inr (.inr ⟨rfl, h.symm⟩)⟩
  | x :: vs, j + 3, u, h => by
    obtain ⟨i, v, hv, h'⟩ := flat_get vs j u (by simpa [flat] using h)
    refine ⟨i + 1, v, by simpa using hv, ?_⟩
    rcases h' with ⟨rfl, e⟩ | ⟨rfl, e⟩ | ⟨rfl, e⟩
    · exact .inl ⟨by omega, e⟩
    · exact .inr (.inl ⟨by omega, e⟩)
    · exact .inr (.inr ⟨by omega, e⟩)
end Go.Proofs.YteoepnadjkjlmaaGreat
namespace Go.Proofs.YteoepnadjkjlmaaGreat
open Go.RowKit Go.Sort
set_option linter.unusedVariables false

/-- The digits of a number, none of naught. -/
def dz (m : Nat) : List UInt8 := if m = 0 then [] else Lib.decDigits m
theorem dz_step (m : Nat) (h : 0 < m) : dz m = dz (m / 10) ++ [UInt8.ofNat (48 + m % 10)] := by
  by_cases h9 : 9 < m
  · unfold dz; rw [if_neg (by omega), if_neg (by omega), digits_step m h9]
  · have e : m / 10 = 0 := by omega
    have e2 : m % 10 = m := by omega
    unfold dz; rw [if_neg (by omega), if_pos e, digits_small m (by omega), e2]; rfl
theorem dz_len (n : Nat) (h : n ≤ 1000000000) : (dz n).length ≤ 21 := by
  unfold dz; split
  · simp
  · exact digits_len n (by omega)
def mT (k : Nat) : ByteArray := ⟨(109 :: dz k).toArray⟩

set_option maxRecDepth 100000 in
set_option maxHeartbeats 800000 in
theorem mark_text (n : Nat) (w : World) (h0 : 1 ≤ n) (h1 : n ≤ 1000000000) :
    Calls Tryz.prog 36 #[.int .i64 n] w fun e w' => e = .returned (.string (mT n)) ∧ Below w.heap.size w w' := by
  go_enter Tryz.func36, Tryz.ntmps36
  go_wp2_with fail
  go_loopw [0, 3] (fun u s w' => ∃ (m : Nat) (l : List UInt8), m ≤ n ∧ u = .int .i64 m ∧ s = .string ⟨l.toArray⟩ ∧ Hid (dz m ++ l = dz n) ∧ Below w.heap.size w w') (fun u _ _ => (intOf u).toNat)
  case atStart => exact ⟨n, [], Nat.le_refl _, rfl, rfl, Lib.hid (by simp), Below.refl _ _⟩
  case round =>
    obtain ⟨m, l, hm, rfl, rfl, hd, hB⟩ := hrel
    have hl : l.length ≤ 21 := by
      have h := dz_len n h1
      rw [← hd.out, List.length_append] at h; omega
    by_cases hlt : 0 < m
    · have hst := Lib.hid (dz_step m hlt)
      have hcv := conv_one (48 + m % 10) (by omega) wr
      have ec : ((48 + m % 10 : Nat) : Int) = 48 + (m : Int) % 10 := by omega
      rw [ec] at hcv
      clear ec
      go_wp2_with fail
      go_roundw
      case rel => exact ⟨m / 10, (48 + UInt8.ofNat (m % 10)) :: l, by omega, by go_num, by rw [str_cons], Lib.hid (by rw [← hd.out, hst.out, ofNat_add]; simp), hB.alloc hB.size _⟩
      case measure => simp [intOf]; omega
    · have hm0 : m = 0 := by omega
      have HL := Lib.hid (show l = dz n by rw [← hd.out, hm0]; rfl)
      clear hm0
      go_wp2_with fail
      go_ret
      refine ⟨?_, hB⟩
      show Ending.returned (.string (⟨#[109]⟩ ++ ⟨l.toArray⟩)) = _
      rw [str_cons, HL.out]; rfl
end Go.Proofs.YteoepnadjkjlmaaGreat
namespace Go.Proofs.YteoepnadjkjlmaaGreat
open Go.RowKit Go.Sort
set_option linter.unusedVariables false

def markV (k i : Nat) : GV := ⟨((k + 3 * i : Nat) : Int), ((k + 3 * i + 1 : Nat) : Int), mT (k + 3 * i + 2)⟩
def marked (k n : Nat) : List GV := (List.range n).map (markV k)
theorem marked_succ (k n : Nat) : marked k (n + 1) = marked k n ++ [markV k n] := by unfold marked; rw [List.range_succ]; simp
theorem marked_len (k n : Nat) : (marked k n).length = n := by simp [marked]
theorem marked_at (k n i : Nat) (h : i < n) : (marked k n)[i]'(by rw [marked_len]; exact h) = markV k i := by simp [marked]
theorem set2 (a b : List Value) (x y z x' y' : Value) : ((a ++ x :: y :: z :: b).set a.length x').set (a.length + 1) y' = a ++ x' :: y' :: z :: b := by
  simp
theorem set1 (a b : List Value) (x y z z' : Value) : (a ++ x :: y :: z :: b).set (a.length + 2) z' = a ++ x :: y :: z' :: b := by
  simp
theorem drop3 (l : List Value) (i : Nat) (h : i + 3 ≤ l.length) : ∃ x y z, l.drop i = x :: y :: z :: l.drop (i + 3) := by
  rw [List.drop_eq_getElem_cons (by omega : i < l.length), List.drop_eq_getElem_cons (by omega : i + 1 < l.length), List.drop_eq_getElem_cons (by omega : i + 1 + 1 < l.length)]
  exact ⟨_, _, _, rfl⟩

set_option maxRecDepth 100000 in
set_option maxHeartbeats 1600000 in
theorem mark_row (g cap n k : Nat) (l : List Value) (w : World) (hW : Whole w g 79 l) (hl : n * 3 ≤ l.length) (hk : 1 ≤ k) (hk2 : k ≤ 100000000) (hn : n ≤ 100000000) :
    Calls Tryz.prog 38 #[.slice (some ⟨g, 0, none⟩) n cap, .int .i64 k] w fun e w' => e = .returned (.int .i64 ((k + 3 * n : Nat) : Int)) ∧ Whole w' g 79 (flat (marked k n) ++ l.drop (n * 3)) ∧ w.grownBy w' (some g) := by
  have HW := Lib.hid (show Whole w g 79 (flat (marked k 0) ++ l.drop (0 * 3)) by simpa [marked, flat] using hW)
  clear hW
  go_enter Tryz.func38, Tryz.ntmps38
  go_wp2_with fail
  go_loopw [1, 5] (fun kk i w' => ∃ j : Nat, j ≤ n ∧ kk = .int .i64 ((k + 3 * j : Nat) : Int) ∧ i = .int .i64 j ∧ Hid (Whole w' g 79 (flat (marked k j) ++ l.drop (j * 3))) ∧ Hid (w.grownBy w' (some g))) (fun _ i _ => n - (intOf i).toNat)
  case atStart => exact ⟨0, Nat.zero_le _, rfl, rfl, HW, Lib.hid (grown_refl w g)⟩
  case round =>
    obtain ⟨j, hj, rfl, rfl, hWj, hG⟩ := hrel
    by_cases hlt : j < n
    · obtain ⟨x, y, z, hr⟩ := drop3 l (j * 3) (by omega)
      have hfl : (flat (marked k j)).length = j * 3 := by rw [flat_length, marked_len]
      have hW1 := hWj.out
      rw [hr] at hW1
      have q0 := hW1.cell (j * 3)
      have q1 := hW1.cell (j * 3 + 1)
      rw [List.getElem?_append_right (by omega), hfl] at q0 q1
      simp at q0 q1
      have r0 := hW1.frozen (j * 3)
      have r1 := hW1.frozen (j * 3 + 1)
      have hW2 := Lib.hid ((hW1.set_ (j * 3) (.int .i64 ((k + 3 * j : Nat) : Int))).set_ (j * 3 + 1) (.int .i64 ((k + 3 * j + 1 : Nat) : Int)))
      have hG2 := Lib.hid (show w.grownBy ((wr.setCell ⟨g, j * 3, none⟩ (.int .i64 ((k + 3 * j : Nat) : Int))).setCell ⟨g, j * 3 + 1, none⟩ (.int .i64 ((k + 3 * j + 1 : Nat) : Int))) (some g) from grown_set (grown_set hG.out))
      have HF := Lib.hid hfl
      have HR := Lib.hid hr
      clear hfl hr hW1
      have e1 : ((k + 3 * j + 1 : Nat) : Int) = ((k + 3 * j : Nat) : Int) + 1 := by omega
      have e2 : ((k + 3 * j + 2 : Nat) : Int) = ((k + 3 * j : Nat) : Int) + 1 + 1 := by omega
      have hmt := fun W => mark_text (k + 3 * j + 2) W (by omega) (by omega)
      have hbd : ((k + 3 * j : Nat) : Int) ≤ 400000000 := by omega
      have hbd0 : (0 : Int) ≤ ((k + 3 * j : Nat) : Int) := by omega
      have H3 := Lib.hid (show ((k + 3 * (j + 1) : Nat) : Int) = ((k + 3 * j : Nat) : Int) + 1 + 1 + 1 by omega)
      rw [e2] at hmt
      rw [e1] at hW2 hG2
      have HE1 := Lib.hid e1
      clear e1 e2
      generalize hK : ((k + 3 * j : Nat) : Int) = K at *
      go_wp2_with fail
      refine (hmt _).mono ?_
      rintro e w2 ⟨rfl, hb2⟩
      have hW3 := hW2.out.below hb2 hW2.out.lt
      have hz : ((flat (marked k j) ++ x :: y :: z :: l.drop (j * 3 + 3)).set (j * 3) (.int .i64 K)).set (j * 3 + 1) (.int .i64 (K + 1)) = flat (marked k j) ++ .int .i64 K :: .int .i64 (K + 1) :: z :: l.drop (j * 3 + 3) := by
        have := set2 (flat (marked k j)) (l.drop (j * 3 + 3)) x y z (.int .i64 K) (.int .i64 (K + 1))
        rw [HF.out] at this
        exact this
      rw [hz] at hW3
      have q2 := hW3.cell (j * 3 + 2)
      rw [List.getElem?_append_right (by rw [HF.out]; omega), HF.out] at q2
      simp at q2
      have r2 := hW3.frozen (j * 3 + 2)
      have HW3 := Lib.hid hW3
      have hG3 := Lib.hid (grown_next hG2.out (grown_below hb2))
      clear q0 q1 r0 r1 hW3 hz hmt
      have hW4 := Lib.hid (show Whole (w2.setCell ⟨g, j * 3 + 2, none⟩ (.string (mT (k + 3 * j + 2)))) g 79 (flat (marked k (j + 1)) ++ l.drop ((j + 1) * 3)) by
        have h4 := HW3.out.set_ (j * 3 + 2) (.string (mT (k + 3 * j + 2)))
        have h5 := set1 (flat (marked k j)) (l.drop (j * 3 + 3)) (.int .i64 K) (.int .i64 (K + 1)) z (.string (mT (k + 3 * j + 2)))
        rw [HF.out] at h5
        rw [h5] at h4
        have h6 : flat (marked k (j + 1)) ++ l.drop ((j + 1) * 3) = flat (marked k j) ++ .int .i64 K :: .int .i64 (K + 1) :: .string (mT (k + 3 * j + 2)) :: l.drop (j * 3 + 3) := by
          rw [marked_succ, flat_append, show (j + 1) * 3 = j * 3 + 3 by omega]
          simp only [flat, markV, List.append_assoc, List.cons_append, List.nil_append, HE1.out, hK]
        rw [h6]; exact h4)
      have hG4 := Lib.hid (grown_set (i := j * 3 + 2) (u := .string (mT (k + 3 * j + 2))) hG3.out)
      go_wp2_with fail
      go_roundw
      case rel => exact ⟨j + 1, by omega, by rw [H3.out], by go_num, hW4, hG4⟩
      case measure => simp [intOf]; omega
    · go_wp2_with fail
      go_ret
      obtain rfl : j = n := by omega
      exact ⟨rfl, hWj.out, hG.out⟩

set_option maxRecDepth 100000 in
set_option maxHeartbeats 1600000 in
theorem held_row (A : Option Addr) (cap n k : Nat) (w : World) (hr : RowAt w w.heap.size A (marked k n)) (hk : 1 ≤ k) (hk2 : k ≤ 100000000) (hn : n ≤ 100000000) :
    Calls Tryz.prog 39 #[.slice A n cap, .int .i64 k] w fun e w' => e = .returned (.int .i64 ((k + 3 * n : Nat) : Int)) ∧ Below w.heap.size w w' := by
  go_enter Tryz.func39, Tryz.ntmps39
  go_wp2_with fail
  go_loopw [1, 5] (fun kk i w' => ∃ j : Nat, j ≤ n ∧ kk = .int .i64 ((k + 3 * j : Nat) : Int) ∧ i = .int .i64 j ∧ Below w.heap.size w w') (fun _ i _ => n - (intOf i).toNat)
  case atStart => exact ⟨0, Nat.zero_le _, rfl, rfl, Below.refl _ _⟩
  case round =>
    obtain ⟨j, hj, rfl, rfl, hB⟩ := hrel
    by_cases hlt : j < n
    · obtain ⟨g, o, rfl, hg, c0, c1, c2⟩ := (hr.to_ hB).at_ (i := j) (by rw [marked_len]; exact hlt)
      rw [marked_at k n j hlt] at c0 c1 c2
      simp only [markV] at c0 c1 c2
      have e1 : ((k + 3 * j + 1 : Nat) : Int) = ((k + 3 * j : Nat) : Int) + 1 := by omega
      have e2 : ((k + 3 * j + 2 : Nat) : Int) = ((k + 3 * j : Nat) : Int) + 1 + 1 := by omega
      have hmt := fun W => mark_text (k + 3 * j + 2) W (by omega) (by omega)
      have hbd : ((k + 3 * j : Nat) : Int) ≤ 400000000 := by omega
      have hbd0 : (0 : Int) ≤ ((k + 3 * j : Nat) : Int) := by omega
      have H3 := Lib.hid (show ((k + 3 * (j + 1) : Nat) : Int) = ((k + 3 * j : Nat) : Int) + 1 + 1 + 1 by omega)
      rw [e2] at hmt
      rw [e1] at c1
      clear e1 e2
      generalize hK : ((k + 3 * j : Nat) : Int) = K at *
      have hi0 : (0 : Int) ≤ (j : Int) := by omega
      have hi1 : (j : Int) < (n : Int) := by omega
      have q2 := cell_regrown c2
      have hself : ((mT (k + 3 * j + 2)).toList == (mT (k + 3 * j + 2)).toList) = true := by simp
      generalize mT (k + 3 * j + 2) = M at *
      go_wp2_with fail
      refine wp_region_quiet_below (by kernel_rfl) (by kernel_rfl) ?_
      repeat (go_big_quiet_step (first
        | (go_at_call 36; exact Calls.regrown_of (hmt _))))
      refine wpQuiet_nil ?_
      intro _ hw'
      obtain ⟨⟨dq, osq⟩, hw''⟩ := hw'
      subst hw''
      have hB2 := below_next hB (below_regrown wr dq osq) rfl rfl
      generalize grow (redrawn wr dq) osq = wx at *
      clear q2 c0 c1 c2
      go_wp2_with fail
      go_roundw
      case rel => exact ⟨j + 1, by omega, by rw [H3.out], by go_num, hB2⟩
      case measure => simp [intOf]; omega
    · go_wp2_with fail
      go_ret
      obtain rfl : j = n := by omega
      exact ⟨rfl, hB⟩
end Go.Proofs.YteoepnadjkjlmaaGreat
