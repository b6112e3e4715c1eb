/-
  impl.counted, impl.DiffOf. A table whose rows are blocks of their own.
-/
import Derived.Test.YtggkggaihfcjmaaTyTabZ
import Derived.Test.YtggkggaihfcjmaaSumW
import Derived.Test.YtggkggaihfcjmaaTabMZ
import Derived.Test.YtggkggaihfcjmaaMakeZ
namespace Go.Proofs.Ytggkggaihfcjmaa
open Go.RowKit Go.Sort
set_option linter.unusedVariables false

theorem DAcc.made {w0 w : World} {n m : Nat} (h : Below w0.heap.size w0 w) (hn : w.heap.size = n) (hm : m ≤ maxLen) : DAcc w0 (w.alloc (.cells (madeCells #[.slice none 0 0, .int .i64 0] (m * 2)) 55)) (.slice (some ⟨n, 0, none⟩) 0 m) [] := by
  subst hn
  refine ⟨⟨[], rfl, ?_, fun p hp => by simp at hp⟩, by simp, h.alloc h.size _⟩
  simpa [flatH] using World.ownsRow_made (base := w0.heap.size) (e := 55) (size := 2) w (madeCells #[.slice none 0 0, .int .i64 0] (m * 2)) m h.size hm (by simp [size_madeCells])
set_option maxRecDepth 100000 in
set_option maxHeartbeats 3200000 in
theorem impl_counted (A : Option Addr) (c : Nat) (rows : List (List GV)) (n : Int) (w : World) (hr : TabC w w.heap.size A rows) (hl : rows.length ≤ 1048576) :
    Calls Try.prog 58 #[.slice A rows.length c, .int .i64 n] w (DPost w (ofL rows n)) := by
  have HR := Lib.hid hr
  clear hr
  obtain ⟨i0, hi0, hz0, hz1, hz2⟩ := info_parts infoDiff
  have hmk := fun W => run_make (P := Try.prog) W 24 55 i0 _ Try.underlying24 hi0 hz0 .i64 .i64 0 rows.length (by omega) (by omega) (by rw [hz2]; omega) (by omega)
  go_enter Try.func58, Try.ntmps58
  go_wp2_with fail
  clear hmk
  go_loopw [5, 13] (fun out i w' => ∃ (k : Nat) (L : List GDiff), k ≤ rows.length ∧ i = .int .i64 k ∧ Hid (L = ofL (rows.take k) n) ∧ Hid (DAcc w w' out L)) (fun _ i _ => rows.length - (intOf i).toNat)
  case atStart => exact ⟨0, [], Nat.zero_le _, rfl, Lib.hid rfl, Lib.hid (DAcc.made (Below.refl _ _) rfl (by unfold maxLen; omega))⟩
  case round =>
    obtain ⟨k, L, hk, rfl, hL, hD⟩ := hrel
    obtain ⟨A6, c6, rfl, _⟩ := hD.out.slice
    have hLl := Lib.hid (show L.length = k by rw [hL.out, ofL_len, List.length_take]; omega)
    by_cases hlt : k < rows.length
    · obtain ⟨g, o, A', c', rfl, hg, hcell, hcap, hrow⟩ := (HR.out.below hD.out.low (Nat.le_refl _)).at_ hlt
      have hi1 : (k : Int) < (rows.length : Int) := by omega
      have hi0 : (0 : Int) ≤ (k : Int) := by omega
      have hst := Lib.hid (show L ++ [⟨rows[k], n⟩] = ofL (rows.take (k + 1)) n by rw [hL.out, ofL_snoc rows n k hlt])
      have hzl : L.length ≤ 4194304 := by rw [hLl.out]; omega
      have hp := Lib.hid (show DHok wr w.heap.size ((A', c'), ⟨rows[k], n⟩) from ⟨hrow.st hD.out.low.size, hcap⟩)
      clear hrow hcap
      go_wp2_with (at_builtin; refine wpList_dapp wr rfl (.tmp 17) (.tmp 21) rfl w (.slice A6 L.length c6) L ((A', c'), ⟨rows[k], n⟩) rfl hD.out hp.out rfl hzl ?_; intro v2 W2 hD2; refine Hid.out ?_)
      refine Lib.hid ?_
      have HD2 := Lib.hid hD2
      clear hD2 hcell
      go_wp2_with fail
      go_roundw
      case rel => exact ⟨k + 1, _, by omega, by go_num, hst, HD2⟩
      case measure => simp [intOf]; omega
    · have hi1 : ¬ (k : Int) < (rows.length : Int) := by omega
      have hE := Lib.hid (show L = ofL rows n by rw [hL.out, List.take_of_length_le (by omega)])
      have hP := Lib.hid hD.out.post
      go_wp2_with fail
      go_ret
      rw [← hE.out]
      exact hP.out
theorem IPost.next {w w1 w2 : World} {zs : List GDiff} {e : Ending} (h : IPost w1 zs e w2) (hB : Below w.heap.size w w1) : IPost w zs e w2 := by
  obtain ⟨A, c, ps, h1, h2, h3, h4⟩ := h
  exact ⟨A, c, ps, h1, h2, DGA.low h3 hB.size, below_next hB h4 rfl rfl⟩
set_option maxRecDepth 100000 in
set_option maxHeartbeats 1600000 in
theorem impl_diffOf (A B : Option Addr) (c d : Nat) (old fresh : List (List GV)) (w : World) (ha : TabC w w.heap.size A old) (hb : TabC w w.heap.size B fresh) (hl : old.length ≤ 1048576) (hl' : fresh.length ≤ 1048576)
    (hla : ∀ r ∈ old, r.length ≤ 1048576 ∧ ∀ v ∈ r, v.t.size ≤ maxLen) (hlb : ∀ r ∈ fresh, r.length ≤ 1048576 ∧ ∀ v ∈ r, v.t.size ≤ maxLen) :
    Calls Try.prog 21 #[.slice A old.length c, .slice B fresh.length d] w (IPost w (diffOfD old fresh)) := by
  have HA := Lib.hid ha
  have HB := Lib.hid hb
  have HLA := Lib.hid (show ∀ z ∈ ofL old (-1), z.row.length ≤ 1048576 ∧ ∀ v ∈ z.row, v.t.size ≤ maxLen from fun z hz => hla _ (ofL_mem hz).1)
  have HLB := Lib.hid (show ∀ z ∈ ofL fresh 1, z.row.length ≤ 1048576 ∧ ∀ v ∈ z.row, v.t.size ≤ maxLen from fun z hz => hlb _ (ofL_mem hz).1)
  have l1 : (ofL old (-1)).length ≤ 1048576 := by rw [ofL_len]; exact hl
  have l2 : (ofL fresh 1).length ≤ 1048576 := by rw [ofL_len]; exact hl'
  clear ha hb hla hlb
  go_enter Try.func21, Try.ntmps21
  go_wp2_with fail
  refine (impl_counted A c old (-1) _ HA.out hl).mono ?_
  rintro e w1 ⟨A1, c1, rfl, hc1, hd1, hb1⟩
  have HD1 := Lib.hid hd1
  clear hd1
  go_wp2_with fail
  refine (impl_counted B d fresh 1 _ (HB.out.to_ hb1) hl').mono ?_
  rintro e w2 ⟨A2, c2, rfl, hc2, hd2, hb2⟩
  have HD1' := Lib.hid (HD1.out.to_ hb2)
  have HD2 := Lib.hid hd2
  have hB2 := below_next hb1 hb2 rfl rfl
  clear hd2 hb1 hb2 HD1
  go_wp2_with fail
  refine (impl_addDiffs A1 A2 c1 c2 (ofL old (-1)) (ofL fresh 1) _ HD1'.out HD2.out l1 l2 HLA.out HLB.out).mono ?_
  intro e w3 hI
  obtain ⟨A3, c3, ps, rfl, h2, h3, h4⟩ := hI
  have HI := Lib.hid (IPost.next ⟨A3, c3, ps, rfl, h2, h3, h4⟩ hB2)
  clear h2 h3 h4
  go_wp2_with fail
  go_ret
  exact HI.out
end Go.Proofs.Ytggkggaihfcjmaa
namespace Go.Proofs.Ytggkggaihfcjmaa
open Go.RowKit Go.Sort
set_option linter.unusedVariables false

def headV (p : PR) : Value := .slice (some ⟨p.1, 0, none⟩) p.2.length p.2.length
def Own (w : World) (ps : List PR) : Prop := ∀ p ∈ ps, Whole w p.1 52 (flat p.2)
/-- A table: its outer block's cells begin with the heads of ps; l lies behind. -/
def OutAt (w : World) (g : Nat) (ps : List PR) (l : List Value) : Prop := Whole w g 53 (ps.map headV ++ l) ∧ Own w ps ∧ ∀ p ∈ ps, p.1 ≠ g
theorem Own.row {w : World} {ps : List PR} (h : Own w ps) {p : PR} (hp : p ∈ ps) : RowAt w w.heap.size (some ⟨p.1, 0, none⟩) p.2 := (h p hp).row (h p hp).lt
theorem OutAt.tab {w : World} {g : Nat} {ps : List PR} {l : List Value} (h : OutAt w g ps l) : TabAt w w.heap.size (some ⟨g, 0, none⟩) (ps.map (·.2)) := by
  refine .inr ⟨g, 0, rfl, h.1.lt, fun i r hr => ?_⟩
  rw [List.getElem?_map, Option.map_eq_some_iff] at hr
  obtain ⟨p, hp, rfl⟩ := hr
  have hi : i < ps.length := (List.getElem?_eq_some_iff.1 hp).1
  refine ⟨some ⟨p.1, 0, none⟩, p.2.length, ?_, h.2.1.row (List.mem_of_getElem? hp)⟩
  rw [h.1.cell, Nat.zero_add, List.getElem?_append_left (by simpa using hi), List.getElem?_map, hp]
  rfl
theorem OutAt.below {w w' : World} {g : Nat} {ps : List PR} {l : List Value} (h : OutAt w g ps l) (hb : Below w.heap.size w w') : OutAt w' g ps l :=
  ⟨h.1.below hb h.1.lt, fun p hp => (h.2.1 p hp).below hb (h.2.1 p hp).lt, h.2.2⟩

end Go.Proofs.Ytggkggaihfcjmaa
