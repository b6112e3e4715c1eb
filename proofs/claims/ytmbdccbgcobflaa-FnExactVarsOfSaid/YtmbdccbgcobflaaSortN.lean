/-
  slices.Sort and slices.Compact over a list of texts of the call's own.
-/
import Derived.Test.YtmbdccbgcobflaaVMath
import Derived.Test.YtmbdccbgcobflaaShelf
import Derived.Lib.OwnBridge
import Derived.Sort.OwnSorted
namespace Go.Proofs.Ytmbdccbgcobflaa
open Go.RowKit Go.Sort
set_option linter.unusedVariables false

theorem strL_by (l : List ByteArray) : strL l = (byL l).map encStr := (Lib.map_encStr l).symm
theorem strL_un (l : List By) : strL (unL l) = l.map encStr := by rw [strL_by, by_un]
theorem unL_length (l : List By) : (unL l).length = l.length := by simp [unL]
theorem byL_length (l : List ByteArray) : (byL l).length = l.length := by simp [byL]
theorem sort_names {B : Nat} (v : Value) (l : List ByteArray) (w : World) (h : SRow B w v l) (hn : v ≠ .slice none 0 0) (hl : l.length ≤ 4194304) :
    Calls Try.prog 23 #[v] w fun e w' => e = .returned (.tuple #[]) ∧ SRow B w' v (unL (sortM l)) ∧ w.grownBy w' v.ownBlock := by
  rcases h.2 with ⟨h0, _⟩ | ⟨g, cap, cur, rfl, hg, hh, hc1, hc2, hc3, hc4⟩
  · exact absurd h0 hn
  · have hlt : g < w.heap.size := (Array.getElem?_eq_some_iff.1 hh).1
    have hct : cur.toList.take (byL l).length = (byL l).map encStr := by rw [byL_length, ← strL_by]; simpa using hc4
    have hcall := Try.slices_Sort_string g 0 cap (byL l) w (holds_of_block hh hct) hlt (by rw [byL_length]; omega)
    rw [byL_length] at hcall
    refine hcall.mono ?_
    rintro e w' ⟨rfl, n, os, rfl⟩
    refine ⟨rfl, ?_, grownBy_sorted _⟩
    have := ownsRow_sorted (base := B) (n := n) (os := os) (ts := sortM l) (ss := byL l) (by rw [sortM_len, byL_length]) hg hh (by rw [byL_length]; exact hc1) hc2 hc3
    rw [byL_length] at this
    show World.ownsRow _ _ _ _ _ _ _
    rw [unL_length, sortM_len, strL_un]
    exact this
theorem compact_len (zs : List By) : (Lib.compact zs).length ≤ zs.length := by
  unfold Lib.compact Lib.compactUpTo
  rw [List.length_map]
  exact Nat.le_trans (List.length_filter_le _ _) (by simp)
theorem compact_names {B : Nat} (v : Value) (l : List By) (w : World) (h : SRow B w v (unL l)) (hn : v ≠ .slice none 0 0) (hl : l.length ≤ 4194304) :
    Calls Try.prog 24 #[v] w fun e w' => ∃ v', e = .returned v' ∧ SRow B w' v' (unL (Lib.compact l)) ∧ v' ≠ .slice none 0 0 ∧ w.grownBy w' v.ownBlock := by
  rcases h.2 with ⟨h0, _⟩ | ⟨g, cap, cur, rfl, hg, hh, hc1, hc2, hc3, hc4⟩
  · exact absurd h0 hn
  · have hct : cur.toList.take l.length = l.map encStr := by rw [← strL_un]; simpa [unL_length] using hc4
    rw [unL_length] at hc1
    have hcall := Try.slices_Compact_string g 0 cap l w (holds_of_block hh hct) (by omega) hc1
    rw [unL_length]
    refine hcall.mono ?_
    rintro e w' ⟨rfl, q, rfl⟩
    have ho : w.ownsRow B 9 1 (.slice (some ⟨g, 0, none⟩) l.length cap) l.length (l.map encStr) := by
      have := h
      unfold SRow at this
      rwa [unL_length, strL_un] at this
    have hlen := compact_len l
    have := Lib.ownsRow_putRow (q := q) (k := (Lib.compact l).length) (ys := Lib.compact l ++ List.replicate (l.length - (Lib.compact l).length) []) ho (by simp; omega) hlen
    refine ⟨_, rfl, ?_, by simp, ?_⟩
    · show World.ownsRow _ _ _ _ _ _ _
      rw [unL_length, strL_un]
      simpa using this
    · have := grownBy_sorted (w := w) (g := g) (n := q) (os := #[]) (Lib.compact l ++ List.replicate (l.length - (Lib.compact l).length) []).toArray
      rw [grow_empty] at this
      exact this
end Go.Proofs.Ytmbdccbgcobflaa
