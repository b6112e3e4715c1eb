/-
  impl.copyRows.
-/
import Derived.Test.YtpipikjkhmhmhaaTGA
import Derived.Test.YtpipikjkhmhmhaaCopyRow
namespace Go.Proofs.Ytpipikjkhmhmhaa
open Go.RowKit Go.Sort
set_option linter.unusedVariables false

theorem TGA.up {B B' : Nat} {w : World} {A : Option Addr} {ps : List PR} (h : TGA B w A ps) (hb : B' ≤ B) : TGA B' w A ps := by
  rcases h with h | ⟨g, l, hA, hB, hO, hr, hn⟩
  · exact .inl h
  · exact .inr ⟨g, l, hA, by omega, hO, fun p hp => Nat.le_trans hb (hr p hp), hn⟩
theorem PAcc.made {w0 w : World} {n m : Nat} (h : Below w0.heap.size w0 w) (hn : w.heap.size = n) (hm : m ≤ maxLen) : PAcc w0 (w.alloc (.cells (madeCells #[.slice none 0 0] m) 29)) (.slice (some ⟨n, 0, none⟩) 0 m) [] := by
  subst hn
  refine ⟨?_, fun p hp => by simp at hp, by simp, by simp, h.alloc h.size _⟩
  simpa using World.ownsRow_made (base := w0.heap.size) (e := 29) (size := 1) w (madeCells #[.slice none 0 0] m) m h.size hm (by simp [size_madeCells])
set_option maxRecDepth 100000 in
set_option maxHeartbeats 3200000 in
theorem copy_rows (A : Option Addr) (c : Nat) (rows : List (List GV)) (w : World) (hr : TabAt w w.heap.size A rows) (hl : rows.length ≤ 1048576) (hlr : ∀ r ∈ rows, r.length ≤ 1048576 ∧ ∀ v ∈ r, v.t.size ≤ 1048576) :
    Calls Try.prog 65 #[.slice A rows.length c] w (ITPost w rows) := by
  have HR := Lib.hid hr
  have HLR := Lib.hid hlr
  clear hr hlr
  obtain ⟨i0, hi0, hz0, hz1, hz2⟩ := info_parts infoVs
  have hmk := fun W => run_make (P := Try.prog) W 46 29 i0 _ Try.underlying46 hi0 hz0 .i64 .i64 0 rows.length (by omega) (by omega) (by rw [hz2]; omega) (by omega)
  have hA0 := Lib.hid (PAcc.made (w0 := w) (m := rows.length) (Below.refl _ w) rfl (by unfold maxLen; omega))
  go_enter Try.func65, Try.ntmps65
  go_wp2_with fail
  go_loopw [3, 11] (fun out i w' => ∃ (k : Nat) (ps : List PR), k ≤ rows.length ∧ i = .int .i64 k ∧ Hid (ps.map (·.2) = rows.take k) ∧ Hid (PAcc w w' out ps)) (fun _ i _ => rows.length - (intOf i).toNat)
  case atStart => exact ⟨0, [], Nat.zero_le _, rfl, Lib.hid rfl, hA0⟩
  case round =>
    obtain ⟨k, ps, hk, rfl, hL, hD⟩ := hrel
    obtain ⟨A6, c6, rfl, _⟩ := hD.out.slice
    have hLl := Lib.hid (show ps.length ≤ k by have h1 := congrArg List.length hL.out; simp at h1; omega)
    by_cases hlt : k < rows.length
    · obtain ⟨g, o, A', c', rfl, hg, hcell, hrow⟩ := (HR.out.to_ hD.out.low).at_ hlt
      have hi1 : (k : Int) < (rows.length : Int) := by omega
      have hi0 : (0 : Int) ≤ (k : Int) := by omega
      have hm := HLR.out _ (List.getElem_mem hlt)
      have hzl : ps.length ≤ 4194304 := by have := hLl.out; omega
      have hrw := Lib.hid hrow
      have hst := Lib.hid (fun (x : Nat) => (show (ps ++ [(x, rows[k])]).map (·.2) = rows.take (k + 1) by rw [List.map_append, hL.out, List.take_succ_eq_append_getElem hlt]; rfl))
      clear hrow
      go_wp2_with fail
      clear hcell
      refine (copy_row A' c' rows[k] _ hrw.out hm.1 hm.2).mono ?_
      rintro e W2 ⟨rfl, hW2, hb2⟩
      have hD2 := Lib.hid (hD.out.below hb2)
      have hnw := Lib.hid (show wr.heap.size ∉ ps.map (·.1) from fun hmm => by
        rw [List.mem_map] at hmm
        obtain ⟨p, hp, e⟩ := hmm
        have := (hD.out.row p hp).2.lt
        omega)
      have hp2 := Lib.hid (show w.heap.size ≤ wr.heap.size ∧ Whole W2 wr.heap.size 28 (flat rows[k]) from ⟨hD.out.low.size, hW2⟩)
      clear hW2 hb2
      generalize wr.heap.size = n1 at *
      go_wp2_with (first | (at_builtin; refine wpList_papp _ rfl (.tmp 15) (.tmp 18) rfl w (.slice A6 ps.length c6) ps (n1, rows[k]) rfl hD2.out hp2.out hnw.out rfl hzl ?_; intro v3 w3 hD3; refine Hid.out ?_))
      refine Lib.hid ?_
      have HD3 := Lib.hid hD3
      clear hD3
      go_wp2_with fail
      go_roundw
      case rel => exact ⟨k + 1, _, by omega, by go_num, hst.out _, HD3⟩
      case measure => simp [intOf]; omega
    · have hi1 : ¬ (k : Int) < (rows.length : Int) := by omega
      have hE := Lib.hid (show ps.map (·.2) = rows by rw [hL.out, List.take_of_length_le (by omega)])
      have hP := Lib.hid (hD.out.post hE.out)
      go_wp2_with fail
      go_ret
      exact hP.out
end Go.Proofs.Ytpipikjkhmhmhaa
