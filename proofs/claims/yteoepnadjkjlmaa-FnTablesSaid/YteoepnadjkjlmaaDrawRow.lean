/-
  The draws of rows: spec.l1DrawRow, spec.l1DrawAny.
-/
import Derived.Test.YteoepnadjkjlmaaDrawVal
namespace Go.Proofs.Yteoepnadjkjlmaa
open Go.RowKit Go.Sort
set_option linter.unusedVariables false

/-- What a draw of a row leaves. -/
def RowDrawn (w : World) (n g : Nat) (A : Option Addr) (c : Nat) (xs : List UInt8) (e : Ending) (w' : World) : Prop :=
  ∃ (u : Value) (r : List GV), e = .returned u ∧ (∃ a cap, u = .slice (some ⟨a, 0, none⟩) r.length cap) ∧ VRow w.heap.size w' u r ∧ r.length ≤ n ∧ (∀ v ∈ r, v.t.size ≤ 100) ∧ St w' g A c xs ∧ w.grownBy w' (some g)

set_option maxRecDepth 100000 in
set_option maxHeartbeats 800000 in
theorem draw_row (g : Nat) (A : Option Addr) (c : Nat) (xs : List UInt8) (n : Nat) (w : World) (hS : St w g A c xs) (hl : xs.length ≤ 1048576) (hn : n ≤ 1000) :
    Calls Try.prog 51 #[.pointer (some ⟨g, 0, none⟩), .int .i64 n] w (RowDrawn w n g A c xs) := by
  obtain ⟨i0, hi, hz0, hz1, hz2⟩ := info_parts infoV
  have hgl := hS.lt
  have hS0 := Lib.hid (hS.alloc (.cells #[] 54))
  have hG0 : w.grownBy (w.alloc (.cells #[] 54)) (some g) := World.grownBy_alloc w _ _
  have hV0 := Lib.hid (vrow_new w)
  go_enter Try.func51, Try.ntmps51
  go_wp2_with fail
  go_loopw [5, 6] (fun o i w' => ∃ (r : List GV), r.length ≤ n ∧ i = .int .i64 r.length ∧ Hid (∃ a cap, o = .slice (some ⟨a, 0, none⟩) r.length cap) ∧ Hid (∀ v ∈ r, v.t.size ≤ 100) ∧ Hid (VRow w.heap.size w' o r) ∧ Hid (St w' g A c xs) ∧ Hid (w.grownBy w' (some g))) (fun _ i _ => n - (intOf i).toNat)
  case atStart => exact ⟨[], Nat.zero_le _, rfl, Lib.hid ⟨_, _, rfl⟩, Lib.hid (by simp), hV0, hS0, Lib.hid hG0⟩
  case round =>
    obtain ⟨r, hr, rfl, hnn, ht, hV, hSt, hG⟩ := hrel
    obtain ⟨A1, c1, rfl, _⟩ := hV.out.row
    have hwz := hG.out.size
    by_cases hlt : r.length < n
    · have hli : (r.length : Int) < (n : Int) := by omega
      go_wp2_with fail
      refine (draw_value g A c xs _ hSt.out hl).mono ?_
      rintro e w3 ⟨x, rfl, hxt, hS3, hG3⟩
      have hV3 := Lib.hid (hV.out.drawn hG3 hgl)
      have hG4 := Lib.hid (grown_to hG.out hG3)
      have hw3 := hG4.out.size
      have hS4 := Lib.hid hS3
      clear hG3 hS3
      unfold VV
      go_wp2_with (first | (at_builtin; refine wpList_append_own _ rfl (.tmp 13) (.tmp 16) _ rfl w.heap.size 54 i0 _ 3 32 Try.underlying35 hi hz0 hz1 hz2 rfl (by decide) _ _ _ rfl ((show w3.ownsRow w.heap.size 54 3 (.slice A1 r.length c1) _ _ from hV3.out).alloc _) ⟨w3.heap.size, 0, none⟩ 1 1 [.int .i64 x.k, .int .i64 x.n, .string x.t] rfl rfl (news_three _ _ _ _ _) (one_three _ _ _) (by unfold maxLen; omega) (by omega) (by simp; omega) ?_; intro v2 w4 ho2 hg2 _; refine Hid.out ?_))
      refine Lib.hid ?_
      have hV4 : VRow w.heap.size w4 v2 (r ++ [x]) := vrow_app ho2
      have hB4 : Below w.heap.size w3 w4 := ((Below.refl _ _).alloc hw3 _).grown hg2 (by simp; omega) (own_ge hV3.out)
      have hS5 := Lib.hid (hS4.out.low hB4 hgl)
      have hG5 := Lib.hid (grown_own (grown_alloc2 hG4.out _) hg2 (own_ge hV3.out))
      obtain ⟨a2, c2, rfl⟩ := vrow_some hV4 (by simp)
      have HV4 := Lib.hid hV4
      clear ho2 hg2 hV4 hB4
      go_wp2_with fail
      go_roundw
      case rel => exact ⟨r ++ [x], by simp; omega, by simp, Lib.hid ⟨_, _, rfl⟩, Lib.hid (fun v hv => by rcases List.mem_append.1 hv with h | h; exact ht.out v h; simp at h; rw [h]; exact hxt), HV4, hS5, hG5⟩
      case measure => simp [intOf]; omega
    · have hli : ¬ (r.length : Int) < (n : Int) := by omega
      go_wp2_with fail
      go_ret
      exact ⟨_, r, rfl, hnn.out, hV.out, hr, ht.out, hSt.out, hG.out⟩
end Go.Proofs.Yteoepnadjkjlmaa
