/-
  impl.RowsOf. Small words for how arguments read.
-/
import Derived.Test.YtpipikjkhmhmhaaRowsOfIZ
import Derived.Test.YtpipikjkhmhmhaaDbOkI
import Derived.Test.YtpipikjkhmhmhaaCopyRs
import Derived.WalkSpells
import Derived.Test.YtpipikjkhmhmhaaMemBZ
import Derived.OpenShut
import Derived.Lib.SmallJoins
import Derived.ChangeOld
namespace Go.Proofs.Ytpipikjkhmhmhaa
open Go.RowKit Go.Sort
set_option linter.unusedVariables false

theorem tab_nil {w : World} {B : Nat} {rows : List (List GV)} (h : TabC w B none rows) : rows = [] := by
  rcases h with h | ⟨g, o, hA, _⟩
  · exact h
  · cases hA
set_option maxRecDepth 100000 in
set_option maxHeartbeats 1600000 in
theorem impl_rowsOf {lo : Nat} (A : Option Addr) (c : Nat) (xs : List GRel) (s : ByteArray) (w : World) (hf : fitRels xs) (hk : costRels xs ≤ 1048576) (hr : RelsAt w lo w.heap.size A xs) :
    Calls Try.prog 22 #[.slice A xs.length c, .string s] w (ITPost w (rowsOfB xs s)) := by
  have hl : xs.length ≤ 1048576 := by unfold costRels at hk; omega
  have HFT := Lib.hid (rowsR_fit (db_fit hk) s)
  have HR := Lib.hid hr
  clear hr
  have qT : ∀ (w : World) (a : Option Addr) (n c : Nat), (binOp .eql 46 (.slice a n c) (.slice none 0 0)).run Try.prog w = .ok (.bool a.isNone) w := fun w a n c => Lib.run_eql_slice_nil w _ _ a n c 0 0 Try.underlying46
  go_enter Try.func22, Try.ntmps22
  go_wp2_with fail
  refine (impl_relRows A c xs s _ hl HR.out).mono ?_
  rintro e w1 ⟨A1, c1, rfl, hc1, ht1, hb1⟩
  have HT1 := Lib.hid ht1
  have hB1 := hb1
  cases A1 with
  | none =>
    have hE := Lib.hid (show rowsOfB xs s = [] by unfold rowsOfB; rw [tab_nil HT1.out]; split <;> rfl)
    clear ht1
    go_wp2_with fail
    go_ret
    rw [hE.out]
    exact itpost_none hB1
  | some a1 =>
    cases h : dbOkB xs with
    | true =>
      have hE := Lib.hid (show rowsOfB xs s = rowsR xs s by unfold rowsOfB; rw [if_pos h])
      clear ht1
      go_wp2_with fail
      refine (impl_dbOk A c xs _ hf hk (HR.out.to_ hb1)).mono ?_
      rintro e w2 ⟨rfl, hb2⟩
      rw [h]
      have hB2 := below_next hB1 hb2 rfl rfl
      have HT2 := Lib.hid (HT1.out.to_ hb2).tab
      go_wp2_with fail
      refine (copy_rows (some a1) c1 (rowsR xs s) _ HT2.out HFT.out.1 HFT.out.2).mono ?_
      rintro e w3 ⟨A3, c3, ps, rfl, hps, hG, hb3⟩
      have hB3 := below_next hB2 hb3 rfl rfl
      have HG := Lib.hid hG
      clear hG
      go_wp2_with fail
      go_ret
      exact ⟨A3, c3, ps, rfl, by rw [hE.out, hps], HG.out.up hB2.size, hB3⟩
    | false =>
      have hE := Lib.hid (show rowsOfB xs s = [] by unfold rowsOfB; rw [if_neg (by rw [h]; decide)])
      clear ht1
      go_wp2_with fail
      refine (impl_dbOk A c xs _ hf hk (HR.out.to_ hb1)).mono ?_
      rintro e w2 ⟨rfl, hb2⟩
      rw [h]
      have hB2 := below_next hB1 hb2 rfl rfl
      go_wp2_with fail
      go_ret
      rw [hE.out]
      exact itpost_none hB2
end Go.Proofs.Ytpipikjkhmhmhaa
namespace Go.Proofs.Ytpipikjkhmhmhaa
open Go.ChangeShapes Go.WideShapes Go.ChangeAt Go.RowKit Go.Joins Go.Deep
set_option linter.unusedVariables false

theorem own : ownKnob Try.prog.godebug = none := by kernel_rfl
theorem laidOut : laidOutB Try.prog = true := by kernel_rfl
instance : Inhabited GV := ⟨⟨0, 0, ByteArray.empty⟩⟩
theorem cell_add {w : World} {a : Addr} {n : Nat} {v : Value} (hn : 0 < n) : w.cell? (a.add n) = some v → w.cell? ⟨a.block, a.off + n, none⟩ = some v := by
  intro h
  simpa [Addr.add, Nat.pos_iff_ne_zero.1 hn] using h
theorem cell_add0 {w : World} {a : Addr} {n : Nat} {v : Value} (h : w.cell? (a.add n) = some v) : w.cell? ⟨a.block, a.off + n, none⟩ = some v := by
  rcases Nat.eq_zero_or_pos n with rfl | hn
  · have hs := World.cell?_spot h
    obtain ⟨bk, off, sp⟩ := a
    simp [Addr.add] at h hs
    subst hs
    simpa using h
  · exact cell_add hn h
end Go.Proofs.Ytpipikjkhmhmhaa
