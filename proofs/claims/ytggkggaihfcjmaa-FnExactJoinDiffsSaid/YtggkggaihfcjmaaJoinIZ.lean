/-
  What the laws' measure says of a list of differences. A list that is a difference is small in the laws' measures. impl.joinable, impl.JoinDiffs.
-/
import Derived.Test.YtggkggaihfcjmaaTyDiffZ
import Derived.Test.YtggkggaihfcjmaaWideS
import Derived.Test.YtggkggaihfcjmaaByPre
import Derived.Test.YtggkggaihfcjmaaConcatVZ
import Derived.Deep.DeepMust
namespace Go.Proofs.Ytggkggaihfcjmaa
open Go.RowKit
set_option linter.unusedVariables false

theorem diffs_small {zs : List GDiff} (h : costDiffs zs ≤ 1048576) : ∀ z ∈ zs, z.row.length ≤ 1048576 ∧ ∀ v ∈ z.row, v.t.size ≤ maxLen := by
  intro z hz
  have h1 : costValues z.row ≤ sumC costDiff zs := sumC_mem costDiff zs z hz
  have h2 : costValues z.row ≤ 1048576 := by unfold costDiffs at h; omega
  refine ⟨by unfold costValues at h2; omega, fun v hv => ?_⟩
  have h3 : v.t.size ≤ sumC costValue z.row := sumC_mem costValue z.row v hv
  unfold costValues at h2
  unfold maxLen
  omega
theorem diffs_texts {zs : List GDiff} (h : costDiffs zs ≤ 1048576) : ∀ z ∈ zs, ∀ v ∈ z.row, v.t.size ≤ 1048576 := by
  intro z hz v hv
  have h1 : costValues z.row ≤ sumC costDiff zs := sumC_mem costDiff zs z hz
  have h2 : costValues z.row ≤ 1048576 := by unfold costDiffs at h; omega
  have h3 : v.t.size ≤ sumC costValue z.row := sumC_mem costValue z.row v hv
  unfold costValues at h2
  omega
end Go.Proofs.Ytggkggaihfcjmaa
namespace Go.Proofs.Ytggkggaihfcjmaa
open Go.RowKit
set_option linter.unusedVariables false

theorem sumC_max {α : Type} (f : α → Nat) (M : Nat) : ∀ l : List α, (∀ x ∈ l, f x ≤ M) → sumC f l ≤ l.length * M
  | [], _ => by simp [sumC]
  | x :: l, h => by
    have ih := sumC_max f M l (fun y hy => h y (List.mem_cons_of_mem _ hy))
    have hx := h x List.mem_cons_self
    have e : sumC f (x :: l) = f x + sumC f l := by simp [sumC]
    rw [e, List.length_cons, Nat.add_mul]
    omega
theorem ok_cost {R : List GDiff} (h : R = [] ∨ diffOkB R = true) : costDiffs R ≤ 1600000 ∧ R.length ≤ 3000 ∧ (R.map fun z => 3 * z.row.length + 1).sum ≤ 100000 := by
  rcases h with rfl | h
  · simp [costDiffs, sumC]
  · obtain ⟨h1, _, h3⟩ := ok_small h
    refine ⟨?_, h1, ?_⟩
    · have hz : ∀ z ∈ R, costDiff z ≤ 500 := fun z hz => by
        have h4 := h3 z hz
        have h5 := sumC_max costValue 60 z.row (fun v hv => h4.2 v hv)
        unfold costDiff costValues
        omega
      have := sumC_max costDiff 500 R hz
      unfold costDiffs
      omega
    · have := sumC_max (fun z : GDiff => 3 * z.row.length + 1) 25 R (fun z hz => by have := (h3 z hz).1; omega)
      unfold sumC at this
      omega
theorem orD_ok (zs : List GDiff) : orD zs = [] ∨ diffOkB (orD zs) = true := by
  unfold orD
  by_cases h : diffOkB zs = true
  · rw [if_pos h]; exact .inr h
  · rw [if_neg h]; exact .inl rfl
theorem addDD_ok (a b : List GDiff) : addDD a b = [] ∨ diffOkB (addDD a b) = true := by
  unfold addDD
  by_cases h : (diffOkB a && diffOkB b && compatB a b) = true
  · rw [if_pos h]; exact orD_ok _
  · rw [if_neg h]; exact .inl rfl
end Go.Proofs.Ytggkggaihfcjmaa
namespace Go.Proofs.Ytggkggaihfcjmaa
open Go.RowKit Go.Sort
set_option linter.unusedVariables false

def jableB (a b : List GDiff) (on : Int) : Bool := decide (0 ≤ on) && decide (on ≤ (wid (rowsD a) : Int)) && decide (on ≤ (wid (rowsD b) : Int)) && decide ((wid (rowsD a) : Int) + wid (rowsD b) - on ≤ 8)
set_option maxHeartbeats 1600000 in
theorem impl_joinable {lo lo' : Nat} (A B : Option Addr) (c d : Nat) (a b : List GDiff) (on : Int) (w : World) (ha : DiffsAt w lo w.heap.size A a) (hb : DiffsAt w lo' w.heap.size B b) (hl : a.length ≤ 4194304) (hl' : b.length ≤ 4194304) (hwa : wid (rowsD a) ≤ 8) (hwb : wid (rowsD b) ≤ 8) (hon : -9223372036854775808 ≤ on ∧ on ≤ 9223372036854775807) :
    Calls Try.prog 63 #[.slice A a.length c, .slice B b.length d, .int .i64 on] w fun e w' => e = .returned (.bool (jableB a b on)) ∧ w = w' := by
  have H1 := Lib.hid (impl_width A c a w ha hl)
  have H2 := Lib.hid (impl_width B d b w hb hl')
  obtain ⟨hon1, hon2⟩ := hon
  have hj := Lib.hid (show jableB a b on = (decide (0 ≤ on) && decide (on ≤ (wid (rowsD a) : Int)) && decide (on ≤ (wid (rowsD b) : Int)) && decide ((wid (rowsD a) : Int) + wid (rowsD b) - on ≤ 8)) from rfl)
  generalize jableB a b on = J at *
  generalize wid (rowsD a) = wa at *
  generalize wid (rowsD b) = wb at *
  clear ha hb
  by_cases g1 : 0 ≤ on
  · have g1d : decide (0 ≤ on) = true := decide_eq_true g1
    by_cases g2 : on ≤ (wa : Int)
    · have g2d : decide (on ≤ (wa : Int)) = true := decide_eq_true g2
      by_cases g3 : on ≤ (wb : Int)
      · have g3d : decide (on ≤ (wb : Int)) = true := decide_eq_true g3
        obtain ⟨z, hz⟩ : ∃ z, decide ((wa : Int) + (wb : Int) - on ≤ 8) = z := ⟨_, rfl⟩
        have HJ := Lib.hid (show J = z by rw [hj.out, g1d, g2d, g3d, hz]; rfl)
        clear hj
        go_enter Try.func63, Try.ntmps63
        go_wp2_with fail
        refine H1.out.mono ?_
        rintro e w1 ⟨rfl, rfl⟩
        go_wp2_with fail
        refine H2.out.mono ?_
        rintro e w1 ⟨rfl, rfl⟩
        go_wp2_with fail
        go_ret
        exact ⟨ret_bool (by rw [HJ.out]), rfl⟩
      · have g3d : decide (on ≤ (wb : Int)) = false := decide_eq_false g3
        have HJ := Lib.hid (show J = false by rw [hj.out, g3d]; simp)
        clear hj
        go_enter Try.func63, Try.ntmps63
        go_wp2_with fail
        refine H1.out.mono ?_
        rintro e w1 ⟨rfl, rfl⟩
        go_wp2_with fail
        refine H2.out.mono ?_
        rintro e w1 ⟨rfl, rfl⟩
        go_wp2_with fail
        go_ret
        exact ⟨ret_bool (by rw [HJ.out]), rfl⟩
    · have g2d : decide (on ≤ (wa : Int)) = false := decide_eq_false g2
      have HJ := Lib.hid (show J = false by rw [hj.out, g2d]; simp)
      clear hj
      go_enter Try.func63, Try.ntmps63
      go_wp2_with fail
      refine H1.out.mono ?_
      rintro e w1 ⟨rfl, rfl⟩
      go_wp2_with fail
      refine H2.out.mono ?_
      rintro e w1 ⟨rfl, rfl⟩
      go_wp2_with fail
      go_ret
      exact ⟨ret_bool (by rw [HJ.out]), rfl⟩
  · have g1d : decide (0 ≤ on) = false := decide_eq_false g1
    have HJ := Lib.hid (show J = false by rw [hj.out, g1d]; simp)
    clear hj
    go_enter Try.func63, Try.ntmps63
    go_wp2_with fail
    refine H1.out.mono ?_
    rintro e w1 ⟨rfl, rfl⟩
    go_wp2_with fail
    refine H2.out.mono ?_
    rintro e w1 ⟨rfl, rfl⟩
    go_wp2_with fail
    go_ret
    exact ⟨ret_bool (by rw [HJ.out]), rfl⟩
end Go.Proofs.Ytggkggaihfcjmaa
