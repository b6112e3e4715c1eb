/-
  laws.eqValueS, at equal data.
-/
import Derived.Test.YtpipikjkhmhmhaaTyVal
import Derived.Test.YtpipikjkhmhmhaaEqVal
namespace Go.Proofs.Ytpipikjkhmhmhaa
open Go.RowKit Go.Sort
set_option linter.unusedVariables false

set_option maxHeartbeats 1600000 in
theorem eq_Values {lo lo' : Nat} (A D : Option Addr) (c d : Nat) (xs : List (GV)) (w : World) (hk : costValues xs ≤ 16777216) (hr : ValuesAt w lo w.heap.size A xs) (hu : ValuesAt w lo' w.heap.size D xs) :
    Calls Try.prog 38 #[.slice A xs.length c, .slice D xs.length d] w (EqYes w) := by
  have hl : xs.length ≤ 16777216 := by unfold costValues at hk; omega
  have HR := Lib.hid hr
  have HU := Lib.hid hu
  have HK := Lib.hid hk
  clear hr hu hk
  go_enter Try.func38, Try.ntmps38
  go_wp2_with fail
  go_loopw [5] (fun i w' => ∃ k : Nat, k ≤ xs.length ∧ i = .int .i64 k ∧ Below w.heap.size w w') (fun i _ => xs.length - (intOf i).toNat)
  case atStart => exact ⟨0, Nat.zero_le _, rfl, Below.refl _ _⟩
  case round =>
    obtain ⟨k, hk, rfl, hB⟩ := hrel
    by_cases hlt : k < xs.length
    · obtain ⟨g, o, rfl, hg0, hg, he⟩ := (HR.out.to_ hB).at_ hlt
      obtain ⟨g', o', rfl, hg0', hg', he'⟩ := (HU.out.to_ hB).at_ hlt
      have hi0 : (0 : Int) ≤ (k : Int) := by omega
      have hi1 : (k : Int) < (xs.length : Int) := by omega
      have hck : costValue xs[k] ≤ 16777216 := by have h1 := HK.out; have h2 := sumC_mem costValue xs _ (List.getElem_mem hlt); unfold costValues at h1; omega
      obtain ⟨h0, h1, h2⟩ := he
      obtain ⟨k0, k1, k2⟩ := he'
      have qa0 := cell_regrown h0
      have qb0 := cell_regrown k0
      have qa1 := cell_regrown h1
      have qb1 := cell_regrown k1
      have qa2 := cell_regrown h2
      have qb2 := cell_regrown k2
      clear h0 k0 h1 k1 h2 k2
      go_wp2_with fail
      refine wp_region_quiet_below (by kernel_rfl) (by kernel_rfl) ?_
      repeat (go_big_quiet_step (first | (go_at_call 35; exact Calls.regrown_of (eq_Value xs[k] _))))
      refine wpQuiet_nil ?_
      intro _ hw'
      obtain ⟨⟨dq, osq⟩, hw''⟩ := hw'
      subst hw''
      have hB2 := below_next hB (below_regrown wr dq osq) rfl rfl
      generalize grow (redrawn wr dq) osq = wx at *
      clear qa0 qb0 qa1 qb1 qa2 qb2
      go_wp2_with fail
      go_roundw
      case rel => exact ⟨k + 1, by omega, by go_num, hB2⟩
      case measure => simp [intOf]; omega
    · have hi1 : ¬ (k : Int) < (xs.length : Int) := by omega
      go_wp2_with fail
      go_ret
      exact ⟨rfl, hB⟩

end Go.Proofs.Ytpipikjkhmhmhaa
