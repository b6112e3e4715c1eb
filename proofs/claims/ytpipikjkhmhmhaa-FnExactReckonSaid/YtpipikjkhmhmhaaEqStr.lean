/-
  laws.eqStringS, at equal data.
-/
import Derived.Test.YtpipikjkhmhmhaaTyStr
namespace Go.Proofs.Ytpipikjkhmhmhaa
open Go.RowKit Go.Sort
set_option linter.unusedVariables false

set_option maxHeartbeats 1600000 in
theorem eq_Strs {lo lo' : Nat} (A D : Option Addr) (c d : Nat) (xs : List (ByteArray)) (w : World) (hk : costStrs xs ≤ 1048576) (hr : StrsAt w lo w.heap.size A xs) (hu : StrsAt w lo' w.heap.size D xs) :
    Calls Try.prog 37 #[.slice A xs.length c, .slice D xs.length d] w (EqYes w) := by
  have hl : xs.length ≤ 1048576 := by unfold costStrs at hk; omega
  have HR := Lib.hid hr
  have HU := Lib.hid hu
  have HK := Lib.hid hk
  clear hr hu hk
  go_enter Try.func37, Try.ntmps37
  go_wp2_with fail
  go_loopw [5] (fun i w' => ∃ k : Nat, k ≤ xs.length ∧ i = .int .i64 k ∧ Below w.heap.size w w') (fun i _ => xs.length - (intOf i).toNat)
  case atStart => exact ⟨0, Nat.zero_le _, rfl, Below.refl _ _⟩
  case round =>
    obtain ⟨k, hk, rfl, hB⟩ := hrel
    by_cases hlt : k < xs.length
    · obtain ⟨g, o, rfl, hg0, hg, he⟩ := (HR.out.to_ hB).at_ hlt
      obtain ⟨g', o', rfl, hg0', hg', he'⟩ := (HU.out.to_ hB).at_ hlt
      have hi0 : (0 : Int) ≤ (k : Int) := by omega
      have hi1 : (k : Int) < (xs.length : Int) := by omega
      have h0 : wr.cell? ⟨g, o + k, none⟩ = some (.string xs[k]) := he
      have k0 : wr.cell? ⟨g', o' + k, none⟩ = some (.string xs[k]) := he'
      have qa0 := cell_regrown h0
      have qb0 := cell_regrown k0
      have hself : (xs[k].toList == xs[k].toList) = true := by simp
      clear he he' h0 k0
      go_wp2_with fail
      refine wp_region_quiet_below (by kernel_rfl) (by kernel_rfl) ?_
      repeat (go_big_quiet_step (fail))
      refine wpQuiet_nil ?_
      intro _ hw'
      obtain ⟨⟨dq, osq⟩, hw''⟩ := hw'
      subst hw''
      have hB2 := below_next hB (below_regrown wr dq osq) rfl rfl
      generalize grow (redrawn wr dq) osq = wx at *
      clear qa0 qb0
      go_wp2_with fail
      go_roundw
      case rel => exact ⟨k + 1, by omega, by go_num, hB2⟩
      case measure => simp [intOf]; omega
    · have hi1 : ¬ (k : Int) < (xs.length : Int) := by omega
      go_wp2_with fail
      go_ret
      exact ⟨rfl, hB⟩

end Go.Proofs.Ytpipikjkhmhmhaa
