/-
  laws.eqValue, at equal data. laws.eqValueS, at equal data. laws.eqValueSS, at equal data. laws.eqRelS, at equal data.
-/
import Derived.Test.YteoepnadjkjlmaaGreatRowStZ
import Derived.Test.YteoepnadjkjlmaaGreatSzValZ
namespace Go.Proofs.YteoepnadjkjlmaaGreat
open Go.RowKit Go.Sort
set_option linter.unusedVariables false

set_option maxHeartbeats 1600000 in
theorem eq_Value (x : GV) (w : World) :
    Calls Tryz.prog 59 #[.agg #[.int .i64 x.k, .int .i64 x.n, .string x.t], .agg #[.int .i64 x.k, .int .i64 x.n, .string x.t]] w (EqYes w) := by
  obtain ⟨hP, hQ, hB, hZ⟩ := two_new w #[.int .i64 x.k, .int .i64 x.n, .string x.t] #[.int .i64 x.k, .int .i64 x.n, .string x.t] 79
  have HP := Lib.hid hP
  have HQ := Lib.hid hQ
  have HZ := Lib.hid hZ
  clear hP hQ hZ
  go_enter Tryz.func59, Tryz.ntmps59
  go_wp2_with fail
  go_ret
  exact ⟨rfl, hB⟩

end Go.Proofs.YteoepnadjkjlmaaGreat
namespace Go.Proofs.YteoepnadjkjlmaaGreat
open Go.RowKit Go.Sort
set_option linter.unusedVariables false

set_option maxHeartbeats 1600000 in
theorem eq_Values {lo lo' : Nat} (A D : Option Addr) (c d : Nat) (xs : List (GV)) (w : World) (hk : costValues xs ≤ 16777216) (hr : ValuesAt w lo w.heap.size A xs) (hu : ValuesAt w lo' w.heap.size D xs) :
    Calls Tryz.prog 33 #[.slice A xs.length c, .slice D xs.length d] w (EqYes w) := by
  have hl : xs.length ≤ 16777216 := by unfold costValues at hk; omega
  have HR := Lib.hid hr
  have HU := Lib.hid hu
  have HK := Lib.hid hk
  clear hr hu hk
  go_enter Tryz.func33, Tryz.ntmps33
  go_wp2_with fail
  go_loopw [5] (fun i w' => ∃ k : Nat, k ≤ xs.length ∧ i = .int .i64 k ∧ Below w.heap.size w w') (fun i _ => xs.length - (intOf i).toNat)
  case atStart => exact ⟨0, Nat.zero_le _, rfl, Below.refl _ _⟩
  case round =>
    obtain ⟨k, hk, rfl, hB⟩ := hrel
    by_cases hlt : k < xs.length
    · obtain ⟨g, o, rfl, hg0, hg, he⟩ := (HR.out.to_ hB).at_ hlt
      obtain ⟨g', o', rfl, hg0', hg', he'⟩ := (HU.out.to_ hB).at_ hlt
      have hi0 : (0 : Int) ≤ (k : Int) := by omega
      have hi1 : (k : Int) < (xs.length : Int) := by omega
      have hck : costValue xs[k] ≤ 16777216 := by have h1 := HK.out; have h2 := sumC_mem costValue xs _ (List.getElem_mem hlt); unfold costValues at h1; omega
      obtain ⟨h0, h1, h2⟩ := he
      obtain ⟨k0, k1, k2⟩ := he'
      have qa0 := cell_regrown h0
      have qb0 := cell_regrown k0
      have qa1 := cell_regrown h1
      have qb1 := cell_regrown k1
      have qa2 := cell_regrown h2
      have qb2 := cell_regrown k2
      clear h0 k0 h1 k1 h2 k2
      go_wp2_with fail
      refine wp_region_quiet_below (by kernel_rfl) (by kernel_rfl) ?_
      repeat (go_big_quiet_step (first | (go_at_call 59; exact Calls.regrown_of (eq_Value xs[k] _))))
      refine wpQuiet_nil ?_
      intro _ hw'
      obtain ⟨⟨dq, osq⟩, hw''⟩ := hw'
      subst hw''
      have hB2 := below_next hB (below_regrown wr dq osq) rfl rfl
      generalize grow (redrawn wr dq) osq = wx at *
      clear qa0 qb0 qa1 qb1 qa2 qb2
      go_wp2_with fail
      go_roundw
      case rel => exact ⟨k + 1, by omega, by go_num, hB2⟩
      case measure => simp [intOf]; omega
    · have hi1 : ¬ (k : Int) < (xs.length : Int) := by omega
      go_wp2_with fail
      go_ret
      exact ⟨rfl, hB⟩

end Go.Proofs.YteoepnadjkjlmaaGreat
namespace Go.Proofs.YteoepnadjkjlmaaGreat
open Go.RowKit Go.Sort
set_option linter.unusedVariables false

set_option maxHeartbeats 1600000 in
theorem eq_ValueSs {lo lo' : Nat} (A D : Option Addr) (c d : Nat) (xs : List (List GV)) (w : World) (hk : costValueSs xs ≤ 16777216) (hr : ValueSsAt w lo w.heap.size A xs) (hu : ValueSsAt w lo' w.heap.size D xs) :
    Calls Tryz.prog 10 #[.slice A xs.length c, .slice D xs.length d] w (EqYes w) := by
  have hl : xs.length ≤ 16777216 := by unfold costValueSs at hk; omega
  have HR := Lib.hid hr
  have HU := Lib.hid hu
  have HK := Lib.hid hk
  clear hr hu hk
  go_enter Tryz.func10, Tryz.ntmps10
  go_wp2_with fail
  go_loopw [5] (fun i w' => ∃ k : Nat, k ≤ xs.length ∧ i = .int .i64 k ∧ Below w.heap.size w w') (fun i _ => xs.length - (intOf i).toNat)
  case atStart => exact ⟨0, Nat.zero_le _, rfl, Below.refl _ _⟩
  case round =>
    obtain ⟨k, hk, rfl, hB⟩ := hrel
    by_cases hlt : k < xs.length
    · obtain ⟨g, o, rfl, hg0, hg, he⟩ := (HR.out.to_ hB).at_ hlt
      obtain ⟨g', o', rfl, hg0', hg', he'⟩ := (HU.out.to_ hB).at_ hlt
      have hi0 : (0 : Int) ≤ (k : Int) := by omega
      have hi1 : (k : Int) < (xs.length : Int) := by omega
      have hck : costValueS xs[k] ≤ 16777216 := by have h1 := HK.out; have h2 := sumC_mem costValueS xs _ (List.getElem_mem hlt); unfold costValueSs at h1; omega
      obtain ⟨A0, c0, ⟨h0y, q0⟩, s0⟩ := he
      obtain ⟨D0, d0, ⟨k0y, q_0⟩, u0⟩ := he'
      have qa0 := cell_regrown h0y
      have qb0 := cell_regrown k0y
      clear h0y k0y
      go_wp2_with fail
      refine wp_region_quiet_below (by kernel_rfl) (by kernel_rfl) ?_
      repeat (go_big_quiet_step (first | (go_at_call 33; exact Calls.regrown_of (eq_Values A0 D0 c0 d0 xs[k] _ hck (s0.to_ (below_regrown wr _ _)) (u0.to_ (below_regrown wr _ _))))))
      refine wpQuiet_nil ?_
      intro _ hw'
      obtain ⟨⟨dq, osq⟩, hw''⟩ := hw'
      subst hw''
      have hB2 := below_next hB (below_regrown wr dq osq) rfl rfl
      generalize grow (redrawn wr dq) osq = wx at *
      clear qa0 qb0
      go_wp2_with fail
      go_roundw
      case rel => exact ⟨k + 1, by omega, by go_num, hB2⟩
      case measure => simp [intOf]; omega
    · have hi1 : ¬ (k : Int) < (xs.length : Int) := by omega
      go_wp2_with fail
      go_ret
      exact ⟨rfl, hB⟩

end Go.Proofs.YteoepnadjkjlmaaGreat
namespace Go.Proofs.YteoepnadjkjlmaaGreat
open Go.RowKit Go.Sort
set_option linter.unusedVariables false

set_option maxHeartbeats 1600000 in
theorem eq_Rel {lo lo' : Nat} (x : GRel) (A1 D1 : Option Addr) (c1 d1 : Nat) (w : World) (hk : costRel x ≤ 1048576) (s1 : ValueSsAt w lo w.heap.size A1 x.rows) (u1 : ValueSsAt w lo' w.heap.size D1 x.rows) :
    Calls Tryz.prog 34 #[.agg #[.string x.name, .slice A1 x.rows.length c1], .agg #[.string x.name, .slice D1 x.rows.length d1]] w (EqYes w) := by
  obtain ⟨hP, hQ, hB, hZ⟩ := two_new w #[.string x.name, .slice A1 x.rows.length c1] #[.string x.name, .slice D1 x.rows.length d1] 59
  have HP := Lib.hid hP
  have HQ := Lib.hid hQ
  have HZ := Lib.hid hZ
  clear hP hQ hZ
  unfold costRel at hk
  go_enter Tryz.func34, Tryz.ntmps34
  go_wp2_with fail
  refine (eq_ValueSs A1 D1 c1 d1 x.rows _ (by omega) (s1.to_ hB) (u1.to_ hB)).mono ?_
  rintro e w0 ⟨rfl, hb0⟩
  have B0 := below_next hB hb0 rfl rfl
  go_wp2_with fail
  go_ret
  exact ⟨rfl, B0⟩

set_option maxHeartbeats 1600000 in
theorem eq_Rels {lo lo' : Nat} (A D : Option Addr) (c d : Nat) (xs : List (GRel)) (w : World) (hk : costRels xs ≤ 1048576) (hr : RelsAt w lo w.heap.size A xs) (hu : RelsAt w lo' w.heap.size D xs) :
    Calls Tryz.prog 11 #[.slice A xs.length c, .slice D xs.length d] w (EqYes w) := by
  have hl : xs.length ≤ 1048576 := by unfold costRels at hk; omega
  have HR := Lib.hid hr
  have HU := Lib.hid hu
  have HK := Lib.hid hk
  clear hr hu hk
  go_enter Tryz.func11, Tryz.ntmps11
  go_wp2_with fail
  go_loopw [5] (fun i w' => ∃ k : Nat, k ≤ xs.length ∧ i = .int .i64 k ∧ Below w.heap.size w w') (fun i _ => xs.length - (intOf i).toNat)
  case atStart => exact ⟨0, Nat.zero_le _, rfl, Below.refl _ _⟩
  case round =>
    obtain ⟨k, hk, rfl, hB⟩ := hrel
    by_cases hlt : k < xs.length
    · obtain ⟨g, o, rfl, hg0, hg, he⟩ := (HR.out.to_ hB).at_ hlt
      obtain ⟨g', o', rfl, hg0', hg', he'⟩ := (HU.out.to_ hB).at_ hlt
      have hi0 : (0 : Int) ≤ (k : Int) := by omega
      have hi1 : (k : Int) < (xs.length : Int) := by omega
      have hck : costRel xs[k] ≤ 1048576 := by have h1 := HK.out; have h2 := sumC_mem costRel xs _ (List.getElem_mem hlt); unfold costRels at h1; omega
      obtain ⟨h0, h1⟩ := he
      obtain ⟨k0, k1⟩ := he'
      obtain ⟨A1, c1, ⟨h1y, q1⟩, s1⟩ := h1
      obtain ⟨D1, d1, ⟨k1y, q_1⟩, u1⟩ := k1
      have qa0 := cell_regrown h0
      have qb0 := cell_regrown k0
      have qa1 := cell_regrown h1y
      have qb1 := cell_regrown k1y
      clear h0 k0 h1y k1y
      go_wp2_with fail
      refine wp_region_quiet_below (by kernel_rfl) (by kernel_rfl) ?_
      repeat (go_big_quiet_step (first | (go_at_call 34; exact Calls.regrown_of (eq_Rel xs[k] A1 D1 c1 d1 _ hck (s1.to_ (below_regrown wr _ _)) (u1.to_ (below_regrown wr _ _))))))
      refine wpQuiet_nil ?_
      intro _ hw'
      obtain ⟨⟨dq, osq⟩, hw''⟩ := hw'
      subst hw''
      have hB2 := below_next hB (below_regrown wr dq osq) rfl rfl
      generalize grow (redrawn wr dq) osq = wx at *
      clear qa0 qb0 qa1 qb1
      go_wp2_with fail
      go_roundw
      case rel => exact ⟨k + 1, by omega, by go_num, hB2⟩
      case measure => simp [intOf]; omega
    · have hi1 : ¬ (k : Int) < (xs.length : Int) := by omega
      go_wp2_with fail
      go_ret
      exact ⟨rfl, hB⟩

end Go.Proofs.YteoepnadjkjlmaaGreat
