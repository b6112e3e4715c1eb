/-
  laws.eqProgram and its like, at equal data.
-/
import Derived.Test.YtbfcolmglbeefaaGreatEqRule
import Derived.Test.YtbfcolmglbeefaaGreatTyProg
namespace Go.Proofs.YtbfcolmglbeefaaGreat
open Go.RowKit Go.Sort
set_option linter.unusedVariables false

set_option maxHeartbeats 1600000 in
theorem eq_Rules {lo lo' : Nat} (A D : Option Addr) (c d : Nat) (xs : List (GRule)) (w : World) (hk : costRules xs ≤ 1048576) (hr : RulesAt w lo w.heap.size A xs) (hu : RulesAt w lo' w.heap.size D xs) :
    Calls Tryz.prog 21 #[.slice A xs.length c, .slice D xs.length d] w (EqYes w) := by
  have hl : xs.length ≤ 1048576 := by unfold costRules at hk; omega
  have HR := Lib.hid hr
  have HU := Lib.hid hu
  have HK := Lib.hid hk
  clear hr hu hk
  go_enter Tryz.func21, Tryz.ntmps21
  go_wp2_with fail
  go_loopw [5] (fun i w' => ∃ k : Nat, k ≤ xs.length ∧ i = .int .i64 k ∧ Below w.heap.size w w') (fun i _ => xs.length - (intOf i).toNat)
  case atStart => exact ⟨0, Nat.zero_le _, rfl, Below.refl _ _⟩
  case round =>
    obtain ⟨k, hk, rfl, hB⟩ := hrel
    by_cases hlt : k < xs.length
    · obtain ⟨g, o, rfl, hg0, hg, he⟩ := (HR.out.to_ hB).at_ hlt
      obtain ⟨g', o', rfl, hg0', hg', he'⟩ := (HU.out.to_ hB).at_ hlt
      have hi0 : (0 : Int) ≤ (k : Int) := by omega
      have hi1 : (k : Int) < (xs.length : Int) := by omega
      have hck : costRule xs[k] ≤ 1048576 := by have h1 := HK.out; have h2 := sumC_mem costRule xs _ (List.getElem_mem hlt); unfold costRules at h1; omega
      obtain ⟨h0, h1, h2, h3⟩ := he
      obtain ⟨k0, k1, k2, k3⟩ := he'
      obtain ⟨A1, c1, h1y, s1⟩ := h1
      obtain ⟨D1, d1, k1y, u1⟩ := k1
      obtain ⟨A2, c2, h2y, s2⟩ := h2
      obtain ⟨D2, d2, k2y, u2⟩ := k2
      obtain ⟨A3, c3, h3y, s3⟩ := h3
      obtain ⟨D3, d3, k3y, u3⟩ := k3
      have qa0 := cell_regrown h0
      have qb0 := cell_regrown k0
      have qa1 := cell_regrown h1y
      have qb1 := cell_regrown k1y
      have qa2 := cell_regrown h2y
      have qb2 := cell_regrown k2y
      have qa3 := cell_regrown h3y
      have qb3 := cell_regrown k3y
      clear h0 k0 h1y k1y h2y k2y h3y k3y
      go_wp2_with fail
      refine wp_region_quiet_below (by kernel_rfl) (by kernel_rfl) ?_
      repeat (go_big_quiet_step (first | (go_at_call 42; exact Calls.regrown_of (eq_Rule xs[k] A1 D1 c1 d1 A2 D2 c2 d2 A3 D3 c3 d3 _ hck (s1.to_ (below_regrown wr _ _)) (u1.to_ (below_regrown wr _ _)) (s2.to_ (below_regrown wr _ _)) (u2.to_ (below_regrown wr _ _)) (s3.to_ (below_regrown wr _ _)) (u3.to_ (below_regrown wr _ _))))))
      refine wpQuiet_nil ?_
      intro _ hw'
      obtain ⟨⟨dq, osq⟩, hw''⟩ := hw'
      subst hw''
      have hB2 := below_next hB (below_regrown wr dq osq) rfl rfl
      generalize grow (redrawn wr dq) osq = wx at *
      clear qa0 qb0 qa1 qb1 qa2 qb2 qa3 qb3
      go_wp2_with fail
      go_roundw
      case rel => exact ⟨k + 1, by omega, by go_num, hB2⟩
      case measure => simp [intOf]; omega
    · have hi1 : ¬ (k : Int) < (xs.length : Int) := by omega
      go_wp2_with fail
      go_ret
      exact ⟨rfl, hB⟩

set_option maxHeartbeats 1600000 in
theorem eq_Decl {lo lo' : Nat} (x : GDecl) (A1 D1 : Option Addr) (c1 d1 : Nat) (w : World) (hk : costDecl x ≤ 1048576) (s1 : StrsAt w lo w.heap.size A1 x.types) (u1 : StrsAt w lo' w.heap.size D1 x.types) :
    Calls Tryz.prog 41 #[.agg #[.string x.name, .slice A1 x.types.length c1], .agg #[.string x.name, .slice D1 x.types.length d1]] w (EqYes w) := by
  obtain ⟨hP, hQ, hB, hZ⟩ := two_new w #[.string x.name, .slice A1 x.types.length c1] #[.string x.name, .slice D1 x.types.length d1] 40
  have HP := Lib.hid hP
  have HQ := Lib.hid hQ
  have HZ := Lib.hid hZ
  clear hP hQ hZ
  unfold costDecl at hk
  go_enter Tryz.func41, Tryz.ntmps41
  go_wp2_with fail
  refine (eq_Strs A1 D1 c1 d1 x.types _ (by omega) (s1.to_ hB) (u1.to_ hB)).mono ?_
  rintro e w0 ⟨rfl, hb0⟩
  have B0 := below_next hB hb0 rfl rfl
  go_wp2_with fail
  go_ret
  exact ⟨rfl, B0⟩

set_option maxHeartbeats 1600000 in
theorem eq_Decls {lo lo' : Nat} (A D : Option Addr) (c d : Nat) (xs : List (GDecl)) (w : World) (hk : costDecls xs ≤ 1048576) (hr : DeclsAt w lo w.heap.size A xs) (hu : DeclsAt w lo' w.heap.size D xs) :
    Calls Tryz.prog 20 #[.slice A xs.length c, .slice D xs.length d] w (EqYes w) := by
  have hl : xs.length ≤ 1048576 := by unfold costDecls at hk; omega
  have HR := Lib.hid hr
  have HU := Lib.hid hu
  have HK := Lib.hid hk
  clear hr hu hk
  go_enter Tryz.func20, Tryz.ntmps20
  go_wp2_with fail
  go_loopw [5] (fun i w' => ∃ k : Nat, k ≤ xs.length ∧ i = .int .i64 k ∧ Below w.heap.size w w') (fun i _ => xs.length - (intOf i).toNat)
  case atStart => exact ⟨0, Nat.zero_le _, rfl, Below.refl _ _⟩
  case round =>
    obtain ⟨k, hk, rfl, hB⟩ := hrel
    by_cases hlt : k < xs.length
    · obtain ⟨g, o, rfl, hg0, hg, he⟩ := (HR.out.to_ hB).at_ hlt
      obtain ⟨g', o', rfl, hg0', hg', he'⟩ := (HU.out.to_ hB).at_ hlt
      have hi0 : (0 : Int) ≤ (k : Int) := by omega
      have hi1 : (k : Int) < (xs.length : Int) := by omega
      have hck : costDecl xs[k] ≤ 1048576 := by have h1 := HK.out; have h2 := sumC_mem costDecl xs _ (List.getElem_mem hlt); unfold costDecls at h1; omega
      obtain ⟨h0, h1⟩ := he
      obtain ⟨k0, k1⟩ := he'
      obtain ⟨A1, c1, h1y, s1⟩ := h1
      obtain ⟨D1, d1, k1y, u1⟩ := k1
      have qa0 := cell_regrown h0
      have qb0 := cell_regrown k0
      have qa1 := cell_regrown h1y
      have qb1 := cell_regrown k1y
      clear h0 k0 h1y k1y
      go_wp2_with fail
      refine wp_region_quiet_below (by kernel_rfl) (by kernel_rfl) ?_
      repeat (go_big_quiet_step (first | (go_at_call 41; exact Calls.regrown_of (eq_Decl xs[k] A1 D1 c1 d1 _ hck (s1.to_ (below_regrown wr _ _)) (u1.to_ (below_regrown wr _ _))))))
      refine wpQuiet_nil ?_
      intro _ hw'
      obtain ⟨⟨dq, osq⟩, hw''⟩ := hw'
      subst hw''
      have hB2 := below_next hB (below_regrown wr dq osq) rfl rfl
      generalize grow (redrawn wr dq) osq = wx at *
      clear qa0 qb0 qa1 qb1
      go_wp2_with fail
      go_roundw
      case rel => exact ⟨k + 1, by omega, by go_num, hB2⟩
      case measure => simp [intOf]; omega
    · have hi1 : ¬ (k : Int) < (xs.length : Int) := by omega
      go_wp2_with fail
      go_ret
      exact ⟨rfl, hB⟩

set_option maxHeartbeats 1600000 in
theorem eq_Program {lo lo' : Nat} (x : GProgram) (A0 D0 : Option Addr) (c0 d0 : Nat) (A1 D1 : Option Addr) (c1 d1 : Nat) (w : World) (hk : costProgram x ≤ 1048576) (s0 : DeclsAt w lo w.heap.size A0 x.decls) (u0 : DeclsAt w lo' w.heap.size D0 x.decls) (s1 : RulesAt w lo w.heap.size A1 x.rules) (u1 : RulesAt w lo' w.heap.size D1 x.rules) :
    Calls Tryz.prog 8 #[.agg #[.slice A0 x.decls.length c0, .slice A1 x.rules.length c1], .agg #[.slice D0 x.decls.length d0, .slice D1 x.rules.length d1]] w (EqYes w) := by
  obtain ⟨hP, hQ, hB, hZ⟩ := two_new w #[.slice A0 x.decls.length c0, .slice A1 x.rules.length c1] #[.slice D0 x.decls.length d0, .slice D1 x.rules.length d1] 31
  have HP := Lib.hid hP
  have HQ := Lib.hid hQ
  have HZ := Lib.hid hZ
  clear hP hQ hZ
  unfold costProgram at hk
  go_enter Tryz.func8, Tryz.ntmps8
  go_wp2_with fail
  refine (eq_Decls A0 D0 c0 d0 x.decls _ (by omega) (s0.to_ hB) (u0.to_ hB)).mono ?_
  rintro e w0 ⟨rfl, hb0⟩
  have B0 := below_next hB hb0 rfl rfl
  have P0 := HP.out.below hb0 HP.out.lt
  have Q0 := HQ.out.below hb0 HQ.out.lt
  have p0_0 : w0.cell? ⟨w.heap.size, 0, none⟩ = some (.slice A0 x.decls.length c0) := P0.cell 0
  have q0_0 : w0.cell? ⟨w.heap.size + 1, 0, none⟩ = some (.slice D0 x.decls.length d0) := Q0.cell 0
  have p0_1 : w0.cell? ⟨w.heap.size, 1, none⟩ = some (.slice A1 x.rules.length c1) := P0.cell 1
  have q0_1 : w0.cell? ⟨w.heap.size + 1, 1, none⟩ = some (.slice D1 x.rules.length d1) := Q0.cell 1
  have hP0 := Lib.hid P0
  have hQ0 := Lib.hid Q0
  clear P0 Q0
  go_wp2_with fail
  refine (eq_Rules A1 D1 c1 d1 x.rules _ (by omega) (s1.to_ B0) (u1.to_ B0)).mono ?_
  rintro e w1 ⟨rfl, hb1⟩
  have B1 := below_next B0 hb1 rfl rfl
  clear p0_0 q0_0 p0_1 q0_1
  go_wp2_with fail
  go_ret
  exact ⟨rfl, B1⟩

end Go.Proofs.YtbfcolmglbeefaaGreat
