/-
  laws.eqNode and its like, at equal data.
-/
import Derived.Test.YtpipikjkhmhmhaaTyNode
import Derived.Test.YtpipikjkhmhmhaaEqVal
import Derived.Test.YtpipikjkhmhmhaaEqStr
namespace Go.Proofs.Ytpipikjkhmhmhaa
open Go.RowKit Go.Sort
set_option linter.unusedVariables false

set_option maxHeartbeats 1600000 in
theorem eq_Node (x : GNode) (w : World) :
    Calls Try.prog 82 #[.agg #[.int .i64 x.k, .string x.name, .int .i64 x.v.k, .int .i64 x.v.n, .string x.v.t, .int .i64 x.size], .agg #[.int .i64 x.k, .string x.name, .int .i64 x.v.k, .int .i64 x.v.n, .string x.v.t, .int .i64 x.size]] w (EqYes w) := by
  obtain ⟨hP, hQ, hB, hZ⟩ := two_new w #[.int .i64 x.k, .string x.name, .int .i64 x.v.k, .int .i64 x.v.n, .string x.v.t, .int .i64 x.size] #[.int .i64 x.k, .string x.name, .int .i64 x.v.k, .int .i64 x.v.n, .string x.v.t, .int .i64 x.size] 112
  have HP := Lib.hid hP
  have HQ := Lib.hid hQ
  have HZ := Lib.hid hZ
  clear hP hQ hZ
  go_enter Try.func82, Try.ntmps82
  go_wp2_with fail
  refine (eq_Value x.v _).mono ?_
  rintro e w0 ⟨rfl, hb0⟩
  have B0 := below_next hB hb0 rfl rfl
  have P0 := HP.out.below hb0 HP.out.lt
  have Q0 := HQ.out.below hb0 HQ.out.lt
  have p0_0 : w0.cell? ⟨w.heap.size, 0, none⟩ = some (.int .i64 x.k) := P0.cell 0
  have q0_0 : w0.cell? ⟨w.heap.size + 1, 0, none⟩ = some (.int .i64 x.k) := Q0.cell 0
  have p0_1 : w0.cell? ⟨w.heap.size, 1, none⟩ = some (.string x.name) := P0.cell 1
  have q0_1 : w0.cell? ⟨w.heap.size + 1, 1, none⟩ = some (.string x.name) := Q0.cell 1
  have p0_2 : w0.cell? ⟨w.heap.size, 2, none⟩ = some (.int .i64 x.v.k) := P0.cell 2
  have q0_2 : w0.cell? ⟨w.heap.size + 1, 2, none⟩ = some (.int .i64 x.v.k) := Q0.cell 2
  have p0_3 : w0.cell? ⟨w.heap.size, 3, none⟩ = some (.int .i64 x.v.n) := P0.cell 3
  have q0_3 : w0.cell? ⟨w.heap.size + 1, 3, none⟩ = some (.int .i64 x.v.n) := Q0.cell 3
  have p0_4 : w0.cell? ⟨w.heap.size, 4, none⟩ = some (.string x.v.t) := P0.cell 4
  have q0_4 : w0.cell? ⟨w.heap.size + 1, 4, none⟩ = some (.string x.v.t) := Q0.cell 4
  have p0_5 : w0.cell? ⟨w.heap.size, 5, none⟩ = some (.int .i64 x.size) := P0.cell 5
  have q0_5 : w0.cell? ⟨w.heap.size + 1, 5, none⟩ = some (.int .i64 x.size) := Q0.cell 5
  have hP0 := Lib.hid P0
  have hQ0 := Lib.hid Q0
  clear P0 Q0
  go_wp2_with fail
  go_ret
  exact ⟨rfl, B0⟩

set_option maxHeartbeats 1600000 in
theorem eq_Nodes {lo lo' : Nat} (A D : Option Addr) (c d : Nat) (xs : List (GNode)) (w : World) (hk : costNodes xs ≤ 1048576) (hr : NodesAt w lo w.heap.size A xs) (hu : NodesAt w lo' w.heap.size D xs) :
    Calls Try.prog 36 #[.slice A xs.length c, .slice D xs.length d] w (EqYes w) := by
  have hl : xs.length ≤ 1048576 := by unfold costNodes at hk; omega
  have HR := Lib.hid hr
  have HU := Lib.hid hu
  have HK := Lib.hid hk
  clear hr hu hk
  go_enter Try.func36, Try.ntmps36
  go_wp2_with fail
  go_loopw [5] (fun i w' => ∃ k : Nat, k ≤ xs.length ∧ i = .int .i64 k ∧ Below w.heap.size w w') (fun i _ => xs.length - (intOf i).toNat)
  case atStart => exact ⟨0, Nat.zero_le _, rfl, Below.refl _ _⟩
  case round =>
    obtain ⟨k, hk, rfl, hB⟩ := hrel
    by_cases hlt : k < xs.length
    · obtain ⟨g, o, rfl, hg0, hg, he⟩ := (HR.out.to_ hB).at_ hlt
      obtain ⟨g', o', rfl, hg0', hg', he'⟩ := (HU.out.to_ hB).at_ hlt
      have hi0 : (0 : Int) ≤ (k : Int) := by omega
      have hi1 : (k : Int) < (xs.length : Int) := by omega
      have hck : costNode xs[k] ≤ 1048576 := by have h1 := HK.out; have h2 := sumC_mem costNode xs _ (List.getElem_mem hlt); unfold costNodes at h1; omega
      obtain ⟨h0, h1, h2, h3, h4, h5⟩ := he
      obtain ⟨k0, k1, k2, k3, k4, k5⟩ := he'
      have qa0 := cell_regrown h0
      have qb0 := cell_regrown k0
      have qa1 := cell_regrown h1
      have qb1 := cell_regrown k1
      have qa2 := cell_regrown h2
      have qb2 := cell_regrown k2
      have qa3 := cell_regrown h3
      have qb3 := cell_regrown k3
      have qa4 := cell_regrown h4
      have qb4 := cell_regrown k4
      have qa5 := cell_regrown h5
      have qb5 := cell_regrown k5
      clear h0 k0 h1 k1 h2 k2 h3 k3 h4 k4 h5 k5
      go_wp2_with fail
      refine wp_region_quiet_below (by kernel_rfl) (by kernel_rfl) ?_
      repeat (go_big_quiet_step (first | (go_at_call 82; exact Calls.regrown_of (eq_Node xs[k] _))))
      refine wpQuiet_nil ?_
      intro _ hw'
      obtain ⟨⟨dq, osq⟩, hw''⟩ := hw'
      subst hw''
      have hB2 := below_next hB (below_regrown wr dq osq) rfl rfl
      generalize grow (redrawn wr dq) osq = wx at *
      clear qa0 qb0 qa1 qb1 qa2 qb2 qa3 qb3 qa4 qb4 qa5 qb5
      go_wp2_with fail
      go_roundw
      case rel => exact ⟨k + 1, by omega, by go_num, hB2⟩
      case measure => simp [intOf]; omega
    · have hi1 : ¬ (k : Int) < (xs.length : Int) := by omega
      go_wp2_with fail
      go_ret
      exact ⟨rfl, hB⟩

end Go.Proofs.Ytpipikjkhmhmhaa
