/-
  laws.eqRule and its like, at equal data.
-/
import Derived.Test.YtmbdccbgcobflaaEqNode
import Derived.Test.YtmbdccbgcobflaaTyRule
namespace Go.Proofs.Ytmbdccbgcobflaa
open Go.RowKit Go.Sort
set_option linter.unusedVariables false

set_option maxHeartbeats 1600000 in
theorem eq_Atom {lo lo' : Nat} (x : GAtom) (A1 D1 : Option Addr) (c1 d1 : Nat) (w : World) (hk : costAtom x ≤ 1048576) (s1 : NodeSsAt w lo w.heap.size A1 x.args) (u1 : NodeSsAt w lo' w.heap.size D1 x.args) :
    Calls Try.prog 25 #[.agg #[.string x.name, .slice A1 x.args.length c1], .agg #[.string x.name, .slice D1 x.args.length d1]] w (EqYes w) := by
  obtain ⟨hP, hQ, hB, hZ⟩ := two_new w #[.string x.name, .slice A1 x.args.length c1] #[.string x.name, .slice D1 x.args.length d1] 33
  have HP := Lib.hid hP
  have HQ := Lib.hid hQ
  have HZ := Lib.hid hZ
  clear hP hQ hZ
  unfold costAtom at hk
  go_enter Try.func25, Try.ntmps25
  go_wp2_with fail
  refine (eq_NodeSs A1 D1 c1 d1 x.args _ (by omega) (s1.to_ hB) (u1.to_ hB)).mono ?_
  rintro e w0 ⟨rfl, hb0⟩
  have B0 := below_next hB hb0 rfl rfl
  go_wp2_with fail
  go_ret
  exact ⟨rfl, B0⟩

set_option maxHeartbeats 1600000 in
theorem eq_Lit {lo lo' : Nat} (x : GLit) (A2 D2 : Option Addr) (c2 d2 : Nat) (A4 D4 : Option Addr) (c4 d4 : Nat) (A5 D5 : Option Addr) (c5 d5 : Nat) (w : World) (hk : costLit x ≤ 1048576) (s2 : NodeSsAt w lo w.heap.size A2 x.atom.args) (u2 : NodeSsAt w lo' w.heap.size D2 x.atom.args) (s4 : NodesAt w lo w.heap.size A4 x.left) (u4 : NodesAt w lo' w.heap.size D4 x.left) (s5 : NodesAt w lo w.heap.size A5 x.right) (u5 : NodesAt w lo' w.heap.size D5 x.right) :
    Calls Try.prog 40 #[.agg #[.int .i64 x.k, .string x.atom.name, .slice A2 x.atom.args.length c2, .string x.op, .slice A4 x.left.length c4, .slice A5 x.right.length c5], .agg #[.int .i64 x.k, .string x.atom.name, .slice D2 x.atom.args.length d2, .string x.op, .slice D4 x.left.length d4, .slice D5 x.right.length d5]] w (EqYes w) := by
  obtain ⟨hP, hQ, hB, hZ⟩ := two_new w #[.int .i64 x.k, .string x.atom.name, .slice A2 x.atom.args.length c2, .string x.op, .slice A4 x.left.length c4, .slice A5 x.right.length c5] #[.int .i64 x.k, .string x.atom.name, .slice D2 x.atom.args.length d2, .string x.op, .slice D4 x.left.length d4, .slice D5 x.right.length d5] 48
  have HP := Lib.hid hP
  have HQ := Lib.hid hQ
  have HZ := Lib.hid hZ
  clear hP hQ hZ
  unfold costLit at hk
  go_enter Try.func40, Try.ntmps40
  go_wp2_with fail
  refine (eq_Atom x.atom A2 D2 c2 d2 _ (by omega) (s2.to_ hB) (u2.to_ hB)).mono ?_
  rintro e w0 ⟨rfl, hb0⟩
  have B0 := below_next hB hb0 rfl rfl
  have P0 := HP.out.below hb0 HP.out.lt
  have Q0 := HQ.out.below hb0 HQ.out.lt
  have p0_0 : w0.cell? ⟨w.heap.size, 0, none⟩ = some (.int .i64 x.k) := P0.cell 0
  have q0_0 : w0.cell? ⟨w.heap.size + 1, 0, none⟩ = some (.int .i64 x.k) := Q0.cell 0
  have p0_1 : w0.cell? ⟨w.heap.size, 1, none⟩ = some (.string x.atom.name) := P0.cell 1
  have q0_1 : w0.cell? ⟨w.heap.size + 1, 1, none⟩ = some (.string x.atom.name) := Q0.cell 1
  have p0_2 : w0.cell? ⟨w.heap.size, 2, none⟩ = some (.slice A2 x.atom.args.length c2) := P0.cell 2
  have q0_2 : w0.cell? ⟨w.heap.size + 1, 2, none⟩ = some (.slice D2 x.atom.args.length d2) := Q0.cell 2
  have p0_3 : w0.cell? ⟨w.heap.size, 3, none⟩ = some (.string x.op) := P0.cell 3
  have q0_3 : w0.cell? ⟨w.heap.size + 1, 3, none⟩ = some (.string x.op) := Q0.cell 3
  have p0_4 : w0.cell? ⟨w.heap.size, 4, none⟩ = some (.slice A4 x.left.length c4) := P0.cell 4
  have q0_4 : w0.cell? ⟨w.heap.size + 1, 4, none⟩ = some (.slice D4 x.left.length d4) := Q0.cell 4
  have p0_5 : w0.cell? ⟨w.heap.size, 5, none⟩ = some (.slice A5 x.right.length c5) := P0.cell 5
  have q0_5 : w0.cell? ⟨w.heap.size + 1, 5, none⟩ = some (.slice D5 x.right.length d5) := Q0.cell 5
  have hP0 := Lib.hid P0
  have hQ0 := Lib.hid Q0
  clear P0 Q0
  go_wp2_with fail
  refine (eq_Nodes A4 D4 c4 d4 x.left _ (by omega) (s4.to_ B0) (u4.to_ B0)).mono ?_
  rintro e w1 ⟨rfl, hb1⟩
  have B1 := below_next B0 hb1 rfl rfl
  clear p0_0 q0_0 p0_1 q0_1 p0_2 q0_2 p0_3 q0_3 p0_4 q0_4 p0_5 q0_5
  have P1 := hP0.out.below hb1 hP0.out.lt
  have Q1 := hQ0.out.below hb1 hQ0.out.lt
  have p1_0 : w1.cell? ⟨w.heap.size, 0, none⟩ = some (.int .i64 x.k) := P1.cell 0
  have q1_0 : w1.cell? ⟨w.heap.size + 1, 0, none⟩ = some (.int .i64 x.k) := Q1.cell 0
  have p1_1 : w1.cell? ⟨w.heap.size, 1, none⟩ = some (.string x.atom.name) := P1.cell 1
  have q1_1 : w1.cell? ⟨w.heap.size + 1, 1, none⟩ = some (.string x.atom.name) := Q1.cell 1
  have p1_2 : w1.cell? ⟨w.heap.size, 2, none⟩ = some (.slice A2 x.atom.args.length c2) := P1.cell 2
  have q1_2 : w1.cell? ⟨w.heap.size + 1, 2, none⟩ = some (.slice D2 x.atom.args.length d2) := Q1.cell 2
  have p1_3 : w1.cell? ⟨w.heap.size, 3, none⟩ = some (.string x.op) := P1.cell 3
  have q1_3 : w1.cell? ⟨w.heap.size + 1, 3, none⟩ = some (.string x.op) := Q1.cell 3
  have p1_4 : w1.cell? ⟨w.heap.size, 4, none⟩ = some (.slice A4 x.left.length c4) := P1.cell 4
  have q1_4 : w1.cell? ⟨w.heap.size + 1, 4, none⟩ = some (.slice D4 x.left.length d4) := Q1.cell 4
  have p1_5 : w1.cell? ⟨w.heap.size, 5, none⟩ = some (.slice A5 x.right.length c5) := P1.cell 5
  have q1_5 : w1.cell? ⟨w.heap.size + 1, 5, none⟩ = some (.slice D5 x.right.length d5) := Q1.cell 5
  have hP1 := Lib.hid P1
  have hQ1 := Lib.hid Q1
  clear P1 Q1
  go_wp2_with fail
  refine (eq_Nodes A5 D5 c5 d5 x.right _ (by omega) (s5.to_ B1) (u5.to_ B1)).mono ?_
  rintro e w2 ⟨rfl, hb2⟩
  have B2 := below_next B1 hb2 rfl rfl
  clear p1_0 q1_0 p1_1 q1_1 p1_2 q1_2 p1_3 q1_3 p1_4 q1_4 p1_5 q1_5
  go_wp2_with fail
  go_ret
  exact ⟨rfl, B2⟩

set_option maxHeartbeats 1600000 in
theorem eq_Lits {lo lo' : Nat} (A D : Option Addr) (c d : Nat) (xs : List (GLit)) (w : World) (hk : costLits xs ≤ 1048576) (hr : LitsAt w lo w.heap.size A xs) (hu : LitsAt w lo' w.heap.size D xs) :
    Calls Try.prog 26 #[.slice A xs.length c, .slice D xs.length d] w (EqYes w) := by
  have hl : xs.length ≤ 1048576 := by unfold costLits at hk; omega
  have HR := Lib.hid hr
  have HU := Lib.hid hu
  have HK := Lib.hid hk
  clear hr hu hk
  go_enter Try.func26, Try.ntmps26
  go_wp2_with fail
  go_loopw [5] (fun i w' => ∃ k : Nat, k ≤ xs.length ∧ i = .int .i64 k ∧ Below w.heap.size w w') (fun i _ => xs.length - (intOf i).toNat)
  case atStart => exact ⟨0, Nat.zero_le _, rfl, Below.refl _ _⟩
  case round =>
    obtain ⟨k, hk, rfl, hB⟩ := hrel
    by_cases hlt : k < xs.length
    · obtain ⟨g, o, rfl, hg0, hg, he⟩ := (HR.out.to_ hB).at_ hlt
      obtain ⟨g', o', rfl, hg0', hg', he'⟩ := (HU.out.to_ hB).at_ hlt
      have hi0 : (0 : Int) ≤ (k : Int) := by omega
      have hi1 : (k : Int) < (xs.length : Int) := by omega
      have hck : costLit xs[k] ≤ 1048576 := by have h1 := HK.out; have h2 := sumC_mem costLit xs _ (List.getElem_mem hlt); unfold costLits at h1; omega
      obtain ⟨h0, h1, h2, h3, h4, h5⟩ := he
      obtain ⟨k0, k1, k2, k3, k4, k5⟩ := he'
      obtain ⟨A2, c2, h2y, s2⟩ := h2
      obtain ⟨D2, d2, k2y, u2⟩ := k2
      obtain ⟨A4, c4, ⟨h4y, q4⟩, s4⟩ := h4
      obtain ⟨D4, d4, ⟨k4y, q_4⟩, u4⟩ := k4
      obtain ⟨A5, c5, ⟨h5y, q5⟩, s5⟩ := h5
      obtain ⟨D5, d5, ⟨k5y, q_5⟩, u5⟩ := k5
      have qa0 := cell_regrown h0
      have qb0 := cell_regrown k0
      have qa1 := cell_regrown h1
      have qb1 := cell_regrown k1
      have qa2 := cell_regrown h2y
      have qb2 := cell_regrown k2y
      have qa3 := cell_regrown h3
      have qb3 := cell_regrown k3
      have qa4 := cell_regrown h4y
      have qb4 := cell_regrown k4y
      have qa5 := cell_regrown h5y
      have qb5 := cell_regrown k5y
      clear h0 k0 h1 k1 h2y k2y h3 k3 h4y k4y h5y k5y
      go_wp2_with fail
      refine wp_region_quiet_below (by kernel_rfl) (by kernel_rfl) ?_
      repeat (go_big_quiet_step (first | (go_at_call 40; exact Calls.regrown_of (eq_Lit xs[k] A2 D2 c2 d2 A4 D4 c4 d4 A5 D5 c5 d5 _ hck (s2.to_ (below_regrown wr _ _)) (u2.to_ (below_regrown wr _ _)) (s4.to_ (below_regrown wr _ _)) (u4.to_ (below_regrown wr _ _)) (s5.to_ (below_regrown wr _ _)) (u5.to_ (below_regrown wr _ _))))))
      refine wpQuiet_nil ?_
      intro _ hw'
      obtain ⟨⟨dq, osq⟩, hw''⟩ := hw'
      subst hw''
      have hB2 := below_next hB (below_regrown wr dq osq) rfl rfl
      generalize grow (redrawn wr dq) osq = wx at *
      clear qa0 qb0 qa1 qb1 qa2 qb2 qa3 qb3 qa4 qb4 qa5 qb5
      go_wp2_with fail
      go_roundw
      case rel => exact ⟨k + 1, by omega, by go_num, hB2⟩
      case measure => simp [intOf]; omega
    · have hi1 : ¬ (k : Int) < (xs.length : Int) := by omega
      go_wp2_with fail
      go_ret
      exact ⟨rfl, hB⟩

set_option maxHeartbeats 1600000 in
theorem eq_Rule {lo lo' : Nat} (x : GRule) (A1 D1 : Option Addr) (c1 d1 : Nat) (A2 D2 : Option Addr) (c2 d2 : Nat) (A3 D3 : Option Addr) (c3 d3 : Nat) (w : World) (hk : costRule x ≤ 1048576) (s1 : NodeSsAt w lo w.heap.size A1 x.head.args) (u1 : NodeSsAt w lo' w.heap.size D1 x.head.args) (s2 : StrsAt w lo w.heap.size A2 x.aggs) (u2 : StrsAt w lo' w.heap.size D2 x.aggs) (s3 : LitsAt w lo w.heap.size A3 x.body) (u3 : LitsAt w lo' w.heap.size D3 x.body) :
    Calls Try.prog 9 #[.agg #[.string x.head.name, .slice A1 x.head.args.length c1, .slice A2 x.aggs.length c2, .slice A3 x.body.length c3], .agg #[.string x.head.name, .slice D1 x.head.args.length d1, .slice D2 x.aggs.length d2, .slice D3 x.body.length d3]] w (EqYes w) := by
  obtain ⟨hP, hQ, hB, hZ⟩ := two_new w #[.string x.head.name, .slice A1 x.head.args.length c1, .slice A2 x.aggs.length c2, .slice A3 x.body.length c3] #[.string x.head.name, .slice D1 x.head.args.length d1, .slice D2 x.aggs.length d2, .slice D3 x.body.length d3] 36
  have HP := Lib.hid hP
  have HQ := Lib.hid hQ
  have HZ := Lib.hid hZ
  clear hP hQ hZ
  unfold costRule at hk
  go_enter Try.func9, Try.ntmps9
  go_wp2_with fail
  refine (eq_Atom x.head A1 D1 c1 d1 _ (by omega) (s1.to_ hB) (u1.to_ hB)).mono ?_
  rintro e w0 ⟨rfl, hb0⟩
  have B0 := below_next hB hb0 rfl rfl
  have P0 := HP.out.below hb0 HP.out.lt
  have Q0 := HQ.out.below hb0 HQ.out.lt
  have p0_0 : w0.cell? ⟨w.heap.size, 0, none⟩ = some (.string x.head.name) := P0.cell 0
  have q0_0 : w0.cell? ⟨w.heap.size + 1, 0, none⟩ = some (.string x.head.name) := Q0.cell 0
  have p0_1 : w0.cell? ⟨w.heap.size, 1, none⟩ = some (.slice A1 x.head.args.length c1) := P0.cell 1
  have q0_1 : w0.cell? ⟨w.heap.size + 1, 1, none⟩ = some (.slice D1 x.head.args.length d1) := Q0.cell 1
  have p0_2 : w0.cell? ⟨w.heap.size, 2, none⟩ = some (.slice A2 x.aggs.length c2) := P0.cell 2
  have q0_2 : w0.cell? ⟨w.heap.size + 1, 2, none⟩ = some (.slice D2 x.aggs.length d2) := Q0.cell 2
  have p0_3 : w0.cell? ⟨w.heap.size, 3, none⟩ = some (.slice A3 x.body.length c3) := P0.cell 3
  have q0_3 : w0.cell? ⟨w.heap.size + 1, 3, none⟩ = some (.slice D3 x.body.length d3) := Q0.cell 3
  have hP0 := Lib.hid P0
  have hQ0 := Lib.hid Q0
  clear P0 Q0
  go_wp2_with fail
  refine (eq_Strs A2 D2 c2 d2 x.aggs _ (by omega) (s2.to_ B0) (u2.to_ B0)).mono ?_
  rintro e w1 ⟨rfl, hb1⟩
  have B1 := below_next B0 hb1 rfl rfl
  clear p0_0 q0_0 p0_1 q0_1 p0_2 q0_2 p0_3 q0_3
  have P1 := hP0.out.below hb1 hP0.out.lt
  have Q1 := hQ0.out.below hb1 hQ0.out.lt
  have p1_0 : w1.cell? ⟨w.heap.size, 0, none⟩ = some (.string x.head.name) := P1.cell 0
  have q1_0 : w1.cell? ⟨w.heap.size + 1, 0, none⟩ = some (.string x.head.name) := Q1.cell 0
  have p1_1 : w1.cell? ⟨w.heap.size, 1, none⟩ = some (.slice A1 x.head.args.length c1) := P1.cell 1
  have q1_1 : w1.cell? ⟨w.heap.size + 1, 1, none⟩ = some (.slice D1 x.head.args.length d1) := Q1.cell 1
  have p1_2 : w1.cell? ⟨w.heap.size, 2, none⟩ = some (.slice A2 x.aggs.length c2) := P1.cell 2
  have q1_2 : w1.cell? ⟨w.heap.size + 1, 2, none⟩ = some (.slice D2 x.aggs.length d2) := Q1.cell 2
  have p1_3 : w1.cell? ⟨w.heap.size, 3, none⟩ = some (.slice A3 x.body.length c3) := P1.cell 3
  have q1_3 : w1.cell? ⟨w.heap.size + 1, 3, none⟩ = some (.slice D3 x.body.length d3) := Q1.cell 3
  have hP1 := Lib.hid P1
  have hQ1 := Lib.hid Q1
  clear P1 Q1
  go_wp2_with fail
  refine (eq_Lits A3 D3 c3 d3 x.body _ (by omega) (s3.to_ B1) (u3.to_ B1)).mono ?_
  rintro e w2 ⟨rfl, hb2⟩
  have B2 := below_next B1 hb2 rfl rfl
  clear p1_0 q1_0 p1_1 q1_1 p1_2 q1_2 p1_3 q1_3
  go_wp2_with fail
  go_ret
  exact ⟨rfl, B2⟩

end Go.Proofs.Ytmbdccbgcobflaa
