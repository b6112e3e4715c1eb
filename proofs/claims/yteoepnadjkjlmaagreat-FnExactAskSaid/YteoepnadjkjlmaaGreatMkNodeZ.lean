/-
  laws.eqNodeSS, at equal data. laws.eqRule and its like, at equal data. laws.markNodeS and its like, at arguments.
-/
import Derived.Test.YteoepnadjkjlmaaGreatEqNodeZ
import Derived.Test.YteoepnadjkjlmaaGreatSzAtomZ
import Derived.Test.YteoepnadjkjlmaaGreatMkVsZ
import Derived.Test.YteoepnadjkjlmaaGreatSzNodesZ
namespace Go.Proofs.YteoepnadjkjlmaaGreat
open Go.RowKit Go.Sort
set_option linter.unusedVariables false

set_option maxHeartbeats 1600000 in
theorem eq_NodeSs {lo lo' : Nat} (A D : Option Addr) (c d : Nat) (xs : List (List GNode)) (w : World) (hk : costNodeSs xs ≤ 1048576) (hr : NodeSsAt w lo w.heap.size A xs) (hu : NodeSsAt w lo' w.heap.size D xs) :
    Calls Tryz.prog 35 #[.slice A xs.length c, .slice D xs.length d] w (EqYes w) := by
  have hl : xs.length ≤ 1048576 := by unfold costNodeSs at hk; omega
  have HR := Lib.hid hr
  have HU := Lib.hid hu
  have HK := Lib.hid hk
  clear hr hu hk
  go_enter Tryz.func35, Tryz.ntmps35
  go_wp2_with fail
  go_loopw [5] (fun i w' => ∃ k : Nat, k ≤ xs.length ∧ i = .int .i64 k ∧ Below w.heap.size w w') (fun i _ => xs.length - (intOf i).toNat)
  case atStart => exact ⟨0, Nat.zero_le _, rfl, Below.refl _ _⟩
  case round =>
    obtain ⟨k, hk, rfl, hB⟩ := hrel
    by_cases hlt : k < xs.length
    · obtain ⟨g, o, rfl, hg0, hg, he⟩ := (HR.out.to_ hB).at_ hlt
      obtain ⟨g', o', rfl, hg0', hg', he'⟩ := (HU.out.to_ hB).at_ hlt
      have hi0 : (0 : Int) ≤ (k : Int) := by omega
      have hi1 : (k : Int) < (xs.length : Int) := by omega
      have hck : costNodeS xs[k] ≤ 1048576 := by have h1 := HK.out; have h2 := sumC_mem costNodeS xs _ (List.getElem_mem hlt); unfold costNodeSs at h1; omega
      obtain ⟨A0, c0, ⟨h0y, q0⟩, s0⟩ := he
      obtain ⟨D0, d0, ⟨k0y, q_0⟩, u0⟩ := he'
      have qa0 := cell_regrown h0y
      have qb0 := cell_regrown k0y
      clear h0y k0y
      go_wp2_with fail
      refine wp_region_quiet_below (by kernel_rfl) (by kernel_rfl) ?_
      repeat (go_big_quiet_step (first | (go_at_call 60; exact Calls.regrown_of (eq_Nodes A0 D0 c0 d0 xs[k] _ hck (s0.to_ (below_regrown wr _ _)) (u0.to_ (below_regrown wr _ _))))))
      refine wpQuiet_nil ?_
      intro _ hw'
      obtain ⟨⟨dq, osq⟩, hw''⟩ := hw'
      subst hw''
      have hB2 := below_next hB (below_regrown wr dq osq) rfl rfl
      generalize grow (redrawn wr dq) osq = wx at *
      clear qa0 qb0
      go_wp2_with fail
      go_roundw
      case rel => exact ⟨k + 1, by omega, by go_num, hB2⟩
      case measure => simp [intOf]; omega
    · have hi1 : ¬ (k : Int) < (xs.length : Int) := by omega
      go_wp2_with fail
      go_ret
      exact ⟨rfl, hB⟩

end Go.Proofs.YteoepnadjkjlmaaGreat
namespace Go.Proofs.YteoepnadjkjlmaaGreat
open Go.RowKit Go.Sort
set_option linter.unusedVariables false

set_option maxHeartbeats 1600000 in
theorem eq_Atom {lo lo' : Nat} (x : GAtom) (A1 D1 : Option Addr) (c1 d1 : Nat) (w : World) (hk : costAtom x ≤ 1048576) (s1 : NodeSsAt w lo w.heap.size A1 x.args) (u1 : NodeSsAt w lo' w.heap.size D1 x.args) :
    Calls Tryz.prog 12 #[.agg #[.string x.name, .slice A1 x.args.length c1], .agg #[.string x.name, .slice D1 x.args.length d1]] w (EqYes w) := by
  obtain ⟨hP, hQ, hB, hZ⟩ := two_new w #[.string x.name, .slice A1 x.args.length c1] #[.string x.name, .slice D1 x.args.length d1] 34
  have HP := Lib.hid hP
  have HQ := Lib.hid hQ
  have HZ := Lib.hid hZ
  clear hP hQ hZ
  unfold costAtom at hk
  go_enter Tryz.func12, Tryz.ntmps12
  go_wp2_with fail
  refine (eq_NodeSs A1 D1 c1 d1 x.args _ (by omega) (s1.to_ hB) (u1.to_ hB)).mono ?_
  rintro e w0 ⟨rfl, hb0⟩
  have B0 := below_next hB hb0 rfl rfl
  go_wp2_with fail
  go_ret
  exact ⟨rfl, B0⟩

end Go.Proofs.YteoepnadjkjlmaaGreat
namespace Go.Proofs.YteoepnadjkjlmaaGreat
open Go.RowKit Go.Sort
set_option linter.unusedVariables false

def NodeSh (w : World) (lo B g o : Nat) (x : GNode) : Prop := (∃ z, w.cell? ⟨g, o, none⟩ = some (.int .i64 z)) ∧ (∃ t, w.cell? ⟨g, o + 1, none⟩ = some (.string t)) ∧ (∃ z, w.cell? ⟨g, o + 2, none⟩ = some (.int .i64 z)) ∧ (∃ z, w.cell? ⟨g, o + 3, none⟩ = some (.int .i64 z)) ∧ (∃ t, w.cell? ⟨g, o + 4, none⟩ = some (.string t)) ∧ (∃ z, w.cell? ⟨g, o + 5, none⟩ = some (.int .i64 z))
def NodesSh (w : World) (lo B : Nat) (A : Option Addr) (xs : List (GNode)) : Prop := xs = [] ∨ ∃ g o, A = some ⟨g, o, none⟩ ∧ lo ≤ g ∧ g < B ∧ ∀ i x, xs[i]? = some x → NodeSh w lo B g (o + i * 6) x
theorem NodeSh.kk {w w' : World} {lo B g o : Nat} {x : GNode} (h : NodeSh w lo B g o x) (b1 : lo ≤ g) (b2 : g < B) (k : KK w w' lo B) : NodeSh w' lo B g o x := by
  obtain ⟨h0, h1, h2, h3, h4, h5⟩ := h
  exact ⟨(by obtain ⟨z, a⟩ := h0; exact k.int _ _ z b1 b2 a), (by obtain ⟨z, a⟩ := h1; exact k.str _ _ z b1 b2 a), (by obtain ⟨z, a⟩ := h2; exact k.int _ _ z b1 b2 a), (by obtain ⟨z, a⟩ := h3; exact k.int _ _ z b1 b2 a), (by obtain ⟨z, a⟩ := h4; exact k.str _ _ z b1 b2 a), (by obtain ⟨z, a⟩ := h5; exact k.int _ _ z b1 b2 a)⟩
theorem NodesSh.kk {w w' : World} {lo B : Nat} {A : Option Addr} {xs : List (GNode)} (h : NodesSh w lo B A xs) (k : KK w w' lo B) : NodesSh w' lo B A xs := by
  rcases h with h | ⟨g, o, hA, h1, h2, hc⟩
  · exact .inl h
  · exact .inr ⟨g, o, hA, h1, h2, fun i x hx => (hc i x hx).kk h1 h2 k⟩
theorem NodeAt.sh {w : World} {lo B g o : Nat} {x : GNode} (h : NodeAt w lo B g o x) : NodeSh w lo B g o x := by
  obtain ⟨h0, h1, h2, h3, h4, h5⟩ := h
  exact ⟨⟨_, h0⟩, ⟨_, h1⟩, ⟨_, h2⟩, ⟨_, h3⟩, ⟨_, h4⟩, ⟨_, h5⟩⟩
theorem NodesAt.sh {w : World} {lo B : Nat} {A : Option Addr} {xs : List (GNode)} (h : NodesAt w lo B A xs) : NodesSh w lo B A xs := by
  rcases h with h | ⟨g, o, hA, h1, h2, hc⟩
  · exact .inl h
  · exact .inr ⟨g, o, hA, h1, h2, fun i x hx => (hc i x hx).sh⟩
theorem NodesSh.at_ {w : World} {lo B : Nat} {A : Option Addr} {xs : List (GNode)} (h : NodesSh w lo B A xs) {i : Nat} (hi : i < xs.length) : ∃ g o, A = some ⟨g, o, none⟩ ∧ lo ≤ g ∧ g < B ∧ NodeSh w lo B g (o + i * 6) xs[i] := by
  rcases h with h | ⟨g, o, hA, h1, h2, hc⟩
  · subst h; simp at hi
  · exact ⟨g, o, hA, h1, h2, hc i _ (List.getElem?_eq_getElem hi)⟩
def mcNode (x : GNode) : Nat := 6
def mcNodes (xs : List (GNode)) : Nat := sumC mcNode xs
theorem mcNode_le (x : GNode) : mcNode x ≤ 6 + 6 * costNode x := by
  unfold mcNode costNode costValue; omega
theorem mcNodes_le (xs : List (GNode)) : mcNodes xs ≤ 6 * costNodes xs := by
  unfold mcNodes costNodes sumC
  induction xs with
  | nil => simp
  | cons x xs ih =>
    have := mcNode_le x
    simp only [List.map_cons, List.sum_cons, List.length_cons] at ih ⊢
    omega

set_option maxRecDepth 100000 in
set_option maxHeartbeats 3200000 in
theorem mark_Nodes {lo B : Nat} (A : Option Addr) (c : Nat) (xs : List (GNode)) (k : Int) (w : World) (h : NodesSh w lo B A xs) (hu : UF w lo B) (hB : B ≤ w.heap.size) (hk : 1 ≤ k) (hk2 : k + mcNodes xs ≤ 100000000) (hl : xs.length ≤ 1048576) (hsub : costNodes xs ≤ 1048576) :
    Calls Tryz.prog 61 #[.slice A xs.length c, .int .i64 k] w (Marked w k (mcNodes xs) lo B) := by
  have HS := Lib.hid h
  have HU := Lib.hid hu
  have HK := Lib.hid hk2
  have HC := Lib.hid hsub
  have hkb : k ≤ 100000000 := by omega
  clear h hu hk2 hsub
  go_enter Tryz.func61, Tryz.ntmps61
  go_wp2_with fail
  go_loopw [1, 5] (fun kk i w' => ∃ (j : Nat) (K : Int), j ≤ xs.length ∧ kk = .int .i64 K ∧ i = .int .i64 j ∧ k ≤ K ∧ K ≤ 100000000 ∧ Hid (K ≤ k + (sumC mcNode (xs.take j) : Nat)) ∧ Hid (KK w w' lo B)) (fun _ i _ => xs.length - (intOf i).toNat)
  case atStart => exact ⟨0, k, Nat.zero_le _, rfl, rfl, Int.le_refl _, hkb, Lib.hid (by simp [sumC]), Lib.hid (KK.refl w lo B)⟩
  case round =>
    obtain ⟨j, K, hj, rfl, rfl, hK0, hK1, hK2, hKK⟩ := hrel
    by_cases hlt : j < xs.length
    · obtain ⟨g, o, rfl, hg1, hg2, hE⟩ := (HS.out.kk hKK.out).at_ hlt
      have HE := Lib.hid hE
      have HUw := Lib.hid (HU.out.kk hKK.out)
      have hst := Lib.hid (sumC_take mcNode xs j hlt)
      have hle := Lib.hid (sumC_le mcNode xs (j + 1))
      have hmc := Lib.hid (show mcNodes xs = sumC mcNode xs from rfl)
      have hi0 : (0 : Int) ≤ (j : Int) := by omega
      have hi1 : (j : Int) < (xs.length : Int) := by omega
      have hBw : B ≤ wr.heap.size := by have := hKK.out.size; omega
      have hKtot : K + (6) ≤ 100000000 := by
        have h1 := HK.out; have h2 := hK2.out; have h3 := hst.out; have h4 := hle.out; have h5 := hmc.out
        have h6 : ((mcNode xs[j] : Nat) : Int) = 6 := by unfold mcNode; omega
        omega
      obtain ⟨⟨z0_0, c0_0⟩, ⟨z1_0, c1_0⟩, ⟨z2_0, c2_0⟩, ⟨z3_0, c3_0⟩, ⟨z4_0, c4_0⟩, ⟨z5_0, c5_0⟩⟩ := HE.out
      have f0_0 : wr.frozen? ⟨g, o + j * 6, none⟩ = false := (HUw.out) g hg1 hg2 (o + j * 6)
      have f1_0 : wr.frozen? ⟨g, o + j * 6 + 1, none⟩ = false := (HUw.out) g hg1 hg2 (o + j * 6 + 1)
      have f2_0 : wr.frozen? ⟨g, o + j * 6 + 2, none⟩ = false := (HUw.out) g hg1 hg2 (o + j * 6 + 2)
      have f3_0 : wr.frozen? ⟨g, o + j * 6 + 3, none⟩ = false := (HUw.out) g hg1 hg2 (o + j * 6 + 3)
      have f4_0 : wr.frozen? ⟨g, o + j * 6 + 4, none⟩ = false := (HUw.out) g hg1 hg2 (o + j * 6 + 4)
      have f5_0 : wr.frozen? ⟨g, o + j * 6 + 5, none⟩ = false := (HUw.out) g hg1 hg2 (o + j * 6 + 5)
      have kn0 : KK wr (wr.setCell ⟨g, o + j * 6, none⟩ (.int .i64 (K))) lo B := (KK.refl wr lo B).trans (KK.setInt hg1 hg2 (show wr.cell? ⟨g, o + j * 6, none⟩ = some _ from c0_0) _)
      have bz0 : B ≤ (wr.setCell ⟨g, o + j * 6, none⟩ (.int .i64 (K))).heap.size := by have := kn0.size; omega
      have KN0 := Lib.hid kn0
      clear kn0
      go_wp2_with fail
      refine (mark_any _ _ (by omega) (by omega)).mono ?_
      rintro e w0 ⟨T0, rfl, hb0⟩
      have kw0 : KK wr w0 lo B := (KN0.out).trans (KK.below hb0 bz0)
      have bw0 : B ≤ w0.heap.size := by have := kw0.size; omega
      have KW0 := Lib.hid kw0
      clear kw0 KN0 bz0 hb0
      clear c0_0 c1_0 c2_0 c3_0 c4_0 c5_0 f0_0 f1_0 f2_0 f3_0 f4_0 f5_0
      obtain ⟨⟨z0_1, c0_1⟩, ⟨z1_1, c1_1⟩, ⟨z2_1, c2_1⟩, ⟨z3_1, c3_1⟩, ⟨z4_1, c4_1⟩, ⟨z5_1, c5_1⟩⟩ := HE.out.kk hg1 hg2 KW0.out
      have f0_1 : w0.frozen? ⟨g, o + j * 6, none⟩ = false := (HUw.out.kk KW0.out) g hg1 hg2 (o + j * 6)
      have f1_1 : w0.frozen? ⟨g, o + j * 6 + 1, none⟩ = false := (HUw.out.kk KW0.out) g hg1 hg2 (o + j * 6 + 1)
      have f2_1 : w0.frozen? ⟨g, o + j * 6 + 2, none⟩ = false := (HUw.out.kk KW0.out) g hg1 hg2 (o + j * 6 + 2)
      have f3_1 : w0.frozen? ⟨g, o + j * 6 + 3, none⟩ = false := (HUw.out.kk KW0.out) g hg1 hg2 (o + j * 6 + 3)
      have f4_1 : w0.frozen? ⟨g, o + j * 6 + 4, none⟩ = false := (HUw.out.kk KW0.out) g hg1 hg2 (o + j * 6 + 4)
      have f5_1 : w0.frozen? ⟨g, o + j * 6 + 5, none⟩ = false := (HUw.out.kk KW0.out) g hg1 hg2 (o + j * 6 + 5)
      have kn1 : KK w0 (((w0.setCell ⟨g, o + j * 6 + 1, none⟩ (.string T0)).setCell ⟨g, o + j * 6 + 2, none⟩ (.int .i64 (K + 1 + 1))).setCell ⟨g, o + j * 6 + 3, none⟩ (.int .i64 (K + 1 + 1 + 1))) lo B := (((KK.refl w0 lo B).trans (KK.setStr hg1 hg2 (show w0.cell? ⟨g, o + j * 6 + 1, none⟩ = some _ from c1_1) _)).trans (KK.setInt hg1 hg2 (show (w0.setCell ⟨g, o + j * 6 + 1, none⟩ (.string T0)).cell? ⟨g, o + j * 6 + 2, none⟩ = some _ from (World.cell?_setCell_other _ _ _ _ (by intro e; simp only [Addr.mk.injEq] at e; omega)).trans (c2_1)) _)).trans (KK.setInt hg1 hg2 (show ((w0.setCell ⟨g, o + j * 6 + 1, none⟩ (.string T0)).setCell ⟨g, o + j * 6 + 2, none⟩ (.int .i64 (K + 1 + 1))).cell? ⟨g, o + j * 6 + 3, none⟩ = some _ from (World.cell?_setCell_other _ _ _ _ (by intro e; simp only [Addr.mk.injEq] at e; omega)).trans ((World.cell?_setCell_other _ _ _ _ (by intro e; simp only [Addr.mk.injEq] at e; omega)).trans (c3_1))) _)
      have bz1 : B ≤ (((w0.setCell ⟨g, o + j * 6 + 1, none⟩ (.string T0)).setCell ⟨g, o + j * 6 + 2, none⟩ (.int .i64 (K + 1 + 1))).setCell ⟨g, o + j * 6 + 3, none⟩ (.int .i64 (K + 1 + 1 + 1))).heap.size := by have := kn1.size; omega
      have KN1 := Lib.hid kn1
      clear kn1
      go_wp2_with fail
      refine (mark_any _ _ (by omega) (by omega)).mono ?_
      rintro e w1 ⟨T1, rfl, hb1⟩
      have kw1 : KK wr w1 lo B := (KW0.out).trans ((KN1.out).trans (KK.below hb1 bz1))
      have bw1 : B ≤ w1.heap.size := by have := kw1.size; omega
      have KW1 := Lib.hid kw1
      clear kw1 KN1 bz1 hb1
      clear c0_1 c1_1 c2_1 c3_1 c4_1 c5_1 f0_1 f1_1 f2_1 f3_1 f4_1 f5_1
      obtain ⟨⟨z0_2, c0_2⟩, ⟨z1_2, c1_2⟩, ⟨z2_2, c2_2⟩, ⟨z3_2, c3_2⟩, ⟨z4_2, c4_2⟩, ⟨z5_2, c5_2⟩⟩ := HE.out.kk hg1 hg2 KW1.out
      have f0_2 : w1.frozen? ⟨g, o + j * 6, none⟩ = false := (HUw.out.kk KW1.out) g hg1 hg2 (o + j * 6)
      have f1_2 : w1.frozen? ⟨g, o + j * 6 + 1, none⟩ = false := (HUw.out.kk KW1.out) g hg1 hg2 (o + j * 6 + 1)
      have f2_2 : w1.frozen? ⟨g, o + j * 6 + 2, none⟩ = false := (HUw.out.kk KW1.out) g hg1 hg2 (o + j * 6 + 2)
      have f3_2 : w1.frozen? ⟨g, o + j * 6 + 3, none⟩ = false := (HUw.out.kk KW1.out) g hg1 hg2 (o + j * 6 + 3)
      have f4_2 : w1.frozen? ⟨g, o + j * 6 + 4, none⟩ = false := (HUw.out.kk KW1.out) g hg1 hg2 (o + j * 6 + 4)
      have f5_2 : w1.frozen? ⟨g, o + j * 6 + 5, none⟩ = false := (HUw.out.kk KW1.out) g hg1 hg2 (o + j * 6 + 5)
      have kn : KK wr ((w1.setCell ⟨g, o + j * 6 + 4, none⟩ (.string T1)).setCell ⟨g, o + j * 6 + 5, none⟩ (.int .i64 (K + 1 + 1 + 1 + 1 + 1))) lo B := (KW1.out).trans (((KK.refl w1 lo B).trans (KK.setStr hg1 hg2 (show w1.cell? ⟨g, o + j * 6 + 4, none⟩ = some _ from c4_2) _)).trans (KK.setInt hg1 hg2 (show (w1.setCell ⟨g, o + j * 6 + 4, none⟩ (.string T1)).cell? ⟨g, o + j * 6 + 5, none⟩ = some _ from (World.cell?_setCell_other _ _ _ _ (by intro e; simp only [Addr.mk.injEq] at e; omega)).trans (c5_2)) _))
      have KN := Lib.hid (hKK.out.trans kn)
      clear kn
      have hKn := Lib.hid (show K + 1 + 1 + 1 + 1 + 1 + 1 ≤ k + (sumC mcNode (xs.take (j + 1)) : Nat) by
        have h1 := hK2.out; have h3 := hst.out
        have h6 : ((mcNode xs[j] : Nat) : Int) = 6 := by unfold mcNode; omega
        omega)
      go_wp2_with fail
      go_roundw
      case rel => exact ⟨j + 1, _, by omega, rfl, by go_num, by omega, by omega, hKn, KN⟩
      case measure => simp [intOf]; omega
    · have hi1 : ¬ (j : Int) < (xs.length : Int) := by omega
      have hK3 := hK2.out
      rw [List.take_of_length_le (by omega)] at hK3
      have HK3 := Lib.hid hK3
      clear hK3
      go_wp2_with fail
      go_ret
      exact ⟨K, rfl, hK0, HK3.out, hKK.out⟩

end Go.Proofs.YteoepnadjkjlmaaGreat
