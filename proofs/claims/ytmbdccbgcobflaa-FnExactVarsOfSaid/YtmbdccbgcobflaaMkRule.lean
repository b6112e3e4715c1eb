/-
  laws.markLitS and its like, at arguments.
-/
import Derived.Test.YtmbdccbgcobflaaMkNode
import Derived.Test.YtmbdccbgcobflaaTyRule
namespace Go.Proofs.Ytmbdccbgcobflaa
open Go.RowKit Go.Sort
set_option linter.unusedVariables false

def LitSh (w : World) (lo B g o : Nat) (x : GLit) : Prop := (∃ z, w.cell? ⟨g, o, none⟩ = some (.int .i64 z)) ∧ (∃ t, w.cell? ⟨g, o + 1, none⟩ = some (.string t)) ∧ (∃ A c, w.cell? ⟨g, o + 2, none⟩ = some (.slice A x.atom.args.length c) ∧ NodeSsSh w lo B A x.atom.args) ∧ (∃ t, w.cell? ⟨g, o + 3, none⟩ = some (.string t)) ∧ (∃ A c, w.cell? ⟨g, o + 4, none⟩ = some (.slice A x.left.length c) ∧ NodesSh w lo B A x.left) ∧ (∃ A c, w.cell? ⟨g, o + 5, none⟩ = some (.slice A x.right.length c) ∧ NodesSh w lo B A x.right)
def LitsSh (w : World) (lo B : Nat) (A : Option Addr) (xs : List (GLit)) : Prop := xs = [] ∨ ∃ g o, A = some ⟨g, o, none⟩ ∧ lo ≤ g ∧ g < B ∧ ∀ i x, xs[i]? = some x → LitSh w lo B g (o + i * 6) x
theorem LitSh.kk {w w' : World} {lo B g o : Nat} {x : GLit} (h : LitSh w lo B g o x) (b1 : lo ≤ g) (b2 : g < B) (k : KK w w' lo B) : LitSh w' lo B g o x := by
  obtain ⟨h0, h1, h2, h3, h4, h5⟩ := h
  exact ⟨(by obtain ⟨z, a⟩ := h0; exact k.int _ _ z b1 b2 a), (by obtain ⟨z, a⟩ := h1; exact k.str _ _ z b1 b2 a), (by obtain ⟨A, c, a1, a2⟩ := h2; exact ⟨A, c, k.sl _ _ _ _ _ b1 b2 a1, a2.kk k⟩), (by obtain ⟨z, a⟩ := h3; exact k.str _ _ z b1 b2 a), (by obtain ⟨A, c, a1, a2⟩ := h4; exact ⟨A, c, k.sl _ _ _ _ _ b1 b2 a1, a2.kk k⟩), (by obtain ⟨A, c, a1, a2⟩ := h5; exact ⟨A, c, k.sl _ _ _ _ _ b1 b2 a1, a2.kk k⟩)⟩
theorem LitsSh.kk {w w' : World} {lo B : Nat} {A : Option Addr} {xs : List (GLit)} (h : LitsSh w lo B A xs) (k : KK w w' lo B) : LitsSh w' lo B A xs := by
  rcases h with h | ⟨g, o, hA, h1, h2, hc⟩
  · exact .inl h
  · exact .inr ⟨g, o, hA, h1, h2, fun i x hx => (hc i x hx).kk h1 h2 k⟩
theorem LitAt.sh {w : World} {lo B g o : Nat} {x : GLit} (h : LitAt w lo B g o x) : LitSh w lo B g o x := by
  obtain ⟨h0, h1, h2, h3, h4, h5⟩ := h
  exact ⟨⟨_, h0⟩, ⟨_, h1⟩, (by obtain ⟨A, c, a1, a2⟩ := h2; exact ⟨A, c, a1, a2.sh⟩), ⟨_, h3⟩, (by obtain ⟨A, c, a1, a2⟩ := h4; exact ⟨A, c, a1.1, a2.sh⟩), (by obtain ⟨A, c, a1, a2⟩ := h5; exact ⟨A, c, a1.1, a2.sh⟩)⟩
theorem LitsAt.sh {w : World} {lo B : Nat} {A : Option Addr} {xs : List (GLit)} (h : LitsAt w lo B A xs) : LitsSh w lo B A xs := by
  rcases h with h | ⟨g, o, hA, h1, h2, hc⟩
  · exact .inl h
  · exact .inr ⟨g, o, hA, h1, h2, fun i x hx => (hc i x hx).sh⟩
theorem LitsSh.at_ {w : World} {lo B : Nat} {A : Option Addr} {xs : List (GLit)} (h : LitsSh w lo B A xs) {i : Nat} (hi : i < xs.length) : ∃ g o, A = some ⟨g, o, none⟩ ∧ lo ≤ g ∧ g < B ∧ LitSh w lo B g (o + i * 6) xs[i] := by
  rcases h with h | ⟨g, o, hA, h1, h2, hc⟩
  · subst h; simp at hi
  · exact ⟨g, o, hA, h1, h2, hc i _ (List.getElem?_eq_getElem hi)⟩
def mcLit (x : GLit) : Nat := 3 + mcNodeSs x.atom.args + mcNodes x.left + mcNodes x.right
def mcLits (xs : List (GLit)) : Nat := sumC mcLit xs
theorem mcLit_le (x : GLit) : mcLit x ≤ 6 + 6 * costLit x := by
  have := mcNodeSs_le x.atom.args
  have := mcNodes_le x.left
  have := mcNodes_le x.right
  unfold mcLit costLit costAtom; omega
theorem mcLits_le (xs : List (GLit)) : mcLits xs ≤ 6 * costLits xs := by
  unfold mcLits costLits sumC
  induction xs with
  | nil => simp
  | cons x xs ih =>
    have := mcLit_le x
    simp only [List.map_cons, List.sum_cons, List.length_cons] at ih ⊢
    omega

set_option maxRecDepth 100000 in
set_option maxHeartbeats 3200000 in
theorem mark_Lits {lo B : Nat} (A : Option Addr) (c : Nat) (xs : List (GLit)) (k : Int) (w : World) (h : LitsSh w lo B A xs) (hu : UF w lo B) (hB : B ≤ w.heap.size) (hk : 1 ≤ k) (hk2 : k + mcLits xs ≤ 100000000) (hl : xs.length ≤ 1048576) (hsub : costLits xs ≤ 1048576) :
    Calls Try.prog 28 #[.slice A xs.length c, .int .i64 k] w (Marked w k (mcLits xs) lo B) := by
  have HS := Lib.hid h
  have HU := Lib.hid hu
  have HK := Lib.hid hk2
  have HC := Lib.hid hsub
  have hkb : k ≤ 100000000 := by omega
  clear h hu hk2 hsub
  go_enter Try.func28, Try.ntmps28
  go_wp2_with fail
  go_loopw [1, 5] (fun kk i w' => ∃ (j : Nat) (K : Int), j ≤ xs.length ∧ kk = .int .i64 K ∧ i = .int .i64 j ∧ k ≤ K ∧ K ≤ 100000000 ∧ Hid (K ≤ k + (sumC mcLit (xs.take j) : Nat)) ∧ Hid (KK w w' lo B)) (fun _ i _ => xs.length - (intOf i).toNat)
  case atStart => exact ⟨0, k, Nat.zero_le _, rfl, rfl, Int.le_refl _, hkb, Lib.hid (by simp [sumC]), Lib.hid (KK.refl w lo B)⟩
  case round =>
    obtain ⟨j, K, hj, rfl, rfl, hK0, hK1, hK2, hKK⟩ := hrel
    by_cases hlt : j < xs.length
    · obtain ⟨g, o, rfl, hg1, hg2, hE⟩ := (HS.out.kk hKK.out).at_ hlt
      have HE := Lib.hid hE
      have HUw := Lib.hid (HU.out.kk hKK.out)
      have hst := Lib.hid (sumC_take mcLit xs j hlt)
      have hle := Lib.hid (sumC_le mcLit xs (j + 1))
      have hmc := Lib.hid (show mcLits xs = sumC mcLit xs from rfl)
      have hi0 : (0 : Int) ≤ (j : Int) := by omega
      have hi1 : (j : Int) < (xs.length : Int) := by omega
      have hBw : B ≤ wr.heap.size := by have := hKK.out.size; omega
      have hKtot : K + (3 + (mcNodeSs xs[j].atom.args : Nat) + (mcNodes xs[j].left : Nat) + (mcNodes xs[j].right : Nat)) ≤ 100000000 := by
        have h1 := HK.out; have h2 := hK2.out; have h3 := hst.out; have h4 := hle.out; have h5 := hmc.out
        have h6 : ((mcLit xs[j] : Nat) : Int) = 3 + (mcNodeSs xs[j].atom.args : Nat) + (mcNodes xs[j].left : Nat) + (mcNodes xs[j].right : Nat) := by unfold mcLit; omega
        omega
      have hcj : costLit xs[j] ≤ 1048576 := by have h1 := HC.out; have h2 := sumC_mem costLit xs _ (List.getElem_mem hlt); unfold costLits at h1; omega
      have hcs2 : costNodeSs xs[j].atom.args ≤ 1048576 := by unfold costLit costAtom at hcj; omega
      have hcl2 : xs[j].atom.args.length ≤ 1048576 := by have h := hcs2; unfold costNodeSs at h; omega
      have hcs4 : costNodes xs[j].left ≤ 1048576 := by unfold costLit costAtom at hcj; omega
      have hcl4 : xs[j].left.length ≤ 1048576 := by have h := hcs4; unfold costNodes at h; omega
      have hcs5 : costNodes xs[j].right ≤ 1048576 := by unfold costLit costAtom at hcj; omega
      have hcl5 : xs[j].right.length ≤ 1048576 := by have h := hcs5; unfold costNodes at h; omega
      clear hcj
      obtain ⟨⟨z0_0, c0_0⟩, ⟨z1_0, c1_0⟩, ⟨A2_0, d2_0, c2_0, s2_0⟩, ⟨z3_0, c3_0⟩, ⟨A4_0, d4_0, c4_0, s4_0⟩, ⟨A5_0, d5_0, c5_0, s5_0⟩⟩ := HE.out
      have f0_0 : wr.frozen? ⟨g, o + j * 6, none⟩ = false := (HUw.out) g hg1 hg2 (o + j * 6)
      have f1_0 : wr.frozen? ⟨g, o + j * 6 + 1, none⟩ = false := (HUw.out) g hg1 hg2 (o + j * 6 + 1)
      have f3_0 : wr.frozen? ⟨g, o + j * 6 + 3, none⟩ = false := (HUw.out) g hg1 hg2 (o + j * 6 + 3)
      have kn0 : KK wr (wr.setCell ⟨g, o + j * 6, none⟩ (.int .i64 (K))) lo B := (KK.refl wr lo B).trans (KK.setInt hg1 hg2 (show wr.cell? ⟨g, o + j * 6, none⟩ = some _ from c0_0) _)
      have bz0 : B ≤ (wr.setCell ⟨g, o + j * 6, none⟩ (.int .i64 (K))).heap.size := by have := kn0.size; omega
      have KN0 := Lib.hid kn0
      clear kn0
      go_wp2_with fail
      refine (mark_any _ _ (by omega) (by omega)).mono ?_
      rintro e w0 ⟨T0, rfl, hb0⟩
      have kw0 : KK wr w0 lo B := (KN0.out).trans (KK.below hb0 bz0)
      have bw0 : B ≤ w0.heap.size := by have := kw0.size; omega
      have KW0 := Lib.hid kw0
      clear kw0 KN0 bz0 hb0
      clear c0_0 c1_0 c2_0 s2_0 c3_0 c4_0 s4_0 c5_0 s5_0 f0_0 f1_0 f3_0
      obtain ⟨⟨z0_1, c0_1⟩, ⟨z1_1, c1_1⟩, ⟨A2_1, d2_1, c2_1, s2_1⟩, ⟨z3_1, c3_1⟩, ⟨A4_1, d4_1, c4_1, s4_1⟩, ⟨A5_1, d5_1, c5_1, s5_1⟩⟩ := HE.out.kk hg1 hg2 KW0.out
      have f0_1 : w0.frozen? ⟨g, o + j * 6, none⟩ = false := (HUw.out.kk KW0.out) g hg1 hg2 (o + j * 6)
      have f1_1 : w0.frozen? ⟨g, o + j * 6 + 1, none⟩ = false := (HUw.out.kk KW0.out) g hg1 hg2 (o + j * 6 + 1)
      have f3_1 : w0.frozen? ⟨g, o + j * 6 + 3, none⟩ = false := (HUw.out.kk KW0.out) g hg1 hg2 (o + j * 6 + 3)
      have kn1 : KK w0 (w0.setCell ⟨g, o + j * 6 + 1, none⟩ (.string T0)) lo B := (KK.refl w0 lo B).trans (KK.setStr hg1 hg2 (show w0.cell? ⟨g, o + j * 6 + 1, none⟩ = some _ from c1_1) _)
      have bz1 : B ≤ (w0.setCell ⟨g, o + j * 6 + 1, none⟩ (.string T0)).heap.size := by have := kn1.size; omega
      have KN1 := Lib.hid kn1
      clear kn1
      go_wp2_with fail
      refine (mark_NodeSs A2_1 d2_1 xs[j].atom.args _ _ (s2_1.kk KN1.out) ((HUw.out.kk KW0.out).kk KN1.out) bz1 (by omega) (by omega) hcl2 hcs2).mono ?_
      rintro e w1 ⟨K1, rfl, hk0_1, hk1_1, hkk1⟩
      have kw1 : KK wr w1 lo B := (KW0.out).trans ((KN1.out).trans hkk1)
      have bw1 : B ≤ w1.heap.size := by have := kw1.size; omega
      have KW1 := Lib.hid kw1
      clear kw1 KN1 bz1 hkk1
      clear c0_1 c1_1 c2_1 s2_1 c3_1 c4_1 s4_1 c5_1 s5_1 f0_1 f1_1 f3_1
      obtain ⟨⟨z0_2, c0_2⟩, ⟨z1_2, c1_2⟩, ⟨A2_2, d2_2, c2_2, s2_2⟩, ⟨z3_2, c3_2⟩, ⟨A4_2, d4_2, c4_2, s4_2⟩, ⟨A5_2, d5_2, c5_2, s5_2⟩⟩ := HE.out.kk hg1 hg2 KW1.out
      have f0_2 : w1.frozen? ⟨g, o + j * 6, none⟩ = false := (HUw.out.kk KW1.out) g hg1 hg2 (o + j * 6)
      have f1_2 : w1.frozen? ⟨g, o + j * 6 + 1, none⟩ = false := (HUw.out.kk KW1.out) g hg1 hg2 (o + j * 6 + 1)
      have f3_2 : w1.frozen? ⟨g, o + j * 6 + 3, none⟩ = false := (HUw.out.kk KW1.out) g hg1 hg2 (o + j * 6 + 3)
      have kn2 : KK w1 w1 lo B := KK.refl w1 lo B
      have bz2 : B ≤ w1.heap.size := by have := kn2.size; omega
      have KN2 := Lib.hid kn2
      clear kn2
      go_wp2_with fail
      refine (mark_any _ _ (by omega) (by omega)).mono ?_
      rintro e w2 ⟨T2, rfl, hb2⟩
      have kw2 : KK wr w2 lo B := (KW1.out).trans ((KN2.out).trans (KK.below hb2 bz2))
      have bw2 : B ≤ w2.heap.size := by have := kw2.size; omega
      have KW2 := Lib.hid kw2
      clear kw2 KN2 bz2 hb2
      clear c0_2 c1_2 c2_2 s2_2 c3_2 c4_2 s4_2 c5_2 s5_2 f0_2 f1_2 f3_2
      obtain ⟨⟨z0_3, c0_3⟩, ⟨z1_3, c1_3⟩, ⟨A2_3, d2_3, c2_3, s2_3⟩, ⟨z3_3, c3_3⟩, ⟨A4_3, d4_3, c4_3, s4_3⟩, ⟨A5_3, d5_3, c5_3, s5_3⟩⟩ := HE.out.kk hg1 hg2 KW2.out
      have f0_3 : w2.frozen? ⟨g, o + j * 6, none⟩ = false := (HUw.out.kk KW2.out) g hg1 hg2 (o + j * 6)
      have f1_3 : w2.frozen? ⟨g, o + j * 6 + 1, none⟩ = false := (HUw.out.kk KW2.out) g hg1 hg2 (o + j * 6 + 1)
      have f3_3 : w2.frozen? ⟨g, o + j * 6 + 3, none⟩ = false := (HUw.out.kk KW2.out) g hg1 hg2 (o + j * 6 + 3)
      have kn3 : KK w2 (w2.setCell ⟨g, o + j * 6 + 3, none⟩ (.string T2)) lo B := (KK.refl w2 lo B).trans (KK.setStr hg1 hg2 (show w2.cell? ⟨g, o + j * 6 + 3, none⟩ = some _ from c3_3) _)
      have bz3 : B ≤ (w2.setCell ⟨g, o + j * 6 + 3, none⟩ (.string T2)).heap.size := by have := kn3.size; omega
      have KN3 := Lib.hid kn3
      clear kn3
      go_wp2_with fail
      refine (mark_Nodes A4_3 d4_3 xs[j].left _ _ (s4_3.kk KN3.out) ((HUw.out.kk KW2.out).kk KN3.out) bz3 (by omega) (by omega) hcl4 hcs4).mono ?_
      rintro e w3 ⟨K3, rfl, hk0_3, hk1_3, hkk3⟩
      have kw3 : KK wr w3 lo B := (KW2.out).trans ((KN3.out).trans hkk3)
      have bw3 : B ≤ w3.heap.size := by have := kw3.size; omega
      have KW3 := Lib.hid kw3
      clear kw3 KN3 bz3 hkk3
      clear c0_3 c1_3 c2_3 s2_3 c3_3 c4_3 s4_3 c5_3 s5_3 f0_3 f1_3 f3_3
      obtain ⟨⟨z0_4, c0_4⟩, ⟨z1_4, c1_4⟩, ⟨A2_4, d2_4, c2_4, s2_4⟩, ⟨z3_4, c3_4⟩, ⟨A4_4, d4_4, c4_4, s4_4⟩, ⟨A5_4, d5_4, c5_4, s5_4⟩⟩ := HE.out.kk hg1 hg2 KW3.out
      have f0_4 : w3.frozen? ⟨g, o + j * 6, none⟩ = false := (HUw.out.kk KW3.out) g hg1 hg2 (o + j * 6)
      have f1_4 : w3.frozen? ⟨g, o + j * 6 + 1, none⟩ = false := (HUw.out.kk KW3.out) g hg1 hg2 (o + j * 6 + 1)
      have f3_4 : w3.frozen? ⟨g, o + j * 6 + 3, none⟩ = false := (HUw.out.kk KW3.out) g hg1 hg2 (o + j * 6 + 3)
      have kn4 : KK w3 w3 lo B := KK.refl w3 lo B
      have bz4 : B ≤ w3.heap.size := by have := kn4.size; omega
      have KN4 := Lib.hid kn4
      clear kn4
      go_wp2_with fail
      refine (mark_Nodes A5_4 d5_4 xs[j].right _ _ (s5_4.kk KN4.out) ((HUw.out.kk KW3.out).kk KN4.out) bz4 (by omega) (by omega) hcl5 hcs5).mono ?_
      rintro e w4 ⟨K4, rfl, hk0_4, hk1_4, hkk4⟩
      have kw4 : KK wr w4 lo B := (KW3.out).trans ((KN4.out).trans hkk4)
      have bw4 : B ≤ w4.heap.size := by have := kw4.size; omega
      have KW4 := Lib.hid kw4
      clear kw4 KN4 bz4 hkk4
      clear c0_4 c1_4 c2_4 s2_4 c3_4 c4_4 s4_4 c5_4 s5_4 f0_4 f1_4 f3_4
      obtain ⟨⟨z0_5, c0_5⟩, ⟨z1_5, c1_5⟩, ⟨A2_5, d2_5, c2_5, s2_5⟩, ⟨z3_5, c3_5⟩, ⟨A4_5, d4_5, c4_5, s4_5⟩, ⟨A5_5, d5_5, c5_5, s5_5⟩⟩ := HE.out.kk hg1 hg2 KW4.out
      have f0_5 : w4.frozen? ⟨g, o + j * 6, none⟩ = false := (HUw.out.kk KW4.out) g hg1 hg2 (o + j * 6)
      have f1_5 : w4.frozen? ⟨g, o + j * 6 + 1, none⟩ = false := (HUw.out.kk KW4.out) g hg1 hg2 (o + j * 6 + 1)
      have f3_5 : w4.frozen? ⟨g, o + j * 6 + 3, none⟩ = false := (HUw.out.kk KW4.out) g hg1 hg2 (o + j * 6 + 3)
      have kn : KK wr w4 lo B := (KW4.out).trans (KK.refl w4 lo B)
      have KN := Lib.hid (hKK.out.trans kn)
      clear kn
      have hKn := Lib.hid (show K4 ≤ k + (sumC mcLit (xs.take (j + 1)) : Nat) by
        have h1 := hK2.out; have h3 := hst.out
        have h6 : ((mcLit xs[j] : Nat) : Int) = 3 + (mcNodeSs xs[j].atom.args : Nat) + (mcNodes xs[j].left : Nat) + (mcNodes xs[j].right : Nat) := by unfold mcLit; omega
        omega)
      go_wp2_with fail
      go_roundw
      case rel => exact ⟨j + 1, _, by omega, rfl, by go_num, by omega, by omega, hKn, KN⟩
      case measure => simp [intOf]; omega
    · have hi1 : ¬ (j : Int) < (xs.length : Int) := by omega
      have hK3 := hK2.out
      rw [List.take_of_length_le (by omega)] at hK3
      have HK3 := Lib.hid hK3
      clear hK3
      go_wp2_with fail
      go_ret
      exact ⟨K, rfl, hK0, HK3.out, hKK.out⟩

def msAtom (x : GAtom) : Nat := mcNodeSs x.args
theorem msAtom_le (x : GAtom) : msAtom x ≤ 6 * costAtom x := by
  have := mcNodeSs_le x.args
  unfold msAtom costAtom; omega
set_option maxRecDepth 100000 in
set_option maxHeartbeats 1600000 in
theorem mark_Atom {lo B : Nat} (x : GAtom) (A1 : Option Addr) (c1 : Nat) (k : Int) (w : World) (s1 : NodeSsSh w lo B A1 x.args) (hu : UF w lo B) (hB : B ≤ w.heap.size) (hk : 1 ≤ k) (hk2 : k + msAtom x ≤ 100000000) (hc : costAtom x ≤ 1048576) :
    Calls Try.prog 27 #[.agg #[.string x.name, .slice A1 x.args.length c1], .int .i64 k] w (Marked w k (msAtom x) lo B) := by
  unfold msAtom at hk2
  unfold costAtom at hc
  have hms := Lib.hid (show msAtom x = mcNodeSs x.args from rfl)
  have hP := Lib.hid (Whole.new w 33 [.string x.name, .slice A1 x.args.length c1])
  have k0 := Lib.hid (show KK w (w.alloc (.cells #[.string x.name, .slice A1 x.args.length c1] 33)) lo B from KK.below ((Below.refl _ _).alloc (Nat.le_refl _) _) hB)
  have HU := Lib.hid hu
  clear hu
  have z0 : B ≤ (w.alloc (.cells #[.string x.name, .slice A1 x.args.length c1] 33)).heap.size := by simp; omega
  have y0 : w.heap.size < (w.alloc (.cells #[.string x.name, .slice A1 x.args.length c1] 33)).heap.size := by simp
  go_enter Try.func27, Try.ntmps27
  go_wp2_with fail
  have hln0 : x.args.length ≤ 1048576 := by
    have h : costNodeSs x.args ≤ 1048576 := by omega
    unfold costNodeSs at h; omega
  refine (mark_NodeSs A1 c1 x.args _ _ (s1.kk k0.out) (HU.out.kk k0.out) z0 (by omega) (by omega) hln0 (by omega)).mono ?_
  rintro e w0 ⟨K0, rfl, a0, b0, kk0⟩
  have k1 := Lib.hid (k0.out.trans kk0)
  have z1 : B ≤ w0.heap.size := Nat.le_trans z0 kk0.size
  have y1 : w.heap.size < w0.heap.size := Nat.lt_of_lt_of_le y0 kk0.size
  clear kk0
  go_wp2_with fail
  go_ret
  exact ⟨K0, rfl, by omega, by rw [hms.out]; omega, k1.out⟩

def msRule (x : GRule) : Nat := msAtom x.head + mcStrs x.aggs + mcLits x.body
theorem msRule_le (x : GRule) : msRule x ≤ 6 * costRule x := by
  have := msAtom_le x.head
  have := mcStrs_le x.aggs
  have := mcLits_le x.body
  unfold msRule costRule; omega
set_option maxRecDepth 100000 in
set_option maxHeartbeats 1600000 in
theorem mark_Rule {lo B : Nat} (x : GRule) (A1 : Option Addr) (c1 : Nat) (A2 : Option Addr) (c2 : Nat) (A3 : Option Addr) (c3 : Nat) (k : Int) (w : World) (s1 : NodeSsSh w lo B A1 x.head.args) (s2 : StrsSh w lo B A2 x.aggs) (s3 : LitsSh w lo B A3 x.body) (hu : UF w lo B) (hB : B ≤ w.heap.size) (hk : 1 ≤ k) (hk2 : k + msRule x ≤ 100000000) (hc : costRule x ≤ 1048576) :
    Calls Try.prog 10 #[.agg #[.string x.head.name, .slice A1 x.head.args.length c1, .slice A2 x.aggs.length c2, .slice A3 x.body.length c3], .int .i64 k] w (Marked w k (msRule x) lo B) := by
  unfold msRule at hk2
  unfold costRule at hc
  have hms := Lib.hid (show msRule x = msAtom x.head + mcStrs x.aggs + mcLits x.body from rfl)
  have hP := Lib.hid (Whole.new w 36 [.string x.head.name, .slice A1 x.head.args.length c1, .slice A2 x.aggs.length c2, .slice A3 x.body.length c3])
  have k0 := Lib.hid (show KK w (w.alloc (.cells #[.string x.head.name, .slice A1 x.head.args.length c1, .slice A2 x.aggs.length c2, .slice A3 x.body.length c3] 36)) lo B from KK.below ((Below.refl _ _).alloc (Nat.le_refl _) _) hB)
  have HU := Lib.hid hu
  clear hu
  have z0 : B ≤ (w.alloc (.cells #[.string x.head.name, .slice A1 x.head.args.length c1, .slice A2 x.aggs.length c2, .slice A3 x.body.length c3] 36)).heap.size := by simp; omega
  have y0 : w.heap.size < (w.alloc (.cells #[.string x.head.name, .slice A1 x.head.args.length c1, .slice A2 x.aggs.length c2, .slice A3 x.body.length c3] 36)).heap.size := by simp
  go_enter Try.func10, Try.ntmps10
  go_wp2_with fail
  refine (mark_Atom x.head A1 c1 _ _ (s1.kk k0.out) (HU.out.kk k0.out) z0 (by omega) (by omega) (by omega)).mono ?_
  rintro e w0 ⟨K0, rfl, a0, b0, kk0⟩
  have k1 := Lib.hid (k0.out.trans kk0)
  have z1 : B ≤ w0.heap.size := Nat.le_trans z0 kk0.size
  have y1 : w.heap.size < w0.heap.size := Nat.lt_of_lt_of_le y0 kk0.size
  have P0 : Whole w0 w.heap.size 36 [.string x.head.name, .slice A1 x.head.args.length c1, .slice A2 x.aggs.length c2, .slice A3 x.body.length c3] := (kk0.out w.heap.size y0 (.inr hB)).trans hP.out
  have p0_0 : w0.cell? ⟨w.heap.size, 0, none⟩ = some (.string x.head.name) := P0.cell 0
  have p0_1 : w0.cell? ⟨w.heap.size, 1, none⟩ = some (.slice A1 x.head.args.length c1) := P0.cell 1
  have p0_2 : w0.cell? ⟨w.heap.size, 2, none⟩ = some (.slice A2 x.aggs.length c2) := P0.cell 2
  have p0_3 : w0.cell? ⟨w.heap.size, 3, none⟩ = some (.slice A3 x.body.length c3) := P0.cell 3
  have hP0 := Lib.hid P0
  clear P0
  clear kk0
  go_wp2_with fail
  have hln1 : x.aggs.length ≤ 1048576 := by
    have h : costStrs x.aggs ≤ 1048576 := by omega
    unfold costStrs at h; omega
  refine (mark_Strs A2 c2 x.aggs _ _ (s2.kk k1.out) (HU.out.kk k1.out) z1 (by omega) (by omega) hln1 (by omega)).mono ?_
  rintro e w1 ⟨K1, rfl, a1, b1, kk1⟩
  clear p0_0 p0_1 p0_2 p0_3
  have k2 := Lib.hid (k1.out.trans kk1)
  have z2 : B ≤ w1.heap.size := Nat.le_trans z1 kk1.size
  have y2 : w.heap.size < w1.heap.size := Nat.lt_of_lt_of_le y1 kk1.size
  have P1 : Whole w1 w.heap.size 36 [.string x.head.name, .slice A1 x.head.args.length c1, .slice A2 x.aggs.length c2, .slice A3 x.body.length c3] := (kk1.out w.heap.size y1 (.inr hB)).trans hP0.out
  have p1_0 : w1.cell? ⟨w.heap.size, 0, none⟩ = some (.string x.head.name) := P1.cell 0
  have p1_1 : w1.cell? ⟨w.heap.size, 1, none⟩ = some (.slice A1 x.head.args.length c1) := P1.cell 1
  have p1_2 : w1.cell? ⟨w.heap.size, 2, none⟩ = some (.slice A2 x.aggs.length c2) := P1.cell 2
  have p1_3 : w1.cell? ⟨w.heap.size, 3, none⟩ = some (.slice A3 x.body.length c3) := P1.cell 3
  have hP1 := Lib.hid P1
  clear P1
  clear kk1
  go_wp2_with fail
  have hln2 : x.body.length ≤ 1048576 := by
    have h : costLits x.body ≤ 1048576 := by omega
    unfold costLits at h; omega
  refine (mark_Lits A3 c3 x.body _ _ (s3.kk k2.out) (HU.out.kk k2.out) z2 (by omega) (by omega) hln2 (by omega)).mono ?_
  rintro e w2 ⟨K2, rfl, a2, b2, kk2⟩
  clear p1_0 p1_1 p1_2 p1_3
  have k3 := Lib.hid (k2.out.trans kk2)
  have z3 : B ≤ w2.heap.size := Nat.le_trans z2 kk2.size
  have y3 : w.heap.size < w2.heap.size := Nat.lt_of_lt_of_le y2 kk2.size
  clear kk2
  go_wp2_with fail
  go_ret
  exact ⟨K2, rfl, by omega, by rw [hms.out]; omega, k3.out⟩

end Go.Proofs.Ytmbdccbgcobflaa
