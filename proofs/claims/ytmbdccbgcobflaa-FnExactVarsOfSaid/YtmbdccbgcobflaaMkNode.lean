/-
  laws.markNodeS and its like, at arguments.
-/
import Derived.Test.YtmbdccbgcobflaaKk
import Derived.Test.YtmbdccbgcobflaaTyNode
namespace Go.Proofs.Ytmbdccbgcobflaa
open Go.RowKit Go.Sort
set_option linter.unusedVariables false

def StrSh (w : World) (lo B g o : Nat) (x : ByteArray) : Prop := (∃ t, w.cell? ⟨g, o, none⟩ = some (.string t))
def StrsSh (w : World) (lo B : Nat) (A : Option Addr) (xs : List (ByteArray)) : Prop := xs = [] ∨ ∃ g o, A = some ⟨g, o, none⟩ ∧ lo ≤ g ∧ g < B ∧ ∀ i x, xs[i]? = some x → StrSh w lo B g (o + i) x
theorem StrSh.kk {w w' : World} {lo B g o : Nat} {x : ByteArray} (h : StrSh w lo B g o x) (b1 : lo ≤ g) (b2 : g < B) (k : KK w w' lo B) : StrSh w' lo B g o x := by
  have h0 := h
  exact (by obtain ⟨z, a⟩ := h0; exact k.str _ _ z b1 b2 a)
theorem StrsSh.kk {w w' : World} {lo B : Nat} {A : Option Addr} {xs : List (ByteArray)} (h : StrsSh w lo B A xs) (k : KK w w' lo B) : StrsSh w' lo B A xs := by
  rcases h with h | ⟨g, o, hA, h1, h2, hc⟩
  · exact .inl h
  · exact .inr ⟨g, o, hA, h1, h2, fun i x hx => (hc i x hx).kk h1 h2 k⟩
theorem StrAt.sh {w : World} {lo B g o : Nat} {x : ByteArray} (h : StrAt w lo B g o x) : StrSh w lo B g o x := by
  have h0 := h
  exact ⟨_, h0⟩
theorem StrsAt.sh {w : World} {lo B : Nat} {A : Option Addr} {xs : List (ByteArray)} (h : StrsAt w lo B A xs) : StrsSh w lo B A xs := by
  rcases h with h | ⟨g, o, hA, h1, h2, hc⟩
  · exact .inl h
  · exact .inr ⟨g, o, hA, h1, h2, fun i x hx => (hc i x hx).sh⟩
theorem StrsSh.at_ {w : World} {lo B : Nat} {A : Option Addr} {xs : List (ByteArray)} (h : StrsSh w lo B A xs) {i : Nat} (hi : i < xs.length) : ∃ g o, A = some ⟨g, o, none⟩ ∧ lo ≤ g ∧ g < B ∧ StrSh w lo B g (o + i) xs[i] := by
  rcases h with h | ⟨g, o, hA, h1, h2, hc⟩
  · subst h; simp at hi
  · exact ⟨g, o, hA, h1, h2, hc i _ (List.getElem?_eq_getElem hi)⟩
def mcStr (x : ByteArray) : Nat := 1
def mcStrs (xs : List (ByteArray)) : Nat := sumC mcStr xs
theorem mcStr_le (x : ByteArray) : mcStr x ≤ 6 + 6 * costStr x := by
  simp [mcStr]; omega
theorem mcStrs_le (xs : List (ByteArray)) : mcStrs xs ≤ 6 * costStrs xs := by
  unfold mcStrs costStrs sumC
  induction xs with
  | nil => simp
  | cons x xs ih =>
    have := mcStr_le x
    simp only [List.map_cons, List.sum_cons, List.length_cons] at ih ⊢
    omega

def NodeSh (w : World) (lo B g o : Nat) (x : GNode) : Prop := (∃ z, w.cell? ⟨g, o, none⟩ = some (.int .i64 z)) ∧ (∃ t, w.cell? ⟨g, o + 1, none⟩ = some (.string t)) ∧ (∃ z, w.cell? ⟨g, o + 2, none⟩ = some (.int .i64 z)) ∧ (∃ z, w.cell? ⟨g, o + 3, none⟩ = some (.int .i64 z)) ∧ (∃ t, w.cell? ⟨g, o + 4, none⟩ = some (.string t)) ∧ (∃ z, w.cell? ⟨g, o + 5, none⟩ = some (.int .i64 z))
def NodesSh (w : World) (lo B : Nat) (A : Option Addr) (xs : List (GNode)) : Prop := xs = [] ∨ ∃ g o, A = some ⟨g, o, none⟩ ∧ lo ≤ g ∧ g < B ∧ ∀ i x, xs[i]? = some x → NodeSh w lo B g (o + i * 6) x
theorem NodeSh.kk {w w' : World} {lo B g o : Nat} {x : GNode} (h : NodeSh w lo B g o x) (b1 : lo ≤ g) (b2 : g < B) (k : KK w w' lo B) : NodeSh w' lo B g o x := by
  obtain ⟨h0, h1, h2, h3, h4, h5⟩ := h
  exact ⟨(by obtain ⟨z, a⟩ := h0; exact k.int _ _ z b1 b2 a), (by obtain ⟨z, a⟩ := h1; exact k.str _ _ z b1 b2 a), (by obtain ⟨z, a⟩ := h2; exact k.int _ _ z b1 b2 a), (by obtain ⟨z, a⟩ := h3; exact k.int _ _ z b1 b2 a), (by obtain ⟨z, a⟩ := h4; exact k.str _ _ z b1 b2 a), (by obtain ⟨z, a⟩ := h5; exact k.int _ _ z b1 b2 a)⟩
theorem NodesSh.kk {w w' : World} {lo B : Nat} {A : Option Addr} {xs : List (GNode)} (h : NodesSh w lo B A xs) (k : KK w w' lo B) : NodesSh w' lo B A xs := by
  rcases h with h | ⟨g, o, hA, h1, h2, hc⟩
  · exact .inl h
  · exact .inr ⟨g, o, hA, h1, h2, fun i x hx => (hc i x hx).kk h1 h2 k⟩
theorem NodeAt.sh {w : World} {lo B g o : Nat} {x : GNode} (h : NodeAt w lo B g o x) : NodeSh w lo B g o x := by
  obtain ⟨h0, h1, h2, h3, h4, h5⟩ := h
  exact ⟨⟨_, h0⟩, ⟨_, h1⟩, ⟨_, h2⟩, ⟨_, h3⟩, ⟨_, h4⟩, ⟨_, h5⟩⟩
theorem NodesAt.sh {w : World} {lo B : Nat} {A : Option Addr} {xs : List (GNode)} (h : NodesAt w lo B A xs) : NodesSh w lo B A xs := by
  rcases h with h | ⟨g, o, hA, h1, h2, hc⟩
  · exact .inl h
  · exact .inr ⟨g, o, hA, h1, h2, fun i x hx => (hc i x hx).sh⟩
theorem NodesSh.at_ {w : World} {lo B : Nat} {A : Option Addr} {xs : List (GNode)} (h : NodesSh w lo B A xs) {i : Nat} (hi : i < xs.length) : ∃ g o, A = some ⟨g, o, none⟩ ∧ lo ≤ g ∧ g < B ∧ NodeSh w lo B g (o + i * 6) xs[i] := by
  rcases h with h | ⟨g, o, hA, h1, h2, hc⟩
  · subst h; simp at hi
  · exact ⟨g, o, hA, h1, h2, hc i _ (List.getElem?_eq_getElem hi)⟩
def mcNode (x : GNode) : Nat := 6
def mcNodes (xs : List (GNode)) : Nat := sumC mcNode xs
theorem mcNode_le (x : GNode) : mcNode x ≤ 6 + 6 * costNode x := by
  unfold mcNode costNode costValue; omega
theorem mcNodes_le (xs : List (GNode)) : mcNodes xs ≤ 6 * costNodes xs := by
  unfold mcNodes costNodes sumC
  induction xs with
  | nil => simp
  | cons x xs ih =>
    have := mcNode_le x
    simp only [List.map_cons, List.sum_cons, List.length_cons] at ih ⊢
    omega

def NodeSSh (w : World) (lo B g o : Nat) (x : List GNode) : Prop := (∃ A c, w.cell? ⟨g, o, none⟩ = some (.slice A x.length c) ∧ NodesSh w lo B A x)
def NodeSsSh (w : World) (lo B : Nat) (A : Option Addr) (xs : List (List GNode)) : Prop := xs = [] ∨ ∃ g o, A = some ⟨g, o, none⟩ ∧ lo ≤ g ∧ g < B ∧ ∀ i x, xs[i]? = some x → NodeSSh w lo B g (o + i) x
theorem NodeSSh.kk {w w' : World} {lo B g o : Nat} {x : List GNode} (h : NodeSSh w lo B g o x) (b1 : lo ≤ g) (b2 : g < B) (k : KK w w' lo B) : NodeSSh w' lo B g o x := by
  have h0 := h
  exact (by obtain ⟨A, c, a1, a2⟩ := h0; exact ⟨A, c, k.sl _ _ _ _ _ b1 b2 a1, a2.kk k⟩)
theorem NodeSsSh.kk {w w' : World} {lo B : Nat} {A : Option Addr} {xs : List (List GNode)} (h : NodeSsSh w lo B A xs) (k : KK w w' lo B) : NodeSsSh w' lo B A xs := by
  rcases h with h | ⟨g, o, hA, h1, h2, hc⟩
  · exact .inl h
  · exact .inr ⟨g, o, hA, h1, h2, fun i x hx => (hc i x hx).kk h1 h2 k⟩
theorem NodeSAt.sh {w : World} {lo B g o : Nat} {x : List GNode} (h : NodeSAt w lo B g o x) : NodeSSh w lo B g o x := by
  have h0 := h
  exact (by obtain ⟨A, c, a1, a2⟩ := h0; exact ⟨A, c, a1.1, a2.sh⟩)
theorem NodeSsAt.sh {w : World} {lo B : Nat} {A : Option Addr} {xs : List (List GNode)} (h : NodeSsAt w lo B A xs) : NodeSsSh w lo B A xs := by
  rcases h with h | ⟨g, o, hA, h1, h2, hc⟩
  · exact .inl h
  · exact .inr ⟨g, o, hA, h1, h2, fun i x hx => (hc i x hx).sh⟩
theorem NodeSsSh.at_ {w : World} {lo B : Nat} {A : Option Addr} {xs : List (List GNode)} (h : NodeSsSh w lo B A xs) {i : Nat} (hi : i < xs.length) : ∃ g o, A = some ⟨g, o, none⟩ ∧ lo ≤ g ∧ g < B ∧ NodeSSh w lo B g (o + i) xs[i] := by
  rcases h with h | ⟨g, o, hA, h1, h2, hc⟩
  · subst h; simp at hi
  · exact ⟨g, o, hA, h1, h2, hc i _ (List.getElem?_eq_getElem hi)⟩
def mcNodeS (x : List GNode) : Nat := mcNodes x
def mcNodeSs (xs : List (List GNode)) : Nat := sumC mcNodeS xs
theorem mcNodeS_le (x : List GNode) : mcNodeS x ≤ 6 + 6 * costNodeS x := by
  have := mcNodes_le x; unfold mcNodeS costNodeS; omega
theorem mcNodeSs_le (xs : List (List GNode)) : mcNodeSs xs ≤ 6 * costNodeSs xs := by
  unfold mcNodeSs costNodeSs sumC
  induction xs with
  | nil => simp
  | cons x xs ih =>
    have := mcNodeS_le x
    simp only [List.map_cons, List.sum_cons, List.length_cons] at ih ⊢
    omega

set_option maxRecDepth 100000 in
set_option maxHeartbeats 3200000 in
theorem mark_Strs {lo B : Nat} (A : Option Addr) (c : Nat) (xs : List (ByteArray)) (k : Int) (w : World) (h : StrsSh w lo B A xs) (hu : UF w lo B) (hB : B ≤ w.heap.size) (hk : 1 ≤ k) (hk2 : k + mcStrs xs ≤ 100000000) (hl : xs.length ≤ 1048576) (hsub : costStrs xs ≤ 1048576) :
    Calls Try.prog 11 #[.slice A xs.length c, .int .i64 k] w (Marked w k (mcStrs xs) lo B) := by
  have HS := Lib.hid h
  have HU := Lib.hid hu
  have HK := Lib.hid hk2
  have HC := Lib.hid hsub
  have hkb : k ≤ 100000000 := by omega
  clear h hu hk2 hsub
  go_enter Try.func11, Try.ntmps11
  go_wp2_with fail
  go_loopw [1, 5] (fun kk i w' => ∃ (j : Nat) (K : Int), j ≤ xs.length ∧ kk = .int .i64 K ∧ i = .int .i64 j ∧ k ≤ K ∧ K ≤ 100000000 ∧ Hid (K ≤ k + (sumC mcStr (xs.take j) : Nat)) ∧ Hid (KK w w' lo B)) (fun _ i _ => xs.length - (intOf i).toNat)
  case atStart => exact ⟨0, k, Nat.zero_le _, rfl, rfl, Int.le_refl _, hkb, Lib.hid (by simp [sumC]), Lib.hid (KK.refl w lo B)⟩
  case round =>
    obtain ⟨j, K, hj, rfl, rfl, hK0, hK1, hK2, hKK⟩ := hrel
    by_cases hlt : j < xs.length
    · obtain ⟨g, o, rfl, hg1, hg2, hE⟩ := (HS.out.kk hKK.out).at_ hlt
      have HE := Lib.hid hE
      have HUw := Lib.hid (HU.out.kk hKK.out)
      have hst := Lib.hid (sumC_take mcStr xs j hlt)
      have hle := Lib.hid (sumC_le mcStr xs (j + 1))
      have hmc := Lib.hid (show mcStrs xs = sumC mcStr xs from rfl)
      have hi0 : (0 : Int) ≤ (j : Int) := by omega
      have hi1 : (j : Int) < (xs.length : Int) := by omega
      have hBw : B ≤ wr.heap.size := by have := hKK.out.size; omega
      have hKtot : K + (1) ≤ 100000000 := by
        have h1 := HK.out; have h2 := hK2.out; have h3 := hst.out; have h4 := hle.out; have h5 := hmc.out
        have h6 : ((mcStr xs[j] : Nat) : Int) = 1 := by unfold mcStr; omega
        omega
      obtain ⟨z0_0, c0_0⟩ := HE.out
      have f0_0 : wr.frozen? ⟨g, o + j, none⟩ = false := (HUw.out) g hg1 hg2 (o + j)
      have kn0 : KK wr wr lo B := KK.refl wr lo B
      have bz0 : B ≤ wr.heap.size := by have := kn0.size; omega
      have KN0 := Lib.hid kn0
      clear kn0
      go_wp2_with fail
      refine (mark_any _ _ (by omega) (by omega)).mono ?_
      rintro e w0 ⟨T0, rfl, hb0⟩
      have kw0 : KK wr w0 lo B := (KN0.out).trans (KK.below hb0 bz0)
      have bw0 : B ≤ w0.heap.size := by have := kw0.size; omega
      have KW0 := Lib.hid kw0
      clear kw0 KN0 bz0 hb0
      clear c0_0 f0_0
      obtain ⟨z0_1, c0_1⟩ := HE.out.kk hg1 hg2 KW0.out
      have f0_1 : w0.frozen? ⟨g, o + j, none⟩ = false := (HUw.out.kk KW0.out) g hg1 hg2 (o + j)
      have kn : KK wr (w0.setCell ⟨g, o + j, none⟩ (.string T0)) lo B := (KW0.out).trans ((KK.refl w0 lo B).trans (KK.setStr hg1 hg2 (show w0.cell? ⟨g, o + j, none⟩ = some _ from c0_1) _))
      have KN := Lib.hid (hKK.out.trans kn)
      clear kn
      have hKn := Lib.hid (show K + 1 ≤ k + (sumC mcStr (xs.take (j + 1)) : Nat) by
        have h1 := hK2.out; have h3 := hst.out
        have h6 : ((mcStr xs[j] : Nat) : Int) = 1 := by unfold mcStr; omega
        omega)
      go_wp2_with fail
      go_roundw
      case rel => exact ⟨j + 1, _, by omega, rfl, by go_num, by omega, by omega, hKn, KN⟩
      case measure => simp [intOf]; omega
    · have hi1 : ¬ (j : Int) < (xs.length : Int) := by omega
      have hK3 := hK2.out
      rw [List.take_of_length_le (by omega)] at hK3
      have HK3 := Lib.hid hK3
      clear hK3
      go_wp2_with fail
      go_ret
      exact ⟨K, rfl, hK0, HK3.out, hKK.out⟩

set_option maxRecDepth 100000 in
set_option maxHeartbeats 3200000 in
theorem mark_Nodes {lo B : Nat} (A : Option Addr) (c : Nat) (xs : List (GNode)) (k : Int) (w : World) (h : NodesSh w lo B A xs) (hu : UF w lo B) (hB : B ≤ w.heap.size) (hk : 1 ≤ k) (hk2 : k + mcNodes xs ≤ 100000000) (hl : xs.length ≤ 1048576) (hsub : costNodes xs ≤ 1048576) :
    Calls Try.prog 42 #[.slice A xs.length c, .int .i64 k] w (Marked w k (mcNodes xs) lo B) := by
  have HS := Lib.hid h
  have HU := Lib.hid hu
  have HK := Lib.hid hk2
  have HC := Lib.hid hsub
  have hkb : k ≤ 100000000 := by omega
  clear h hu hk2 hsub
  go_enter Try.func42, Try.ntmps42
  go_wp2_with fail
  go_loopw [1, 5] (fun kk i w' => ∃ (j : Nat) (K : Int), j ≤ xs.length ∧ kk = .int .i64 K ∧ i = .int .i64 j ∧ k ≤ K ∧ K ≤ 100000000 ∧ Hid (K ≤ k + (sumC mcNode (xs.take j) : Nat)) ∧ Hid (KK w w' lo B)) (fun _ i _ => xs.length - (intOf i).toNat)
  case atStart => exact ⟨0, k, Nat.zero_le _, rfl, rfl, Int.le_refl _, hkb, Lib.hid (by simp [sumC]), Lib.hid (KK.refl w lo B)⟩
  case round =>
    obtain ⟨j, K, hj, rfl, rfl, hK0, hK1, hK2, hKK⟩ := hrel
    by_cases hlt : j < xs.length
    · obtain ⟨g, o, rfl, hg1, hg2, hE⟩ := (HS.out.kk hKK.out).at_ hlt
      have HE := Lib.hid hE
      have HUw := Lib.hid (HU.out.kk hKK.out)
      have hst := Lib.hid (sumC_take mcNode xs j hlt)
      have hle := Lib.hid (sumC_le mcNode xs (j + 1))
      have hmc := Lib.hid (show mcNodes xs = sumC mcNode xs from rfl)
      have hi0 : (0 : Int) ≤ (j : Int) := by omega
      have hi1 : (j : Int) < (xs.length : Int) := by omega
      have hBw : B ≤ wr.heap.size := by have := hKK.out.size; omega
      have hKtot : K + (6) ≤ 100000000 := by
        have h1 := HK.out; have h2 := hK2.out; have h3 := hst.out; have h4 := hle.out; have h5 := hmc.out
        have h6 : ((mcNode xs[j] : Nat) : Int) = 6 := by unfold mcNode; omega
        omega
      obtain ⟨⟨z0_0, c0_0⟩, ⟨z1_0, c1_0⟩, ⟨z2_0, c2_0⟩, ⟨z3_0, c3_0⟩, ⟨z4_0, c4_0⟩, ⟨z5_0, c5_0⟩⟩ := HE.out
      have f0_0 : wr.frozen? ⟨g, o + j * 6, none⟩ = false := (HUw.out) g hg1 hg2 (o + j * 6)
      have f1_0 : wr.frozen? ⟨g, o + j * 6 + 1, none⟩ = false := (HUw.out) g hg1 hg2 (o + j * 6 + 1)
      have f2_0 : wr.frozen? ⟨g, o + j * 6 + 2, none⟩ = false := (HUw.out) g hg1 hg2 (o + j * 6 + 2)
      have f3_0 : wr.frozen? ⟨g, o + j * 6 + 3, none⟩ = false := (HUw.out) g hg1 hg2 (o + j * 6 + 3)
      have f4_0 : wr.frozen? ⟨g, o + j * 6 + 4, none⟩ = false := (HUw.out) g hg1 hg2 (o + j * 6 + 4)
      have f5_0 : wr.frozen? ⟨g, o + j * 6 + 5, none⟩ = false := (HUw.out) g hg1 hg2 (o + j * 6 + 5)
      have kn0 : KK wr (wr.setCell ⟨g, o + j * 6, none⟩ (.int .i64 (K))) lo B := (KK.refl wr lo B).trans (KK.setInt hg1 hg2 (show wr.cell? ⟨g, o + j * 6, none⟩ = some _ from c0_0) _)
      have bz0 : B ≤ (wr.setCell ⟨g, o + j * 6, none⟩ (.int .i64 (K))).heap.size := by have := kn0.size; omega
      have KN0 := Lib.hid kn0
      clear kn0
      go_wp2_with fail
      refine (mark_any _ _ (by omega) (by omega)).mono ?_
      rintro e w0 ⟨T0, rfl, hb0⟩
      have kw0 : KK wr w0 lo B := (KN0.out).trans (KK.below hb0 bz0)
      have bw0 : B ≤ w0.heap.size := by have := kw0.size; omega
      have KW0 := Lib.hid kw0
      clear kw0 KN0 bz0 hb0
      clear c0_0 c1_0 c2_0 c3_0 c4_0 c5_0 f0_0 f1_0 f2_0 f3_0 f4_0 f5_0
      obtain ⟨⟨z0_1, c0_1⟩, ⟨z1_1, c1_1⟩, ⟨z2_1, c2_1⟩, ⟨z3_1, c3_1⟩, ⟨z4_1, c4_1⟩, ⟨z5_1, c5_1⟩⟩ := HE.out.kk hg1 hg2 KW0.out
      have f0_1 : w0.frozen? ⟨g, o + j * 6, none⟩ = false := (HUw.out.kk KW0.out) g hg1 hg2 (o + j * 6)
      have f1_1 : w0.frozen? ⟨g, o + j * 6 + 1, none⟩ = false := (HUw.out.kk KW0.out) g hg1 hg2 (o + j * 6 + 1)
      have f2_1 : w0.frozen? ⟨g, o + j * 6 + 2, none⟩ = false := (HUw.out.kk KW0.out) g hg1 hg2 (o + j * 6 + 2)
      have f3_1 : w0.frozen? ⟨g, o + j * 6 + 3, none⟩ = false := (HUw.out.kk KW0.out) g hg1 hg2 (o + j * 6 + 3)
      have f4_1 : w0.frozen? ⟨g, o + j * 6 + 4, none⟩ = false := (HUw.out.kk KW0.out) g hg1 hg2 (o + j * 6 + 4)
      have f5_1 : w0.frozen? ⟨g, o + j * 6 + 5, none⟩ = false := (HUw.out.kk KW0.out) g hg1 hg2 (o + j * 6 + 5)
      have kn1 : KK w0 (((w0.setCell ⟨g, o + j * 6 + 1, none⟩ (.string T0)).setCell ⟨g, o + j * 6 + 2, none⟩ (.int .i64 (K + 1 + 1))).setCell ⟨g, o + j * 6 + 3, none⟩ (.int .i64 (K + 1 + 1 + 1))) lo B := (((KK.refl w0 lo B).trans (KK.setStr hg1 hg2 (show w0.cell? ⟨g, o + j * 6 + 1, none⟩ = some _ from c1_1) _)).trans (KK.setInt hg1 hg2 (show (w0.setCell ⟨g, o + j * 6 + 1, none⟩ (.string T0)).cell? ⟨g, o + j * 6 + 2, none⟩ = some _ from (World.cell?_setCell_other _ _ _ _ (by intro e; simp only [Addr.mk.injEq] at e; omega)).trans (c2_1)) _)).trans (KK.setInt hg1 hg2 (show ((w0.setCell ⟨g, o + j * 6 + 1, none⟩ (.string T0)).setCell ⟨g, o + j * 6 + 2, none⟩ (.int .i64 (K + 1 + 1))).cell? ⟨g, o + j * 6 + 3, none⟩ = some _ from (World.cell?_setCell_other _ _ _ _ (by intro e; simp only [Addr.mk.injEq] at e; omega)).trans ((World.cell?_setCell_other _ _ _ _ (by intro e; simp only [Addr.mk.injEq] at e; omega)).trans (c3_1))) _)
      have bz1 : B ≤ (((w0.setCell ⟨g, o + j * 6 + 1, none⟩ (.string T0)).setCell ⟨g, o + j * 6 + 2, none⟩ (.int .i64 (K + 1 + 1))).setCell ⟨g, o + j * 6 + 3, none⟩ (.int .i64 (K + 1 + 1 + 1))).heap.size := by have := kn1.size; omega
      have KN1 := Lib.hid kn1
      clear kn1
      go_wp2_with fail
      refine (mark_any _ _ (by omega) (by omega)).mono ?_
      rintro e w1 ⟨T1, rfl, hb1⟩
      have kw1 : KK wr w1 lo B := (KW0.out).trans ((KN1.out).trans (KK.below hb1 bz1))
      have bw1 : B ≤ w1.heap.size := by have := kw1.size; omega
      have KW1 := Lib.hid kw1
      clear kw1 KN1 bz1 hb1
      clear c0_1 c1_1 c2_1 c3_1 c4_1 c5_1 f0_1 f1_1 f2_1 f3_1 f4_1 f5_1
      obtain ⟨⟨z0_2, c0_2⟩, ⟨z1_2, c1_2⟩, ⟨z2_2, c2_2⟩, ⟨z3_2, c3_2⟩, ⟨z4_2, c4_2⟩, ⟨z5_2, c5_2⟩⟩ := HE.out.kk hg1 hg2 KW1.out
      have f0_2 : w1.frozen? ⟨g, o + j * 6, none⟩ = false := (HUw.out.kk KW1.out) g hg1 hg2 (o + j * 6)
      have f1_2 : w1.frozen? ⟨g, o + j * 6 + 1, none⟩ = false := (HUw.out.kk KW1.out) g hg1 hg2 (o + j * 6 + 1)
      have f2_2 : w1.frozen? ⟨g, o + j * 6 + 2, none⟩ = false := (HUw.out.kk KW1.out) g hg1 hg2 (o + j * 6 + 2)
      have f3_2 : w1.frozen? ⟨g, o + j * 6 + 3, none⟩ = false := (HUw.out.kk KW1.out) g hg1 hg2 (o + j * 6 + 3)
      have f4_2 : w1.frozen? ⟨g, o + j * 6 + 4, none⟩ = false := (HUw.out.kk KW1.out) g hg1 hg2 (o + j * 6 + 4)
      have f5_2 : w1.frozen? ⟨g, o + j * 6 + 5, none⟩ = false := (HUw.out.kk KW1.out) g hg1 hg2 (o + j * 6 + 5)
      have kn : KK wr ((w1.setCell ⟨g, o + j * 6 + 4, none⟩ (.string T1)).setCell ⟨g, o + j * 6 + 5, none⟩ (.int .i64 (K + 1 + 1 + 1 + 1 + 1))) lo B := (KW1.out).trans (((KK.refl w1 lo B).trans (KK.setStr hg1 hg2 (show w1.cell? ⟨g, o + j * 6 + 4, none⟩ = some _ from c4_2) _)).trans (KK.setInt hg1 hg2 (show (w1.setCell ⟨g, o + j * 6 + 4, none⟩ (.string T1)).cell? ⟨g, o + j * 6 + 5, none⟩ = some _ from (World.cell?_setCell_other _ _ _ _ (by intro e; simp only [Addr.mk.injEq] at e; omega)).trans (c5_2)) _))
      have KN := Lib.hid (hKK.out.trans kn)
      clear kn
      have hKn := Lib.hid (show K + 1 + 1 + 1 + 1 + 1 + 1 ≤ k + (sumC mcNode (xs.take (j + 1)) : Nat) by
        have h1 := hK2.out; have h3 := hst.out
        have h6 : ((mcNode xs[j] : Nat) : Int) = 6 := by unfold mcNode; omega
        omega)
      go_wp2_with fail
      go_roundw
      case rel => exact ⟨j + 1, _, by omega, rfl, by go_num, by omega, by omega, hKn, KN⟩
      case measure => simp [intOf]; omega
    · have hi1 : ¬ (j : Int) < (xs.length : Int) := by omega
      have hK3 := hK2.out
      rw [List.take_of_length_le (by omega)] at hK3
      have HK3 := Lib.hid hK3
      clear hK3
      go_wp2_with fail
      go_ret
      exact ⟨K, rfl, hK0, HK3.out, hKK.out⟩

set_option maxRecDepth 100000 in
set_option maxHeartbeats 3200000 in
theorem mark_NodeSs {lo B : Nat} (A : Option Addr) (c : Nat) (xs : List (List GNode)) (k : Int) (w : World) (h : NodeSsSh w lo B A xs) (hu : UF w lo B) (hB : B ≤ w.heap.size) (hk : 1 ≤ k) (hk2 : k + mcNodeSs xs ≤ 100000000) (hl : xs.length ≤ 1048576) (hsub : costNodeSs xs ≤ 1048576) :
    Calls Try.prog 41 #[.slice A xs.length c, .int .i64 k] w (Marked w k (mcNodeSs xs) lo B) := by
  have HS := Lib.hid h
  have HU := Lib.hid hu
  have HK := Lib.hid hk2
  have HC := Lib.hid hsub
  have hkb : k ≤ 100000000 := by omega
  clear h hu hk2 hsub
  go_enter Try.func41, Try.ntmps41
  go_wp2_with fail
  go_loopw [1, 5] (fun kk i w' => ∃ (j : Nat) (K : Int), j ≤ xs.length ∧ kk = .int .i64 K ∧ i = .int .i64 j ∧ k ≤ K ∧ K ≤ 100000000 ∧ Hid (K ≤ k + (sumC mcNodeS (xs.take j) : Nat)) ∧ Hid (KK w w' lo B)) (fun _ i _ => xs.length - (intOf i).toNat)
  case atStart => exact ⟨0, k, Nat.zero_le _, rfl, rfl, Int.le_refl _, hkb, Lib.hid (by simp [sumC]), Lib.hid (KK.refl w lo B)⟩
  case round =>
    obtain ⟨j, K, hj, rfl, rfl, hK0, hK1, hK2, hKK⟩ := hrel
    by_cases hlt : j < xs.length
    · obtain ⟨g, o, rfl, hg1, hg2, hE⟩ := (HS.out.kk hKK.out).at_ hlt
      have HE := Lib.hid hE
      have HUw := Lib.hid (HU.out.kk hKK.out)
      have hst := Lib.hid (sumC_take mcNodeS xs j hlt)
      have hle := Lib.hid (sumC_le mcNodeS xs (j + 1))
      have hmc := Lib.hid (show mcNodeSs xs = sumC mcNodeS xs from rfl)
      have hi0 : (0 : Int) ≤ (j : Int) := by omega
      have hi1 : (j : Int) < (xs.length : Int) := by omega
      have hBw : B ≤ wr.heap.size := by have := hKK.out.size; omega
      have hKtot : K + ((mcNodes xs[j] : Nat)) ≤ 100000000 := by
        have h1 := HK.out; have h2 := hK2.out; have h3 := hst.out; have h4 := hle.out; have h5 := hmc.out
        have h6 : ((mcNodeS xs[j] : Nat) : Int) = (mcNodes xs[j] : Nat) := by unfold mcNodeS; omega
        omega
      have hcj : costNodeS xs[j] ≤ 1048576 := by have h1 := HC.out; have h2 := sumC_mem costNodeS xs _ (List.getElem_mem hlt); unfold costNodeSs at h1; omega
      have hcs0 : costNodes xs[j] ≤ 1048576 := by unfold costNodeS at hcj; omega
      have hcl0 : xs[j].length ≤ 1048576 := by have h := hcs0; unfold costNodes at h; omega
      clear hcj
      obtain ⟨A0_0, d0_0, c0_0, s0_0⟩ := HE.out
      have kn0 : KK wr wr lo B := KK.refl wr lo B
      have bz0 : B ≤ wr.heap.size := by have := kn0.size; omega
      have KN0 := Lib.hid kn0
      clear kn0
      go_wp2_with fail
      refine (mark_Nodes A0_0 d0_0 xs[j] _ _ (s0_0.kk KN0.out) ((HUw.out).kk KN0.out) bz0 (by omega) (by omega) hcl0 hcs0).mono ?_
      rintro e w0 ⟨K0, rfl, hk0_0, hk1_0, hkk0⟩
      have kw0 : KK wr w0 lo B := (KN0.out).trans hkk0
      have bw0 : B ≤ w0.heap.size := by have := kw0.size; omega
      have KW0 := Lib.hid kw0
      clear kw0 KN0 bz0 hkk0
      clear c0_0 s0_0
      obtain ⟨A0_1, d0_1, c0_1, s0_1⟩ := HE.out.kk hg1 hg2 KW0.out
      have kn : KK wr w0 lo B := (KW0.out).trans (KK.refl w0 lo B)
      have KN := Lib.hid (hKK.out.trans kn)
      clear kn
      have hKn := Lib.hid (show K0 ≤ k + (sumC mcNodeS (xs.take (j + 1)) : Nat) by
        have h1 := hK2.out; have h3 := hst.out
        have h6 : ((mcNodeS xs[j] : Nat) : Int) = (mcNodes xs[j] : Nat) := by unfold mcNodeS; omega
        omega)
      go_wp2_with fail
      go_roundw
      case rel => exact ⟨j + 1, _, by omega, rfl, by go_num, by omega, by omega, hKn, KN⟩
      case measure => simp [intOf]; omega
    · have hi1 : ¬ (j : Int) < (xs.length : Int) := by omega
      have hK3 := hK2.out
      rw [List.take_of_length_le (by omega)] at hK3
      have HK3 := Lib.hid hK3
      clear hK3
      go_wp2_with fail
      go_ret
      exact ⟨K, rfl, hK0, HK3.out, hKK.out⟩

end Go.Proofs.Ytmbdccbgcobflaa
