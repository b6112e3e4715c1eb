/-
  laws.markNodeSS, at arguments. laws.markLitS and its like, at arguments. Small words for how arguments read.
-/
import Derived.Test.YteoepnadjkjlmaaGreatMkNodeZ
import Derived.Test.YteoepnadjkjlmaaGreatSzAtomZ
import Derived.Test.YteoepnadjkjlmaaGreatRowOkSZ
import Derived.OpenShut
import Derived.Lib.SmallJoins
import Derived.ChangeOld
namespace Go.Proofs.YteoepnadjkjlmaaGreat
open Go.RowKit Go.Sort
set_option linter.unusedVariables false

def NodeSSh (w : World) (lo B g o : Nat) (x : List GNode) : Prop := (∃ A c, w.cell? ⟨g, o, none⟩ = some (.slice A x.length c) ∧ NodesSh w lo B A x)
def NodeSsSh (w : World) (lo B : Nat) (A : Option Addr) (xs : List (List GNode)) : Prop := xs = [] ∨ ∃ g o, A = some ⟨g, o, none⟩ ∧ lo ≤ g ∧ g < B ∧ ∀ i x, xs[i]? = some x → NodeSSh w lo B g (o + i) x
theorem NodeSSh.kk {w w' : World} {lo B g o : Nat} {x : List GNode} (h : NodeSSh w lo B g o x) (b1 : lo ≤ g) (b2 : g < B) (k : KK w w' lo B) : NodeSSh w' lo B g o x := by
  have h0 := h
  exact (by obtain ⟨A, c, a1, a2⟩ := h0; exact ⟨A, c, k.sl _ _ _ _ _ b1 b2 a1, a2.kk k⟩)
theorem NodeSsSh.kk {w w' : World} {lo B : Nat} {A : Option Addr} {xs : List (List GNode)} (h : NodeSsSh w lo B A xs) (k : KK w w' lo B) : NodeSsSh w' lo B A xs := by
  rcases h with h | ⟨g, o, hA, h1, h2, hc⟩
  · exact .inl h
  · exact .inr ⟨g, o, hA, h1, h2, fun i x hx => (hc i x hx).kk h1 h2 k⟩
theorem NodeSAt.sh {w : World} {lo B g o : Nat} {x : List GNode} (h : NodeSAt w lo B g o x) : NodeSSh w lo B g o x := by
  have h0 := h
  exact (by obtain ⟨A, c, a1, a2⟩ := h0; exact ⟨A, c, a1.1, a2.sh⟩)
theorem NodeSsAt.sh {w : World} {lo B : Nat} {A : Option Addr} {xs : List (List GNode)} (h : NodeSsAt w lo B A xs) : NodeSsSh w lo B A xs := by
  rcases h with h | ⟨g, o, hA, h1, h2, hc⟩
  · exact .inl h
  · exact .inr ⟨g, o, hA, h1, h2, fun i x hx => (hc i x hx).sh⟩
theorem NodeSsSh.at_ {w : World} {lo B : Nat} {A : Option Addr} {xs : List (List GNode)} (h : NodeSsSh w lo B A xs) {i : Nat} (hi : i < xs.length) : ∃ g o, A = some ⟨g, o, none⟩ ∧ lo ≤ g ∧ g < B ∧ NodeSSh w lo B g (o + i) xs[i] := by
  rcases h with h | ⟨g, o, hA, h1, h2, hc⟩
  · subst h; simp at hi
  · exact ⟨g, o, hA, h1, h2, hc i _ (List.getElem?_eq_getElem hi)⟩
def mcNodeS (x : List GNode) : Nat := mcNodes x
def mcNodeSs (xs : List (List GNode)) : Nat := sumC mcNodeS xs
theorem mcNodeS_le (x : List GNode) : mcNodeS x ≤ 6 + 6 * costNodeS x := by
  have := mcNodes_le x; unfold mcNodeS costNodeS; omega
theorem mcNodeSs_le (xs : List (List GNode)) : mcNodeSs xs ≤ 6 * costNodeSs xs := by
  unfold mcNodeSs costNodeSs sumC
  induction xs with
  | nil => simp
  | cons x xs ih =>
    have := mcNodeS_le x
    simp only [List.map_cons, List.sum_cons, List.length_cons] at ih ⊢
    omega

set_option maxRecDepth 100000 in
set_option maxHeartbeats 3200000 in
theorem mark_NodeSs {lo B : Nat} (A : Option Addr) (c : Nat) (xs : List (List GNode)) (k : Int) (w : World) (h : NodeSsSh w lo B A xs) (hu : UF w lo B) (hB : B ≤ w.heap.size) (hk : 1 ≤ k) (hk2 : k + mcNodeSs xs ≤ 100000000) (hl : xs.length ≤ 1048576) (hsub : costNodeSs xs ≤ 1048576) :
    Calls Tryz.prog 37 #[.slice A xs.length c, .int .i64 k] w (Marked w k (mcNodeSs xs) lo B) := by
  have HS := Lib.hid h
  have HU := Lib.hid hu
  have HK := Lib.hid hk2
  have HC := Lib.hid hsub
  have hkb : k ≤ 100000000 := by omega
  clear h hu hk2 hsub
  go_enter Tryz.func37, Tryz.ntmps37
  go_wp2_with fail
  go_loopw [1, 5] (fun kk i w' => ∃ (j : Nat) (K : Int), j ≤ xs.length ∧ kk = .int .i64 K ∧ i = .int .i64 j ∧ k ≤ K ∧ K ≤ 100000000 ∧ Hid (K ≤ k + (sumC mcNodeS (xs.take j) : Nat)) ∧ Hid (KK w w' lo B)) (fun _ i _ => xs.length - (intOf i).toNat)
  case atStart => exact ⟨0, k, Nat.zero_le _, rfl, rfl, Int.le_refl _, hkb, Lib.hid (by simp [sumC]), Lib.hid (KK.refl w lo B)⟩
  case round =>
    obtain ⟨j, K, hj, rfl, rfl, hK0, hK1, hK2, hKK⟩ := hrel
    by_cases hlt : j < xs.length
    · obtain ⟨g, o, rfl, hg1, hg2, hE⟩ := (HS.out.kk hKK.out).at_ hlt
      have HE := Lib.hid hE
      have HUw := Lib.hid (HU.out.kk hKK.out)
      have hst := Lib.hid (sumC_take mcNodeS xs j hlt)
      have hle := Lib.hid (sumC_le mcNodeS xs (j + 1))
      have hmc := Lib.hid (show mcNodeSs xs = sumC mcNodeS xs from rfl)
      have hi0 : (0 : Int) ≤ (j : Int) := by omega
      have hi1 : (j : Int) < (xs.length : Int) := by omega
      have hBw : B ≤ wr.heap.size := by have := hKK.out.size; omega
      have hKtot : K + ((mcNodes xs[j] : Nat)) ≤ 100000000 := by
        have h1 := HK.out; have h2 := hK2.out; have h3 := hst.out; have h4 := hle.out; have h5 := hmc.out
        have h6 : ((mcNodeS xs[j] : Nat) : Int) = (mcNodes xs[j] : Nat) := by unfold mcNodeS; omega
        omega
      have hcj : costNodeS xs[j] ≤ 1048576 := by have h1 := HC.out; have h2 := sumC_mem costNodeS xs _ (List.getElem_mem hlt); unfold costNodeSs at h1; omega
      have hcs0 : costNodes xs[j] ≤ 1048576 := by unfold costNodeS at hcj; omega
      have hcl0 : xs[j].length ≤ 1048576 := by have h := hcs0; unfold costNodes at h; omega
      clear hcj
      obtain ⟨A0_0, d0_0, c0_0, s0_0⟩ := HE.out
      have kn0 : KK wr wr lo B := KK.refl wr lo B
      have bz0 : B ≤ wr.heap.size := by have := kn0.size; omega
      have KN0 := Lib.hid kn0
      clear kn0
      go_wp2_with fail
      refine (mark_Nodes A0_0 d0_0 xs[j] _ _ (s0_0.kk KN0.out) ((HUw.out).kk KN0.out) bz0 (by omega) (by omega) hcl0 hcs0).mono ?_
      rintro e w0 ⟨K0, rfl, hk0_0, hk1_0, hkk0⟩
      have kw0 : KK wr w0 lo B := (KN0.out).trans hkk0
      have bw0 : B ≤ w0.heap.size := by have := kw0.size; omega
      have KW0 := Lib.hid kw0
      clear kw0 KN0 bz0 hkk0
      clear c0_0 s0_0
      obtain ⟨A0_1, d0_1, c0_1, s0_1⟩ := HE.out.kk hg1 hg2 KW0.out
      have kn : KK wr w0 lo B := (KW0.out).trans (KK.refl w0 lo B)
      have KN := Lib.hid (hKK.out.trans kn)
      clear kn
      have hKn := Lib.hid (show K0 ≤ k + (sumC mcNodeS (xs.take (j + 1)) : Nat) by
        have h1 := hK2.out; have h3 := hst.out
        have h6 : ((mcNodeS xs[j] : Nat) : Int) = (mcNodes xs[j] : Nat) := by unfold mcNodeS; omega
        omega)
      go_wp2_with fail
      go_roundw
      case rel => exact ⟨j + 1, _, by omega, rfl, by go_num, by omega, by omega, hKn, KN⟩
      case measure => simp [intOf]; omega
    · have hi1 : ¬ (j : Int) < (xs.length : Int) := by omega
      have hK3 := hK2.out
      rw [List.take_of_length_le (by omega)] at hK3
      have HK3 := Lib.hid hK3
      clear hK3
      go_wp2_with fail
      go_ret
      exact ⟨K, rfl, hK0, HK3.out, hKK.out⟩

end Go.Proofs.YteoepnadjkjlmaaGreat
namespace Go.Proofs.YteoepnadjkjlmaaGreat
open Go.RowKit Go.Sort
set_option linter.unusedVariables false

def msAtom (x : GAtom) : Nat := mcNodeSs x.args
theorem msAtom_le (x : GAtom) : msAtom x ≤ 6 * costAtom x := by
  have := mcNodeSs_le x.args
  unfold msAtom costAtom; omega
set_option maxRecDepth 100000 in
set_option maxHeartbeats 1600000 in
theorem mark_Atom {lo B : Nat} (x : GAtom) (A1 : Option Addr) (c1 : Nat) (k : Int) (w : World) (s1 : NodeSsSh w lo B A1 x.args) (hu : UF w lo B) (hB : B ≤ w.heap.size) (hk : 1 ≤ k) (hk2 : k + msAtom x ≤ 100000000) (hc : costAtom x ≤ 1048576) :
    Calls Tryz.prog 14 #[.agg #[.string x.name, .slice A1 x.args.length c1], .int .i64 k] w (Marked w k (msAtom x) lo B) := by
  unfold msAtom at hk2
  unfold costAtom at hc
  have hms := Lib.hid (show msAtom x = mcNodeSs x.args from rfl)
  have hP := Lib.hid (Whole.new w 34 [.string x.name, .slice A1 x.args.length c1])
  have k0 := Lib.hid (show KK w (w.alloc (.cells #[.string x.name, .slice A1 x.args.length c1] 34)) lo B from KK.below ((Below.refl _ _).alloc (Nat.le_refl _) _) hB)
  have HU := Lib.hid hu
  clear hu
  have z0 : B ≤ (w.alloc (.cells #[.string x.name, .slice A1 x.args.length c1] 34)).heap.size := by simp; omega
  have y0 : w.heap.size < (w.alloc (.cells #[.string x.name, .slice A1 x.args.length c1] 34)).heap.size := by simp
  go_enter Tryz.func14, Tryz.ntmps14
  go_wp2_with fail
  have hln0 : x.args.length ≤ 1048576 := by
    have h : costNodeSs x.args ≤ 1048576 := by omega
    unfold costNodeSs at h; omega
  refine (mark_NodeSs A1 c1 x.args _ _ (s1.kk k0.out) (HU.out.kk k0.out) z0 (by omega) (by omega) hln0 (by omega)).mono ?_
  rintro e w0 ⟨K0, rfl, a0, b0, kk0⟩
  have k1 := Lib.hid (k0.out.trans kk0)
  have z1 : B ≤ w0.heap.size := Nat.le_trans z0 kk0.size
  have y1 : w.heap.size < w0.heap.size := Nat.lt_of_lt_of_le y0 kk0.size
  clear kk0
  go_wp2_with fail
  go_ret
  exact ⟨K0, rfl, by omega, by rw [hms.out]; omega, k1.out⟩

end Go.Proofs.YteoepnadjkjlmaaGreat
namespace Go.Proofs.YteoepnadjkjlmaaGreat
open Go.ChangeShapes Go.WideShapes Go.ChangeAt Go.RowKit Go.Joins Go.Deep
set_option linter.unusedVariables false

theorem own : ownKnob Tryz.prog.godebug = none := by kernel_rfl
theorem laidOut : laidOutB Tryz.prog = true := by kernel_rfl
instance : Inhabited GV := ⟨⟨0, 0, ByteArray.empty⟩⟩
theorem cell_add {w : World} {a : Addr} {n : Nat} {v : Value} (hn : 0 < n) : w.cell? (a.add n) = some v → w.cell? ⟨a.block, a.off + n, none⟩ = some v := by
  intro h
  simpa [Addr.add, Nat.pos_iff_ne_zero.1 hn] using h
theorem cell_add0 {w : World} {a : Addr} {n : Nat} {v : Value} (h : w.cell? (a.add n) = some v) : w.cell? ⟨a.block, a.off + n, none⟩ = some v := by
  rcases Nat.eq_zero_or_pos n with rfl | hn
  · have hs := World.cell?_spot h
    obtain ⟨bk, off, sp⟩ := a
    simp [Addr.add] at h hs
    subst hs
    simpa using h
  · exact cell_add hn h
end Go.Proofs.YteoepnadjkjlmaaGreat
