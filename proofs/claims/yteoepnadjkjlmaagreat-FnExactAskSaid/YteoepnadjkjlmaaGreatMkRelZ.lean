/-
  laws.markValueSS, at arguments. laws.markRelS, at arguments.
-/
import Derived.Test.YteoepnadjkjlmaaGreatMkVsZ
import Derived.Test.YteoepnadjkjlmaaGreatSzValZ
namespace Go.Proofs.YteoepnadjkjlmaaGreat
open Go.RowKit Go.Sort
set_option linter.unusedVariables false

def ValueSSh (w : World) (lo B g o : Nat) (x : List GV) : Prop := (∃ A c, w.cell? ⟨g, o, none⟩ = some (.slice A x.length c) ∧ ValuesSh w lo B A x)
def ValueSsSh (w : World) (lo B : Nat) (A : Option Addr) (xs : List (List GV)) : Prop := xs = [] ∨ ∃ g o, A = some ⟨g, o, none⟩ ∧ lo ≤ g ∧ g < B ∧ ∀ i x, xs[i]? = some x → ValueSSh w lo B g (o + i) x
theorem ValueSSh.kk {w w' : World} {lo B g o : Nat} {x : List GV} (h : ValueSSh w lo B g o x) (b1 : lo ≤ g) (b2 : g < B) (k : KK w w' lo B) : ValueSSh w' lo B g o x := by
  have h0 := h
  exact (by obtain ⟨A, c, a1, a2⟩ := h0; exact ⟨A, c, k.sl _ _ _ _ _ b1 b2 a1, a2.kk k⟩)
theorem ValueSsSh.kk {w w' : World} {lo B : Nat} {A : Option Addr} {xs : List (List GV)} (h : ValueSsSh w lo B A xs) (k : KK w w' lo B) : ValueSsSh w' lo B A xs := by
  rcases h with h | ⟨g, o, hA, h1, h2, hc⟩
  · exact .inl h
  · exact .inr ⟨g, o, hA, h1, h2, fun i x hx => (hc i x hx).kk h1 h2 k⟩
theorem ValueSAt.sh {w : World} {lo B g o : Nat} {x : List GV} (h : ValueSAt w lo B g o x) : ValueSSh w lo B g o x := by
  have h0 := h
  exact (by obtain ⟨A, c, a1, a2⟩ := h0; exact ⟨A, c, a1.1, a2.sh⟩)
theorem ValueSsAt.sh {w : World} {lo B : Nat} {A : Option Addr} {xs : List (List GV)} (h : ValueSsAt w lo B A xs) : ValueSsSh w lo B A xs := by
  rcases h with h | ⟨g, o, hA, h1, h2, hc⟩
  · exact .inl h
  · exact .inr ⟨g, o, hA, h1, h2, fun i x hx => (hc i x hx).sh⟩
theorem ValueSsSh.at_ {w : World} {lo B : Nat} {A : Option Addr} {xs : List (List GV)} (h : ValueSsSh w lo B A xs) {i : Nat} (hi : i < xs.length) : ∃ g o, A = some ⟨g, o, none⟩ ∧ lo ≤ g ∧ g < B ∧ ValueSSh w lo B g (o + i) xs[i] := by
  rcases h with h | ⟨g, o, hA, h1, h2, hc⟩
  · subst h; simp at hi
  · exact ⟨g, o, hA, h1, h2, hc i _ (List.getElem?_eq_getElem hi)⟩
def mcValueS (x : List GV) : Nat := mcValues x
def mcValueSs (xs : List (List GV)) : Nat := sumC mcValueS xs
theorem mcValueS_le (x : List GV) : mcValueS x ≤ 6 + 6 * costValueS x := by
  have := mcValues_le x; unfold mcValueS costValueS; omega
theorem mcValueSs_le (xs : List (List GV)) : mcValueSs xs ≤ 6 * costValueSs xs := by
  unfold mcValueSs costValueSs sumC
  induction xs with
  | nil => simp
  | cons x xs ih =>
    have := mcValueS_le x
    simp only [List.map_cons, List.sum_cons, List.length_cons] at ih ⊢
    omega

set_option maxRecDepth 100000 in
set_option maxHeartbeats 3200000 in
theorem mark_ValueSs {lo B : Nat} (A : Option Addr) (c : Nat) (xs : List (List GV)) (k : Int) (w : World) (h : ValueSsSh w lo B A xs) (hu : UF w lo B) (hB : B ≤ w.heap.size) (hk : 1 ≤ k) (hk2 : k + mcValueSs xs ≤ 100000000) (hl : xs.length ≤ 1048576) (hsub : costValueSs xs ≤ 1048576) :
    Calls Tryz.prog 15 #[.slice A xs.length c, .int .i64 k] w (Marked w k (mcValueSs xs) lo B) := by
  have HS := Lib.hid h
  have HU := Lib.hid hu
  have HK := Lib.hid hk2
  have HC := Lib.hid hsub
  have hkb : k ≤ 100000000 := by omega
  clear h hu hk2 hsub
  go_enter Tryz.func15, Tryz.ntmps15
  go_wp2_with fail
  go_loopw [1, 5] (fun kk i w' => ∃ (j : Nat) (K : Int), j ≤ xs.length ∧ kk = .int .i64 K ∧ i = .int .i64 j ∧ k ≤ K ∧ K ≤ 100000000 ∧ Hid (K ≤ k + (sumC mcValueS (xs.take j) : Nat)) ∧ Hid (KK w w' lo B)) (fun _ i _ => xs.length - (intOf i).toNat)
  case atStart => exact ⟨0, k, Nat.zero_le _, rfl, rfl, Int.le_refl _, hkb, Lib.hid (by simp [sumC]), Lib.hid (KK.refl w lo B)⟩
  case round =>
    obtain ⟨j, K, hj, rfl, rfl, hK0, hK1, hK2, hKK⟩ := hrel
    by_cases hlt : j < xs.length
    · obtain ⟨g, o, rfl, hg1, hg2, hE⟩ := (HS.out.kk hKK.out).at_ hlt
      have HE := Lib.hid hE
      have HUw := Lib.hid (HU.out.kk hKK.out)
      have hst := Lib.hid (sumC_take mcValueS xs j hlt)
      have hle := Lib.hid (sumC_le mcValueS xs (j + 1))
      have hmc := Lib.hid (show mcValueSs xs = sumC mcValueS xs from rfl)
      have hi0 : (0 : Int) ≤ (j : Int) := by omega
      have hi1 : (j : Int) < (xs.length : Int) := by omega
      have hBw : B ≤ wr.heap.size := by have := hKK.out.size; omega
      have hKtot : K + ((mcValues xs[j] : Nat)) ≤ 100000000 := by
        have h1 := HK.out; have h2 := hK2.out; have h3 := hst.out; have h4 := hle.out; have h5 := hmc.out
        have h6 : ((mcValueS xs[j] : Nat) : Int) = (mcValues xs[j] : Nat) := by unfold mcValueS; omega
        omega
      have hcj : costValueS xs[j] ≤ 1048576 := by have h1 := HC.out; have h2 := sumC_mem costValueS xs _ (List.getElem_mem hlt); unfold costValueSs at h1; omega
      have hcs0 : costValues xs[j] ≤ 1048576 := by unfold costValueS at hcj; omega
      have hcl0 : xs[j].length ≤ 1048576 := by have h := hcs0; unfold costValues at h; omega
      clear hcj
      obtain ⟨A0_0, d0_0, c0_0, s0_0⟩ := HE.out
      have kn0 : KK wr wr lo B := KK.refl wr lo B
      have bz0 : B ≤ wr.heap.size := by have := kn0.size; omega
      have KN0 := Lib.hid kn0
      clear kn0
      go_wp2_with fail
      refine (mark_Values A0_0 d0_0 xs[j] _ _ (s0_0.kk KN0.out) ((HUw.out).kk KN0.out) bz0 (by omega) (by omega) hcl0 hcs0).mono ?_
      rintro e w0 ⟨K0, rfl, hk0_0, hk1_0, hkk0⟩
      have kw0 : KK wr w0 lo B := (KN0.out).trans hkk0
      have bw0 : B ≤ w0.heap.size := by have := kw0.size; omega
      have KW0 := Lib.hid kw0
      clear kw0 KN0 bz0 hkk0
      clear c0_0 s0_0
      obtain ⟨A0_1, d0_1, c0_1, s0_1⟩ := HE.out.kk hg1 hg2 KW0.out
      have kn : KK wr w0 lo B := (KW0.out).trans (KK.refl w0 lo B)
      have KN := Lib.hid (hKK.out.trans kn)
      clear kn
      have hKn := Lib.hid (show K0 ≤ k + (sumC mcValueS (xs.take (j + 1)) : Nat) by
        have h1 := hK2.out; have h3 := hst.out
        have h6 : ((mcValueS xs[j] : Nat) : Int) = (mcValues xs[j] : Nat) := by unfold mcValueS; omega
        omega)
      go_wp2_with fail
      go_roundw
      case rel => exact ⟨j + 1, _, by omega, rfl, by go_num, by omega, by omega, hKn, KN⟩
      case measure => simp [intOf]; omega
    · have hi1 : ¬ (j : Int) < (xs.length : Int) := by omega
      have hK3 := hK2.out
      rw [List.take_of_length_le (by omega)] at hK3
      have HK3 := Lib.hid hK3
      clear hK3
      go_wp2_with fail
      go_ret
      exact ⟨K, rfl, hK0, HK3.out, hKK.out⟩

end Go.Proofs.YteoepnadjkjlmaaGreat
namespace Go.Proofs.YteoepnadjkjlmaaGreat
open Go.RowKit Go.Sort
set_option linter.unusedVariables false

def RelSh (w : World) (lo B g o : Nat) (x : GRel) : Prop := (∃ t, w.cell? ⟨g, o, none⟩ = some (.string t)) ∧ (∃ A c, w.cell? ⟨g, o + 1, none⟩ = some (.slice A x.rows.length c) ∧ ValueSsSh w lo B A x.rows)
def RelsSh (w : World) (lo B : Nat) (A : Option Addr) (xs : List (GRel)) : Prop := xs = [] ∨ ∃ g o, A = some ⟨g, o, none⟩ ∧ lo ≤ g ∧ g < B ∧ ∀ i x, xs[i]? = some x → RelSh w lo B g (o + i * 2) x
theorem RelSh.kk {w w' : World} {lo B g o : Nat} {x : GRel} (h : RelSh w lo B g o x) (b1 : lo ≤ g) (b2 : g < B) (k : KK w w' lo B) : RelSh w' lo B g o x := by
  obtain ⟨h0, h1⟩ := h
  exact ⟨(by obtain ⟨z, a⟩ := h0; exact k.str _ _ z b1 b2 a), (by obtain ⟨A, c, a1, a2⟩ := h1; exact ⟨A, c, k.sl _ _ _ _ _ b1 b2 a1, a2.kk k⟩)⟩
theorem RelsSh.kk {w w' : World} {lo B : Nat} {A : Option Addr} {xs : List (GRel)} (h : RelsSh w lo B A xs) (k : KK w w' lo B) : RelsSh w' lo B A xs := by
  rcases h with h | ⟨g, o, hA, h1, h2, hc⟩
  · exact .inl h
  · exact .inr ⟨g, o, hA, h1, h2, fun i x hx => (hc i x hx).kk h1 h2 k⟩
theorem RelAt.sh {w : World} {lo B g o : Nat} {x : GRel} (h : RelAt w lo B g o x) : RelSh w lo B g o x := by
  obtain ⟨h0, h1⟩ := h
  exact ⟨⟨_, h0⟩, (by obtain ⟨A, c, a1, a2⟩ := h1; exact ⟨A, c, a1.1, a2.sh⟩)⟩
theorem RelsAt.sh {w : World} {lo B : Nat} {A : Option Addr} {xs : List (GRel)} (h : RelsAt w lo B A xs) : RelsSh w lo B A xs := by
  rcases h with h | ⟨g, o, hA, h1, h2, hc⟩
  · exact .inl h
  · exact .inr ⟨g, o, hA, h1, h2, fun i x hx => (hc i x hx).sh⟩
theorem RelsSh.at_ {w : World} {lo B : Nat} {A : Option Addr} {xs : List (GRel)} (h : RelsSh w lo B A xs) {i : Nat} (hi : i < xs.length) : ∃ g o, A = some ⟨g, o, none⟩ ∧ lo ≤ g ∧ g < B ∧ RelSh w lo B g (o + i * 2) xs[i] := by
  rcases h with h | ⟨g, o, hA, h1, h2, hc⟩
  · subst h; simp at hi
  · exact ⟨g, o, hA, h1, h2, hc i _ (List.getElem?_eq_getElem hi)⟩
def mcRel (x : GRel) : Nat := 1 + mcValueSs x.rows
def mcRels (xs : List (GRel)) : Nat := sumC mcRel xs
theorem mcRel_le (x : GRel) : mcRel x ≤ 6 + 6 * costRel x := by
  have := mcValueSs_le x.rows
  unfold mcRel costRel; omega
theorem mcRels_le (xs : List (GRel)) : mcRels xs ≤ 6 * costRels xs := by
  unfold mcRels costRels sumC
  induction xs with
  | nil => simp
  | cons x xs ih =>
    have := mcRel_le x
    simp only [List.map_cons, List.sum_cons, List.length_cons] at ih ⊢
    omega

set_option maxRecDepth 100000 in
set_option maxHeartbeats 3200000 in
theorem mark_Rels {lo B : Nat} (A : Option Addr) (c : Nat) (xs : List (GRel)) (k : Int) (w : World) (h : RelsSh w lo B A xs) (hu : UF w lo B) (hB : B ≤ w.heap.size) (hk : 1 ≤ k) (hk2 : k + mcRels xs ≤ 100000000) (hl : xs.length ≤ 1048576) (hsub : costRels xs ≤ 1048576) :
    Calls Tryz.prog 13 #[.slice A xs.length c, .int .i64 k] w (Marked w k (mcRels xs) lo B) := by
  have HS := Lib.hid h
  have HU := Lib.hid hu
  have HK := Lib.hid hk2
  have HC := Lib.hid hsub
  have hkb : k ≤ 100000000 := by omega
  clear h hu hk2 hsub
  go_enter Tryz.func13, Tryz.ntmps13
  go_wp2_with fail
  go_loopw [1, 5] (fun kk i w' => ∃ (j : Nat) (K : Int), j ≤ xs.length ∧ kk = .int .i64 K ∧ i = .int .i64 j ∧ k ≤ K ∧ K ≤ 100000000 ∧ Hid (K ≤ k + (sumC mcRel (xs.take j) : Nat)) ∧ Hid (KK w w' lo B)) (fun _ i _ => xs.length - (intOf i).toNat)
  case atStart => exact ⟨0, k, Nat.zero_le _, rfl, rfl, Int.le_refl _, hkb, Lib.hid (by simp [sumC]), Lib.hid (KK.refl w lo B)⟩
  case round =>
    obtain ⟨j, K, hj, rfl, rfl, hK0, hK1, hK2, hKK⟩ := hrel
    by_cases hlt : j < xs.length
    · obtain ⟨g, o, rfl, hg1, hg2, hE⟩ := (HS.out.kk hKK.out).at_ hlt
      have HE := Lib.hid hE
      have HUw := Lib.hid (HU.out.kk hKK.out)
      have hst := Lib.hid (sumC_take mcRel xs j hlt)
      have hle := Lib.hid (sumC_le mcRel xs (j + 1))
      have hmc := Lib.hid (show mcRels xs = sumC mcRel xs from rfl)
      have hi0 : (0 : Int) ≤ (j : Int) := by omega
      have hi1 : (j : Int) < (xs.length : Int) := by omega
      have hBw : B ≤ wr.heap.size := by have := hKK.out.size; omega
      have hKtot : K + (1 + (mcValueSs xs[j].rows : Nat)) ≤ 100000000 := by
        have h1 := HK.out; have h2 := hK2.out; have h3 := hst.out; have h4 := hle.out; have h5 := hmc.out
        have h6 : ((mcRel xs[j] : Nat) : Int) = 1 + (mcValueSs xs[j].rows : Nat) := by unfold mcRel; omega
        omega
      have hcj : costRel xs[j] ≤ 1048576 := by have h1 := HC.out; have h2 := sumC_mem costRel xs _ (List.getElem_mem hlt); unfold costRels at h1; omega
      have hcs1 : costValueSs xs[j].rows ≤ 1048576 := by unfold costRel at hcj; omega
      have hcl1 : xs[j].rows.length ≤ 1048576 := by have h := hcs1; unfold costValueSs at h; omega
      clear hcj
      obtain ⟨⟨z0_0, c0_0⟩, ⟨A1_0, d1_0, c1_0, s1_0⟩⟩ := HE.out
      have f0_0 : wr.frozen? ⟨g, o + j * 2, none⟩ = false := (HUw.out) g hg1 hg2 (o + j * 2)
      have kn0 : KK wr wr lo B := KK.refl wr lo B
      have bz0 : B ≤ wr.heap.size := by have := kn0.size; omega
      have KN0 := Lib.hid kn0
      clear kn0
      go_wp2_with fail
      refine (mark_any _ _ (by omega) (by omega)).mono ?_
      rintro e w0 ⟨T0, rfl, hb0⟩
      have kw0 : KK wr w0 lo B := (KN0.out).trans (KK.below hb0 bz0)
      have bw0 : B ≤ w0.heap.size := by have := kw0.size; omega
      have KW0 := Lib.hid kw0
      clear kw0 KN0 bz0 hb0
      clear c0_0 c1_0 s1_0 f0_0
      obtain ⟨⟨z0_1, c0_1⟩, ⟨A1_1, d1_1, c1_1, s1_1⟩⟩ := HE.out.kk hg1 hg2 KW0.out
      have f0_1 : w0.frozen? ⟨g, o + j * 2, none⟩ = false := (HUw.out.kk KW0.out) g hg1 hg2 (o + j * 2)
      have kn1 : KK w0 (w0.setCell ⟨g, o + j * 2, none⟩ (.string T0)) lo B := (KK.refl w0 lo B).trans (KK.setStr hg1 hg2 (show w0.cell? ⟨g, o + j * 2, none⟩ = some _ from c0_1) _)
      have bz1 : B ≤ (w0.setCell ⟨g, o + j * 2, none⟩ (.string T0)).heap.size := by have := kn1.size; omega
      have KN1 := Lib.hid kn1
      clear kn1
      go_wp2_with fail
      refine (mark_ValueSs A1_1 d1_1 xs[j].rows _ _ (s1_1.kk KN1.out) ((HUw.out.kk KW0.out).kk KN1.out) bz1 (by omega) (by omega) hcl1 hcs1).mono ?_
      rintro e w1 ⟨K1, rfl, hk0_1, hk1_1, hkk1⟩
      have kw1 : KK wr w1 lo B := (KW0.out).trans ((KN1.out).trans hkk1)
      have bw1 : B ≤ w1.heap.size := by have := kw1.size; omega
      have KW1 := Lib.hid kw1
      clear kw1 KN1 bz1 hkk1
      clear c0_1 c1_1 s1_1 f0_1
      obtain ⟨⟨z0_2, c0_2⟩, ⟨A1_2, d1_2, c1_2, s1_2⟩⟩ := HE.out.kk hg1 hg2 KW1.out
      have f0_2 : w1.frozen? ⟨g, o + j * 2, none⟩ = false := (HUw.out.kk KW1.out) g hg1 hg2 (o + j * 2)
      have kn : KK wr w1 lo B := (KW1.out).trans (KK.refl w1 lo B)
      have KN := Lib.hid (hKK.out.trans kn)
      clear kn
      have hKn := Lib.hid (show K1 ≤ k + (sumC mcRel (xs.take (j + 1)) : Nat) by
        have h1 := hK2.out; have h3 := hst.out
        have h6 : ((mcRel xs[j] : Nat) : Int) = 1 + (mcValueSs xs[j].rows : Nat) := by unfold mcRel; omega
        omega)
      go_wp2_with fail
      go_roundw
      case rel => exact ⟨j + 1, _, by omega, rfl, by go_num, by omega, by omega, hKn, KN⟩
      case measure => simp [intOf]; omega
    · have hi1 : ¬ (j : Int) < (xs.length : Int) := by omega
      have hK3 := hK2.out
      rw [List.take_of_length_le (by omega)] at hK3
      have HK3 := Lib.hid hK3
      clear hK3
      go_wp2_with fail
      go_ret
      exact ⟨K, rfl, hK0, HK3.out, hKK.out⟩

end Go.Proofs.YteoepnadjkjlmaaGreat
