/-
  What the laws' marking of an argument keeps: numbers stay numbers, texts stay texts, slices stay as they are, and all other blocks. laws.markValueS, at arguments.
-/
import Derived.Test.YteoepnadjkjlmaaGreatTyZ
import Derived.Test.YteoepnadjkjlmaaGreatMarkZ
import Derived.Test.YteoepnadjkjlmaaGreatRowStZ
namespace Go.Proofs.YteoepnadjkjlmaaGreat
open Go.RowKit Go.Sort
set_option linter.unusedVariables false

structure KK (w w' : World) (lo B : Nat) : Prop where
  os : w'.os = w.os
  tape : w'.tape = w.tape
  output : w'.output = w.output
  size : w.heap.size ≤ w'.heap.size
  out : ∀ b, b < w.heap.size → (b < lo ∨ B ≤ b) → w'.heap[b]? = w.heap[b]?
  int : ∀ b o z, lo ≤ b → b < B → w.cell? ⟨b, o, none⟩ = some (.int .i64 z) → ∃ z', w'.cell? ⟨b, o, none⟩ = some (.int .i64 z')
  str : ∀ b o t, lo ≤ b → b < B → w.cell? ⟨b, o, none⟩ = some (.string t) → ∃ t', w'.cell? ⟨b, o, none⟩ = some (.string t')
  sl : ∀ b o A n c, lo ≤ b → b < B → w.cell? ⟨b, o, none⟩ = some (.slice A n c) → w'.cell? ⟨b, o, none⟩ = some (.slice A n c)
  fr : ∀ b o, lo ≤ b → b < B → w'.frozen? ⟨b, o, none⟩ = w.frozen? ⟨b, o, none⟩
theorem KK.refl (w : World) (lo B : Nat) : KK w w lo B :=
  ⟨rfl, rfl, rfl, Nat.le_refl _, fun _ _ _ => rfl, fun _ _ z _ _ h => ⟨z, h⟩, fun _ _ t _ _ h => ⟨t, h⟩, fun _ _ _ _ _ _ _ h => h, fun _ _ _ _ => rfl⟩
theorem KK.trans {a b c : World} {lo B : Nat} (h : KK a b lo B) (k : KK b c lo B) : KK a c lo B :=
  ⟨k.os.trans h.os, k.tape.trans h.tape, k.output.trans h.output, Nat.le_trans h.size k.size, fun i hi ho => (k.out i (Nat.lt_of_lt_of_le hi h.size) ho).trans (h.out i hi ho),
   fun i o z h1 h2 hc => by obtain ⟨z', hz⟩ := h.int i o z h1 h2 hc; exact k.int i o z' h1 h2 hz,
   fun i o z h1 h2 hc => by obtain ⟨z', hz⟩ := h.str i o z h1 h2 hc; exact k.str i o z' h1 h2 hz,
   fun i o A n c h1 h2 hc => k.sl i o A n c h1 h2 (h.sl i o A n c h1 h2 hc), fun i o h1 h2 => (k.fr i o h1 h2).trans (h.fr i o h1 h2)⟩
theorem KK.below {w w' : World} {lo B : Nat} (h : Below w.heap.size w w') (hB : B ≤ w.heap.size) : KK w w' lo B :=
  ⟨h.os, h.tape, h.output, h.size, fun b hb _ => h.block b hb,
   fun b o z _ h2 hc => ⟨z, (h.cell (p := ⟨b, o, none⟩) (by show b < w.heap.size; omega)).trans hc⟩, fun b o z _ h2 hc => ⟨z, (h.cell (p := ⟨b, o, none⟩) (by show b < w.heap.size; omega)).trans hc⟩,
   fun b o A n c _ h2 hc => (h.cell (p := ⟨b, o, none⟩) (by show b < w.heap.size; omega)).trans hc, fun b o _ h2 => h.frozen (p := ⟨b, o, none⟩) (by show b < w.heap.size; omega)⟩
theorem kk_set {w : World} {lo B b o : Nat} {u v : Value} (h1 : lo ≤ b) (h2 : b < B) (hu : w.cell? ⟨b, o, none⟩ = some u)
    (hi : ∀ z, u = .int .i64 z → ∃ z', v = .int .i64 z') (ht : ∀ t, u = .string t → ∃ t', v = .string t') (hs : ∀ A n c, u ≠ .slice A n c) : KK w (w.setCell ⟨b, o, none⟩ v) lo B := by
  have hself : (w.setCell ⟨b, o, none⟩ v).cell? ⟨b, o, none⟩ = some v := World.cell?_setCell_same _ _ _ hu
  have hoth : ∀ b' o', ¬ (b' = b ∧ o' = o) → (w.setCell ⟨b, o, none⟩ v).cell? ⟨b', o', none⟩ = w.cell? ⟨b', o', none⟩ := fun b' o' hne => World.cell?_setCell_other _ _ _ _ (by intro e; simp only [Addr.mk.injEq] at e; exact hne ⟨e.1.symm, e.2.1.symm⟩)
  refine ⟨rfl, rfl, rfl, by simp [World.setCell], fun k hk hk2 => Below.heap_setCell w ⟨b, o, none⟩ v k (by show k ≠ b; omega), ?_, ?_, ?_, fun b' o' _ _ => by rw [World.frozen?_setCell]⟩
  · intro b' o' z _ _ hc
    by_cases e : b' = b ∧ o' = o
    · obtain ⟨rfl, rfl⟩ := e
      rw [hu] at hc; injection hc with hc
      obtain ⟨z', rfl⟩ := hi z hc
      exact ⟨z', hself⟩
    · exact ⟨z, (hoth b' o' e).trans hc⟩
  · intro b' o' z _ _ hc
    by_cases e : b' = b ∧ o' = o
    · obtain ⟨rfl, rfl⟩ := e
      rw [hu] at hc; injection hc with hc
      obtain ⟨z', rfl⟩ := ht z hc
      exact ⟨z', hself⟩
    · exact ⟨z, (hoth b' o' e).trans hc⟩
  · intro b' o' A n c _ _ hc
    by_cases e : b' = b ∧ o' = o
    · obtain ⟨rfl, rfl⟩ := e
      rw [hu] at hc; injection hc with hc
      exact absurd hc (hs A n c)
    · exact (hoth b' o' e).trans hc
theorem KK.setInt {w : World} {lo B b o : Nat} {z : Int} (h1 : lo ≤ b) (h2 : b < B) (hu : w.cell? ⟨b, o, none⟩ = some (.int .i64 z)) (z' : Int) : KK w (w.setCell ⟨b, o, none⟩ (.int .i64 z')) lo B :=
  kk_set h1 h2 hu (fun _ _ => ⟨z', rfl⟩) (fun _ e => by cases e) (fun _ _ _ e => by cases e)
theorem KK.setStr {w : World} {lo B b o : Nat} {z : ByteArray} (h1 : lo ≤ b) (h2 : b < B) (hu : w.cell? ⟨b, o, none⟩ = some (.string z)) (z' : ByteArray) : KK w (w.setCell ⟨b, o, none⟩ (.string z')) lo B :=
  kk_set h1 h2 hu (fun _ e => by cases e) (fun _ _ => ⟨z', rfl⟩) (fun _ _ _ e => by cases e)
theorem UF.kk {w w' : World} {lo B : Nat} (h : UF w lo B) (k : KK w w' lo B) : UF w' lo B := fun b h1 h2 o => (k.fr b o h1 h2).trans (h b h1 h2 o)
theorem mark_any (z : Int) (w : World) (h0 : 1 ≤ z) (h1 : z ≤ 1000000000) :
    Calls Tryz.prog 36 #[.int .i64 z] w fun e w' => ∃ T : ByteArray, e = .returned (.string T) ∧ Below w.heap.size w w' := by
  obtain ⟨n, rfl⟩ := Int.eq_ofNat_of_zero_le (show 0 ≤ z by omega)
  exact (mark_text n w (by omega) (by omega)).mono fun e w' ⟨he, hb⟩ => ⟨_, he, hb⟩
/-- What marking leaves. -/
def Marked (w : World) (k m : Int) (lo B : Nat) (e : Ending) (w' : World) : Prop := ∃ K : Int, e = .returned (.int .i64 K) ∧ k ≤ K ∧ K ≤ k + m ∧ KK w w' lo B
end Go.Proofs.YteoepnadjkjlmaaGreat
namespace Go.Proofs.YteoepnadjkjlmaaGreat
open Go.RowKit Go.Sort
set_option linter.unusedVariables false

def ValueSh (w : World) (lo B g o : Nat) (x : GV) : Prop := (∃ z, w.cell? ⟨g, o, none⟩ = some (.int .i64 z)) ∧ (∃ z, w.cell? ⟨g, o + 1, none⟩ = some (.int .i64 z)) ∧ (∃ t, w.cell? ⟨g, o + 2, none⟩ = some (.string t))
def ValuesSh (w : World) (lo B : Nat) (A : Option Addr) (xs : List (GV)) : Prop := xs = [] ∨ ∃ g o, A = some ⟨g, o, none⟩ ∧ lo ≤ g ∧ g < B ∧ ∀ i x, xs[i]? = some x → ValueSh w lo B g (o + i * 3) x
theorem ValueSh.kk {w w' : World} {lo B g o : Nat} {x : GV} (h : ValueSh w lo B g o x) (b1 : lo ≤ g) (b2 : g < B) (k : KK w w' lo B) : ValueSh w' lo B g o x := by
  obtain ⟨h0, h1, h2⟩ := h
  exact ⟨(by obtain ⟨z, a⟩ := h0; exact k.int _ _ z b1 b2 a), (by obtain ⟨z, a⟩ := h1; exact k.int _ _ z b1 b2 a), (by obtain ⟨z, a⟩ := h2; exact k.str _ _ z b1 b2 a)⟩
theorem ValuesSh.kk {w w' : World} {lo B : Nat} {A : Option Addr} {xs : List (GV)} (h : ValuesSh w lo B A xs) (k : KK w w' lo B) : ValuesSh w' lo B A xs := by
  rcases h with h | ⟨g, o, hA, h1, h2, hc⟩
  · exact .inl h
  · exact .inr ⟨g, o, hA, h1, h2, fun i x hx => (hc i x hx).kk h1 h2 k⟩
theorem ValueAt.sh {w : World} {lo B g o : Nat} {x : GV} (h : ValueAt w lo B g o x) : ValueSh w lo B g o x := by
  obtain ⟨h0, h1, h2⟩ := h
  exact ⟨⟨_, h0⟩, ⟨_, h1⟩, ⟨_, h2⟩⟩
theorem ValuesAt.sh {w : World} {lo B : Nat} {A : Option Addr} {xs : List (GV)} (h : ValuesAt w lo B A xs) : ValuesSh w lo B A xs := by
  rcases h with h | ⟨g, o, hA, h1, h2, hc⟩
  · exact .inl h
  · exact .inr ⟨g, o, hA, h1, h2, fun i x hx => (hc i x hx).sh⟩
theorem ValuesSh.at_ {w : World} {lo B : Nat} {A : Option Addr} {xs : List (GV)} (h : ValuesSh w lo B A xs) {i : Nat} (hi : i < xs.length) : ∃ g o, A = some ⟨g, o, none⟩ ∧ lo ≤ g ∧ g < B ∧ ValueSh w lo B g (o + i * 3) xs[i] := by
  rcases h with h | ⟨g, o, hA, h1, h2, hc⟩
  · subst h; simp at hi
  · exact ⟨g, o, hA, h1, h2, hc i _ (List.getElem?_eq_getElem hi)⟩
def mcValue (x : GV) : Nat := 3
def mcValues (xs : List (GV)) : Nat := sumC mcValue xs
theorem mcValue_le (x : GV) : mcValue x ≤ 6 + 6 * costValue x := by
  unfold mcValue costValue; omega
theorem mcValues_le (xs : List (GV)) : mcValues xs ≤ 6 * costValues xs := by
  unfold mcValues costValues sumC
  induction xs with
  | nil => simp
  | cons x xs ih =>
    have := mcValue_le x
    simp only [List.map_cons, List.sum_cons, List.length_cons] at ih ⊢
    omega

set_option maxRecDepth 100000 in
set_option maxHeartbeats 3200000 in
theorem mark_Values {lo B : Nat} (A : Option Addr) (c : Nat) (xs : List (GV)) (k : Int) (w : World) (h : ValuesSh w lo B A xs) (hu : UF w lo B) (hB : B ≤ w.heap.size) (hk : 1 ≤ k) (hk2 : k + mcValues xs ≤ 100000000) (hl : xs.length ≤ 1048576) (hsub : costValues xs ≤ 1048576) :
    Calls Tryz.prog 38 #[.slice A xs.length c, .int .i64 k] w (Marked w k (mcValues xs) lo B) := by
  have HS := Lib.hid h
  have HU := Lib.hid hu
  have HK := Lib.hid hk2
  have HC := Lib.hid hsub
  have hkb : k ≤ 100000000 := by omega
  clear h hu hk2 hsub
  go_enter Tryz.func38, Tryz.ntmps38
  go_wp2_with fail
  go_loopw [1, 5] (fun kk i w' => ∃ (j : Nat) (K : Int), j ≤ xs.length ∧ kk = .int .i64 K ∧ i = .int .i64 j ∧ k ≤ K ∧ K ≤ 100000000 ∧ Hid (K ≤ k + (sumC mcValue (xs.take j) : Nat)) ∧ Hid (KK w w' lo B)) (fun _ i _ => xs.length - (intOf i).toNat)
  case atStart => exact ⟨0, k, Nat.zero_le _, rfl, rfl, Int.le_refl _, hkb, Lib.hid (by simp [sumC]), Lib.hid (KK.refl w lo B)⟩
  case round =>
    obtain ⟨j, K, hj, rfl, rfl, hK0, hK1, hK2, hKK⟩ := hrel
    by_cases hlt : j < xs.length
    · obtain ⟨g, o, rfl, hg1, hg2, hE⟩ := (HS.out.kk hKK.out).at_ hlt
      have HE := Lib.hid hE
      have HUw := Lib.hid (HU.out.kk hKK.out)
      have hst := Lib.hid (sumC_take mcValue xs j hlt)
      have hle := Lib.hid (sumC_le mcValue xs (j + 1))
      have hmc := Lib.hid (show mcValues xs = sumC mcValue xs from rfl)
      have hi0 : (0 : Int) ≤ (j : Int) := by omega
      have hi1 : (j : Int) < (xs.length : Int) := by omega
      have hBw : B ≤ wr.heap.size := by have := hKK.out.size; omega
      have hKtot : K + (3) ≤ 100000000 := by
        have h1 := HK.out; have h2 := hK2.out; have h3 := hst.out; have h4 := hle.out; have h5 := hmc.out
        have h6 : ((mcValue xs[j] : Nat) : Int) = 3 := by unfold mcValue; omega
        omega
      obtain ⟨⟨z0_0, c0_0⟩, ⟨z1_0, c1_0⟩, ⟨z2_0, c2_0⟩⟩ := HE.out
      have f0_0 : wr.frozen? ⟨g, o + j * 3, none⟩ = false := (HUw.out) g hg1 hg2 (o + j * 3)
      have f1_0 : wr.frozen? ⟨g, o + j * 3 + 1, none⟩ = false := (HUw.out) g hg1 hg2 (o + j * 3 + 1)
      have f2_0 : wr.frozen? ⟨g, o + j * 3 + 2, none⟩ = false := (HUw.out) g hg1 hg2 (o + j * 3 + 2)
      have kn0 : KK wr ((wr.setCell ⟨g, o + j * 3, none⟩ (.int .i64 (K))).setCell ⟨g, o + j * 3 + 1, none⟩ (.int .i64 (K + 1))) lo B := ((KK.refl wr lo B).trans (KK.setInt hg1 hg2 (show wr.cell? ⟨g, o + j * 3, none⟩ = some _ from c0_0) _)).trans (KK.setInt hg1 hg2 (show (wr.setCell ⟨g, o + j * 3, none⟩ (.int .i64 (K))).cell? ⟨g, o + j * 3 + 1, none⟩ = some _ from (World.cell?_setCell_other _ _ _ _ (by intro e; simp only [Addr.mk.injEq] at e; omega)).trans (c1_0)) _)
      have bz0 : B ≤ ((wr.setCell ⟨g, o + j * 3, none⟩ (.int .i64 (K))).setCell ⟨g, o + j * 3 + 1, none⟩ (.int .i64 (K + 1))).heap.size := by have := kn0.size; omega
      have KN0 := Lib.hid kn0
      clear kn0
      go_wp2_with fail
      refine (mark_any _ _ (by omega) (by omega)).mono ?_
      rintro e w0 ⟨T0, rfl, hb0⟩
      have kw0 : KK wr w0 lo B := (KN0.out).trans (KK.below hb0 bz0)
      have bw0 : B ≤ w0.heap.size := by have := kw0.size; omega
      have KW0 := Lib.hid kw0
      clear kw0 KN0 bz0 hb0
      clear c0_0 c1_0 c2_0 f0_0 f1_0 f2_0
      obtain ⟨⟨z0_1, c0_1⟩, ⟨z1_1, c1_1⟩, ⟨z2_1, c2_1⟩⟩ := HE.out.kk hg1 hg2 KW0.out
      have f0_1 : w0.frozen? ⟨g, o + j * 3, none⟩ = false := (HUw.out.kk KW0.out) g hg1 hg2 (o + j * 3)
      have f1_1 : w0.frozen? ⟨g, o + j * 3 + 1, none⟩ = false := (HUw.out.kk KW0.out) g hg1 hg2 (o + j * 3 + 1)
      have f2_1 : w0.frozen? ⟨g, o + j * 3 + 2, none⟩ = false := (HUw.out.kk KW0.out) g hg1 hg2 (o + j * 3 + 2)
      have kn : KK wr (w0.setCell ⟨g, o + j * 3 + 2, none⟩ (.string T0)) lo B := (KW0.out).trans ((KK.refl w0 lo B).trans (KK.setStr hg1 hg2 (show w0.cell? ⟨g, o + j * 3 + 2, none⟩ = some _ from c2_1) _))
      have KN := Lib.hid (hKK.out.trans kn)
      clear kn
      have hKn := Lib.hid (show K + 1 + 1 + 1 ≤ k + (sumC mcValue (xs.take (j + 1)) : Nat) by
        have h1 := hK2.out; have h3 := hst.out
        have h6 : ((mcValue xs[j] : Nat) : Int) = 3 := by unfold mcValue; omega
        omega)
      go_wp2_with fail
      go_roundw
      case rel => exact ⟨j + 1, _, by omega, rfl, by go_num, by omega, by omega, hKn, KN⟩
      case measure => simp [intOf]; omega
    · have hi1 : ¬ (j : Int) < (xs.length : Int) := by omega
      have hK3 := hK2.out
      rw [List.take_of_length_le (by omega)] at hK3
      have HK3 := Lib.hid hK3
      clear hK3
      go_wp2_with fail
      go_ret
      exact ⟨K, rfl, hK0, HK3.out, hKK.out⟩

end Go.Proofs.YteoepnadjkjlmaaGreat
