/-
  laws.markValueSS, at arguments. Small words for how arguments read. How values read.
-/
import Derived.Test.YtggkggaihfcjmaaMkDiff
import Derived.Test.YtggkggaihfcjmaaSzTabZ
import Derived.Test.YtggkggaihfcjmaaWholeZ
import Derived.OpenShut
import Derived.Lib.SmallJoins
import Derived.ChangeOld
import Derived.Test.YtggkggaihfcjmaaTyDiffZ
namespace Go.Proofs.Ytggkggaihfcjmaa
open Go.RowKit Go.Sort
set_option linter.unusedVariables false

def ValueSSh (w : World) (lo B g o : Nat) (x : List GV) : Prop := (∃ A c, w.cell? ⟨g, o, none⟩ = some (.slice A x.length c) ∧ ValuesSh w lo B A x)
def ValueSsSh (w : World) (lo B : Nat) (A : Option Addr) (xs : List (List GV)) : Prop := xs = [] ∨ ∃ g o, A = some ⟨g, o, none⟩ ∧ lo ≤ g ∧ g < B ∧ ∀ i x, xs[i]? = some x → ValueSSh w lo B g (o + i) x
theorem ValueSSh.kk {w w' : World} {lo B g o : Nat} {x : List GV} (h : ValueSSh w lo B g o x) (b1 : lo ≤ g) (b2 : g < B) (k : KK w w' lo B) : ValueSSh w' lo B g o x := by
  have h0 := h
  exact (by obtain ⟨A, c, a1, a2⟩ := h0; exact ⟨A, c, k.sl _ _ _ _ _ b1 b2 a1, a2.kk k⟩)
theorem ValueSsSh.kk {w w' : World} {lo B : Nat} {A : Option Addr} {xs : List (List GV)} (h : ValueSsSh w lo B A xs) (k : KK w w' lo B) : ValueSsSh w' lo B A xs := by
  rcases h with h | ⟨g, o, hA, h1, h2, hc⟩
  · exact .inl h
  · exact .inr ⟨g, o, hA, h1, h2, fun i x hx => (hc i x hx).kk h1 h2 k⟩
theorem ValueSAt.sh {w : World} {lo B g o : Nat} {x : List GV} (h : ValueSAt w lo B g o x) : ValueSSh w lo B g o x := by
  have h0 := h
  exact (by obtain ⟨A, c, a1, a2⟩ := h0; exact ⟨A, c, a1.1, a2.sh⟩)
theorem ValueSsAt.sh {w : World} {lo B : Nat} {A : Option Addr} {xs : List (List GV)} (h : ValueSsAt w lo B A xs) : ValueSsSh w lo B A xs := by
  rcases h with h | ⟨g, o, hA, h1, h2, hc⟩
  · exact .inl h
  · exact .inr ⟨g, o, hA, h1, h2, fun i x hx => (hc i x hx).sh⟩
theorem ValueSsSh.at_ {w : World} {lo B : Nat} {A : Option Addr} {xs : List (List GV)} (h : ValueSsSh w lo B A xs) {i : Nat} (hi : i < xs.length) : ∃ g o, A = some ⟨g, o, none⟩ ∧ lo ≤ g ∧ g < B ∧ ValueSSh w lo B g (o + i) xs[i] := by
  rcases h with h | ⟨g, o, hA, h1, h2, hc⟩
  · subst h; simp at hi
  · exact ⟨g, o, hA, h1, h2, hc i _ (List.getElem?_eq_getElem hi)⟩
def mcValueS (x : List GV) : Nat := mcValues x
def mcValueSs (xs : List (List GV)) : Nat := sumC mcValueS xs
theorem mcValueS_le (x : List GV) : mcValueS x ≤ 6 + 6 * costValueS x := by
  have := mcValues_le x; unfold mcValueS costValueS; omega
theorem mcValueSs_le (xs : List (List GV)) : mcValueSs xs ≤ 6 * costValueSs xs := by
  unfold mcValueSs costValueSs sumC
  induction xs with
  | nil => simp
  | cons x xs ih =>
    have := mcValueS_le x
    simp only [List.map_cons, List.sum_cons, List.length_cons] at ih ⊢
    omega

set_option maxRecDepth 100000 in
set_option maxHeartbeats 3200000 in
theorem mark_ValueSs {lo B : Nat} (A : Option Addr) (c : Nat) (xs : List (List GV)) (k : Int) (w : World) (h : ValueSsSh w lo B A xs) (hu : UF w lo B) (hB : B ≤ w.heap.size) (hk : 1 ≤ k) (hk2 : k + mcValueSs xs ≤ 100000000) (hl : xs.length ≤ 1048576) (hsub : costValueSs xs ≤ 1048576) :
    Calls Try.prog 23 #[.slice A xs.length c, .int .i64 k] w (Marked w k (mcValueSs xs) lo B) := by
  have HS := Lib.hid h
  have HU := Lib.hid hu
  have HK := Lib.hid hk2
  have HC := Lib.hid hsub
  have hkb : k ≤ 100000000 := by omega
  clear h hu hk2 hsub
  go_enter Try.func23, Try.ntmps23
  go_wp2_with fail
  go_loopw [1, 5] (fun kk i w' => ∃ (j : Nat) (K : Int), j ≤ xs.length ∧ kk = .int .i64 K ∧ i = .int .i64 j ∧ k ≤ K ∧ K ≤ 100000000 ∧ Hid (K ≤ k + (sumC mcValueS (xs.take j) : Nat)) ∧ Hid (KK w w' lo B)) (fun _ i _ => xs.length - (intOf i).toNat)
  case atStart => exact ⟨0, k, Nat.zero_le _, rfl, rfl, Int.le_refl _, hkb, Lib.hid (by simp [sumC]), Lib.hid (KK.refl w lo B)⟩
  case round =>
    obtain ⟨j, K, hj, rfl, rfl, hK0, hK1, hK2, hKK⟩ := hrel
    by_cases hlt : j < xs.length
    · obtain ⟨g, o, rfl, hg1, hg2, hE⟩ := (HS.out.kk hKK.out).at_ hlt
      have HE := Lib.hid hE
      have HUw := Lib.hid (HU.out.kk hKK.out)
      have hst := Lib.hid (sumC_take mcValueS xs j hlt)
      have hle := Lib.hid (sumC_le mcValueS xs (j + 1))
      have hmc := Lib.hid (show mcValueSs xs = sumC mcValueS xs from rfl)
      have hi0 : (0 : Int) ≤ (j : Int) := by omega
      have hi1 : (j : Int) < (xs.length : Int) := by omega
      have hBw : B ≤ wr.heap.size := by have := hKK.out.size; omega
      have hKtot : K + ((mcValues xs[j] : Nat)) ≤ 100000000 := by
        have h1 := HK.out; have h2 := hK2.out; have h3 := hst.out; have h4 := hle.out; have h5 := hmc.out
        have h6 : ((mcValueS xs[j] : Nat) : Int) = (mcValues xs[j] : Nat) := by unfold mcValueS; omega
        omega
      have hcj : costValueS xs[j] ≤ 1048576 := by have h1 := HC.out; have h2 := sumC_mem costValueS xs _ (List.getElem_mem hlt); unfold costValueSs at h1; omega
      have hcs0 : costValues xs[j] ≤ 1048576 := by unfold costValueS at hcj; omega
      have hcl0 : xs[j].length ≤ 1048576 := by have h := hcs0; unfold costValues at h; omega
      clear hcj
      obtain ⟨A0_0, d0_0, c0_0, s0_0⟩ := HE.out
      have kn0 : KK wr wr lo B := KK.refl wr lo B
      have bz0 : B ≤ wr.heap.size := by have := kn0.size; omega
      have KN0 := Lib.hid kn0
      clear kn0
      go_wp2_with fail
      refine (mark_Values A0_0 d0_0 xs[j] _ _ (s0_0.kk KN0.out) ((HUw.out).kk KN0.out) bz0 (by omega) (by omega) hcl0 hcs0).mono ?_
      rintro e w0 ⟨K0, rfl, hk0_0, hk1_0, hkk0⟩
      have kw0 : KK wr w0 lo B := (KN0.out).trans hkk0
      have bw0 : B ≤ w0.heap.size := by have := kw0.size; omega
      have KW0 := Lib.hid kw0
      clear kw0 KN0 bz0 hkk0
      clear c0_0 s0_0
      obtain ⟨A0_1, d0_1, c0_1, s0_1⟩ := HE.out.kk hg1 hg2 KW0.out
      have kn : KK wr w0 lo B := (KW0.out).trans (KK.refl w0 lo B)
      have KN := Lib.hid (hKK.out.trans kn)
      clear kn
      have hKn := Lib.hid (show K0 ≤ k + (sumC mcValueS (xs.take (j + 1)) : Nat) by
        have h1 := hK2.out; have h3 := hst.out
        have h6 : ((mcValueS xs[j] : Nat) : Int) = (mcValues xs[j] : Nat) := by unfold mcValueS; omega
        omega)
      go_wp2_with fail
      go_roundw
      case rel => exact ⟨j + 1, _, by omega, rfl, by go_num, by omega, by omega, hKn, KN⟩
      case measure => simp [intOf]; omega
    · have hi1 : ¬ (j : Int) < (xs.length : Int) := by omega
      have hK3 := hK2.out
      rw [List.take_of_length_le (by omega)] at hK3
      have HK3 := Lib.hid hK3
      clear hK3
      go_wp2_with fail
      go_ret
      exact ⟨K, rfl, hK0, HK3.out, hKK.out⟩

end Go.Proofs.Ytggkggaihfcjmaa
namespace Go.Proofs.Ytggkggaihfcjmaa
open Go.ChangeShapes Go.WideShapes Go.ChangeAt Go.RowKit Go.Joins Go.Deep
set_option linter.unusedVariables false

theorem own : ownKnob Try.prog.godebug = none := by kernel_rfl
theorem laidOut : laidOutB Try.prog = true := by kernel_rfl
instance : Inhabited GV := ⟨⟨0, 0, ByteArray.empty⟩⟩
theorem cell_add {w : World} {a : Addr} {n : Nat} {v : Value} (hn : 0 < n) : w.cell? (a.add n) = some v → w.cell? ⟨a.block, a.off + n, none⟩ = some v := by
  intro h
  simpa [Addr.add, Nat.pos_iff_ne_zero.1 hn] using h
theorem cell_add0 {w : World} {a : Addr} {n : Nat} {v : Value} (h : w.cell? (a.add n) = some v) : w.cell? ⟨a.block, a.off + n, none⟩ = some v := by
  rcases Nat.eq_zero_or_pos n with rfl | hn
  · have hs := World.cell?_spot h
    obtain ⟨bk, off, sp⟩ := a
    simp [Addr.add] at h hs
    subst hs
    simpa using h
  · exact cell_add hn h
end Go.Proofs.Ytggkggaihfcjmaa
namespace Go.Proofs.Ytggkggaihfcjmaa
open Go.ChangeShapes Go.WideShapes Go.ChangeAt Go.RowKit Go.Joins Go.Deep
set_option linter.unusedVariables false

theorem trod_part {H : Type} {enc : TypeId × Value → H} {P : Program} {W : World} {b : Nat} {spare : Nat → Bool} {held : Bool} {t : TypeId} {fs : Array Field} {fuel : Nat} {cs : List Value} {x : DataW H × List MemPlace} (ht : P.underlying t = some (.struct fs)) (h : DataW.trod enc P W b spare held fuel t cs = some x) (i : Nat) (f : Field) (hi : fs[i]? = some f) :
    ∃ n y, DataW.trod enc P W b spare held n f.type ((cs.drop f.offset).take (P.cellsOf f.type)) = some y := by
  obtain ⟨xs, n, _, _, hl, hlen, hf⟩ := DataW.trod_struct ht h
  have h1 := hf i f hi
  have h2 : i < xs.length := by rw [hlen]; exact (Array.getElem?_eq_some_iff.1 hi).1
  rw [List.getElem?_eq_getElem h2] at h1
  exact ⟨n, _, h1⟩
theorem cells_Value : Try.prog.cellsOf 98 = 3 := by kernel_rfl
theorem list_Value {cs : List Value} (h : cs.length = 3) : ∃ v0 v1 v2, cs = [v0, v1, v2] := by
  match cs, h with
  | [v0, v1, v2], _ => exact ⟨v0, v1, v2, rfl⟩
section
variable {H : Type} {enc : TypeId × Value → H} {W : World} {base b : Nat} {spare : Nat → Bool} {held : Bool}
set_option maxRecDepth 100000 in
theorem open_Value {fuel : Nat} {cs : List Value} {y : DataW H × List MemPlace} (h : DataW.trod enc Try.prog W b spare held fuel 98 cs = some y) :
    ∃ (x : GV), cs = [.int .i64 x.k, .int .i64 x.n, .string x.t] ∧ fitValue x := by
  have hl : cs.length = Try.prog.cellsOf 98 := by obtain ⟨xs, n, _, _, hl, _⟩ := DataW.trod_struct Try.underlying98 h; exact hl
  obtain ⟨v0, v1, v2, rfl⟩ := list_Value (hl.trans cells_Value)
  obtain ⟨n0, y0, h0⟩ := trod_part Try.underlying98 h 0 _ rfl
  have g0 : DataW.trod enc Try.prog W b spare held n0 2 [v0] = some y0 := by
    have hc : Try.prog.cellsOf 2 = 1 := by kernel_rfl
    have q : DataW.trod enc Try.prog W b spare held n0 2 (([v0, v1, v2].drop 0).take (Try.prog.cellsOf 2)) = some y0 := h0
    rw [hc] at q; exact q
  obtain ⟨z0, e0, _, f0⟩ := DataW.trod_int Try.underlying2 g0
  simp at e0
  subst e0
  obtain ⟨n1, y1, h1⟩ := trod_part Try.underlying98 h 1 _ rfl
  have g1 : DataW.trod enc Try.prog W b spare held n1 2 [v1] = some y1 := by
    have hc : Try.prog.cellsOf 2 = 1 := by kernel_rfl
    have q : DataW.trod enc Try.prog W b spare held n1 2 (([.int .i64 z0, v1, v2].drop 1).take (Try.prog.cellsOf 2)) = some y1 := h1
    rw [hc] at q; exact q
  obtain ⟨z1, e1, _, f1⟩ := DataW.trod_int Try.underlying2 g1
  simp at e1
  subst e1
  obtain ⟨n2, y2, h2⟩ := trod_part Try.underlying98 h 2 _ rfl
  have g2 : DataW.trod enc Try.prog W b spare held n2 9 [v2] = some y2 := by
    have hc : Try.prog.cellsOf 9 = 1 := by kernel_rfl
    have q : DataW.trod enc Try.prog W b spare held n2 9 (([.int .i64 z0, .int .i64 z1, v2].drop 2).take (Try.prog.cellsOf 9)) = some y2 := h2
    rw [hc] at q; exact q
  obtain ⟨z2, e2, _, f2⟩ := DataW.trod_string Try.underlying9 g2
  simp at e2
  subst e2
  exact ⟨⟨z0, z1, z2⟩, rfl, ⟨f0, f1, f2⟩⟩
end
end Go.Proofs.Ytggkggaihfcjmaa
