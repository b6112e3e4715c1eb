/-
  laws.eqInt64S, at equal data. laws.markInt64S, at arguments.
-/
import Derived.Test.YtggkggaihfcjmaaToIntZ
import Derived.Test.YtggkggaihfcjmaaKk
namespace Go.Proofs.Ytggkggaihfcjmaa
open Go.RowKit Go.Sort
set_option linter.unusedVariables false

set_option maxHeartbeats 1600000 in
theorem eq_Ints {lo lo' : Nat} (A D : Option Addr) (c d : Nat) (xs : List (Int)) (w : World) (hk : costInts xs ≤ 1048576) (hr : IntsAt w lo w.heap.size A xs) (hu : IntsAt w lo' w.heap.size D xs) :
    Calls Try.prog 31 #[.slice A xs.length c, .slice D xs.length d] w (EqYes w) := by
  have hl : xs.length ≤ 1048576 := by unfold costInts at hk; omega
  have HR := Lib.hid hr
  have HU := Lib.hid hu
  have HK := Lib.hid hk
  clear hr hu hk
  go_enter Try.func31, Try.ntmps31
  go_wp2_with fail
  go_loopw [5] (fun i w' => ∃ k : Nat, k ≤ xs.length ∧ i = .int .i64 k ∧ Below w.heap.size w w') (fun i _ => xs.length - (intOf i).toNat)
  case atStart => exact ⟨0, Nat.zero_le _, rfl, Below.refl _ _⟩
  case round =>
    obtain ⟨k, hk, rfl, hB⟩ := hrel
    by_cases hlt : k < xs.length
    · obtain ⟨g, o, rfl, hg0, hg, he⟩ := (HR.out.to_ hB).at_ hlt
      obtain ⟨g', o', rfl, hg0', hg', he'⟩ := (HU.out.to_ hB).at_ hlt
      have hi0 : (0 : Int) ≤ (k : Int) := by omega
      have hi1 : (k : Int) < (xs.length : Int) := by omega
      have h0 : wr.cell? ⟨g, o + k, none⟩ = some (.int .i64 xs[k]) := he
      have k0 : wr.cell? ⟨g', o' + k, none⟩ = some (.int .i64 xs[k]) := he'
      have qa0 := cell_regrown h0
      have qb0 := cell_regrown k0
      have hself : (xs[k] == xs[k]) = true := by simp
      clear he he' h0 k0
      go_wp2_with fail
      refine wp_region_quiet_below (by kernel_rfl) (by kernel_rfl) ?_
      repeat (go_big_quiet_step (fail))
      refine wpQuiet_nil ?_
      intro _ hw'
      obtain ⟨⟨dq, osq⟩, hw''⟩ := hw'
      subst hw''
      have hB2 := below_next hB (below_regrown wr dq osq) rfl rfl
      generalize grow (redrawn wr dq) osq = wx at *
      clear qa0 qb0
      go_wp2_with fail
      go_roundw
      case rel => exact ⟨k + 1, by omega, by go_num, hB2⟩
      case measure => simp [intOf]; omega
    · have hi1 : ¬ (k : Int) < (xs.length : Int) := by omega
      go_wp2_with fail
      go_ret
      exact ⟨rfl, hB⟩

end Go.Proofs.Ytggkggaihfcjmaa
namespace Go.Proofs.Ytggkggaihfcjmaa
open Go.RowKit Go.Sort
set_option linter.unusedVariables false

def IntSh (w : World) (lo B g o : Nat) (x : Int) : Prop := (∃ t, w.cell? ⟨g, o, none⟩ = some (.int .i64 t))
def IntsSh (w : World) (lo B : Nat) (A : Option Addr) (xs : List (Int)) : Prop := xs = [] ∨ ∃ g o, A = some ⟨g, o, none⟩ ∧ lo ≤ g ∧ g < B ∧ ∀ i x, xs[i]? = some x → IntSh w lo B g (o + i) x
theorem IntSh.kk {w w' : World} {lo B g o : Nat} {x : Int} (h : IntSh w lo B g o x) (b1 : lo ≤ g) (b2 : g < B) (k : KK w w' lo B) : IntSh w' lo B g o x := by
  have h0 := h
  exact (by obtain ⟨z, a⟩ := h0; exact k.int _ _ z b1 b2 a)
theorem IntsSh.kk {w w' : World} {lo B : Nat} {A : Option Addr} {xs : List (Int)} (h : IntsSh w lo B A xs) (k : KK w w' lo B) : IntsSh w' lo B A xs := by
  rcases h with h | ⟨g, o, hA, h1, h2, hc⟩
  · exact .inl h
  · exact .inr ⟨g, o, hA, h1, h2, fun i x hx => (hc i x hx).kk h1 h2 k⟩
theorem IntAt.sh {w : World} {lo B g o : Nat} {x : Int} (h : IntAt w lo B g o x) : IntSh w lo B g o x := by
  have h0 := h
  exact ⟨_, h0⟩
theorem IntsAt.sh {w : World} {lo B : Nat} {A : Option Addr} {xs : List (Int)} (h : IntsAt w lo B A xs) : IntsSh w lo B A xs := by
  rcases h with h | ⟨g, o, hA, h1, h2, hc⟩
  · exact .inl h
  · exact .inr ⟨g, o, hA, h1, h2, fun i x hx => (hc i x hx).sh⟩
theorem IntsSh.at_ {w : World} {lo B : Nat} {A : Option Addr} {xs : List (Int)} (h : IntsSh w lo B A xs) {i : Nat} (hi : i < xs.length) : ∃ g o, A = some ⟨g, o, none⟩ ∧ lo ≤ g ∧ g < B ∧ IntSh w lo B g (o + i) xs[i] := by
  rcases h with h | ⟨g, o, hA, h1, h2, hc⟩
  · subst h; simp at hi
  · exact ⟨g, o, hA, h1, h2, hc i _ (List.getElem?_eq_getElem hi)⟩
def mcInt (x : Int) : Nat := 1
def mcInts (xs : List (Int)) : Nat := sumC mcInt xs
theorem mcInts_le (xs : List (Int)) : mcInts xs ≤ 6 * costInts xs := by
  unfold mcInts costInts sumC
  induction xs with
  | nil => simp
  | cons x xs ih => simp only [List.map_cons, List.sum_cons, List.length_cons, mcInt] at ih ⊢; omega

set_option maxRecDepth 100000 in
set_option maxHeartbeats 3200000 in
theorem mark_Ints {lo B : Nat} (A : Option Addr) (c : Nat) (xs : List (Int)) (k : Int) (w : World) (h : IntsSh w lo B A xs) (hu : UF w lo B) (hB : B ≤ w.heap.size) (hk : 1 ≤ k) (hk2 : k + mcInts xs ≤ 100000000) (hl : xs.length ≤ 1048576) (hsub : costInts xs ≤ 1048576) :
    Calls Try.prog 32 #[.slice A xs.length c, .int .i64 k] w (Marked w k (mcInts xs) lo B) := by
  have HS := Lib.hid h
  have HU := Lib.hid hu
  have HK := Lib.hid hk2
  have HC := Lib.hid hsub
  have hkb : k ≤ 100000000 := by omega
  clear h hu hk2 hsub
  go_enter Try.func32, Try.ntmps32
  go_wp2_with fail
  go_loopw [1, 5] (fun kk i w' => ∃ (j : Nat) (K : Int), j ≤ xs.length ∧ kk = .int .i64 K ∧ i = .int .i64 j ∧ k ≤ K ∧ K ≤ 100000000 ∧ Hid (K ≤ k + (sumC mcInt (xs.take j) : Nat)) ∧ Hid (KK w w' lo B)) (fun _ i _ => xs.length - (intOf i).toNat)
  case atStart => exact ⟨0, k, Nat.zero_le _, rfl, rfl, Int.le_refl _, hkb, Lib.hid (by simp [sumC]), Lib.hid (KK.refl w lo B)⟩
  case round =>
    obtain ⟨j, K, hj, rfl, rfl, hK0, hK1, hK2, hKK⟩ := hrel
    by_cases hlt : j < xs.length
    · obtain ⟨g, o, rfl, hg1, hg2, hE⟩ := (HS.out.kk hKK.out).at_ hlt
      have HE := Lib.hid hE
      have HUw := Lib.hid (HU.out.kk hKK.out)
      have hst := Lib.hid (sumC_take mcInt xs j hlt)
      have hle := Lib.hid (sumC_le mcInt xs (j + 1))
      have hmc := Lib.hid (show mcInts xs = sumC mcInt xs from rfl)
      have hi0 : (0 : Int) ≤ (j : Int) := by omega
      have hi1 : (j : Int) < (xs.length : Int) := by omega
      have hBw : B ≤ wr.heap.size := by have := hKK.out.size; omega
      have hKtot : K + (1) ≤ 100000000 := by
        have h1 := HK.out; have h2 := hK2.out; have h3 := hst.out; have h4 := hle.out; have h5 := hmc.out
        have h6 : ((mcInt xs[j] : Nat) : Int) = 1 := by unfold mcInt; omega
        omega
      obtain ⟨z0_0, c0_0⟩ := HE.out
      have f0_0 : wr.frozen? ⟨g, o + j, none⟩ = false := (HUw.out) g hg1 hg2 (o + j)
      have kn : KK wr (wr.setCell ⟨g, o + j, none⟩ (.int .i64 K)) lo B := KK.setInt hg1 hg2 (show wr.cell? ⟨g, o + j, none⟩ = some _ from c0_0) _
      have KN := Lib.hid (hKK.out.trans kn)
      clear kn
      have hKn := Lib.hid (show K + 1 ≤ k + (sumC mcInt (xs.take (j + 1)) : Nat) by
        have h1 := hK2.out; have h3 := hst.out
        have h6 : ((mcInt xs[j] : Nat) : Int) = 1 := by unfold mcInt; omega
        omega)
      go_wp2_with fail
      go_roundw
      case rel => exact ⟨j + 1, _, by omega, rfl, by go_num, by omega, by omega, hKn, KN⟩
      case measure => simp [intOf]; omega
    · have hi1 : ¬ (j : Int) < (xs.length : Int) := by omega
      have hK3 := hK2.out
      rw [List.take_of_length_le (by omega)] at hK3
      have HK3 := Lib.hid hK3
      clear hK3
      go_wp2_with fail
      go_ret
      exact ⟨K, rfl, hK0, HK3.out, hKK.out⟩

end Go.Proofs.Ytggkggaihfcjmaa
