/-
  laws.markDiffS and laws.heldDiffS on an answer that owns its memory.
-/
import Derived.Test.YtemcpdpbikgfcaaToVsZ
import Derived.Test.YtemcpdpbikgfcaaMarkZ
namespace Go.Proofs.Ytemcpdpbikgfcaa
open Go.RowKit Go.Sort
set_option linter.unusedVariables false

theorem mark_row0 (A : Option Addr) (cap : Nat) (K : Int) (w : World) :
    Calls Try.prog 52 #[.slice A 0 cap, .int .i64 K] w fun e w' => e = .returned (.int .i64 K) ∧ w = w' := by
  go_enter Try.func52, Try.ntmps52
  go_wp2_with fail
  go_loopw [1, 5] (fun kk i w' => kk = .int .i64 K ∧ i = .int .i64 0 ∧ w = w') (fun _ _ _ => 0)
  case atStart => exact ⟨rfl, rfl, rfl⟩
  case round =>
    obtain ⟨rfl, rfl, rfl⟩ := hrel
    go_wp2_with fail
    go_ret
    exact ⟨rfl, rfl⟩
/-- The row of an answer's element: empty, or at the head of a block of its own. -/
def RowW (B : Nat) (w : World) (p : DH) : Prop := p.2.row = [] ∨ ∃ b l, p.1.1 = some ⟨b, 0, none⟩ ∧ B ≤ b ∧ Whole w b 52 (flat p.2.row ++ l)
def Apart (p q : DH) : Prop := p.2.row = [] ∨ q.2.row = [] ∨ p.1.1 ≠ q.1.1
/-- An answer that owns its memory, from block B on. -/
structure DG (B : Nat) (w : World) (g : Nat) (ps : List DH) (l : List Value) : Prop where
  big : B ≤ g
  out : Whole w g 55 (flatH ps ++ l)
  row : ∀ p ∈ ps, RowW B w p
  apart : ps.Pairwise Apart
  cap : ∀ p ∈ ps, CapOk p.2.row.length p.1.2
theorem RowW.blk {B : Nat} {w w' : World} {p : DH} (h : RowW B w p) (hb : ∀ b, p.1.1 = some ⟨b, 0, none⟩ → b < w.heap.size → w'.heap[b]? = w.heap[b]?) : RowW B w' p := by
  rcases h with h | ⟨b, l, e, hB, hW⟩
  · exact .inl h
  · exact .inr ⟨b, l, e, hB, (hb b e hW.lt).trans hW⟩
theorem DG.below {B : Nat} {w w' : World} {g : Nat} {ps : List DH} {l : List Value} (h : DG B w g ps l) (hb : Below w.heap.size w w') : DG B w' g ps l :=
  ⟨h.big, h.out.below hb h.out.lt, fun p hp => (h.row p hp).blk (fun b _ hlt => hb.block b hlt), h.apart, h.cap⟩
theorem flatH_set (a r : List DH) (p : DH) (l : List Value) (n : Int) : (flatH (a ++ p :: r) ++ l).set (a.length * 2 + 1) (.int .i64 n) = flatH (a ++ (p.1, ⟨p.2.row, n⟩) :: r) ++ l := by
  rw [flatH_append, flatH_append, List.append_assoc, List.append_assoc, List.set_append, if_neg (by rw [flatH_length]; omega), flatH_length]
  simp [flatH, dhL]
/-- A row that is written anew, at the same place. -/
theorem DG.row_ {B : Nat} {w w2 : World} {g : Nat} {a r : List DH} {p : DH} {l l' : List Value} {b : Nat} {row' : List GV} (h : DG B w g (a ++ p :: r) l) (hp : p.1.1 = some ⟨b, 0, none⟩) (hb : B ≤ b) (hne : p.2.row ≠ []) (hl : row'.length = p.2.row.length) (hW : Whole w2 b 52 (flat row' ++ l')) (hbw : ∃ l0, Whole w b 52 l0) (hg : w.grownBy w2 (some b)) : DG B w2 g (a ++ (p.1, ⟨row', p.2.count⟩) :: r) l := by
  obtain ⟨l0, hb0⟩ := hbw
  have hgb : g ≠ b := fun e => by
    subst e
    have h1 := h.out
    unfold Whole at h1 hb0
    rw [h1] at hb0
    cases hb0
  have hlen : flatH (a ++ (p.1, ⟨row', p.2.count⟩) :: r) = flatH (a ++ p :: r) := by
    rw [flatH_append, flatH_append]
    simp only [flatH, dhL, hl]
  have hap := h.apart
  rw [List.pairwise_append, List.pairwise_cons] at hap
  have other : ∀ q ∈ a ++ r, RowW B w2 q := by
    intro q hq
    have hq' : q ∈ a ++ p :: r := by
      rw [List.mem_append] at hq ⊢
      rcases hq with hq | hq
      · exact .inl hq
      · exact .inr (List.mem_cons_of_mem _ hq)
    by_cases hqe : q.2.row = []
    · exact .inl hqe
    · refine (h.row q hq').blk (fun b' e hlt => hg.block b' hlt (fun e' => ?_))
      injection e' with e'
      subst e'
      rw [List.mem_append] at hq
      rcases hq with hq | hq
      · rcases hap.2.2 q hq p (by simp) with h1 | h1 | h1
        · exact hqe h1
        · exact hne h1
        · exact h1 (by rw [e, hp])
      · rcases hap.2.1.1 q hq with h1 | h1 | h1
        · exact hne h1
        · exact hqe h1
        · exact h1 (by rw [e, hp])
  refine ⟨h.big, ?_, fun q hq => ?_, ?_, fun q hq => ?_⟩
  · rw [hlen]
    exact (hg.block g h.out.lt (fun e => hgb (by injection e))).trans h.out
  · rw [List.mem_append, List.mem_cons] at hq
    rcases hq with hq | rfl | hq
    · exact other q (List.mem_append.2 (.inl hq))
    · exact .inr ⟨b, l', hp, hb, hW⟩
    · exact other q (List.mem_append.2 (.inr hq))
  · have key : ∀ q, Apart p q → Apart (p.1, ⟨row', p.2.count⟩) q := fun q hq => by
      rcases hq with h1 | h1 | h1
      · exact absurd h1 hne
      · exact .inr (.inl h1)
      · exact .inr (.inr h1)
    have key2 : ∀ q, Apart q p → Apart q (p.1, ⟨row', p.2.count⟩) := fun q hq => by
      rcases hq with h1 | h1 | h1
      · exact .inl h1
      · exact absurd h1 hne
      · exact .inr (.inr h1)
    rw [List.pairwise_append, List.pairwise_cons]
    refine ⟨hap.1, ⟨fun q hq => key q (hap.2.1.1 q hq), hap.2.1.2⟩, fun x hx y hy => ?_⟩
    rw [List.mem_cons] at hy
    rcases hy with rfl | hy
    · exact key2 x (hap.2.2 x hx p (by simp))
    · exact hap.2.2 x hx y (List.mem_cons_of_mem _ hy)
  · rw [List.mem_append, List.mem_cons] at hq
    rcases hq with hq | rfl | hq
    · exact h.cap q (List.mem_append_left _ hq)
    · have := h.cap p (List.mem_append_right _ List.mem_cons_self)
      show CapOk row'.length _
      rw [hl]; exact this
    · exact h.cap q (List.mem_append_right _ (List.mem_cons_of_mem _ hq))
theorem DG.count_ {B : Nat} {w : World} {g : Nat} {a r : List DH} {p : DH} {l : List Value} {n : Int} (h : DG B w g (a ++ p :: r) l) : DG B (w.setCell ⟨g, a.length * 2 + 1, none⟩ (.int .i64 n)) g (a ++ (p.1, ⟨p.2.row, n⟩) :: r) l := by
  have hap := h.apart
  refine ⟨h.big, ?_, fun q hq => ?_, ?_, fun q hq => ?_⟩
  · have := h.out.set_ (a.length * 2 + 1) (.int .i64 n)
    rwa [flatH_set] at this
  · have hrow : RowW B w q := by
      rw [List.mem_append, List.mem_cons] at hq
      rcases hq with hq | rfl | hq
      · exact h.row q (List.mem_append.2 (.inl hq))
      · have := h.row p (by simp)
        exact this
      · exact h.row q (List.mem_append.2 (.inr (List.mem_cons_of_mem _ hq)))
    by_cases hqe : q.2.row = []
    · exact .inl hqe
    · rcases hrow with h1 | ⟨b, l', e, hB, hW⟩
      · exact .inl h1
      · refine .inr ⟨b, l', e, hB, ?_⟩
        have hbg : b ≠ g := fun e' => by
          subst e'
          have h1 := h.out
          unfold Whole at h1 hW
          rw [h1] at hW
          injection hW with hW
          injection hW with _ ht _
          exact absurd ht (by decide)
        exact (Below.heap_setCell w ⟨g, a.length * 2 + 1, none⟩ (.int .i64 n) b hbg).trans hW
  · rw [List.pairwise_append, List.pairwise_cons] at hap ⊢
    refine ⟨hap.1, ⟨fun q hq => hap.2.1.1 q hq, hap.2.1.2⟩, fun x hx y hy => ?_⟩
    rw [List.mem_cons] at hy
    rcases hy with rfl | hy
    · exact hap.2.2 x hx p (by simp)
    · exact hap.2.2 x hx y (List.mem_cons_of_mem _ hy)
  · rw [List.mem_append, List.mem_cons] at hq
    rcases hq with hq | rfl | hq
    · exact h.cap q (List.mem_append_left _ hq)
    · exact h.cap p (List.mem_append_right _ List.mem_cons_self)
    · exact h.cap q (List.mem_append_right _ (List.mem_cons_of_mem _ hq))
def mcD (ps : List DH) : Nat := (ps.map fun p => 3 * p.2.row.length + 1).sum
def mkD (k : Nat) : List DH → List DH
  | [] => []
  | p :: r => (p.1, ⟨marked k p.2.row.length, ((k + 3 * p.2.row.length : Nat) : Int)⟩) :: mkD (k + 3 * p.2.row.length + 1) r
theorem mkD_len : ∀ (k : Nat) (ps : List DH), (mkD k ps).length = ps.length
  | _, [] => rfl
  | k, p :: r => by simp [mkD, mkD_len _ r]
theorem mkD_app : ∀ (k : Nat) (a b : List DH), mkD k (a ++ b) = mkD k a ++ mkD (k + mcD a) b
  | k, [], b => by simp [mkD, mcD]
  | k, p :: a, b => by
    have := mkD_app (k + 3 * p.2.row.length + 1) a b
    simp only [List.cons_append, mkD, this, mcD, List.map_cons, List.sum_cons]
    rw [show k + 3 * p.2.row.length + 1 + (a.map fun p => 3 * p.2.row.length + 1).sum = k + (3 * p.2.row.length + 1 + (a.map fun p => 3 * p.2.row.length + 1).sum) by omega]
theorem mcD_take (ps : List DH) (i : Nat) (h : i < ps.length) : mcD (ps.take (i + 1)) = mcD (ps.take i) + (3 * ps[i].2.row.length + 1) := by
  unfold mcD
  rw [List.take_succ_eq_append_getElem h, List.map_append, List.sum_append]
  simp
theorem mcD_le (ps : List DH) (i : Nat) : mcD (ps.take i) ≤ mcD ps := by
  unfold mcD
  conv => rhs; rw [← List.take_append_drop i ps]
  rw [List.map_append, List.sum_append]
  omega
/-- How an answer stands when i of its elements are marked. -/
def mkI (k : Nat) (ps : List DH) (i : Nat) : List DH := mkD k (ps.take i) ++ ps.drop i
theorem mkI_at (k : Nat) (ps : List DH) (i : Nat) (h : i < ps.length) : mkI k ps i = mkD k (ps.take i) ++ ps[i] :: ps.drop (i + 1) := by unfold mkI; rw [List.drop_eq_getElem_cons h]
theorem mkI_next (k : Nat) (ps : List DH) (i : Nat) (h : i < ps.length) : mkI k ps (i + 1) = mkD k (ps.take i) ++ (ps[i].1, ⟨marked (k + mcD (ps.take i)) ps[i].2.row.length, ((k + mcD (ps.take i) + 3 * ps[i].2.row.length : Nat) : Int)⟩) :: ps.drop (i + 1) := by
  unfold mkI
  rw [List.take_succ_eq_append_getElem h, mkD_app]
  simp [mkD]
/-- An answer's slice. -/
def DGA (B : Nat) (w : World) (A : Option Addr) (ps : List DH) : Prop := ps = [] ∨ ∃ g l, A = some ⟨g, 0, none⟩ ∧ DG B w g ps l
theorem DGA.below {B : Nat} {w w' : World} {A : Option Addr} {ps : List DH} (h : DGA B w A ps) (hb : Below w.heap.size w w') : DGA B w' A ps := by
  rcases h with h | ⟨g, l, hA, hG⟩
  · exact .inl h
  · exact .inr ⟨g, l, hA, hG.below hb⟩
theorem DG.at_ {B : Nat} {w : World} {g : Nat} {a r : List DH} {p : DH} {l : List Value} (h : DG B w g (a ++ p :: r) l) : w.cell? ⟨g, a.length * 2, none⟩ = some (.slice p.1.1 p.2.row.length p.1.2) ∧ w.cell? ⟨g, a.length * 2 + 1, none⟩ = some (.int .i64 p.2.count) ∧ w.frozen? ⟨g, a.length * 2 + 1, none⟩ = false := by
  obtain ⟨f0, f1⟩ := flatH_at (a ++ p :: r) a.length p (by simp)
  have hlen := flatH_length (a ++ p :: r)
  have h1 : a.length * 2 + 1 < (flatH (a ++ p :: r)).length := by rw [hlen]; simp; omega
  refine ⟨?_, ?_, h.out.frozen _⟩
  · rw [h.out.cell, List.getElem?_append_left (by omega)]; exact f0
  · rw [h.out.cell, List.getElem?_append_left h1]; exact f1
theorem below_of_grown {B b : Nat} {w w2 : World} (hg : w.grownBy w2 (some b)) (hb : B ≤ b) (hs : B ≤ w.heap.size) : Below B w w2 := (Below.refl _ _).grown hg hs (fun k hk => by injection hk; omega)

set_option maxRecDepth 100000 in
set_option maxHeartbeats 3200000 in
theorem mark_diffs {B : Nat} (A : Option Addr) (cap k : Nat) (ps : List DH) (w : World) (h : DGA B w A ps) (hB : B ≤ w.heap.size) (hk : 1 ≤ k) (hk2 : k ≤ 1000) (hn : ps.length ≤ 1048576) (hs : mcD ps ≤ 10000000) :
    Calls Try.prog 16 #[.slice A ps.length cap, .int .i64 k] w fun e w' => e = .returned (.int .i64 ((k + mcD ps : Nat) : Int)) ∧ DGA B w' A (mkD k ps) ∧ Below B w w' := by
  rcases h with rfl | ⟨g, l, rfl, hG⟩
  · go_enter Try.func16, Try.ntmps16
    go_wp2_with fail
    go_loopw [1, 5] (fun kk i w' => kk = .int .i64 k ∧ i = .int .i64 0 ∧ w = w') (fun _ _ _ => 0)
    case atStart => exact ⟨rfl, rfl, rfl⟩
    case round =>
      obtain ⟨rfl, rfl, rfl⟩ := hrel
      go_wp2_with fail
      go_ret
      exact ⟨rfl, .inl rfl, Below.refl _ _⟩
  · have HG := Lib.hid hG
    have HS := Lib.hid hs
    clear hG hs
    go_enter Try.func16, Try.ntmps16
    go_wp2_with fail
    go_loopw [1, 5] (fun kk i w' => ∃ j : Nat, j ≤ ps.length ∧ kk = .int .i64 ((k + mcD (ps.take j) : Nat) : Int) ∧ i = .int .i64 j ∧ Hid (DG B w' g (mkI k ps j) l) ∧ Below B w w') (fun _ i _ => ps.length - (intOf i).toNat)
    case atStart => exact ⟨0, Nat.zero_le _, rfl, rfl, Lib.hid (by simpa [mkI, mkD] using HG.out), Below.refl _ _⟩
    case round =>
      obtain ⟨j, hj, rfl, rfl, hD, hb⟩ := hrel
      by_cases hlt : j < ps.length
      · have hDj := hD.out
        rw [mkI_at k ps j hlt] at hDj
        have hal : (mkD k (ps.take j)).length = j := by rw [mkD_len, List.length_take]; omega
        obtain ⟨c0, c1, f1⟩ := hDj.at_
        rw [hal] at c0 c1 f1
        have hmt := Lib.hid (mcD_take ps j hlt)
        have hle := Lib.hid (mcD_le ps (j + 1))
        have hnx := Lib.hid (mkI_next k ps j hlt)
        obtain ⟨M, hM⟩ : ∃ M, k + mcD (ps.take j) = M := ⟨_, rfl⟩
        have hMb : M + 3 * ps[j].2.row.length + 1 ≤ 20000000 := by have := HS.out; have := hmt.out; have := hle.out; omega
        have hM1 : 1 ≤ M := by omega
        have hi0 : (0 : Int) ≤ (j : Int) := by omega
        have hi1 : (j : Int) < (ps.length : Int) := by omega
        have hBr : B ≤ wr.heap.size := Nat.le_trans hB hb.size
        rw [hM] at hnx
        have hK1 := Lib.hid (show ((k + mcD (ps.take (j + 1)) : Nat) : Int) = ((M + 3 * ps[j].2.row.length : Nat) : Int) + 1 by rw [hmt.out]; omega)
        rw [hM]
        have HDJ := Lib.hid hDj
        have HAL := Lib.hid hal
        clear hDj hal hM
        by_cases hre : ps[j].2.row = []
        · have hl0 : ps[j].2.row.length = 0 := by rw [hre]; rfl
          have hD2 := Lib.hid (show DG B (wr.setCell ⟨g, j * 2 + 1, none⟩ (.int .i64 (M : Int))) g (mkI k ps (j + 1)) l by
            have := HDJ.out.count_ (n := (M : Int))
            rw [HAL.out] at this
            rw [hnx.out, hl0]
            rw [show marked M 0 = ps[j].2.row by rw [hre]; rfl]
            simpa using this)
          have hb2 : Below B w (wr.setCell ⟨g, j * 2 + 1, none⟩ (.int .i64 (M : Int))) := hb.setCell (p := ⟨g, j * 2 + 1, none⟩) HG.out.big _
          rw [hl0] at c0 hK1
          have hK2 := Lib.hid (show ((k + mcD (ps.take (j + 1)) : Nat) : Int) = (M : Int) + 1 by simpa using hK1.out)
          have hMi : (M : Int) ≤ 20000000 := by omega
          have hMi0 : (0 : Int) ≤ (M : Int) := by omega
          clear hl0 hre
          go_wp2_with fail
          refine (mark_row0 _ _ _ _).mono ?_
          rintro e w2 ⟨rfl, rfl⟩
          go_wp2_with fail
          go_roundw
          case rel => exact ⟨j + 1, by omega, by rw [hK2.out], by go_num, hD2, hb2⟩
          case measure => simp [intOf]; omega
        · have hrw := HDJ.out.row ps[j] (List.mem_append_right _ List.mem_cons_self)
          rcases hrw with h1 | ⟨b, lb, e, hBb, hWb⟩
          · exact absurd h1 hre
          · have HWB := Lib.hid hWb
            have HRE := Lib.hid hre
            have HE := Lib.hid e
            have hMi : (((M + 3 * ps[j].2.row.length : Nat) : Int)) ≤ 20000000 := by omega
            have hMi0 : (0 : Int) ≤ (((M + 3 * ps[j].2.row.length : Nat) : Int)) := by omega
            have MR := Lib.hid (mark_row b ps[j].1.2 ps[j].2.row.length M (flat ps[j].2.row ++ lb) wr hWb (by rw [List.length_append, flat_length]; omega) hM1 (by omega) (by omega))
            rw [e] at c0
            clear hWb hre e
            go_wp2_with fail
            refine MR.out.mono ?_
            rintro e w2 ⟨rfl, hW2, hg2⟩
            have hb2 : Below B wr w2 := below_of_grown hg2 hBb hBr
            have hDr := HDJ.out.row_ (row' := marked M ps[j].2.row.length) HE.out hBb HRE.out (marked_len _ _) hW2 ⟨_, HWB.out⟩ hg2
            obtain ⟨_, c1', f1'⟩ := hDr.at_
            rw [HAL.out] at c1' f1'
            have hD2 := Lib.hid (show DG B (w2.setCell ⟨g, j * 2 + 1, none⟩ (.int .i64 ((M + 3 * ps[j].2.row.length : Nat) : Int))) g (mkI k ps (j + 1)) l by
              have := hDr.count_ (n := ((M + 3 * ps[j].2.row.length : Nat) : Int))
              rw [HAL.out] at this
              rw [hnx.out]
              exact this)
            have hb3 : Below B w (w2.setCell ⟨g, j * 2 + 1, none⟩ (.int .i64 ((M + 3 * ps[j].2.row.length : Nat) : Int))) := (hb.trans hb2).setCell (p := ⟨g, j * 2 + 1, none⟩) HG.out.big _
            clear hW2 hg2 hDr c0 c1 f1 MR
            generalize ((M + 3 * ps[j].2.row.length : Nat) : Int) = K at *
            go_wp2_with fail
            go_roundw
            case rel => exact ⟨j + 1, by omega, by rw [hK1.out], by go_num, hD2, hb3⟩
            case measure => simp [intOf]; omega
      · have hi1 : ¬ (j : Int) < (ps.length : Int) := by omega
        have hE := Lib.hid (show mkI k ps j = mkD k ps by unfold mkI; rw [List.take_of_length_le (by omega), List.drop_of_length_le (by omega), List.append_nil])
        have hT := Lib.hid (show ps.take j = ps from List.take_of_length_le (by omega))
        have hF := Lib.hid (show DG B wr g (mkD k ps) l by rw [← hE.out]; exact hD.out)
        rw [hT.out]
        go_wp2_with fail
        go_ret
        exact ⟨rfl, .inr ⟨g, l, rfl, hF.out⟩, hb⟩
theorem mkD_take (k : Nat) (ps : List DH) (i : Nat) (h : i < ps.length) : mkD k ps = mkD k (ps.take i) ++ (ps[i].1, ⟨marked (k + mcD (ps.take i)) ps[i].2.row.length, ((k + mcD (ps.take i) + 3 * ps[i].2.row.length : Nat) : Int)⟩) :: mkD (k + mcD (ps.take i) + 3 * ps[i].2.row.length + 1) (ps.drop (i + 1)) := by
  conv => lhs; rw [← List.take_append_drop i ps, mkD_app, List.drop_eq_getElem_cons h]
  simp [mkD]
theorem RowW.at_ {B : Nat} {w : World} {p : DH} (h : RowW B w p) : RowAt w w.heap.size p.1.1 p.2.row := by
  rcases h with h | ⟨b, l, e, hB, hW⟩
  · exact .inl h
  · rw [e]
    refine .inr ⟨b, 0, rfl, hW.lt, fun i v hv => ?_⟩
    obtain ⟨h0, h1, h2⟩ := flat_at _ i v hv
    have hlt : ∀ {j : Nat} {u : Value}, (flat p.2.row)[j]? = some u → w.cell? ⟨b, j, none⟩ = some u := fun {j u} hj => by
      rw [hW.cell, List.getElem?_append_left (List.getElem?_eq_some_iff.1 hj).1]; exact hj
    rw [Nat.zero_add]
    exact ⟨hlt h0, hlt h1, hlt h2⟩
theorem RowAt.vals {w : World} {B : Nat} {A : Option Addr} {xs : List GV} (h : RowAt w B A xs) : ValuesAt w 0 B A xs := by
  rcases h with h | ⟨g, o, hA, h2, hc⟩
  · exact .inl h
  · exact .inr ⟨g, o, hA, Nat.zero_le _, h2, fun i x hx => hc i x hx⟩
/-- How an answer reads. -/
theorem DGA.diffs {B : Nat} {w : World} {A : Option Addr} {ps : List DH} (h : DGA B w A ps) : DiffsAt w 0 w.heap.size A (ps.map (·.2)) := by
  rcases h with rfl | ⟨g, l, rfl, hD⟩
  · exact .inl rfl
  · refine .inr ⟨g, 0, rfl, Nat.zero_le _, hD.out.lt, fun i z hz => ?_⟩
    rw [List.getElem?_map, Option.map_eq_some_iff] at hz
    obtain ⟨p, hpi, rfl⟩ := hz
    obtain ⟨f0, f1⟩ := flatH_at ps i p hpi
    have hm := List.mem_of_getElem? hpi
    have key : ∀ {j : Nat} {u : Value}, (flatH ps)[j]? = some u → w.cell? ⟨g, j, none⟩ = some u := fun {j u} hj => by
      rw [hD.out.cell, List.getElem?_append_left (List.getElem?_eq_some_iff.1 hj).1]; exact hj
    rw [Nat.zero_add]
    exact ⟨⟨p.1.1, p.1.2, ⟨key f0, hD.cap p hm⟩, (hD.row p hm).at_.vals⟩, key f1⟩
/-- What lies from block B on is not touched by what touches blocks below B alone. -/
theorem DGA.keep {B : Nat} {w w' : World} {A : Option Addr} {ps : List DH} (h : DGA B w A ps) (hb : ∀ b, B ≤ b → b < w.heap.size → w'.heap[b]? = w.heap[b]?) : DGA B w' A ps := by
  rcases h with h | ⟨g, l, hA, hD⟩
  · exact .inl h
  · refine .inr ⟨g, l, hA, hD.big, (hb g hD.big hD.out.lt).trans hD.out, fun p hp => ?_, hD.apart, hD.cap⟩
    rcases hD.row p hp with h1 | ⟨b, l', e, hB, hW⟩
    · exact .inl h1
    · exact .inr ⟨b, l', e, hB, (hb b hB hW.lt).trans hW⟩
/-- What a function of the program's leaves that answers a list of differences in memory of its own. -/
def IPost (w : World) (zs : List GDiff) (e : Ending) (w' : World) : Prop := ∃ A c ps, e = .returned (.slice A ps.length c) ∧ ps.map (·.2) = zs ∧ DGA w.heap.size w' A ps ∧ Below w.heap.size w w'
set_option maxRecDepth 100000 in
set_option maxHeartbeats 3200000 in
theorem held_diffs {B : Nat} (A : Option Addr) (cap k : Nat) (ps : List DH) (w : World) (h : DGA B w A (mkD k ps)) (hk : 1 ≤ k) (hk2 : k ≤ 1000) (hn : ps.length ≤ 1048576) (hs : mcD ps ≤ 10000000) :
    Calls Try.prog 17 #[.slice A ps.length cap, .int .i64 k] w fun e w' => e = .returned (.int .i64 ((k + mcD ps : Nat) : Int)) ∧ Below w.heap.size w w' := by
  have HG := Lib.hid h
  have HS := Lib.hid hs
  clear h hs
  go_enter Try.func17, Try.ntmps17
  go_wp2_with fail
  go_loopw [1, 5] (fun kk i w' => ∃ j : Nat, j ≤ ps.length ∧ kk = .int .i64 ((k + mcD (ps.take j) : Nat) : Int) ∧ i = .int .i64 j ∧ Below w.heap.size w w') (fun _ i _ => ps.length - (intOf i).toNat)
  case atStart => exact ⟨0, Nat.zero_le _, rfl, rfl, Below.refl _ _⟩
  case round =>
    obtain ⟨j, hj, rfl, rfl, hb⟩ := hrel
    by_cases hlt : j < ps.length
    · rcases HG.out.below hb with h0 | ⟨g, l, rfl, hD⟩
      · have := congrArg List.length h0
        rw [mkD_len, List.length_nil] at this
        omega
      · rw [mkD_take k ps j hlt] at hD
        have hal : (mkD k (ps.take j)).length = j := by rw [mkD_len, List.length_take]; omega
        obtain ⟨c0, c1, f1⟩ := hD.at_
        rw [hal] at c0 c1 f1
        have hrow := (hD.row _ (List.mem_append_right _ List.mem_cons_self)).at_
        have hmt := Lib.hid (mcD_take ps j hlt)
        have hle := Lib.hid (mcD_le ps (j + 1))
        obtain ⟨M, hM⟩ : ∃ M, k + mcD (ps.take j) = M := ⟨_, rfl⟩
        have hMb : M + 3 * ps[j].2.row.length + 1 ≤ 20000000 := by have := HS.out; have := hmt.out; have := hle.out; omega
        have hM1 : 1 ≤ M := by omega
        have hi0 : (0 : Int) ≤ (j : Int) := by omega
        have hi1 : (j : Int) < (ps.length : Int) := by omega
        have hK1 := Lib.hid (show ((k + mcD (ps.take (j + 1)) : Nat) : Int) = ((M + 3 * ps[j].2.row.length : Nat) : Int) + 1 by rw [hmt.out]; omega)
        rw [hM] at c0 c1 hrow
        rw [hM]
        simp only [marked_len] at c0
        have HD := Lib.hid hD
        have hHR := Lib.hid (held_row ps[j].1.1 ps[j].1.2 ps[j].2.row.length M wr hrow hM1 (by omega) (by omega))
        have hMi : (((M + 3 * ps[j].2.row.length : Nat) : Int)) ≤ 20000000 := by omega
        have hMi0 : (0 : Int) ≤ (((M + 3 * ps[j].2.row.length : Nat) : Int)) := by omega
        have hMn : ¬ (((M + 3 * ps[j].2.row.length : Nat) : Int)) < 0 := by omega
        have hlg : g < wr.heap.size := hD.out.lt
        clear hD hrow hal hM
        generalize hQ : ((M + 3 * ps[j].2.row.length : Nat) : Int) = K at *
        go_wp2_with fail
        refine hHR.out.mono ?_
        rintro e w2 ⟨rfl, hb2⟩
        have c1' : w2.cell? ⟨g, j * 2 + 1, none⟩ = some (.int .i64 K) := (hb2.cell (p := ⟨g, j * 2 + 1, none⟩) hlg).trans c1
        have hB2 := below_next hb hb2 rfl rfl
        have hKK : (K != K) = false := by simp
        clear c0 c1 f1 hHR
        try rw [hQ]
        go_wp2_with fail
        go_roundw
        case rel => exact ⟨j + 1, by omega, by rw [hK1.out], by go_num, hB2⟩
        case measure => simp [intOf]; omega
    · have hi1 : ¬ (j : Int) < (ps.length : Int) := by omega
      have hT := Lib.hid (show ps.take j = ps from List.take_of_length_le (by omega))
      rw [hT.out]
      go_wp2_with fail
      go_ret
      exact ⟨rfl, hb⟩
end Go.Proofs.Ytemcpdpbikgfcaa
