/-
  impl.sumOf and impl.AddDiffs, walked. impl.counted, impl.DiffOf. A table whose rows are blocks of their own.
-/
import Derived.Test.YtemcpdpbikgfcaaSumIZ
import Derived.Test.YtemcpdpbikgfcaaWideSZ
import Derived.Test.YtemcpdpbikgfcaaOfSZ
import Derived.Test.YtemcpdpbikgfcaaTabMZ
import Derived.Test.YtemcpdpbikgfcaaMakeZ
namespace Go.Proofs.Ytemcpdpbikgfcaa
open Go.RowKit Go.Sort
set_option linter.unusedVariables false

def sumB (a b : List GDiff) : Bool := diffOkB a && diffOkB b && compatB a b && diffOkB (addD a b)
/-- What impl.sumOf leaves. -/
def SOPost (w : World) (a b : List GDiff) (e : Ending) (w' : World) : Prop := Below w.heap.size w w' ∧
  ((sumB a b = true ∧ ∃ A c ps, e = .returned (.tuple #[.slice A ps.length c, .bool true]) ∧ ps.map (·.2) = addD a b ∧ DGA w.heap.size w' A ps) ∨ (sumB a b = false ∧ e = .returned (.tuple #[.slice none 0 0, .bool false])))
/-- While the terms of a sum are added. -/
structure SumRel (w : World) (b : Nat) (A : Option Addr) (hs : List DH) (k : Nat) (wr : World) : Prop where
  ms : Ms wr b k ((hs.take k).map (·.2))
  heads : HeadsAt wr A hs
  low : Below w.heap.size w wr
theorem good_rows {a b : List GDiff} (ha : diffOkB a = true) (hb : diffOkB b = true) (hc : compatB a b = true) : ∃ n, ∀ z ∈ a ++ b, goodRow n z.row = true := by
  have h1 := (diffOk_asc ha).2.2
  have h2 := (diffOk_asc hb).2.2
  unfold compatB at hc
  simp only [Bool.or_eq_true, decide_eq_true_eq] at hc
  rcases hc with (hc | hc) | hc
  · have : a = [] := List.eq_nil_of_length_eq_zero hc
    subst this
    exact ⟨_, fun z hz => (h2 z (by simpa using hz)).1⟩
  · have : b = [] := List.eq_nil_of_length_eq_zero hc
    subst this
    exact ⟨_, fun z hz => (h1 z (by simpa using hz)).1⟩
  · refine ⟨wid (rowsD a), fun z hz => ?_⟩
    rcases List.mem_append.1 hz with hz | hz
    · exact (h1 z hz).1
    · rw [hc]; exact (h2 z hz).1
theorem DGA.low {B B' : Nat} {w : World} {A : Option Addr} {ps : List DH} (h : DGA B w A ps) (hB : B' ≤ B) : DGA B' w A ps := by
  rcases h with h | ⟨g, l, hA, hG⟩
  · exact .inl h
  · refine .inr ⟨g, l, hA, ⟨Nat.le_trans hB hG.big, hG.out, fun p hp => ?_, hG.apart, hG.cap⟩⟩
    rcases hG.row p hp with h1 | ⟨b, l', e, hb, hW⟩
    · exact .inl h1
    · exact .inr ⟨b, l', e, Nat.le_trans hB hb, hW⟩
theorem HeadsAt.below {w w' : World} {A : Option Addr} {hs : List DH} (h : HeadsAt w A hs) (hb : Below w.heap.size w w') : HeadsAt w' A hs :=
  ⟨fun i p hp => by
    obtain ⟨g, o, e, h0, h1, hr⟩ := h.at_ i p hp
    exact ⟨g, o, e, (hb.cell (World.block_lt_of_cell? _ _ h0)).trans h0, (hb.cell (World.block_lt_of_cell? _ _ h1)).trans h1, hr.to_ hb⟩⟩
theorem Ms.below {w w' : World} {b n : Nat} {zs : List GDiff} (h : Ms w b n zs) (hb : Below w.heap.size w w') : Ms w' b n zs := h.kept (grown_below (b := none) hb) (by simp)
theorem do_post {w w1 w2 : World} {a b : List GDiff} {e : Ending} (ha : diffOkB a = true) (hb : diffOkB b = true) (hc : compatB a b = true) (h : DOPost w1 (a ++ b) e w2) (hB : Below w.heap.size w w1) : SOPost w a b e w2 := by
  obtain ⟨hb2, h⟩ := h
  have hca := diffOk_asc ha
  have hcb := diffOk_asc hb
  have hcan := canon_addD hca.1 hcb.1 hca.2.1 hcb.2.1
  refine ⟨below_next hB hb2 rfl rfl, ?_⟩
  rcases h with ⟨A, c, ps, rfl, hG, hC, hl, hn⟩ | ⟨rfl, h⟩
  · left
    have e := canon_unique hC hcan
    obtain ⟨n, hrow⟩ := good_rows ha hb hc
    refine ⟨?_, A, c, ps, rfl, e, ?_⟩
    · unfold sumB
      rw [ha, hb, hc, ← e, canon_ok hC hrow (by simpa using hl) (fun z hz => by obtain ⟨p, hp, rfl⟩ := List.mem_map.1 hz; exact hn p hp)]
      rfl
    · exact DGA.low hG hB.size
  · right
    refine ⟨?_, rfl⟩
    unfold sumB
    rcases h with ⟨r, h1, h2⟩ | ⟨rs, h1, h2, h3⟩
    · rw [bad_cnt hcan h1 h2]; simp
    · rw [bad_big hcan h1 h3 h2]; simp
theorem sum_row {a b : List GDiff} {z : GDiff} (ha : diffOkB a = true) (hb : diffOkB b = true) (hz : z ∈ a ++ b) : rowOkB z.row = true ∧ -1000000 ≤ z.count ∧ z.count ≤ 1000000 := by
  have key : ∀ l : List GDiff, diffOkB l = true → z ∈ l → rowOkB z.row = true ∧ -1000000 ≤ z.count ∧ z.count ≤ 1000000 := fun l hl hm => by
    have h1 := (diffOk_asc hl).2.2 z hm
    have h2 := (diffOk_all hl).2 z hm
    unfold goodRow at h1
    simp only [Bool.and_eq_true] at h1
    exact ⟨h1.1.1, h2.2.2.2⟩
  rcases List.mem_append.1 hz with h | h
  · exact key a ha h
  · exact key b hb h
set_option maxRecDepth 100000 in
set_option maxHeartbeats 6400000 in
theorem sum_of {lo lo' : Nat} (A B : Option Addr) (c d : Nat) (a b : List GDiff) (w : World) (ha : DiffsAt w lo w.heap.size A a) (hb : DiffsAt w lo' w.heap.size B b) (hl : a.length ≤ 1048576) (hl' : b.length ≤ 1048576)
    (hla : ∀ z ∈ a, z.row.length ≤ 1048576 ∧ ∀ v ∈ z.row, v.t.size ≤ maxLen) (hlb : ∀ z ∈ b, z.row.length ≤ 1048576 ∧ ∀ v ∈ z.row, v.t.size ≤ maxLen) :
    Calls Try.prog 50 #[.slice A a.length c, .slice B b.length d] w (SOPost w a b) := by
  have HA := Lib.hid ha
  have HB := Lib.hid hb
  have HLA := Lib.hid hla
  have HLB := Lib.hid hlb
  clear ha hb hla hlb
  by_cases h1 : diffOkB a = true
  · by_cases h2 : diffOkB b = true
    · by_cases h3 : compatB a b = true
      · have hmm := @run_makeMap Try.prog
        go_enter Try.func50, Try.ntmps50
        go_wp2_with fail
        refine (impl_diffOk A c a _ HA.out hl HLA.out).mono ?_
        rintro e w1 ⟨rfl, hb1⟩
        rw [h1]
        go_wp2_with fail
        refine (impl_diffOk B d b _ (HB.out.to_ hb1) hl' HLB.out).mono ?_
        rintro e w2 ⟨rfl, hb2⟩
        rw [h2]
        have hB2 := below_next hb1 hb2 rfl rfl
        clear hb1 hb2
        go_wp2_with fail
        refine (impl_compatible A B c d a b _ (HA.out.to_ hB2) (HB.out.to_ hB2) (by omega) (by omega)).mono ?_
        rintro e w3 ⟨rfl, rfl⟩
        rw [h3]
        go_wp2_with fail
        have hB3 : Below w2.heap.size w2 ((w2.alloc (.map #[] 0)).alloc (.cells #[.slice A a.length c, .slice B b.length d] 24)) := ((Below.refl _ _).alloc (Nat.le_refl _) _).alloc (by simp) _
        have hBw := below_next hB2 hB3 rfl rfl
        obtain ⟨ha', ea, sa, ra⟩ := (HA.out.to_ hBw).heads (Nat.le_refl _)
        obtain ⟨hb', eb, sb, rb⟩ := (HB.out.to_ hBw).heads (Nat.le_refl _)
        have la : ha'.length = a.length := by have := congrArg List.length ea; simpa using this
        have lb : hb'.length = b.length := by have := congrArg List.length eb; simpa using this
        have HM3 := Lib.hid ((ms_made w2).below ((Below.refl _ _).alloc (Nat.le_refl _) (.cells #[.slice A a.length c, .slice B b.length d] 24)))
        have HE := Lib.hid (show (ha' ++ hb').map (·.2) = a ++ b by rw [List.map_append, ea, eb])
        have HLN := Lib.hid (show (ha' ++ hb').length = a.length + b.length by rw [List.length_append, la, lb])
        have HC := Lib.hid (concatD (w2.heap.size + 1) A B a.length c b.length d (flatH ha') (flatH hb') ((w2.alloc (.map #[] 0)).alloc (.cells #[.slice A a.length c, .slice B b.length d] 24)) (by simp) (by simp) (by rw [flatH_length, la]) (by rw [flatH_length, lb]) sa sb (flatH_ones _) (flatH_ones _) hl hl')
        have HR := Lib.hid (show ∀ p ∈ ha' ++ hb', RowAt ((w2.alloc (.map #[] 0)).alloc (.cells #[.slice A a.length c, .slice B b.length d] 24)) ((w2.alloc (.map #[] 0)).alloc (.cells #[.slice A a.length c, .slice B b.length d] 24)).heap.size p.1.1 p.2.row from fun p hp => by
          rcases List.mem_append.1 hp with hp | hp
          · exact (ra p hp).1
          · exact (rb p hp).1)
        clear sa sb ra rb la lb ea eb hB3 hmm
        refine HC.out.mono ?_
        clear HC
        rintro e w4 ⟨v4, rfl, ho4, hb4⟩
        rw [← flatH_append] at ho4
        rw [← HLN.out] at ho4
        obtain ⟨A4, c4, rfl, hH4⟩ := heads_own ho4 (fun p hp => (HR.out p hp).to_ hb4)
        have HH4 := Lib.hid hH4
        have HM4 := Lib.hid (HM3.out.below hb4)
        have hB4 := below_next hBw hb4 rfl rfl
        have hb3w : w.heap.size ≤ w2.heap.size := hB2.size
        generalize ha' ++ hb' = hs at *
        have hlen : hs.length ≤ 2097152 := by have := HLN.out; omega
        clear HR hH4 ho4 hb4 HM3 hBw
        go_wp2_with fail
        go_loopw [29] (fun i wr => ∃ k : Nat, k ≤ hs.length ∧ i = .int .i64 k ∧ Hid (SumRel w w2.heap.size A4 hs k wr)) (fun i _ => hs.length - (intOf i).toNat)
        case atStart => exact ⟨0, Nat.zero_le _, rfl, Lib.hid ⟨by simpa using HM4.out, HH4.out, hB4⟩⟩
        case round =>
          obtain ⟨k, hk, rfl, hR⟩ := hrel
          by_cases hlt : k < hs.length
          · obtain ⟨p, hpk⟩ : ∃ p, hs[k]? = some p := ⟨_, List.getElem?_eq_getElem hlt⟩
            obtain ⟨g, o, rfl, q0, q1, hrow⟩ := hR.out.heads.at_ k p hpk
            have hmem : p.2 ∈ a ++ b := by rw [← HE.out]; exact List.mem_map.2 ⟨p, List.mem_of_getElem? hpk, rfl⟩
            have hi1 : (k : Int) < (hs.length : Int) := by omega
            have hi0 : (0 : Int) ≤ (k : Int) := by omega
            have hgood := sum_row h1 h2 hmem
            have hl8 := (rowOk_parts hgood.1).1
            have hcf := coef_le (M := 1000000) (by omega) p.2.row ((hs.take k).map (·.2)) (fun z hz => by
              obtain ⟨q, hq, rfl⟩ := List.mem_map.1 hz
              exact (sum_row h1 h2 (by rw [← HE.out]; exact List.mem_map.2 ⟨q, List.mem_of_mem_take hq, rfl⟩)).2)
            rw [List.length_map, List.length_take, Nat.min_eq_left hk] at hcf
            have hlow : -4611686018427387904 ≤ coef ((hs.take k).map (·.2)) p.2.row + p.2.count := by have := hgood.2; omega
            have hhigh : coef ((hs.take k).map (·.2)) p.2.row + p.2.count ≤ 4611686018427387904 := by have := hgood.2; omega
            have HST := Lib.hid (show (hs.take k).map (·.2) ++ [p.2] = (hs.take (k + 1)).map (·.2) by
              obtain ⟨h4, h5⟩ := List.getElem?_eq_some_iff.1 hpk
              rw [List.take_succ_eq_append_getElem h4, List.map_append, h5]; rfl)
            have HGO := Lib.hid hgood.1
            have HHI := Lib.hid hhigh
            have HLO := Lib.hid hlow
            have hBa : Below wr.heap.size wr (wr.alloc (.cells #[.slice p.1.1 p.2.row.length p.1.2, .int .i64 p.2.count] 55)) := (Below.refl _ _).alloc (Nat.le_refl _) _
            have HMx := Lib.hid (hR.out.ms.below hBa)
            have HHx := Lib.hid (hR.out.heads.below hBa)
            have HLx := Lib.hid (below_next hR.out.low hBa rfl rfl)
            have hrw := Lib.hid (hrow.to_ hBa)
            have hkm : k < maxLen := by unfold maxLen; omega
            clear hrow hmem hgood hcf hlow hhigh hpk
            go_wp2_with fail
            have c0 : (wr.alloc (.cells #[.slice p.1.1 p.2.row.length p.1.2, .int .i64 p.2.count] 55)).cell? ⟨wr.heap.size, 0, none⟩ = some (.slice p.1.1 p.2.row.length p.1.2) := by simp
            have c1 : (wr.alloc (.cells #[.slice p.1.1 p.2.row.length p.1.2, .int .i64 p.2.count] 55)).cell? ⟨wr.heap.size, 1, none⟩ = some (.int .i64 p.2.count) := by simp
            have hlt1 : wr.heap.size < (wr.alloc (.cells #[.slice p.1.1 p.2.row.length p.1.2, .int .i64 p.2.count] 55)).heap.size := by simp
            clear q0 q1
            generalize (wr.alloc (.cells #[.slice p.1.1 p.2.row.length p.1.2, .int .i64 p.2.count] 55)) = W1 at *
            clear hBa
            go_region_law (first
              | (go_simp; go_at_call 66; go_must (refine (add_any w2.heap.size k _ p.2 _ hM2 hkm HGO.out HLO.out HHI.out).mono ?_; rintro e W3 ⟨rfl, hM3, hg3⟩))
              | (go_simp; go_at_call 65; go_must (refine (key_of p.1.1 p.1.2 p.2.row _ (by first | exact hrw.out | exact (show RowAt W1.drew _ _ _ from hrw.out)) hl8).mono ?_; rintro e W2 ⟨rfl, hb2⟩; have hB2' : Below W1.heap.size W1 W2 := (by first | exact hb2 | exact (Below.refl _ _).drew.trans hb2); have hM2 := HMx.out.below hB2'; have hH2 := HHx.out.below hB2'; have hL2 := below_next HLx.out hB2' rfl rfl; have hcnt2 := (hB2'.cell (p := ⟨wr.heap.size, 1, none⟩) hlt1).trans c1)))
            all_goals have HRN := Lib.hid (show SumRel w w2.heap.size (some ⟨g, o, none⟩) hs (k + 1) W3 by
              obtain ⟨es, cl, hm⟩ := hM2.map
              exact ⟨by rw [← HST.out]; exact hM3, hH2.grown hm hg3, hL2.trans ((Below.refl _ _).grown hg3 hL2.size (fun j hj => by cases hj; exact hb3w))⟩)
            all_goals clear hM3 hg3 hM2 hH2 hL2 hcnt2 c0 c1 hb2 hB2'
            all_goals go_wp2_with fail
            all_goals go_roundw
            all_goals first
              | exact ⟨k + 1, by omega, by go_num, HRN⟩
              | (simp [intOf]; omega)
          · have hi1 : ¬ (k : Int) < (hs.length : Int) := by omega
            have hM := Lib.hid (show Ms wr w2.heap.size k (a ++ b) by have := hR.out.ms; rw [List.take_of_length_le (by omega), HE.out] at this; exact this)
            go_wp2_with fail
            refine (diffs_of w2.heap.size k (a ++ b) wr hM.out (fun z hz => (sum_row h1 h2 hz).1)).mono ?_
            intro e w5 hD
            have hS := Lib.hid (do_post h1 h2 h3 hD hR.out.low)
            rcases hD.2 with ⟨A5, c5, ps, rfl, _⟩ | ⟨rfl, _⟩
            all_goals clear hD
            all_goals go_wp2_with fail
            all_goals go_ret2
            all_goals exact hS.out
      · rw [Bool.not_eq_true] at h3
        have hs := Lib.hid (show sumB a b = false by unfold sumB; rw [h3]; simp)
        go_enter Try.func50, Try.ntmps50
        go_wp2_with fail
        refine (impl_diffOk A c a _ HA.out hl HLA.out).mono ?_
        rintro e w1 ⟨rfl, hb1⟩
        rw [h1]
        go_wp2_with fail
        refine (impl_diffOk B d b _ (HB.out.to_ hb1) hl' HLB.out).mono ?_
        rintro e w2 ⟨rfl, hb2⟩
        rw [h2]
        have hB2 := below_next hb1 hb2 rfl rfl
        clear hb1 hb2
        go_wp2_with fail
        refine (impl_compatible A B c d a b _ (HA.out.to_ hB2) (HB.out.to_ hB2) (by omega) (by omega)).mono ?_
        rintro e w3 ⟨rfl, rfl⟩
        rw [h3]
        go_wp2_with fail
        go_ret2
        exact ⟨hB2, .inr ⟨hs.out, rfl⟩⟩
    · rw [Bool.not_eq_true] at h2
      have hs := Lib.hid (show sumB a b = false by unfold sumB; rw [h2]; simp)
      go_enter Try.func50, Try.ntmps50
      go_wp2_with fail
      refine (impl_diffOk A c a _ HA.out hl HLA.out).mono ?_
      rintro e w1 ⟨rfl, hb1⟩
      rw [h1]
      go_wp2_with fail
      refine (impl_diffOk B d b _ (HB.out.to_ hb1) hl' HLB.out).mono ?_
      rintro e w2 ⟨rfl, hb2⟩
      rw [h2]
      have hB2 := below_next hb1 hb2 rfl rfl
      clear hb1 hb2
      go_wp2_with fail
      go_ret2
      exact ⟨hB2, .inr ⟨hs.out, rfl⟩⟩
  · rw [Bool.not_eq_true] at h1
    have hs := Lib.hid (show sumB a b = false by unfold sumB; rw [h1]; simp)
    go_enter Try.func50, Try.ntmps50
    go_wp2_with fail
    refine (impl_diffOk A c a _ HA.out hl HLA.out).mono ?_
    rintro e w1 ⟨rfl, hb1⟩
    rw [h1]
    go_wp2_with fail
    go_ret2
    exact ⟨hb1, .inr ⟨hs.out, rfl⟩⟩
theorem addDD_of {a b : List GDiff} : addDD a b = if sumB a b = true then addD a b else [] := by
  unfold addDD sumB orD
  cases h : (diffOkB a && diffOkB b && compatB a b) <;> simp
set_option maxRecDepth 100000 in
set_option maxHeartbeats 1600000 in
theorem impl_addDiffs {lo lo' : Nat} (A B : Option Addr) (c d : Nat) (a b : List GDiff) (w : World) (ha : DiffsAt w lo w.heap.size A a) (hb : DiffsAt w lo' w.heap.size B b) (hl : a.length ≤ 1048576) (hl' : b.length ≤ 1048576)
    (hla : ∀ z ∈ a, z.row.length ≤ 1048576 ∧ ∀ v ∈ z.row, v.t.size ≤ maxLen) (hlb : ∀ z ∈ b, z.row.length ≤ 1048576 ∧ ∀ v ∈ z.row, v.t.size ≤ maxLen) :
    Calls Try.prog 14 #[.slice A a.length c, .slice B b.length d] w (IPost w (addDD a b)) := by
  have HS := Lib.hid (sum_of A B c d a b w ha hb hl hl' hla hlb)
  clear ha hb hla hlb
  go_enter Try.func14, Try.ntmps14
  go_wp2_with fail
  refine HS.out.mono ?_
  rintro e w1 ⟨hb1, ⟨hs, A1, c1, ps, rfl, he, hG⟩ | ⟨hs, rfl⟩⟩
  · have HE := Lib.hid (show ps.map (·.2) = addDD a b by rw [addDD_of, if_pos hs]; exact he)
    clear he hs
    go_wp2_with fail
    go_ret
    exact ⟨A1, c1, ps, rfl, HE.out, hG, hb1⟩
  · have HE := Lib.hid (show addDD a b = [] by rw [addDD_of, if_neg (by rw [hs]; decide)])
    clear hs
    go_wp2_with fail
    go_ret
    exact ⟨none, 0, [], rfl, HE.out.symm, .inl rfl, hb1⟩
end Go.Proofs.Ytemcpdpbikgfcaa
namespace Go.Proofs.Ytemcpdpbikgfcaa
open Go.RowKit Go.Sort
set_option linter.unusedVariables false

theorem DAcc.made {w0 w : World} {n m : Nat} (h : Below w0.heap.size w0 w) (hn : w.heap.size = n) (hm : m ≤ maxLen) : DAcc w0 (w.alloc (.cells (madeCells #[.slice none 0 0, .int .i64 0] (m * 2)) 55)) (.slice (some ⟨n, 0, none⟩) 0 m) [] := by
  subst hn
  refine ⟨⟨[], rfl, ?_, fun p hp => by simp at hp⟩, by simp, h.alloc h.size _⟩
  simpa [flatH] using World.ownsRow_made (base := w0.heap.size) (e := 55) (size := 2) w (madeCells #[.slice none 0 0, .int .i64 0] (m * 2)) m h.size hm (by simp [size_madeCells])
set_option maxRecDepth 100000 in
set_option maxHeartbeats 3200000 in
theorem impl_counted (A : Option Addr) (c : Nat) (rows : List (List GV)) (n : Int) (w : World) (hr : TabC w w.heap.size A rows) (hl : rows.length ≤ 1048576) :
    Calls Try.prog 58 #[.slice A rows.length c, .int .i64 n] w (DPost w (ofL rows n)) := by
  have HR := Lib.hid hr
  clear hr
  obtain ⟨i0, hi0, hz0, hz1, hz2⟩ := info_parts infoDiff
  have hmk := fun W => run_make (P := Try.prog) W 24 55 i0 _ Try.underlying24 hi0 hz0 .i64 .i64 0 rows.length (by omega) (by omega) (by rw [hz2]; omega) (by omega)
  go_enter Try.func58, Try.ntmps58
  go_wp2_with fail
  clear hmk
  go_loopw [5, 13] (fun out i w' => ∃ (k : Nat) (L : List GDiff), k ≤ rows.length ∧ i = .int .i64 k ∧ Hid (L = ofL (rows.take k) n) ∧ Hid (DAcc w w' out L)) (fun _ i _ => rows.length - (intOf i).toNat)
  case atStart => exact ⟨0, [], Nat.zero_le _, rfl, Lib.hid rfl, Lib.hid (DAcc.made (Below.refl _ _) rfl (by unfold maxLen; omega))⟩
  case round =>
    obtain ⟨k, L, hk, rfl, hL, hD⟩ := hrel
    obtain ⟨A6, c6, rfl, _⟩ := hD.out.slice
    have hLl := Lib.hid (show L.length = k by rw [hL.out, ofL_len, List.length_take]; omega)
    by_cases hlt : k < rows.length
    · obtain ⟨g, o, A', c', rfl, hg, hcell, hcap, hrow⟩ := (HR.out.below hD.out.low (Nat.le_refl _)).at_ hlt
      have hi1 : (k : Int) < (rows.length : Int) := by omega
      have hi0 : (0 : Int) ≤ (k : Int) := by omega
      have hst := Lib.hid (show L ++ [⟨rows[k], n⟩] = ofL (rows.take (k + 1)) n by rw [hL.out, ofL_snoc rows n k hlt])
      have hzl : L.length ≤ 4194304 := by rw [hLl.out]; omega
      have hp := Lib.hid (show DHok wr w.heap.size ((A', c'), ⟨rows[k], n⟩) from ⟨hrow.st hD.out.low.size, hcap⟩)
      clear hrow hcap
      go_wp2_with (at_builtin; refine wpList_dapp wr rfl (.tmp 17) (.tmp 21) rfl w (.slice A6 L.length c6) L ((A', c'), ⟨rows[k], n⟩) rfl hD.out hp.out rfl hzl ?_; intro v2 W2 hD2; refine Hid.out ?_)
      refine Lib.hid ?_
      have HD2 := Lib.hid hD2
      clear hD2 hcell
      go_wp2_with fail
      go_roundw
      case rel => exact ⟨k + 1, _, by omega, by go_num, hst, HD2⟩
      case measure => simp [intOf]; omega
    · have hi1 : ¬ (k : Int) < (rows.length : Int) := by omega
      have hE := Lib.hid (show L = ofL rows n by rw [hL.out, List.take_of_length_le (by omega)])
      have hP := Lib.hid hD.out.post
      go_wp2_with fail
      go_ret
      rw [← hE.out]
      exact hP.out
theorem IPost.next {w w1 w2 : World} {zs : List GDiff} {e : Ending} (h : IPost w1 zs e w2) (hB : Below w.heap.size w w1) : IPost w zs e w2 := by
  obtain ⟨A, c, ps, h1, h2, h3, h4⟩ := h
  exact ⟨A, c, ps, h1, h2, DGA.low h3 hB.size, below_next hB h4 rfl rfl⟩
set_option maxRecDepth 100000 in
set_option maxHeartbeats 1600000 in
theorem impl_diffOf (A B : Option Addr) (c d : Nat) (old fresh : List (List GV)) (w : World) (ha : TabC w w.heap.size A old) (hb : TabC w w.heap.size B fresh) (hl : old.length ≤ 1048576) (hl' : fresh.length ≤ 1048576)
    (hla : ∀ r ∈ old, r.length ≤ 1048576 ∧ ∀ v ∈ r, v.t.size ≤ maxLen) (hlb : ∀ r ∈ fresh, r.length ≤ 1048576 ∧ ∀ v ∈ r, v.t.size ≤ maxLen) :
    Calls Try.prog 21 #[.slice A old.length c, .slice B fresh.length d] w (IPost w (diffOfD old fresh)) := by
  have HA := Lib.hid ha
  have HB := Lib.hid hb
  have HLA := Lib.hid (show ∀ z ∈ ofL old (-1), z.row.length ≤ 1048576 ∧ ∀ v ∈ z.row, v.t.size ≤ maxLen from fun z hz => hla _ (ofL_mem hz).1)
  have HLB := Lib.hid (show ∀ z ∈ ofL fresh 1, z.row.length ≤ 1048576 ∧ ∀ v ∈ z.row, v.t.size ≤ maxLen from fun z hz => hlb _ (ofL_mem hz).1)
  have l1 : (ofL old (-1)).length ≤ 1048576 := by rw [ofL_len]; exact hl
  have l2 : (ofL fresh 1).length ≤ 1048576 := by rw [ofL_len]; exact hl'
  clear ha hb hla hlb
  go_enter Try.func21, Try.ntmps21
  go_wp2_with fail
  refine (impl_counted A c old (-1) _ HA.out hl).mono ?_
  rintro e w1 ⟨A1, c1, rfl, hc1, hd1, hb1⟩
  have HD1 := Lib.hid hd1
  clear hd1
  go_wp2_with fail
  refine (impl_counted B d fresh 1 _ (HB.out.to_ hb1) hl').mono ?_
  rintro e w2 ⟨A2, c2, rfl, hc2, hd2, hb2⟩
  have HD1' := Lib.hid (HD1.out.to_ hb2)
  have HD2 := Lib.hid hd2
  have hB2 := below_next hb1 hb2 rfl rfl
  clear hd2 hb1 hb2 HD1
  go_wp2_with fail
  refine (impl_addDiffs A1 A2 c1 c2 (ofL old (-1)) (ofL fresh 1) _ HD1'.out HD2.out l1 l2 HLA.out HLB.out).mono ?_
  intro e w3 hI
  obtain ⟨A3, c3, ps, rfl, h2, h3, h4⟩ := hI
  have HI := Lib.hid (IPost.next ⟨A3, c3, ps, rfl, h2, h3, h4⟩ hB2)
  clear h2 h3 h4
  go_wp2_with fail
  go_ret
  exact HI.out
end Go.Proofs.Ytemcpdpbikgfcaa
namespace Go.Proofs.Ytemcpdpbikgfcaa
open Go.RowKit Go.Sort
set_option linter.unusedVariables false

def headV (p : PR) : Value := .slice (some ⟨p.1, 0, none⟩) p.2.length p.2.length
def Own (w : World) (ps : List PR) : Prop := ∀ p ∈ ps, Whole w p.1 52 (flat p.2)
/-- A table: its outer block's cells begin with the heads of ps; l lies behind. -/
def OutAt (w : World) (g : Nat) (ps : List PR) (l : List Value) : Prop := Whole w g 53 (ps.map headV ++ l) ∧ Own w ps ∧ ∀ p ∈ ps, p.1 ≠ g
theorem Own.row {w : World} {ps : List PR} (h : Own w ps) {p : PR} (hp : p ∈ ps) : RowAt w w.heap.size (some ⟨p.1, 0, none⟩) p.2 := (h p hp).row (h p hp).lt
theorem OutAt.tab {w : World} {g : Nat} {ps : List PR} {l : List Value} (h : OutAt w g ps l) : TabAt w w.heap.size (some ⟨g, 0, none⟩) (ps.map (·.2)) := by
  refine .inr ⟨g, 0, rfl, h.1.lt, fun i r hr => ?_⟩
  rw [List.getElem?_map, Option.map_eq_some_iff] at hr
  obtain ⟨p, hp, rfl⟩ := hr
  have hi : i < ps.length := (List.getElem?_eq_some_iff.1 hp).1
  refine ⟨some ⟨p.1, 0, none⟩, p.2.length, ?_, h.2.1.row (List.mem_of_getElem? hp)⟩
  rw [h.1.cell, Nat.zero_add, List.getElem?_append_left (by simpa using hi), List.getElem?_map, hp]
  rfl
theorem OutAt.below {w w' : World} {g : Nat} {ps : List PR} {l : List Value} (h : OutAt w g ps l) (hb : Below w.heap.size w w') : OutAt w' g ps l :=
  ⟨h.1.below hb h.1.lt, fun p hp => (h.2.1 p hp).below hb (h.2.1 p hp).lt, h.2.2⟩

end Go.Proofs.Ytemcpdpbikgfcaa
