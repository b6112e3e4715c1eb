/-
  spec.l4Neg and spec.NegDiff. spec.NegDiff. Distinct rows as differences; the mathematics of DiffOf and Flips.
-/
import Derived.Test.YtggkggaihfcjmaaGAcc
import Derived.Test.YtggkggaihfcjmaaCntZ
import Derived.Test.YtggkggaihfcjmaaDiffOkS
import Derived.Test.YtggkggaihfcjmaaWideSZ
import Derived.Test.YtggkggaihfcjmaaDistS
import Derived.Test.YtggkggaihfcjmaaRowCmpSZ
namespace Go.Proofs.Ytggkggaihfcjmaa
open Go.RowKit Go.Sort
set_option linter.unusedVariables false

def neg1 (z : GDiff) : GDiff := ⟨z.row, -z.count⟩
def negL (zs : List GDiff) : List GDiff := zs.map neg1
def negD (zs : List GDiff) : List GDiff := if diffOkB zs = true then negL zs else []
theorem dok_cnt {zs : List GDiff} (h : diffOkB zs = true) : cntLe 1000000 zs := by
  intro z hz
  unfold diffOkB at h
  simp only [Bool.and_eq_true, List.all_eq_true] at h
  have h1 := h.1.2 z hz
  unfold goodD cntB at h1
  simp only [Bool.and_eq_true, decide_eq_true_eq] at h1
  exact ⟨h1.2.1.2, h1.2.2⟩
theorem dok_len {zs : List GDiff} (h : diffOkB zs = true) : zs.length ≤ 3000 := by
  unfold diffOkB at h
  simp only [Bool.and_eq_true, decide_eq_true_eq] at h
  exact h.1.1

set_option maxRecDepth 100000 in
set_option maxHeartbeats 3200000 in
theorem spec_negL {lo : Nat} (A : Option Addr) (c : Nat) (zs : List GDiff) (w : World) (hr : DiffsAt w lo w.heap.size A zs) (hl : zs.length ≤ 1048576) (hc : cntLe 1000000 zs) :
    Calls Try.prog 56 #[.slice A zs.length c] w (DPost w (negL zs)) := by
  have HR := Lib.hid hr
  have HC := Lib.hid hc
  clear hr hc
  go_enter Try.func56, Try.ntmps56
  go_wp2_with fail
  go_loopw [3, 4] (fun out i w' => ∃ (k : Nat) (L : List GDiff), k ≤ zs.length ∧ i = .int .i64 k ∧ Hid (L = negL (zs.take k)) ∧ Hid (DAcc w w' out L)) (fun _ i _ => zs.length - (intOf i).toNat)
  case atStart => exact ⟨0, [], Nat.zero_le _, rfl, Lib.hid rfl, Lib.hid (DAcc.start (Below.refl _ _) rfl)⟩
  case round =>
    obtain ⟨k, L, hk, rfl, hL, hD⟩ := hrel
    obtain ⟨A6, c6, rfl, _⟩ := hD.out.slice
    have hLl := Lib.hid (show L.length = k by rw [hL.out]; simp [negL]; omega)
    by_cases hlt : k < zs.length
    · obtain ⟨g, o, rfl, _, hg, ⟨A', c', ⟨hcell, hcap⟩, hrow⟩, hcnt⟩ := (HR.out.keep (fun b _ h => hD.out.low.block b h)).at_ hlt
      have hi1 : (k : Int) < (zs.length : Int) := by omega
      have hi0 : (0 : Int) ≤ (k : Int) := by omega
      have hcb := HC.out _ (List.getElem_mem hlt)
      have hst := Lib.hid (show L ++ [neg1 zs[k]] = negL (zs.take (k + 1)) by rw [hL.out]; unfold negL; rw [List.take_succ_eq_append_getElem hlt, List.map_append]; rfl)
      have hzl : L.length ≤ 4194304 := by rw [hLl.out]; omega
      have hp := Lib.hid (show DHok wr w.heap.size ((A', c'), neg1 zs[k]) from ⟨hrow.st hD.out.low.size, hcap⟩)
      have hwn : IntKind.i64.wrap (-zs[k].count) = -zs[k].count := by rw [IntKind.wrap_i64]; omega
      clear hrow
      go_wp2_with fail
      have hBd := Lib.hid (fun x => (show Below wr.heap.size wr (wr.alloc x).drew from ((Below.refl _ _).alloc (Nat.le_refl _) _).drew))
      go_region_law (refine step_dappW rfl (.tmp 12) (.tmp 25) rfl w wr (.slice A6 L.length c6) L ((A', c'), neg1 zs[k]) wr.heap.size rfl hD.out hp.out rfl (hBd.out _) (by simp [neg1]) (by simp [neg1]) hzl ?_; intro v2 W2 hD2)
      all_goals have HD2 := Lib.hid hD2
      all_goals clear hD2 hcell hcnt hBd
      all_goals go_wp2_with fail
      all_goals go_roundw
      all_goals first
        | exact ⟨k + 1, _, by omega, by go_num, hst, HD2⟩
        | (simp [intOf]; omega)
    · have hi1 : ¬ (k : Int) < (zs.length : Int) := by omega
      have hE := Lib.hid (show L = negL zs by rw [hL.out, List.take_of_length_le (by omega)])
      have hP := Lib.hid hD.out.post
      go_wp2_with fail
      go_ret
      rw [← hE.out]
      exact hP.out
end Go.Proofs.Ytggkggaihfcjmaa
namespace Go.Proofs.Ytggkggaihfcjmaa
open Go.RowKit Go.Sort
set_option linter.unusedVariables false

theorem negL_len (zs : List GDiff) : (negL zs).length = zs.length := by simp [negL]
theorem negL_rows {zs : List GDiff} {P : List GV → Prop} (h : ∀ z ∈ zs, P z.row) : ∀ z ∈ negL zs, P z.row := by
  intro z hz
  simp only [negL, List.mem_map] at hz
  obtain ⟨y, hy, rfl⟩ := hz
  exact h y hy
set_option maxRecDepth 100000 in
set_option maxHeartbeats 1600000 in
theorem spec_negDiff {lo : Nat} (A : Option Addr) (c : Nat) (zs : List GDiff) (w : World) (hr : DiffsAt w lo w.heap.size A zs) (hl : zs.length ≤ 1048576) (hlr : ∀ z ∈ zs, z.row.length ≤ 1048576 ∧ ∀ v ∈ z.row, v.t.size ≤ maxLen) :
    Calls Try.prog 96 #[.slice A zs.length c] w (DPost w (negD zs)) := by
  have HR := Lib.hid hr
  have HLR := Lib.hid hlr
  clear hr hlr
  by_cases h : diffOkB zs = true
  · have ho : negD zs = negL zs := by unfold negD; rw [if_pos h]
    rw [ho]
    clear ho
    have HC := Lib.hid (dok_cnt h)
    have HN := Lib.hid (show (negL zs).length ≤ 4194304 by rw [negL_len]; omega)
    have HRR := Lib.hid (negL_rows (P := fun r => r.length ≤ 1048576) (fun z hz => (HLR.out z hz).1))
    go_enter Try.func96, Try.ntmps96
    go_wp2_with fail
    refine (spec_diffOk A c zs _ HR.out (by omega) HLR.out).mono ?_
    rintro e w1 ⟨rfl, hb1⟩
    rw [h]
    go_wp2_with fail
    refine (spec_negL A c zs _ (HR.out.to_ hb1) hl HC.out).mono ?_
    rintro e w2 ⟨A2, c2, rfl, hc2, hd2, hb2⟩
    have hB2 := below_next hb1 hb2 rfl rfl
    have HD2 := Lib.hid hd2
    clear hd2 hc2
    go_wp2_with fail
    refine (spec_copyD A2 c2 (negL zs) _ HD2.out HN.out HRR.out).mono ?_
    rintro e w3 ⟨A3, c3, rfl, hc3, hd3, hb3⟩
    have hB3 := below_next hB2 hb3 rfl rfl
    have HD3 := Lib.hid hd3
    clear hd3
    go_wp2_with fail
    go_ret
    exact ⟨_, _, rfl, hc3, HD3.out, hB3⟩
  · rw [Bool.not_eq_true] at h
    have ho : negD zs = [] := by unfold negD; rw [if_neg (by rw [h]; decide)]
    rw [ho]
    clear ho
    go_enter Try.func96, Try.ntmps96
    go_wp2_with fail
    refine (spec_diffOk A c zs _ HR.out (by omega) HLR.out).mono ?_
    rintro e w1 ⟨rfl, hb1⟩
    rw [h]
    go_wp2_with fail
    go_ret
    exact ⟨_, _, rfl, ⟨Nat.le_refl _, Nat.zero_le _⟩, .inl rfl, hb1.alloc hb1.size _⟩
end Go.Proofs.Ytggkggaihfcjmaa
namespace Go.Proofs.Ytggkggaihfcjmaa
open Go.RowKit Go.Sort
set_option linter.unusedVariables false

def ofL (rows : List (List GV)) (n : Int) : List GDiff := rows.map fun r => ⟨r, n⟩
theorem ofL_len (rows : List (List GV)) (n : Int) : (ofL rows n).length = rows.length := by simp [ofL]
theorem ofL_rows (rows : List (List GV)) (n : Int) : rowsD (ofL rows n) = rows := by
  unfold rowsD ofL; rw [List.map_map]; exact List.map_id rows
theorem ofL_mem {rows : List (List GV)} {n : Int} {z : GDiff} (h : z ∈ ofL rows n) : z.row ∈ rows ∧ z.count = n := by
  unfold ofL at h
  obtain ⟨r, hr, rfl⟩ := List.mem_map.1 h
  exact ⟨hr, rfl⟩
theorem ofL_snoc (rows : List (List GV)) (n : Int) (k : Nat) (h : k < rows.length) : ofL (rows.take (k + 1)) n = ofL (rows.take k) n ++ [⟨rows[k], n⟩] := by
  unfold ofL; rw [List.take_succ_eq_append_getElem h, List.map_append]; rfl
theorem negL_ofL (rows : List (List GV)) : negL (ofL rows 1) = ofL rows (-1) := by
  unfold negL ofL; rw [List.map_map]; rfl
theorem ofL_ok (rows : List (List GV)) {n : Int} (hn : cntB n = true) : diffOkB (ofL rows n) = tableOkB rows := by
  unfold diffOkB tableOkB rowsOkB
  rw [ofL_len, ofL_rows]
  have : (ofL rows n).all (goodD (wid rows)) = rows.all (goodRow (wid rows)) := by
    unfold ofL
    rw [List.all_map]
    congr 1
    funext r
    simp [goodD, hn]
  rw [this, Bool.and_comm (decide _)]
theorem canon_swap {L a b : List GDiff} (h : Canon L (a ++ b)) : Canon L (b ++ a) := ⟨h.asc, h.nz, fun r => by rw [h.sum, coef_append, coef_append]; omega⟩
theorem addD_comm {a b : List GDiff} (ha : AscD a) (hb : AscD b) (na : nzD a) (nb : nzD b) : addD a b = addD b a :=
  canon_unique (canon_addD ha hb na nb) (canon_swap (canon_addD hb ha nb na))
theorem compat_of (old fresh : List (List GV)) (n m : Int) : compatB (ofL old n) (ofL fresh m) = (decide (old.length = 0) || decide (fresh.length = 0) || decide (wid old = wid fresh)) := by
  unfold compatB; rw [ofL_len, ofL_len, ofL_rows, ofL_rows]
/-- What DiffOf answers. -/
def diffOfD (old fresh : List (List GV)) : List GDiff := addDD (ofL old (-1)) (ofL fresh 1)
theorem posL_filter : ∀ zs : List GDiff, posL zs = (zs.filter fun z => decide (0 < z.count)).map (·.row)
  | [] => rfl
  | z :: zs => by
    rw [posL, posL_filter zs]
    by_cases h : 0 < z.count
    · simp [h]
    · simp [h]
theorem asc_pos {zs : List GDiff} (h : AscD zs) (n : Int) : AscD (ofL (posL zs) n) := by
  unfold AscD ofL
  rw [posL_filter, List.map_map, List.pairwise_map]
  exact (h.filter _).imp fun h => h
theorem pos_good {zs : List GDiff} {m : Nat} (hg : ∀ z ∈ zs, goodRow m z.row = true) : ∀ r ∈ posL zs, goodRow m r = true := posL_rows hg
theorem pos_ok {zs : List GDiff} {n : Int} (h : diffOkB zs = true) (hn : cntB n = true) : diffOkB (ofL (posL zs) n) = true := by
  obtain ⟨h1, h2, h3⟩ := diffOk_asc h
  have hl := (ok_small h).1
  have hp := posL_len zs
  have hn0 : n ≠ 0 := by intro e; subst e; simp [cntB] at hn
  exact canon_ok (L := ofL (posL zs) n) (zs := ofL (posL zs) n) ⟨asc_pos h1 n, fun z hz => by rw [(ofL_mem hz).2]; exact hn0, fun r => rfl⟩ (fun z hz => pos_good (fun z hz => (h3 z hz).1) _ (ofL_mem hz).1) (by rw [ofL_len]; omega) (fun z hz => by rw [(ofL_mem hz).2]; exact hn)
theorem compat_good {a b : List GDiff} {m : Nat} (ha : ∀ z ∈ a, goodRow m z.row = true) (hb : ∀ z ∈ b, goodRow m z.row = true) : compatB a b = true := by
  unfold compatB
  simp only [Bool.or_eq_true, decide_eq_true_eq]
  rcases Nat.eq_zero_or_pos a.length with h | h
  · exact .inl (.inl h)
  · rcases Nat.eq_zero_or_pos b.length with h' | h'
    · exact .inl (.inr h')
    · right
      rw [widD_eq h, widD_eq h']
      have h1 := ha _ (List.getElem_mem h)
      have h2 := hb _ (List.getElem_mem h')
      unfold goodRow at h1 h2
      simp only [Bool.and_eq_true, decide_eq_true_eq] at h1 h2
      omega
/-- What Flips answers. -/
def flipsD (z d : List GDiff) : List GDiff := if (diffOkB z && diffOkB d && compatB z d && diffOkB (addD z d)) = true then orD (addD (ofL (posL (addD z d)) 1) (negL (ofL (posL z) 1))) else []
theorem flips_of {z d : List GDiff} (hz : diffOkB z = true) (hd : diffOkB d = true) (hc : compatB z d = true) (hs : diffOkB (addD z d) = true) : diffOfD (posD z) (posD (addD z d)) = flipsD z d := by
  have h0 : flipsD z d = orD (addD (ofL (posL (addD z d)) 1) (negL (ofL (posL z) 1))) := by unfold flipsD; rw [hz, hd, hc, hs]; rfl
  have g : ∃ n, ∀ x ∈ z ++ d, goodRow n x.row = true := by
    have h1 := (diffOk_asc hz).2.2
    have h2 := (diffOk_asc hd).2.2
    have hc' := hc
    unfold compatB at hc'
    simp only [Bool.or_eq_true, decide_eq_true_eq] at hc'
    rcases hc' with (hc | hc) | hc
    · have : z = [] := List.eq_nil_of_length_eq_zero hc
      subst this
      exact ⟨_, fun x hx => (h2 x (by simpa using hx)).1⟩
    · have : d = [] := List.eq_nil_of_length_eq_zero hc
      subst this
      exact ⟨_, fun x hx => (h1 x (by simpa using hx)).1⟩
    · refine ⟨wid (rowsD z), fun x hx => ?_⟩
      rcases List.mem_append.1 hx with hx | hx
      · exact (h1 x hx).1
      · rw [hc]; exact (h2 x hx).1
  obtain ⟨n, hg⟩ := g
  have cz := diffOk_asc hz
  have cd := diffOk_asc hd
  have cs := diffOk_asc hs
  have hcan := canon_addD cz.1 cd.1 cz.2.1 cd.2.1
  have gs : ∀ x ∈ addD z d, goodRow n x.row = true := fun x hx => by obtain ⟨y, hy, e⟩ := canon_row hcan hx; rw [← e]; exact hg y hy
  have gz : ∀ x ∈ z, goodRow n x.row = true := fun x hx => hg x (List.mem_append_left _ hx)
  have o1 := pos_ok (n := -1) hz (by decide)
  have o2 := pos_ok (n := 1) hs (by decide)
  have cc : compatB (ofL (posL z) (-1)) (ofL (posL (addD z d)) 1) = true := compat_good (fun x hx => pos_good gz _ (ofL_mem hx).1) (fun x hx => pos_good gs _ (ofL_mem hx).1)
  have e1 : posD z = posL z := by unfold posD; rw [if_pos hz]
  have e2 : posD (addD z d) = posL (addD z d) := by unfold posD; rw [if_pos hs]
  rw [h0, e1, e2, negL_ofL]
  unfold diffOfD addDD
  rw [o1, o2, cc]
  have c1 := diffOk_asc o1
  have c2 := diffOk_asc o2
  rw [addD_comm c1.1 c2.1 c1.2.1 c2.2.1]
  rfl
theorem flipsD_ok (z d : List GDiff) : flipsD z d = [] ∨ diffOkB (flipsD z d) = true := by
  unfold flipsD orD
  by_cases h : (diffOkB z && diffOkB d && compatB z d && diffOkB (addD z d)) = true
  · rw [if_pos h]
    by_cases h' : diffOkB (addD (ofL (posL (addD z d)) 1) (negL (ofL (posL z) 1))) = true
    · rw [if_pos h']; exact .inr h'
    · rw [if_neg h']; exact .inl rfl
  · rw [if_neg h]; exact .inl rfl
end Go.Proofs.Ytggkggaihfcjmaa
