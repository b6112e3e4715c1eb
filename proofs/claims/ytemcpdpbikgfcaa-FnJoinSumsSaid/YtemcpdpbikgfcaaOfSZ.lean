/-
  Distinct rows as differences; the mathematics of DiffOf and Flips. spec.l4Of.
-/
import Derived.Test.YtemcpdpbikgfcaaWideSZ
import Derived.Test.YtemcpdpbikgfcaaDistSZ
import Derived.Test.YtemcpdpbikgfcaaNegSZ
import Derived.Test.YtemcpdpbikgfcaaTabOkMZ
namespace Go.Proofs.Ytemcpdpbikgfcaa
open Go.RowKit Go.Sort
set_option linter.unusedVariables false

def ofL (rows : List (List GV)) (n : Int) : List GDiff := rows.map fun r => ⟨r, n⟩
theorem ofL_len (rows : List (List GV)) (n : Int) : (ofL rows n).length = rows.length := by simp [ofL]
theorem ofL_rows (rows : List (List GV)) (n : Int) : rowsD (ofL rows n) = rows := by
  unfold rowsD ofL; rw [List.map_map]; exact List.map_id rows
theorem ofL_mem {rows : List (List GV)} {n : Int} {z : GDiff} (h : z ∈ ofL rows n) : z.row ∈ rows ∧ z.count = n := by
  unfold ofL at h
  obtain ⟨r, hr, rfl⟩ := List.mem_map.1 h
  exact ⟨hr, rfl⟩
theorem ofL_snoc (rows : List (List GV)) (n : Int) (k : Nat) (h : k < rows.length) : ofL (rows.take (k + 1)) n = ofL (rows.take k) n ++ [⟨rows[k], n⟩] := by
  unfold ofL; rw [List.take_succ_eq_append_getElem h, List.map_append]; rfl
theorem negL_ofL (rows : List (List GV)) : negL (ofL rows 1) = ofL rows (-1) := by
  unfold negL ofL; rw [List.map_map]; rfl
theorem ofL_ok (rows : List (List GV)) {n : Int} (hn : cntB n = true) : diffOkB (ofL rows n) = tableOkB rows := by
  unfold diffOkB tableOkB rowsOkB
  rw [ofL_len, ofL_rows]
  have : (ofL rows n).all (goodD (wid rows)) = rows.all (goodRow (wid rows)) := by
    unfold ofL
    rw [List.all_map]
    congr 1
    funext r
    simp [goodD, hn]
  rw [this, Bool.and_comm (decide _)]
theorem canon_swap {L a b : List GDiff} (h : Canon L (a ++ b)) : Canon L (b ++ a) := ⟨h.asc, h.nz, fun r => by rw [h.sum, coef_append, coef_append]; omega⟩
theorem addD_comm {a b : List GDiff} (ha : AscD a) (hb : AscD b) (na : nzD a) (nb : nzD b) : addD a b = addD b a :=
  canon_unique (canon_addD ha hb na nb) (canon_swap (canon_addD hb ha nb na))
theorem compat_of (old fresh : List (List GV)) (n m : Int) : compatB (ofL old n) (ofL fresh m) = (decide (old.length = 0) || decide (fresh.length = 0) || decide (wid old = wid fresh)) := by
  unfold compatB; rw [ofL_len, ofL_len, ofL_rows, ofL_rows]
/-- What DiffOf answers. -/
def diffOfD (old fresh : List (List GV)) : List GDiff := addDD (ofL old (-1)) (ofL fresh 1)
theorem posL_filter : ∀ zs : List GDiff, posL zs = (zs.filter fun z => decide (0 < z.count)).map (·.row)
  | [] => rfl
  | z :: zs => by
    rw [posL, posL_filter zs]
    by_cases h : 0 < z.count
    · simp [h]
    · simp [h]
theorem asc_pos {zs : List GDiff} (h : AscD zs) (n : Int) : AscD (ofL (posL zs) n) := by
  unfold AscD ofL
  rw [posL_filter, List.map_map, List.pairwise_map]
  exact (h.filter _).imp fun h => h
theorem pos_good {zs : List GDiff} {m : Nat} (hg : ∀ z ∈ zs, goodRow m z.row = true) : ∀ r ∈ posL zs, goodRow m r = true := posL_rows hg
theorem pos_ok {zs : List GDiff} {n : Int} (h : diffOkB zs = true) (hn : cntB n = true) : diffOkB (ofL (posL zs) n) = true := by
  obtain ⟨h1, h2, h3⟩ := diffOk_asc h
  have hl := (ok_small h).1
  have hp := posL_len zs
  have hn0 : n ≠ 0 := by intro e; subst e; simp [cntB] at hn
  exact canon_ok (L := ofL (posL zs) n) (zs := ofL (posL zs) n) ⟨asc_pos h1 n, fun z hz => by rw [(ofL_mem hz).2]; exact hn0, fun r => rfl⟩ (fun z hz => pos_good (fun z hz => (h3 z hz).1) _ (ofL_mem hz).1) (by rw [ofL_len]; omega) (fun z hz => by rw [(ofL_mem hz).2]; exact hn)
theorem compat_good {a b : List GDiff} {m : Nat} (ha : ∀ z ∈ a, goodRow m z.row = true) (hb : ∀ z ∈ b, goodRow m z.row = true) : compatB a b = true := by
  unfold compatB
  simp only [Bool.or_eq_true, decide_eq_true_eq]
  rcases Nat.eq_zero_or_pos a.length with h | h
  · exact .inl (.inl h)
  · rcases Nat.eq_zero_or_pos b.length with h' | h'
    · exact .inl (.inr h')
    · right
      rw [widD_eq h, widD_eq h']
      have h1 := ha _ (List.getElem_mem h)
      have h2 := hb _ (List.getElem_mem h')
      unfold goodRow at h1 h2
      simp only [Bool.and_eq_true, decide_eq_true_eq] at h1 h2
      omega
/-- What Flips answers. -/
def flipsD (z d : List GDiff) : List GDiff := if (diffOkB z && diffOkB d && compatB z d && diffOkB (addD z d)) = true then orD (addD (ofL (posL (addD z d)) 1) (negL (ofL (posL z) 1))) else []
theorem flips_of {z d : List GDiff} (hz : diffOkB z = true) (hd : diffOkB d = true) (hc : compatB z d = true) (hs : diffOkB (addD z d) = true) : diffOfD (posD z) (posD (addD z d)) = flipsD z d := by
  have h0 : flipsD z d = orD (addD (ofL (posL (addD z d)) 1) (negL (ofL (posL z) 1))) := by unfold flipsD; rw [hz, hd, hc, hs]; rfl
  have g : ∃ n, ∀ x ∈ z ++ d, goodRow n x.row = true := by
    have h1 := (diffOk_asc hz).2.2
    have h2 := (diffOk_asc hd).2.2
    have hc' := hc
    unfold compatB at hc'
    simp only [Bool.or_eq_true, decide_eq_true_eq] at hc'
    rcases hc' with (hc | hc) | hc
    · have : z = [] := List.eq_nil_of_length_eq_zero hc
      subst this
      exact ⟨_, fun x hx => (h2 x (by simpa using hx)).1⟩
    · have : d = [] := List.eq_nil_of_length_eq_zero hc
      subst this
      exact ⟨_, fun x hx => (h1 x (by simpa using hx)).1⟩
    · refine ⟨wid (rowsD z), fun x hx => ?_⟩
      rcases List.mem_append.1 hx with hx | hx
      · exact (h1 x hx).1
      · rw [hc]; exact (h2 x hx).1
  obtain ⟨n, hg⟩ := g
  have cz := diffOk_asc hz
  have cd := diffOk_asc hd
  have cs := diffOk_asc hs
  have hcan := canon_addD cz.1 cd.1 cz.2.1 cd.2.1
  have gs : ∀ x ∈ addD z d, goodRow n x.row = true := fun x hx => by obtain ⟨y, hy, e⟩ := canon_row hcan hx; rw [← e]; exact hg y hy
  have gz : ∀ x ∈ z, goodRow n x.row = true := fun x hx => hg x (List.mem_append_left _ hx)
  have o1 := pos_ok (n := -1) hz (by decide)
  have o2 := pos_ok (n := 1) hs (by decide)
  have cc : compatB (ofL (posL z) (-1)) (ofL (posL (addD z d)) 1) = true := compat_good (fun x hx => pos_good gz _ (ofL_mem hx).1) (fun x hx => pos_good gs _ (ofL_mem hx).1)
  have e1 : posD z = posL z := by unfold posD; rw [if_pos hz]
  have e2 : posD (addD z d) = posL (addD z d) := by unfold posD; rw [if_pos hs]
  rw [h0, e1, e2, negL_ofL]
  unfold diffOfD addDD
  rw [o1, o2, cc]
  have c1 := diffOk_asc o1
  have c2 := diffOk_asc o2
  rw [addD_comm c1.1 c2.1 c1.2.1 c2.2.1]
  rfl
theorem flipsD_ok (z d : List GDiff) : flipsD z d = [] ∨ diffOkB (flipsD z d) = true := by
  unfold flipsD orD
  by_cases h : (diffOkB z && diffOkB d && compatB z d && diffOkB (addD z d)) = true
  · rw [if_pos h]
    by_cases h' : diffOkB (addD (ofL (posL (addD z d)) 1) (negL (ofL (posL z) 1))) = true
    · rw [if_pos h']; exact .inr h'
    · rw [if_neg h']; exact .inl rfl
  · rw [if_neg h]; exact .inl rfl
end Go.Proofs.Ytemcpdpbikgfcaa
namespace Go.Proofs.Ytemcpdpbikgfcaa
open Go.RowKit Go.Sort
set_option linter.unusedVariables false

theorem RowAt.st {w : World} {N : Nat} {A : Option Addr} {xs : List GV} (h : RowAt w N A xs) (hN : N ≤ w.heap.size) : RowSt w N A xs := by
  rcases h with h | ⟨g, o, hA, hg, hc⟩
  · exact .inl h
  · exact .inr ⟨g, o, hA, by omega, .inl hg, fun i x hx => hc i x hx⟩
set_option maxRecDepth 100000 in
set_option maxHeartbeats 3200000 in
theorem spec_ofL (A : Option Addr) (c : Nat) (rows : List (List GV)) (w : World) (hr : TabC w w.heap.size A rows) (hl : rows.length ≤ 1048576) :
    Calls Try.prog 55 #[.slice A rows.length c] w (DPost w (ofL rows 1)) := by
  have HR := Lib.hid hr
  clear hr
  go_enter Try.func55, Try.ntmps55
  go_wp2_with fail
  go_loopw [3, 4] (fun out i w' => ∃ (k : Nat) (L : List GDiff), k ≤ rows.length ∧ i = .int .i64 k ∧ Hid (L = ofL (rows.take k) 1) ∧ Hid (DAcc w w' out L)) (fun _ i _ => rows.length - (intOf i).toNat)
  case atStart => exact ⟨0, [], Nat.zero_le _, rfl, Lib.hid rfl, Lib.hid (DAcc.start (Below.refl _ _) rfl)⟩
  case round =>
    obtain ⟨k, L, hk, rfl, hL, hD⟩ := hrel
    obtain ⟨A6, c6, rfl, _⟩ := hD.out.slice
    have hLl := Lib.hid (show L.length = k by rw [hL.out, ofL_len, List.length_take]; omega)
    by_cases hlt : k < rows.length
    · obtain ⟨g, o, A', c', rfl, hg, hcell, hcap, hrow⟩ := (HR.out.below hD.out.low (Nat.le_refl _)).at_ hlt
      have hi1 : (k : Int) < (rows.length : Int) := by omega
      have hi0 : (0 : Int) ≤ (k : Int) := by omega
      have hst := Lib.hid (show L ++ [⟨rows[k], 1⟩] = ofL (rows.take (k + 1)) 1 by rw [hL.out, ofL_snoc rows 1 k hlt])
      have hzl : L.length ≤ 4194304 := by rw [hLl.out]; omega
      have hp := Lib.hid (show DHok wr w.heap.size ((A', c'), ⟨rows[k], 1⟩) from ⟨hrow.st hD.out.low.size, hcap⟩)
      clear hrow hcap
      go_wp2_with (at_builtin; refine wpList_dapp wr rfl (.tmp 12) (.tmp 18) rfl w (.slice A6 L.length c6) L ((A', c'), ⟨rows[k], 1⟩) rfl hD.out hp.out rfl hzl ?_; intro v2 W2 hD2; refine Hid.out ?_)
      refine Lib.hid ?_
      have HD2 := Lib.hid hD2
      clear hD2 hcell
      go_wp2_with fail
      go_roundw
      case rel => exact ⟨k + 1, _, by omega, by go_num, hst, HD2⟩
      case measure => simp [intOf]; omega
    · have hi1 : ¬ (k : Int) < (rows.length : Int) := by omega
      have hE := Lib.hid (show L = ofL rows 1 by rw [hL.out, List.take_of_length_le (by omega)])
      have hP := Lib.hid hD.out.post
      go_wp2_with fail
      go_ret
      rw [← hE.out]
      exact hP.out
end Go.Proofs.Ytemcpdpbikgfcaa
