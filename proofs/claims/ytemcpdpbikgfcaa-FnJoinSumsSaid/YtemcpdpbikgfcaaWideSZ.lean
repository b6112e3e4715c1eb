/-
  The size of a valid value's text. The join of two lists of differences: mathematics. spec.l4Wide and spec.AddDiffs.
-/
import Derived.Test.YtemcpdpbikgfcaaTabOkMZ
import Derived.Lib.Strings
import Derived.Test.YtemcpdpbikgfcaaSumDZ
import Derived.Test.YtemcpdpbikgfcaaOrDZ
import Derived.Test.YtemcpdpbikgfcaaCoef
import Derived.Deep.QuietTactic
import Derived.BigQuiet
namespace Go.Proofs.Ytemcpdpbikgfcaa
open Go.RowKit
set_option linter.unusedVariables false

theorem empty_size {t : ByteArray} (h : t.toList.isEmpty = true) : t.size ≤ 60 := by
  rw [Lib.toList_data, List.isEmpty_iff] at h
  have : t.data.toList.length = 0 := by rw [h]; rfl
  have e : t.size = t.data.toList.length := by simp
  omega
theorem okG_size {v : GV} (h : okG v = true) : v.t.size ≤ 60 := by
  unfold okG valueOkB at h
  split at h
  · simp only [Bool.and_eq_true] at h; exact empty_size h.2
  · split at h
    · simp only [Bool.and_eq_true] at h
      have := h.2
      unfold textOkB at this
      simp only [Bool.and_eq_true, decide_eq_true_eq] at this
      exact this.2
    · split at h
      · simp only [Bool.and_eq_true] at h; exact empty_size h.2
      · cases h
end Go.Proofs.Ytemcpdpbikgfcaa
namespace Go.Proofs.Ytemcpdpbikgfcaa
set_option linter.unusedVariables false

def pairD (n : Nat) (x y : GDiff) : List GDiff := if cmpR (x.row.take n) (y.row.take n) = 0 then [⟨x.row ++ y.row.drop n, x.count * y.count⟩] else []
def rowJ (n : Nat) (x : GDiff) (b : List GDiff) : List GDiff := b.flatMap (pairD n x)
def pairsD (n : Nat) (a b : List GDiff) : List GDiff := a.flatMap fun x => rowJ n x b
def widD (a : List GDiff) : Nat := wid (rowsD a)
/-- What the join asks of its arguments. -/
def joinB (a b : List GDiff) (on : Int) : Bool := diffOkB a && diffOkB b && decide (0 ≤ on) && !a.isEmpty && !b.isEmpty && decide (on ≤ widD a) && decide (on ≤ widD b) && decide ((widD a : Int) + widD b - on ≤ 8)
def joinD (a b : List GDiff) (on : Int) : List GDiff := if joinB a b on = true ∧ (pairsD on.toNat a b).length ≤ 3000 then orD (sumD (pairsD on.toNat a b)) else []
theorem rowJ_snoc (n : Nat) (x : GDiff) (b : List GDiff) (k : Nat) (h : k < b.length) : rowJ n x (b.take (k + 1)) = rowJ n x (b.take k) ++ pairD n x b[k] := by
  unfold rowJ; rw [List.take_succ_eq_append_getElem h, List.flatMap_append]; simp
theorem pairsD_snoc (n : Nat) (a b : List GDiff) (k : Nat) (h : k < a.length) : pairsD n (a.take (k + 1)) b = pairsD n (a.take k) b ++ rowJ n a[k] b := by
  unfold pairsD; rw [List.take_succ_eq_append_getElem h, List.flatMap_append]; simp
theorem pairsD_take (n : Nat) (a b : List GDiff) (k : Nat) : (pairsD n (a.take k) b).length ≤ (pairsD n a b).length := by
  conv => rhs; rw [← List.take_append_drop k a]
  unfold pairsD
  rw [List.flatMap_append, List.length_append]; omega
theorem rowJ_length (n : Nat) (x : GDiff) (b : List GDiff) : (rowJ n x b).length ≤ b.length := by
  unfold rowJ
  induction b with
  | nil => simp
  | cons y b ih =>
    rw [List.flatMap_cons, List.length_append, List.length_cons]
    have : (pairD n x y).length ≤ 1 := by unfold pairD; split <;> simp
    omega
theorem rowJ_take (n : Nat) (x : GDiff) (b : List GDiff) (k : Nat) : (rowJ n x (b.take k)).length ≤ b.length := by
  have := rowJ_length n x (b.take k)
  rw [List.length_take] at this
  omega
/-- Rows and counts of the pairs. -/
theorem pairsD_mem {n : Nat} {a b : List GDiff} {z : GDiff} (h : z ∈ pairsD n a b) : ∃ x ∈ a, ∃ y ∈ b, z = ⟨x.row ++ y.row.drop n, x.count * y.count⟩ := by
  unfold pairsD rowJ at h
  rw [List.mem_flatMap] at h
  obtain ⟨x, hx, h⟩ := h
  rw [List.mem_flatMap] at h
  obtain ⟨y, hy, h⟩ := h
  unfold pairD at h
  split at h
  · simp at h; exact ⟨x, hx, y, hy, h⟩
  · simp at h
theorem diffOk_all {zs : List GDiff} (h : diffOkB zs = true) : zs.length ≤ 3000 ∧ ∀ z ∈ zs, z.row.length = widD zs ∧ z.row.length ≤ 8 ∧ (∀ v ∈ z.row, v.t.size ≤ 60) ∧ -1000000 ≤ z.count ∧ z.count ≤ 1000000 := by
  unfold diffOkB at h
  simp only [Bool.and_eq_true, decide_eq_true_eq] at h
  refine ⟨h.1.1, fun z hz => ?_⟩
  have h2 := (List.all_eq_true.1 h.1.2) z hz
  unfold goodD goodRow cntB at h2
  simp only [Bool.and_eq_true, decide_eq_true_eq] at h2
  have h3 := h2.1.1
  unfold rowOkB at h3
  simp only [Bool.and_eq_true, decide_eq_true_eq] at h3
  refine ⟨h2.1.2, h3.2, fun v hv => ?_, h2.2.1.2, h2.2.2⟩
  exact okG_size ((List.all_eq_true.1 h3.1) v hv)
end Go.Proofs.Ytemcpdpbikgfcaa
namespace Go.Proofs.Ytemcpdpbikgfcaa
open Go.RowKit Go.Sort
set_option linter.unusedVariables false

set_option maxRecDepth 100000 in
set_option maxHeartbeats 1600000 in
theorem spec_wide {lo lo' : Nat} (A B : Option Addr) (c d : Nat) (a b : List GDiff) (w : World) (ha : DiffsAt w lo w.heap.size A a) (hb : DiffsAt w lo' w.heap.size B b) (hl : a.length ≤ 4194304) (hl' : b.length ≤ 4194304) :
    Calls Try.prog 46 #[.slice A a.length c, .slice B b.length d] w fun e w' => e = .returned (.bool (compatB a b)) ∧ Below w.heap.size w w' := by
  have HA := Lib.hid ha
  have HB := Lib.hid hb
  clear ha hb
  by_cases h0 : a.length = 0
  · have hc := Lib.hid (show compatB a b = true by unfold compatB; simp [h0])
    have hq : ((a.length : Int) == 0) = true := beq0_t h0
    clear h0
    go_enter Try.func46, Try.ntmps46
    go_wp2_with fail
    go_quiet (fail)
    go_wp2_with fail
    go_ret
    exact ⟨by rw [hc.out]; rfl, ⟨rfl, rfl, rfl, Nat.le_refl _, fun _ _ => rfl⟩⟩
  · have hq : ((a.length : Int) == 0) = false := beq0_f h0
    by_cases h1 : b.length = 0
    · have hc := Lib.hid (show compatB a b = true by unfold compatB; simp [h1])
      have hq' : ((b.length : Int) == 0) = true := beq0_t h1
      clear h0 h1
      go_enter Try.func46, Try.ntmps46
      go_wp2_with fail
      go_quiet (fail)
      go_wp2_with fail
      go_ret
      exact ⟨by rw [hc.out]; rfl, ⟨rfl, rfl, rfl, Nat.le_refl _, fun _ _ => rfl⟩⟩
    · have hq' : ((b.length : Int) == 0) = false := beq0_f h1
      obtain ⟨g, o, rfl, _, hg, ⟨A', c', ⟨hcell, hcap⟩, hrow⟩, hcnt⟩ := HA.out.at_ (i := 0) (by omega)
      obtain ⟨g', o', rfl, _, hg', ⟨B', d', ⟨hcell', hcap'⟩, hrow'⟩, hcnt'⟩ := HB.out.at_ (i := 0) (by omega)
      rw [Nat.zero_mul, Nat.add_zero] at hcell hcell'
      have hc := Lib.hid (show compatB a b = ((a[0].row.length : Int) == (b[0].row.length : Int)) by unfold compatB; rw [widD_eq (by omega), widD_eq (by omega), Bool.eq_iff_iff]; simp [h0, h1]; omega)
      have hi1 : (0 : Int) < (a.length : Int) := by omega
      have hi2 : (0 : Int) < (b.length : Int) := by omega
      generalize a[0].row.length = la at *
      generalize b[0].row.length = lb at *
      clear h0 h1 hrow hrow' hcnt hcnt'
      go_enter Try.func46, Try.ntmps46
      go_wp2_with fail
      go_quiet (fail)
      go_wp2_with fail
      go_ret
      exact ⟨by rw [hc.out]; rfl, ⟨rfl, rfl, rfl, Nat.le_refl _, fun _ _ => rfl⟩⟩
/-- What spec.AddDiffs answers. -/
def addDD (a b : List GDiff) : List GDiff := if (diffOkB a && diffOkB b && compatB a b) = true then orD (addD a b) else []
theorem dpost_none {w w' : World} {n : Nat} (h : Below w.heap.size w w') (hn : w'.heap.size = n) : DPost w [] (.returned (.slice (some ⟨n, 0, none⟩) 0 0)) (w'.alloc (.cells #[] 55)) :=
  ⟨_, 0, rfl, ⟨Nat.le_refl _, Nat.zero_le _⟩, .inl rfl, h.alloc h.size _⟩
theorem DPost.next {w w1 w2 : World} {zs : List GDiff} {e : Ending} (h : DPost w1 zs e w2) (hB : Below w.heap.size w w1) : DPost w zs e w2 := by
  obtain ⟨A, c, he, hc, hd, hb⟩ := h
  exact ⟨A, c, he, hc, hd, below_next hB hb rfl rfl⟩
theorem ok_small {zs : List GDiff} (h : diffOkB zs = true) : zs.length ≤ 3000 ∧ cntLe 1000000 zs ∧ ∀ z ∈ zs, z.row.length ≤ 8 ∧ ∀ v ∈ z.row, v.t.size ≤ 60 := by
  have h1 := diffOk_all h
  exact ⟨h1.1, fun z hz => (h1.2 z hz).2.2.2, fun z hz => ⟨(h1.2 z hz).2.1, (h1.2 z hz).2.2.1⟩⟩
set_option maxRecDepth 100000 in
set_option maxHeartbeats 3200000 in
theorem spec_addDiffs {lo lo' : Nat} (A B : Option Addr) (c d : Nat) (a b : List GDiff) (w : World) (ha : DiffsAt w lo w.heap.size A a) (hb : DiffsAt w lo' w.heap.size B b) (hl : a.length ≤ 1048576) (hl' : b.length ≤ 1048576)
    (hla : ∀ z ∈ a, z.row.length ≤ 1048576 ∧ ∀ v ∈ z.row, v.t.size ≤ maxLen) (hlb : ∀ z ∈ b, z.row.length ≤ 1048576 ∧ ∀ v ∈ z.row, v.t.size ≤ maxLen) :
    Calls Try.prog 12 #[.slice A a.length c, .slice B b.length d] w (DPost w (addDD a b)) := by
  have HA := Lib.hid ha
  have HB := Lib.hid hb
  have HLA := Lib.hid hla
  have HLB := Lib.hid hlb
  clear ha hb hla hlb
  by_cases h1 : diffOkB a = true
  · by_cases h2 : diffOkB b = true
    · by_cases h3 : compatB a b = true
      · have he : addDD a b = orD (addD a b) := by unfold addDD; rw [h1, h2, h3]; rfl
        rw [he]
        clear he
        obtain ⟨s1, s2, s3⟩ := ok_small h1
        obtain ⟨t1, t2, t3⟩ := ok_small h2
        obtain ⟨p1, p2, p3⟩ := addD_props 1000000 1000000 a b (fun r => r.length ≤ 8 ∧ ∀ v ∈ r, v.t.size ≤ 60) s2 t2 (by omega) (by omega) s3 t3
        have hp1 : (addD a b).length ≤ 4194304 := by omega
        have HP := Lib.hid (show ∀ z ∈ addD a b, z.row.length ≤ 1048576 ∧ ∀ v ∈ z.row, v.t.size ≤ maxLen from fun z hz => ⟨Nat.le_trans (p3 z hz).1 (by omega), fun v hv => Nat.le_trans ((p3 z hz).2 v hv) (by unfold maxLen; omega)⟩)
        have HS := Lib.hid s2
        have HT := Lib.hid t2
        clear s1 s2 s3 t1 t2 t3 p1 p2 p3
        go_enter Try.func12, Try.ntmps12
        go_wp2_with fail
        refine (spec_diffOk A c a _ HA.out (by omega) HLA.out).mono ?_
        rintro e w1 ⟨rfl, hb1⟩
        rw [h1]
        go_wp2_with fail
        refine (spec_diffOk B d b _ (HB.out.to_ hb1) (by omega) HLB.out).mono ?_
        rintro e w2 ⟨rfl, hb2⟩
        rw [h2]
        have hB2 := below_next hb1 hb2 rfl rfl
        clear hb1 hb2
        go_wp2_with fail
        refine (spec_wide A B c d a b _ (HA.out.to_ hB2) (HB.out.to_ hB2) (by omega) (by omega)).mono ?_
        rintro e w3 ⟨rfl, hb3⟩
        rw [h3]
        have hB3 := below_next hB2 hb3 rfl rfl
        clear hB2 hb3
        go_wp2_with fail
        refine (spec_addD A B c d a b 1000000 1000000 _ (HA.out.to_ hB3) (HB.out.to_ hB3) hl hl' (fun z hz => (HLA.out z hz).1) (fun z hz => (HLB.out z hz).1) HS.out HT.out (by omega)).mono ?_
        rintro e w4 ⟨A4, c4, rfl, hc4, hd4, hb4⟩
        have hB4 := below_next hB3 hb4 rfl rfl
        have HD4 := Lib.hid hd4
        clear hB3 hb4 hd4
        go_wp2_with fail
        refine (spec_orD A4 c4 (addD a b) _ HD4.out hp1 HP.out).mono ?_
        rintro e w5 ⟨A5, c5, rfl, hc5, hd5, hb5⟩
        have HD5 := Lib.hid hd5
        have HC5 := Lib.hid hc5
        have hB5 := below_next hB4 hb5 rfl rfl
        clear hd5 hc5
        go_wp2_with fail
        go_ret
        exact ⟨A5, c5, rfl, HC5.out, HD5.out, hB5⟩
      · rw [Bool.not_eq_true] at h3
        have he : addDD a b = [] := by unfold addDD; rw [h1, h2, h3]; rfl
        rw [he]
        clear he
        go_enter Try.func12, Try.ntmps12
        go_wp2_with fail
        refine (spec_diffOk A c a _ HA.out (by omega) HLA.out).mono ?_
        rintro e w1 ⟨rfl, hb1⟩
        rw [h1]
        go_wp2_with fail
        refine (spec_diffOk B d b _ (HB.out.to_ hb1) (by omega) HLB.out).mono ?_
        rintro e w2 ⟨rfl, hb2⟩
        rw [h2]
        have hB2 := below_next hb1 hb2 rfl rfl
        clear hb1 hb2
        go_wp2_with fail
        refine (spec_wide A B c d a b _ (HA.out.to_ hB2) (HB.out.to_ hB2) (by omega) (by omega)).mono ?_
        rintro e w3 ⟨rfl, hb3⟩
        rw [h3]
        have hB3 := below_next hB2 hb3 rfl rfl
        clear hB2 hb3
        go_wp2_with fail
        go_ret
        exact dpost_none hB3 rfl
    · rw [Bool.not_eq_true] at h2
      have he : addDD a b = [] := by unfold addDD; rw [h1, h2]; rfl
      rw [he]
      clear he
      go_enter Try.func12, Try.ntmps12
      go_wp2_with fail
      refine (spec_diffOk A c a _ HA.out (by omega) HLA.out).mono ?_
      rintro e w1 ⟨rfl, hb1⟩
      rw [h1]
      go_wp2_with fail
      refine (spec_diffOk B d b _ (HB.out.to_ hb1) (by omega) HLB.out).mono ?_
      rintro e w2 ⟨rfl, hb2⟩
      rw [h2]
      have hB2 := below_next hb1 hb2 rfl rfl
      clear hb1 hb2
      go_wp2_with fail
      go_ret
      exact dpost_none hB2 rfl
  · rw [Bool.not_eq_true] at h1
    have he : addDD a b = [] := by unfold addDD; rw [h1]; rfl
    rw [he]
    clear he
    go_enter Try.func12, Try.ntmps12
    go_wp2_with fail
    refine (spec_diffOk A c a _ HA.out (by omega) HLA.out).mono ?_
    rintro e w1 ⟨rfl, hb1⟩
    rw [h1]
    go_wp2_with fail
    go_ret
    exact dpost_none hb1 rfl
end Go.Proofs.Ytemcpdpbikgfcaa
