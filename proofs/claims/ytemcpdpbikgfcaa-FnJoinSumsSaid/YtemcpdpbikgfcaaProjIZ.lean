/-
  spec.JoinDiffs, whatever its arguments. impl.columnsOk. impl.Project.
-/
import Derived.Test.YtemcpdpbikgfcaaJoinS
import Derived.Test.YtemcpdpbikgfcaaJoinMIZ
import Derived.Test.YtemcpdpbikgfcaaTabHeadZ
import Derived.Test.YtemcpdpbikgfcaaSumVZ
import Derived.Deep.MidRow
namespace Go.Proofs.Ytemcpdpbikgfcaa
open Go.RowKit Go.Sort
set_option linter.unusedVariables false

theorem joinB_parts {a b : List GDiff} {on : Int} (h : joinB a b on = true) : diffOkB a = true ∧ diffOkB b = true ∧ 0 ≤ on ∧ 0 < a.length ∧ 0 < b.length ∧ on ≤ (widD a : Int) ∧ on ≤ (widD b : Int) ∧ (widD a : Int) + widD b - on ≤ 8 := by
  unfold joinB at h
  simp only [Bool.and_eq_true, decide_eq_true_eq, Bool.not_eq_true', List.isEmpty_eq_false_iff] at h
  obtain ⟨⟨⟨⟨⟨⟨⟨g1, g2⟩, g3⟩, g7⟩, g8⟩, g4⟩, g5⟩, g6⟩ := h
  exact ⟨g1, g2, g3, List.length_pos_iff.2 g7, List.length_pos_iff.2 g8, g4, g5, g6⟩
theorem spec_joinDiffs {lo lo' : Nat} (A B : Option Addr) (c d : Nat) (a b : List GDiff) (on : Int) (w : World) (ha : DiffsAt w lo w.heap.size A a) (hb : DiffsAt w lo' w.heap.size B b) (hla : a.length ≤ 1048576) (hlb : b.length ≤ 1048576)
    (hra : ∀ z ∈ a, z.row.length ≤ 1048576 ∧ ∀ v ∈ z.row, v.t.size ≤ maxLen) (hrb : ∀ z ∈ b, z.row.length ≤ 1048576 ∧ ∀ v ∈ z.row, v.t.size ≤ maxLen) (hon : (Lit.int .i64 on).wf = true) :
    Calls Try.prog 26 #[.slice A a.length c, .slice B b.length d, .int .i64 on] w (DPost w (joinD a b on)) := by
  have hon' : -9223372036854775808 ≤ on ∧ on ≤ 9223372036854775807 := by
    have : IntKind.i64.min ≤ on ∧ on ≤ IntKind.i64.max := by simpa [Lit.wf] using hon
    exact this
  by_cases hj : joinB a b on = true
  · obtain ⟨h1, h2, h3, ha0, hb0, h4, h5, h6⟩ := joinB_parts hj
    obtain ⟨n, rfl⟩ : ∃ n : Nat, on = (n : Int) := ⟨on.toNat, by omega⟩
    exact spec_join_yes A B c d a b n w ha hb hla hlb hra hrb h1 h2 ha0 hb0 (by omega) (by omega) (by omega)
  · have hj0 : joinB a b on = false := by simpa using hj
    rw [joinD_none hj0]
    by_cases h1 : diffOkB a = true
    · by_cases h2 : diffOkB b = true
      · by_cases h3 : 0 ≤ on
        · by_cases ha0 : a.length = 0
          · by_cases hb0 : b.length = 0
            · exact join_n5 A B c d a b on w ha hb hla hlb hra hrb hon' h1 h2 h3 ha0 hb0
            · by_cases h5 : (widD b : Int) < on
              · exact join_n6 A B c d a b on w ha hb hla hlb hra hrb hon' h1 h2 h3 ha0 (by omega) h5
              · exact join_n7 A B c d a b on w ha hb hla hlb hra hrb hon' h1 h2 h3 ha0 (by omega) (by omega)
          · by_cases h4 : (widD a : Int) < on
            · exact join_n4 A B c d a b on w ha hb hla hlb hra hrb hon' h1 h2 h3 (by omega) h4
            · by_cases hb0 : b.length = 0
              · exact join_n8 A B c d a b on w ha hb hla hlb hra hrb hon' h1 h2 h3 (by omega) (by omega) hb0
              · by_cases h5 : (widD b : Int) < on
                · exact join_n9 A B c d a b on w ha hb hla hlb hra hrb hon' h1 h2 h3 (by omega) (by omega) (by omega) h5
                · have ha1 : 0 < a.length := by omega
                  have hb1 : 0 < b.length := by omega
                  have hwa := (diffOk_all h1).2 a[0] (List.getElem_mem ha1)
                  have hwb := (diffOk_all h2).2 b[0] (List.getElem_mem hb1)
                  refine join_n10 A B c d a b on w ha hb hla hlb hra hrb hon' h1 h2 h3 ha1 (by omega) hb1 (by omega) (by omega) (by omega) ?_
                  rcases Decidable.em (8 < (widD a : Int) + widD b - on) with h6 | h6
                  · exact h6
                  · exfalso
                    apply hj
                    unfold joinB
                    have e1 : a.isEmpty = false := by cases a with | nil => simp at ha1 | cons _ _ => rfl
                    have e2 : b.isEmpty = false := by cases b with | nil => simp at hb1 | cons _ _ => rfl
                    rw [h1, h2, e1, e2]
                    simp; omega
        · exact join_n3 A B c d a b on w ha hb hla hlb hra hrb hon' h1 h2 (by omega)
      · exact join_n2 A B c d a b on w ha hb hla hlb hra hrb hon' h1 (by simpa using h2)
    · exact join_n1 A B c d a b on w ha hb hla hlb hra hrb hon' (by simpa using h1)
theorem joinD_ok (a b : List GDiff) (on : Int) : joinD a b on = [] ∨ diffOkB (joinD a b on) = true := by
  unfold joinD
  by_cases h : joinB a b on = true ∧ (pairsD on.toNat a b).length ≤ 3000
  · rw [if_pos h]
    unfold orD
    by_cases h' : diffOkB (sumD (pairsD on.toNat a b)) = true
    · rw [if_pos h']; exact .inr h'
    · rw [if_neg h']; exact .inl rfl
  · rw [if_neg h]; exact .inl rfl
end Go.Proofs.Ytemcpdpbikgfcaa
namespace Go.Proofs.Ytemcpdpbikgfcaa
open Go.RowKit Go.Sort
set_option linter.unusedVariables false

def colsB (zs : List GDiff) (cols : List Int) : Bool := decide (cols.length ≤ 8) && (zs.isEmpty || cols.all (inCol (widD zs)))
theorem projB_cols (zs : List GDiff) (cols : List Int) : projB zs cols = (diffOkB zs && colsB zs cols) := by unfold projB colsB; rw [Bool.and_assoc]
theorem cols_bad {zs : List GDiff} {cols : List Int} {k : Nat} (hz : 0 < zs.length) (hk : k < cols.length) (hc : inCol (widD zs) cols[k] = false) : colsB zs cols = false := by
  unfold colsB
  have h1 : zs.isEmpty = false := by cases zs with | nil => simp at hz | cons _ _ => rfl
  have h2 : cols.all (inCol (widD zs)) = false := by
    rw [List.all_eq_false]
    exact ⟨cols[k], List.getElem_mem hk, by rw [hc]; decide⟩
  rw [h1, h2]; simp
theorem cols_good {zs : List GDiff} {cols : List Int} (h8 : cols.length ≤ 8) (hc : 0 < zs.length → ∀ c ∈ cols, inCol (widD zs) c = true) : colsB zs cols = true := by
  unfold colsB
  by_cases h0 : zs.length = 0
  · obtain rfl := List.eq_nil_of_length_eq_zero h0
    simp [h8]
  · have : cols.all (inCol (widD zs)) = true := List.all_eq_true.2 (hc (by omega))
    rw [this]; simp [h8]
set_option maxRecDepth 100000 in
set_option maxHeartbeats 3200000 in
theorem impl_columns {lo lo' : Nat} (A B : Option Addr) (c d : Nat) (zs : List GDiff) (cols : List Int) (w : World) (hr : DiffsAt w lo w.heap.size A zs) (hc : IntsAt w lo' w.heap.size B cols) (hl : zs.length ≤ 1048576) (hcl : cols.length ≤ 1048576) :
    Calls Try.prog 69 #[.slice A zs.length c, .slice B cols.length d] w fun e w' => e = .returned (.bool (colsB zs cols)) ∧ w = w' := by
  have HR := Lib.hid hr
  have HC := Lib.hid hc
  clear hr hc
  by_cases h8 : 8 < cols.length
  · have hp := Lib.hid (show colsB zs cols = false by unfold colsB; rw [show decide (cols.length ≤ 8) = false by simpa using h8]; simp)
    have h8d : decide ((8 : Int) < (cols.length : Int)) = true := by simp; omega
    go_enter Try.func69, Try.ntmps69
    go_wp2_with fail
    go_ret
    exact ⟨by rw [hp.out]; rfl, rfl⟩
  · have h8d : decide ((8 : Int) < (cols.length : Int)) = false := by simp; omega
    go_enter Try.func69, Try.ntmps69
    go_wp2_with fail
    go_loopw [12] (fun i w' => ∃ k : Nat, k ≤ cols.length ∧ i = .int .i64 k ∧ Hid (0 < zs.length → ∀ c ∈ cols.take k, inCol (widD zs) c = true) ∧ w = w') (fun i _ => cols.length - (intOf i).toNat)
    case atStart => exact ⟨0, Nat.zero_le _, rfl, Lib.hid (fun _ c hc => by simp at hc), rfl⟩
    case round =>
      obtain ⟨k, hk, rfl, hG, rfl⟩ := hrel
      by_cases hlt : k < cols.length
      · have hi1 : (k : Int) < (cols.length : Int) := by omega
        have hi0 : (0 : Int) ≤ (k : Int) := by omega
        obtain ⟨g, o, rfl, _, hg, he⟩ := HC.out.at_ hlt
        have he2 : w.cell? ⟨g, o + k, none⟩ = some (.int .i64 cols[k]) := he
        clear he
        by_cases h0 : zs.length = 0
        · obtain rfl := List.eq_nil_of_length_eq_zero h0
          have hG2 := Lib.hid (show 0 < ([] : List GDiff).length → ∀ c ∈ cols.take (k + 1), inCol (widD []) c = true from fun h => absurd h (by simp))
          clear h0
          generalize cols[k] = y at *
          go_wp2_with fail
          go_roundw
          case rel => first | exact ⟨k + 1, by omega, by go_num, hG2, rfl⟩ | exact ⟨k + 1, by omega, by go_num, hG2, trivial⟩
          case measure => simp [intOf]; omega
        · have hzp : (0 : Int) < (zs.length : Int) := by omega
          have hzn : 0 < zs.length := by omega
          have hz0 : decide ((0 : Int) < (zs.length : Int)) = true := by simpa using hzp
          by_cases hin : inCol (widD zs) cols[k] = true
          · have hG2 := Lib.hid (show 0 < zs.length → ∀ c ∈ cols.take (k + 1), inCol (widD zs) c = true from fun h c hc => by
              rw [List.take_succ_eq_append_getElem hlt, List.mem_append, List.mem_singleton] at hc
              rcases hc with hc | rfl
              · exact hG.out h c hc
              · exact hin)
            have hn0 : decide (cols[k] < 0) = false := by unfold inCol at hin; simp only [Bool.and_eq_true, decide_eq_true_eq] at hin; simp; omega
            have hn1 : decide ((wid (rowsD zs) : Int) ≤ cols[k]) = false := by unfold inCol widD at hin; simp only [Bool.and_eq_true, decide_eq_true_eq] at hin; simp; omega
            have HW := Lib.hid (impl_width A c zs w HR.out (by omega))
            clear h0 hin
            generalize cols[k] = y at *
            go_wp2_with fail
            refine HW.out.mono ?_
            rintro e w1 ⟨rfl, rfl⟩
            go_wp2_with fail
            go_roundw
            case rel => first | exact ⟨k + 1, by omega, by go_num, hG2, rfl⟩ | exact ⟨k + 1, by omega, by go_num, hG2, trivial⟩
            case measure => simp [intOf]; omega
          · rw [Bool.not_eq_true] at hin
            have hp := Lib.hid (cols_bad (by omega) hlt hin)
            have hbd : cols[k] < 0 ∨ (0 ≤ cols[k] ∧ (wid (rowsD zs) : Int) ≤ cols[k]) := by
              unfold inCol widD at hin
              simp only [Bool.and_eq_false_iff, decide_eq_false_iff_not] at hin
              omega
            have HW := Lib.hid (impl_width A c zs w HR.out (by omega))
            clear h0 hin
            generalize cols[k] = y at *
            rcases hbd with hy | ⟨hy, hy2⟩
            · have hn0 : decide (y < 0) = true := by simpa using hy
              go_wp2_with fail
              go_ret
              exact ⟨by rw [hp.out]; rfl, rfl⟩
            · have hn0 : decide (y < 0) = false := by simp; omega
              have hn1 : decide ((wid (rowsD zs) : Int) ≤ y) = true := by simpa using hy2
              go_wp2_with fail
              refine HW.out.mono ?_
              rintro e w1 ⟨rfl, rfl⟩
              go_wp2_with fail
              go_ret
              exact ⟨by rw [hp.out]; rfl, rfl⟩
      · have hi1 : ¬ (k : Int) < (cols.length : Int) := by omega
        have hp := Lib.hid (show colsB zs cols = true from cols_good (by omega) (fun h c hc => by have h3 := hG.out h; rw [List.take_of_length_le (by omega)] at h3; exact h3 c hc))
        go_wp2_with fail
        go_ret
        exact ⟨by rw [hp.out]; rfl, rfl⟩
end Go.Proofs.Ytemcpdpbikgfcaa
namespace Go.Proofs.Ytemcpdpbikgfcaa
open Go.RowKit Go.Sort
set_option linter.unusedVariables false

/-- A key while its values are set: w is the world ahead of the two new blocks. -/
structure KeySt (w W : World) (p : DH) (vs : List GV) : Prop where
  key : Whole W (w.heap.size + 1) 83 (flat (pad vs))
  row : W.cell? ⟨w.heap.size, 0, none⟩ = some (.slice p.1.1 p.2.row.length p.1.2)
  cnt : W.cell? ⟨w.heap.size, 1, none⟩ = some (.int .i64 p.2.count)
  low : Below w.heap.size w W
theorem keySt_start (w : World) (p : DH) : KeySt w ((w.alloc (.cells #[.slice p.1.1 p.2.row.length p.1.2, .int .i64 p.2.count] 55)).alloc (.cells #[.int .i64 0, .int .i64 0, .string ⟨#[]⟩, .int .i64 0, .int .i64 0, .string ⟨#[]⟩, .int .i64 0, .int .i64 0, .string ⟨#[]⟩, .int .i64 0, .int .i64 0, .string ⟨#[]⟩, .int .i64 0, .int .i64 0, .string ⟨#[]⟩, .int .i64 0, .int .i64 0, .string ⟨#[]⟩, .int .i64 0, .int .i64 0, .string ⟨#[]⟩, .int .i64 0, .int .i64 0, .string ⟨#[]⟩] 83)) p [] := by
  have e : (w.alloc (.cells #[.slice p.1.1 p.2.row.length p.1.2, .int .i64 p.2.count] 55)).heap.size = w.heap.size + 1 := by simp
  have hb := (Below.refl (w.heap.size + 1) (w.alloc (.cells #[.slice p.1.1 p.2.row.length p.1.2, .int .i64 p.2.count] 55))).alloc (by rw [e]; exact Nat.le_refl _) (.cells #[.int .i64 0, .int .i64 0, .string ⟨#[]⟩, .int .i64 0, .int .i64 0, .string ⟨#[]⟩, .int .i64 0, .int .i64 0, .string ⟨#[]⟩, .int .i64 0, .int .i64 0, .string ⟨#[]⟩, .int .i64 0, .int .i64 0, .string ⟨#[]⟩, .int .i64 0, .int .i64 0, .string ⟨#[]⟩, .int .i64 0, .int .i64 0, .string ⟨#[]⟩, .int .i64 0, .int .i64 0, .string ⟨#[]⟩] 83)
  refine ⟨?_, (hb.cell (p := ⟨w.heap.size, 0, none⟩) (Nat.lt_succ_self _)).trans (by simp), (hb.cell (p := ⟨w.heap.size, 1, none⟩) (Nat.lt_succ_self _)).trans (by simp), ((Below.refl _ _).alloc (Nat.le_refl _) _).alloc (by simp) _⟩
  have h := Whole.new (w.alloc (.cells #[.slice p.1.1 p.2.row.length p.1.2, .int .i64 p.2.count] 55)) 83 (flat (List.replicate 8 zGV))
  rw [e] at h
  exact h
theorem flat_set3 (vs r : List GV) (x y : GV) : setL (flat (vs ++ x :: r)) (vs.length * 3) [.int .i64 y.k, .int .i64 y.n, .string y.t] = flat (vs ++ y :: r) := by
  rw [flat_append, flat_append]
  simp only [setL]
  rw [List.set_append, if_neg (by rw [flat_length]; omega), flat_length, List.set_append, if_neg (by rw [flat_length]; omega), flat_length, List.set_append, if_neg (by rw [flat_length]; omega), flat_length]
  rw [show vs.length * 3 - vs.length * 3 = 0 by omega, show vs.length * 3 + 1 - vs.length * 3 = 1 by omega, show vs.length * 3 + 1 + 1 - vs.length * 3 = 2 by omega]
  simp [flat]
theorem pad_snoc {vs : List GV} (h : vs.length < 8) (y : GV) : ∃ r, pad vs = vs ++ zGV :: r ∧ pad (vs ++ [y]) = vs ++ y :: r := by
  refine ⟨List.replicate (7 - vs.length) zGV, ?_, ?_⟩
  · unfold pad
    rw [show 8 - vs.length = (7 - vs.length) + 1 by omega, List.replicate_succ]
  · unfold pad
    rw [List.length_append, List.append_assoc, show 8 - (vs.length + [y].length) = 7 - vs.length by simp only [List.length_singleton]; omega]
    rfl
theorem keySt_step {w W : World} {p : DH} {vs : List GV} (h : KeySt w W p vs) (hl : vs.length < 8) (y : GV) :
    (∀ j, j < 3 → ∃ u, W.cell? ⟨w.heap.size + 1, vs.length * 3 + j, none⟩ = some u) ∧ (∀ j, W.frozen? ⟨w.heap.size + 1, j, none⟩ = false) ∧ KeySt w (setW W (w.heap.size + 1) (vs.length * 3) [.int .i64 y.k, .int .i64 y.n, .string y.t]) p (vs ++ [y]) := by
  have hlen : (flat (pad vs)).length = 24 := by rw [flat_length, pad_length (by omega)]
  refine ⟨fun j hj => ⟨(flat (pad vs))[vs.length * 3 + j]'(by omega), by rw [h.key.cell, List.getElem?_eq_getElem (by omega)]⟩, fun j => h.key.frozen j, ⟨?_, ?_, ?_, setW_below _ _ _ h.low (Nat.le_succ _)⟩⟩
  · have h2 := setW_whole [.int .i64 y.k, .int .i64 y.n, .string y.t] (vs.length * 3) h.key
    obtain ⟨r, e1, e2⟩ := pad_snoc hl y
    rw [e1, flat_set3] at h2
    rw [e2]; exact h2
  · exact (World.cell?_of_block (a := ⟨w.heap.size, 0, none⟩) (setW_block _ W (w.heap.size + 1) _ w.heap.size (by omega))).trans h.row
  · exact (World.cell?_of_block (a := ⟨w.heap.size, 1, none⟩) (setW_block _ W (w.heap.size + 1) _ w.heap.size (by omega))).trans h.cnt
theorem keySt_below {w W W' : World} {p : DH} {vs : List GV} (h : KeySt w W p vs) (hb : Below W.heap.size W W') : KeySt w W' p vs :=
  ⟨h.key.below hb h.key.lt, (hb.cell (World.block_lt_of_cell? _ _ h.row)).trans h.row, (hb.cell (World.block_lt_of_cell? _ _ h.cnt)).trans h.cnt, below_next h.low hb rfl rfl⟩
theorem canon_picks {zs : List GDiff} {cols : List Int} (h : projB zs cols = true) : Canon (sumD (zs.map (pick cols))) (zs.map (pick cols)) := canon_sumD _ _ (Nat.le_refl _) (fun z hz => (picks_good h z hz).2.2.2)
theorem proj_post {w w1 w2 : World} {zs : List GDiff} {cols : List Int} {e : Ending} (hp : projB zs cols = true) (h : DOPost w1 (zs.map (pick cols)) e w2) (hB : Below w.heap.size w w1) : Below w.heap.size w w2 ∧
    ((∃ A c ps, e = .returned (.tuple #[.slice A ps.length c, .bool true]) ∧ ps.map (·.2) = projD zs cols ∧ DGA w.heap.size w2 A ps) ∨ (e = .returned (.tuple #[.slice none 0 0, .bool false]) ∧ projD zs cols = [])) := by
  obtain ⟨hb2, h⟩ := h
  have hcan := canon_picks hp
  have hpd : projD zs cols = orD (sumD (zs.map (pick cols))) := by unfold projD; rw [if_pos hp]
  refine ⟨below_next hB hb2 rfl rfl, ?_⟩
  rcases h with ⟨A, c, ps, rfl, hG, hC, hl, hn⟩ | ⟨rfl, h⟩
  · left
    refine ⟨A, c, ps, rfl, ?_, DGA.low hG hB.size⟩
    rw [hpd]
    exact (or_ok hcan hC (fun z hz => (picks_good hp z hz).1) (by simpa using hl) (fun z hz => by obtain ⟨p, hp, rfl⟩ := List.mem_map.1 hz; exact hn p hp)).symm
  · right
    refine ⟨rfl, ?_⟩
    rw [hpd]
    rcases h with ⟨r, h1, h2⟩ | ⟨rs, h1, h2, h3⟩
    · exact or_cnt hcan h1 h2
    · exact or_big hcan h1 h3 h2
set_option maxRecDepth 100000 in
set_option maxHeartbeats 6400000 in
theorem impl_project {lo lo' : Nat} (A B : Option Addr) (c d : Nat) (zs : List GDiff) (cols : List Int) (w : World) (hr : DiffsAt w lo w.heap.size A zs) (hc : IntsAt w lo' w.heap.size B cols) (hl : zs.length ≤ 1048576) (hcl : cols.length ≤ 1048576)
    (hlr : ∀ z ∈ zs, z.row.length ≤ 1048576 ∧ ∀ v ∈ z.row, v.t.size ≤ maxLen) :
    Calls Try.prog 30 #[.slice A zs.length c, .slice B cols.length d] w (IPost w (projD zs cols)) := by
  have HR := Lib.hid hr
  have HC := Lib.hid hc
  have HLR := Lib.hid hlr
  clear hr hc hlr
  by_cases h1 : diffOkB zs = true
  · by_cases h2 : colsB zs cols = true
    · have hpb : projB zs cols = true := by rw [projB_cols, h1, h2]; rfl
      have h8 := (proj_parts hpb).2.1
      have hmm := @run_makeMap Try.prog
      go_enter Try.func30, Try.ntmps30
      go_wp2_with fail
      refine (impl_diffOk A c zs _ HR.out hl HLR.out).mono ?_
      rintro e w1 ⟨rfl, hb1⟩
      rw [h1]
      go_wp2_with fail
      refine (impl_columns A B c d zs cols _ (HR.out.to_ hb1) (HC.out.to_ hb1) hl hcl).mono ?_
      rintro e w2 ⟨rfl, rfl⟩
      rw [h2]
      go_wp2_with fail
      have hB3 : Below w1.heap.size w1 (w1.alloc (.map #[] 0)) := (Below.refl _ _).alloc (Nat.le_refl _) _
      have hBw := below_next hb1 hB3 rfl rfl
      have HM3 := Lib.hid (ms_made w1)
      have hb3w : w.heap.size ≤ w1.heap.size := hb1.size
      clear hmm hB3
      go_loopw [25] (fun i wr => ∃ k : Nat, k ≤ zs.length ∧ i = .int .i64 k ∧ Hid (Ms wr w1.heap.size k ((zs.take k).map (pick cols))) ∧ Hid (Below w.heap.size w wr)) (fun i _ => zs.length - (intOf i).toNat)
      case atStart => exact ⟨0, Nat.zero_le _, rfl, Lib.hid (by simpa using HM3.out), Lib.hid hBw⟩
      case round =>
        obtain ⟨k, hk, rfl, hM, hB⟩ := hrel
        by_cases hlt : k < zs.length
        · obtain ⟨g, o, rfl, _, hg, ⟨A', c', ⟨hcell, hcap⟩, hrow⟩, hcnt⟩ := (HR.out.to_ hB.out).at_ hlt
          have hi1 : (k : Int) < (zs.length : Int) := by omega
          have hi0 : (0 : Int) ≤ (k : Int) := by omega
          have hrw := Lib.hid hrow.row
          obtain ⟨wo, rfl⟩ : ∃ wo : World, wo = wr := ⟨_, rfl⟩
          have HK0 := Lib.hid (keySt_start wo ((A', c'), zs[k]))
          clear hrow
          go_wp2_with fail
          clear hcell hcnt
          go_loopw [31] (fun i w' => ∃ m : Nat, m ≤ cols.length ∧ i = .int .i64 m ∧ Hid (KeySt wo w' ((A', c'), zs[k]) (pRow (cols.take m) zs[k].row))) (fun i _ => cols.length - (intOf i).toNat)
          case atStart => exact ⟨0, Nat.zero_le _, rfl, Lib.hid (by simpa [pRow] using HK0.out)⟩
          case round =>
            obtain ⟨m, hm, rfl, hK⟩ := hrel
            have hcell := hK.out.row
            have hcnt := hK.out.cnt
            have hRl : (pRow (cols.take m) zs[k].row).length = m := by simp [pRow]; omega
            by_cases hml : m < cols.length
            · have hm1 : (m : Int) < (cols.length : Int) := by omega
              have hm0 : (0 : Int) ≤ (m : Int) := by omega
              have hm8 : (m : Int) < 8 := by omega
              obtain ⟨g2, o2, rfl, _, hg2, he⟩ := (HC.out.to_ (below_next hB.out hK.out.low rfl rfl)).at_ hml
              have he2 : wr.cell? ⟨g2, o2 + m, none⟩ = some (.int .i64 cols[m]) := he
              clear he
              obtain ⟨i, hci, hil⟩ := inCol_nat ((proj_parts hpb).2.2 zs[k] (List.getElem_mem hlt) cols[m] (List.getElem_mem hml))
              obtain ⟨g3, o3, hA3, hg3, c0, c1, c2⟩ := (hrw.out.to_ hK.out.low).at_ hil
              rw [show ((A', c'), zs[k]).1.1 = A' from rfl, hA3] at hcell
              obtain ⟨hcs, hf, hst⟩ := keySt_step hK.out (by rw [hRl]; omega) zs[k].row[i]
              rw [hRl] at hcs hst
              rw [show pRow (cols.take m) zs[k].row ++ [zs[k].row[i]] = pRow (cols.take (m + 1)) zs[k].row by rw [pRow_snoc cols _ m hml, pV_at hci hil]] at hst
              rw [hci] at he2
              have HT := Lib.hid (show wr.there (wo.heap.size + 1) (m * 3) 3 from fun j hj => ⟨by obtain ⟨u, hu⟩ := hcs j hj; rw [hu]; rfl, hf _⟩)
              have ii0 : (0 : Int) ≤ (i : Int) := by omega
              have ii1 : (i : Int) < (zs[k].row.length : Int) := by omega
              have HST := Lib.hid hst
              clear hcs hf hst hci hK HK0 hA3 hRl
              have HON := Lib.hid (flat_ones [zs[k].row[i]])
              have hiv : (Try.prog.info? 52).map (·.size) = some 3 := by kernel_rfl
              go_wp2_with (first | (refine wpList_store_mid rfl _ (.tmp 42) (.tmp 41) rfl (wo.heap.size + 1) (m * 3) #[.int .i64 zs[k].row[i].k, .int .i64 zs[k].row[i].n, .string zs[k].row[i].t] rfl rfl HT.out hiv HON.out ?_))
              go_roundw
              case rel => exact ⟨m + 1, by omega, by go_num, HST⟩
              case measure => simp [intOf]; omega
            · have hm1 : ¬ (m : Int) < (cols.length : Int) := by omega
              have hmem : pick cols zs[k] ∈ zs.map (pick cols) := List.mem_map.2 ⟨_, List.getElem_mem hlt, rfl⟩
              have hgood := picks_good hpb _ hmem
              have hcf := coef_le (M := 1000000) (by omega) (pick cols zs[k]).row ((zs.take k).map (pick cols)) (fun z hz => by
                obtain ⟨q, hq, rfl⟩ := List.mem_map.1 hz
                have h5 := picks_good hpb _ (List.mem_map.2 ⟨q, List.mem_of_mem_take hq, rfl⟩)
                exact ⟨h5.2.1, h5.2.2.1⟩)
              rw [List.length_map, List.length_take, Nat.min_eq_left hk] at hcf
              have hlow := Lib.hid (show -4611686018427387904 ≤ coef ((zs.take k).map (pick cols)) (pick cols zs[k]).row + (pick cols zs[k]).count by have := hgood.2; omega)
              have hhigh := Lib.hid (show coef ((zs.take k).map (pick cols)) (pick cols zs[k]).row + (pick cols zs[k]).count ≤ 4611686018427387904 by have := hgood.2; omega)
              have HGO := Lib.hid (goodRow_rowOk hgood.1)
              have HS := Lib.hid (show (zs.take k).map (pick cols) ++ [pick cols zs[k]] = (zs.take (k + 1)).map (pick cols) by rw [List.take_succ_eq_append_getElem hlt, List.map_append]; rfl)
              have hRe : pRow (cols.take m) zs[k].row = pRow cols zs[k].row := by rw [List.take_of_length_le (by omega)]
              have HW := Lib.hid (show Whole wr (wo.heap.size + 1) 83 (flat (pad (pRow cols zs[k].row))) by rw [← hRe]; exact hK.out.key)
              have hl24 : (flat (pad (pRow cols zs[k].row))).toArray.size = 24 := by rw [List.size_toArray, flat_length, pad_length (by simp [pRow]; omega)]
              have HI := Lib.hid (show (Try.prog.info? 83).map (·.size) = some (flat (pad (pRow cols zs[k].row))).toArray.size by rw [hl24]; exact infoKey)
              have HMx := Lib.hid (hM.out.below hK.out.low)
              have HLx := Lib.hid (below_next hB.out hK.out.low rfl rfl)
              have hkm : k < maxLen := by unfold maxLen; omega
              have HA := Lib.hid (show ∀ W, Ms W w1.heap.size k ((zs.take k).map (pick cols)) → Calls Try.prog 66 #[.map (some w1.heap.size), .agg (flat (pad (pRow cols zs[k].row))).toArray, .int .i64 zs[k].count] W (AddPost W w1.heap.size (k + 1) ((zs.take k).map (pick cols) ++ [pick cols zs[k]])) from fun W h => add_any w1.heap.size k _ (pick cols zs[k]) W h hkm HGO.out hlow.out hhigh.out)
              clear hgood hcf hmem hK HK0 hM hRe hl24
              go_wp2_with (first | (refine wpList_load_row rfl _ (.tmp 8) rfl (wo.heap.size + 1) rfl _ (flat (pad (pRow cols zs[k].row))).toArray _ _ HW.out keyArr rfl HI.out ?_))
              refine (HA.out _ HMx.out).mono ?_
              rintro e w3 ⟨rfl, hM3, hg3⟩
              have HM4 := Lib.hid (show Ms w3 w1.heap.size (k + 1) ((zs.take (k + 1)).map (pick cols)) by rw [← HS.out]; exact hM3)
              have HL4 := Lib.hid (HLx.out.trans ((Below.refl _ _).grown hg3 HLx.out.size (fun j hj => by cases hj; exact hb3w)))
              clear hM3 hg3 hcell hcnt
              go_wp2_with fail
              go_roundw
              case rel => exact ⟨k + 1, by omega, by go_num, HM4, HL4⟩
              case measure => simp [intOf]; omega
        · have hi1 : ¬ (k : Int) < (zs.length : Int) := by omega
          have HMz := Lib.hid (show Ms wr w1.heap.size k (zs.map (pick cols)) by have := hM.out; rw [List.take_of_length_le (by omega)] at this; exact this)
          go_wp2_with fail
          refine (diffs_of w1.heap.size k (zs.map (pick cols)) wr HMz.out (fun z hz => goodRow_rowOk (picks_good hpb z hz).1)).mono ?_
          intro e w5 hD
          obtain ⟨hBe, hS⟩ := proj_post hpb hD hB.out
          have HBe := Lib.hid hBe
          clear hD hBe
          rcases hS with ⟨A5, c5, ps, rfl, he5, hG5⟩ | ⟨rfl, he5⟩
          · have HE := Lib.hid he5
            have HG := Lib.hid hG5
            clear he5 hG5
            go_wp2_with fail
            go_ret
            exact ⟨A5, c5, ps, rfl, HE.out, HG.out, HBe.out⟩
          · have HE := Lib.hid he5
            clear he5
            go_wp2_with fail
            go_ret
            exact ⟨none, 0, [], rfl, HE.out.symm, .inl rfl, HBe.out⟩
    · rw [Bool.not_eq_true] at h2
      have HP := Lib.hid (show projD zs cols = [] from projD_no (by rw [projB_cols, h1, h2]; rfl))
      go_enter Try.func30, Try.ntmps30
      go_wp2_with fail
      refine (impl_diffOk A c zs _ HR.out hl HLR.out).mono ?_
      rintro e w1 ⟨rfl, hb1⟩
      rw [h1]
      go_wp2_with fail
      refine (impl_columns A B c d zs cols _ (HR.out.to_ hb1) (HC.out.to_ hb1) hl hcl).mono ?_
      rintro e w2 ⟨rfl, rfl⟩
      rw [h2]
      go_wp2_with fail
      go_ret
      exact ⟨none, 0, [], rfl, HP.out.symm, .inl rfl, hb1⟩
  · rw [Bool.not_eq_true] at h1
    have HP := Lib.hid (show projD zs cols = [] from projD_no (by rw [projB_cols, h1]; rfl))
    go_enter Try.func30, Try.ntmps30
    go_wp2_with fail
    refine (impl_diffOk A c zs _ HR.out hl HLR.out).mono ?_
    rintro e w1 ⟨rfl, hb1⟩
    rw [h1]
    go_wp2_with fail
    go_ret
    exact ⟨none, 0, [], rfl, HP.out.symm, .inl rfl, hb1⟩
theorem projD_ok (zs : List GDiff) (cols : List Int) : projD zs cols = [] ∨ diffOkB (projD zs cols) = true := by
  unfold projD
  by_cases h : projB zs cols = true
  · rw [if_pos h]; exact orD_ok _
  · rw [if_neg h]; exact .inl rfl
end Go.Proofs.Ytemcpdpbikgfcaa
