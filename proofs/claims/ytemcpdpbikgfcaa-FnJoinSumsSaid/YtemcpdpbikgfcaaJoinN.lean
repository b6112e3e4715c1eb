/-
  spec.JoinDiffs.
-/
import Derived.Test.YtemcpdpbikgfcaaWideSZ
namespace Go.Proofs.Ytemcpdpbikgfcaa
open Go.RowKit Go.Sort
set_option linter.unusedVariables false

theorem joinD_none {a b : List GDiff} {on : Int} (h : joinB a b on = false) : joinD a b on = [] := by unfold joinD; rw [if_neg (by rw [h]; simp)]
theorem none_post {w w' : World} (h : Below w.heap.size w w') : DPost w [] (.returned (.slice (some ⟨w.heap.size, 0, none⟩) 0 0)) w' := ⟨_, _, rfl, ⟨Nat.le_refl _, Nat.zero_le _⟩, .inl rfl, h⟩
theorem first_cell {w : World} {lo B : Nat} {A : Option Addr} {zs : List GDiff} (h : DiffsAt w lo B A zs) (h0 : 0 < zs.length) : ∃ g o A' c', A = some ⟨g, o, none⟩ ∧ w.cell? ⟨g, o, none⟩ = some (.slice A' (widD zs) c') := by
  obtain ⟨g, o, rfl, _, _, ⟨A', c', ⟨hc, _⟩, _⟩, _⟩ := h.at_ h0
  simp only [Nat.zero_mul, Nat.add_zero] at hc
  refine ⟨g, o, A', c', rfl, ?_⟩
  unfold widD
  rw [widD_eq h0]
  exact hc

set_option maxRecDepth 100000 in
set_option maxHeartbeats 800000 in
theorem join_n1 {lo lo' : Nat} (A B : Option Addr) (c d : Nat) (a b : List GDiff) (on : Int) (w : World) (ha : DiffsAt w lo w.heap.size A a) (hb : DiffsAt w lo' w.heap.size B b) (hla : a.length ≤ 1048576) (hlb : b.length ≤ 1048576)
    (hra : ∀ z ∈ a, z.row.length ≤ 1048576 ∧ ∀ v ∈ z.row, v.t.size ≤ maxLen) (hrb : ∀ z ∈ b, z.row.length ≤ 1048576 ∧ ∀ v ∈ z.row, v.t.size ≤ maxLen) (hon : -9223372036854775808 ≤ on ∧ on ≤ 9223372036854775807) (h1 : diffOkB a = false) :
    Calls Try.prog 26 #[.slice A a.length c, .slice B b.length d, .int .i64 on] w (DPost w []) := by
  have HA := Lib.hid ha
  have HB := Lib.hid hb
  have HRA := Lib.hid hra
  have HRB := Lib.hid hrb
  obtain ⟨hon1, hon2⟩ := hon
  clear ha hb hra hrb
  have hB0 : Below w.heap.size w (w.alloc (.cells #[] 55)) := (Below.refl _ _).alloc (Nat.le_refl _) _
  go_enter Try.func26, Try.ntmps26
  go_wp2_with fail
  refine (spec_diffOk A c a _ (HA.out.to_ hB0) (by omega) HRA.out).mono ?_
  rintro e w1 ⟨rfl, hb1⟩
  have hB1 := below_next hB0 hb1 rfl rfl
  rw [h1]
  go_wp2_with fail
  go_ret
  exact none_post hB1

set_option maxRecDepth 100000 in
set_option maxHeartbeats 800000 in
theorem join_n2 {lo lo' : Nat} (A B : Option Addr) (c d : Nat) (a b : List GDiff) (on : Int) (w : World) (ha : DiffsAt w lo w.heap.size A a) (hb : DiffsAt w lo' w.heap.size B b) (hla : a.length ≤ 1048576) (hlb : b.length ≤ 1048576)
    (hra : ∀ z ∈ a, z.row.length ≤ 1048576 ∧ ∀ v ∈ z.row, v.t.size ≤ maxLen) (hrb : ∀ z ∈ b, z.row.length ≤ 1048576 ∧ ∀ v ∈ z.row, v.t.size ≤ maxLen) (hon : -9223372036854775808 ≤ on ∧ on ≤ 9223372036854775807) (h1 : diffOkB a = true) (h2 : diffOkB b = false) :
    Calls Try.prog 26 #[.slice A a.length c, .slice B b.length d, .int .i64 on] w (DPost w []) := by
  have HA := Lib.hid ha
  have HB := Lib.hid hb
  have HRA := Lib.hid hra
  have HRB := Lib.hid hrb
  obtain ⟨hon1, hon2⟩ := hon
  clear ha hb hra hrb
  have hB0 : Below w.heap.size w (w.alloc (.cells #[] 55)) := (Below.refl _ _).alloc (Nat.le_refl _) _
  go_enter Try.func26, Try.ntmps26
  go_wp2_with fail
  refine (spec_diffOk A c a _ (HA.out.to_ hB0) (by first | omega | simp) HRA.out).mono ?_
  rintro e w1 ⟨rfl, hb1⟩
  have hB1 := below_next hB0 hb1 rfl rfl
  rw [h1]
  go_wp2_with fail
  refine (spec_diffOk B d b _ (HB.out.to_ hB1) (by first | omega | simp) HRB.out).mono ?_
  rintro e w2 ⟨rfl, hb2⟩
  have hB2 := below_next hB1 hb2 rfl rfl
  rw [h2]
  go_wp2_with fail
  go_ret
  exact none_post hB2

set_option maxRecDepth 100000 in
set_option maxHeartbeats 800000 in
theorem join_n3 {lo lo' : Nat} (A B : Option Addr) (c d : Nat) (a b : List GDiff) (on : Int) (w : World) (ha : DiffsAt w lo w.heap.size A a) (hb : DiffsAt w lo' w.heap.size B b) (hla : a.length ≤ 1048576) (hlb : b.length ≤ 1048576)
    (hra : ∀ z ∈ a, z.row.length ≤ 1048576 ∧ ∀ v ∈ z.row, v.t.size ≤ maxLen) (hrb : ∀ z ∈ b, z.row.length ≤ 1048576 ∧ ∀ v ∈ z.row, v.t.size ≤ maxLen) (hon : -9223372036854775808 ≤ on ∧ on ≤ 9223372036854775807) (h1 : diffOkB a = true) (h2 : diffOkB b = true) (h3 : on < 0) :
    Calls Try.prog 26 #[.slice A a.length c, .slice B b.length d, .int .i64 on] w (DPost w []) := by
  have HA := Lib.hid ha
  have HB := Lib.hid hb
  have HRA := Lib.hid hra
  have HRB := Lib.hid hrb
  obtain ⟨hon1, hon2⟩ := hon
  clear ha hb hra hrb
  have hB0 : Below w.heap.size w (w.alloc (.cells #[] 55)) := (Below.refl _ _).alloc (Nat.le_refl _) _
  go_enter Try.func26, Try.ntmps26
  go_wp2_with fail
  refine (spec_diffOk A c a _ (HA.out.to_ hB0) (by first | omega | simp) HRA.out).mono ?_
  rintro e w1 ⟨rfl, hb1⟩
  have hB1 := below_next hB0 hb1 rfl rfl
  rw [h1]
  go_wp2_with fail
  refine (spec_diffOk B d b _ (HB.out.to_ hB1) (by first | omega | simp) HRB.out).mono ?_
  rintro e w2 ⟨rfl, hb2⟩
  have hB2 := below_next hB1 hb2 rfl rfl
  rw [h2]
  have h3d : decide (on < 0) = true := by simpa using h3
  go_wp2_with fail
  go_ret
  exact none_post hB2

set_option maxRecDepth 100000 in
set_option maxHeartbeats 800000 in
theorem join_n4 {lo lo' : Nat} (A B : Option Addr) (c d : Nat) (a b : List GDiff) (on : Int) (w : World) (ha : DiffsAt w lo w.heap.size A a) (hb : DiffsAt w lo' w.heap.size B b) (hla : a.length ≤ 1048576) (hlb : b.length ≤ 1048576)
    (hra : ∀ z ∈ a, z.row.length ≤ 1048576 ∧ ∀ v ∈ z.row, v.t.size ≤ maxLen) (hrb : ∀ z ∈ b, z.row.length ≤ 1048576 ∧ ∀ v ∈ z.row, v.t.size ≤ maxLen) (hon : -9223372036854775808 ≤ on ∧ on ≤ 9223372036854775807) (h1 : diffOkB a = true) (h2 : diffOkB b = true) (h3 : 0 ≤ on) (ha0 : 0 < a.length) (h4 : (widD a : Int) < on) :
    Calls Try.prog 26 #[.slice A a.length c, .slice B b.length d, .int .i64 on] w (DPost w []) := by
  have HA := Lib.hid ha
  have HB := Lib.hid hb
  have HRA := Lib.hid hra
  have HRB := Lib.hid hrb
  obtain ⟨hon1, hon2⟩ := hon
  clear ha hb hra hrb
  have hB0 : Below w.heap.size w (w.alloc (.cells #[] 55)) := (Below.refl _ _).alloc (Nat.le_refl _) _
  go_enter Try.func26, Try.ntmps26
  go_wp2_with fail
  refine (spec_diffOk A c a _ (HA.out.to_ hB0) (by first | omega | simp) HRA.out).mono ?_
  rintro e w1 ⟨rfl, hb1⟩
  have hB1 := below_next hB0 hb1 rfl rfl
  rw [h1]
  go_wp2_with fail
  refine (spec_diffOk B d b _ (HB.out.to_ hB1) (by first | omega | simp) HRB.out).mono ?_
  rintro e w2 ⟨rfl, hb2⟩
  have hB2 := below_next hB1 hb2 rfl rfl
  rw [h2]
  have h3d : decide (on < 0) = false := by simp; omega
  have h3n : ¬ on < 0 := by omega
  obtain ⟨g, o, A1, c1, rfl, ca⟩ := first_cell (HA.out.to_ hB2) ha0
  have pa : (0 : Int) < (a.length : Int) := by omega
  have pad : decide ((0 : Int) < (a.length : Int)) = true := by simpa using pa
  have h4d : decide ((widD a : Int) < on) = true := by simpa using h4
  go_wp2_with fail
  go_ret
  exact none_post hB2

set_option maxRecDepth 100000 in
set_option maxHeartbeats 800000 in
theorem join_n5 {lo lo' : Nat} (A B : Option Addr) (c d : Nat) (a b : List GDiff) (on : Int) (w : World) (ha : DiffsAt w lo w.heap.size A a) (hb : DiffsAt w lo' w.heap.size B b) (hla : a.length ≤ 1048576) (hlb : b.length ≤ 1048576)
    (hra : ∀ z ∈ a, z.row.length ≤ 1048576 ∧ ∀ v ∈ z.row, v.t.size ≤ maxLen) (hrb : ∀ z ∈ b, z.row.length ≤ 1048576 ∧ ∀ v ∈ z.row, v.t.size ≤ maxLen) (hon : -9223372036854775808 ≤ on ∧ on ≤ 9223372036854775807) (h1 : diffOkB a = true) (h2 : diffOkB b = true) (h3 : 0 ≤ on) (ha0 : a.length = 0) (hb0 : b.length = 0) :
    Calls Try.prog 26 #[.slice A a.length c, .slice B b.length d, .int .i64 on] w (DPost w []) := by
  have HA := Lib.hid ha
  have HB := Lib.hid hb
  have HRA := Lib.hid hra
  have HRB := Lib.hid hrb
  obtain ⟨hon1, hon2⟩ := hon
  clear ha hb hra hrb
  have hB0 : Below w.heap.size w (w.alloc (.cells #[] 55)) := (Below.refl _ _).alloc (Nat.le_refl _) _
  obtain rfl := List.eq_nil_of_length_eq_zero ha0
  clear ha0
  obtain rfl := List.eq_nil_of_length_eq_zero hb0
  clear hb0
  go_enter Try.func26, Try.ntmps26
  go_wp2_with fail
  refine (spec_diffOk A c [] _ (HA.out.to_ hB0) (by first | omega | simp) HRA.out).mono ?_
  rintro e w1 ⟨rfl, hb1⟩
  have hB1 := below_next hB0 hb1 rfl rfl
  rw [h1]
  go_wp2_with fail
  refine (spec_diffOk B d [] _ (HB.out.to_ hB1) (by first | omega | simp) HRB.out).mono ?_
  rintro e w2 ⟨rfl, hb2⟩
  have hB2 := below_next hB1 hb2 rfl rfl
  rw [h2]
  have h3d : decide (on < 0) = false := by simp; omega
  have h3n : ¬ on < 0 := by omega
  go_wp2_with fail
  refine wp_region_quiet_below (by kernel_rfl) (by kernel_rfl) ?_
  repeat (go_big_quiet_step (first | fail))
  refine wpQuiet_nil ?_
  intro _ hw'
  obtain ⟨⟨dq, osq⟩, hw''⟩ := hw'
  subst hw''
  have hB3 := below_next hB2 (below_regrown w2 dq osq) rfl rfl
  generalize grow (redrawn w2 dq) osq = w3 at *
  go_wp2_with fail
  go_ret
  exact none_post hB3

set_option maxRecDepth 100000 in
set_option maxHeartbeats 800000 in
theorem join_n6 {lo lo' : Nat} (A B : Option Addr) (c d : Nat) (a b : List GDiff) (on : Int) (w : World) (ha : DiffsAt w lo w.heap.size A a) (hb : DiffsAt w lo' w.heap.size B b) (hla : a.length ≤ 1048576) (hlb : b.length ≤ 1048576)
    (hra : ∀ z ∈ a, z.row.length ≤ 1048576 ∧ ∀ v ∈ z.row, v.t.size ≤ maxLen) (hrb : ∀ z ∈ b, z.row.length ≤ 1048576 ∧ ∀ v ∈ z.row, v.t.size ≤ maxLen) (hon : -9223372036854775808 ≤ on ∧ on ≤ 9223372036854775807) (h1 : diffOkB a = true) (h2 : diffOkB b = true) (h3 : 0 ≤ on) (ha0 : a.length = 0) (hb0 : 0 < b.length) (h5 : (widD b : Int) < on) :
    Calls Try.prog 26 #[.slice A a.length c, .slice B b.length d, .int .i64 on] w (DPost w []) := by
  have HA := Lib.hid ha
  have HB := Lib.hid hb
  have HRA := Lib.hid hra
  have HRB := Lib.hid hrb
  obtain ⟨hon1, hon2⟩ := hon
  clear ha hb hra hrb
  have hB0 : Below w.heap.size w (w.alloc (.cells #[] 55)) := (Below.refl _ _).alloc (Nat.le_refl _) _
  obtain rfl := List.eq_nil_of_length_eq_zero ha0
  clear ha0
  go_enter Try.func26, Try.ntmps26
  go_wp2_with fail
  refine (spec_diffOk A c [] _ (HA.out.to_ hB0) (by first | omega | simp) HRA.out).mono ?_
  rintro e w1 ⟨rfl, hb1⟩
  have hB1 := below_next hB0 hb1 rfl rfl
  rw [h1]
  go_wp2_with fail
  refine (spec_diffOk B d b _ (HB.out.to_ hB1) (by first | omega | simp) HRB.out).mono ?_
  rintro e w2 ⟨rfl, hb2⟩
  have hB2 := below_next hB1 hb2 rfl rfl
  rw [h2]
  have h3d : decide (on < 0) = false := by simp; omega
  have h3n : ¬ on < 0 := by omega
  obtain ⟨g', o', B1, d1, rfl, cb⟩ := first_cell (HB.out.to_ hB2) hb0
  have pb : (0 : Int) < (b.length : Int) := by omega
  have pbd : decide ((0 : Int) < (b.length : Int)) = true := by simpa using pb
  have h5d : decide ((widD b : Int) < on) = true := by simp; omega
  go_wp2_with fail
  go_ret
  exact none_post hB2

set_option maxRecDepth 100000 in
set_option maxHeartbeats 800000 in
theorem join_n7 {lo lo' : Nat} (A B : Option Addr) (c d : Nat) (a b : List GDiff) (on : Int) (w : World) (ha : DiffsAt w lo w.heap.size A a) (hb : DiffsAt w lo' w.heap.size B b) (hla : a.length ≤ 1048576) (hlb : b.length ≤ 1048576)
    (hra : ∀ z ∈ a, z.row.length ≤ 1048576 ∧ ∀ v ∈ z.row, v.t.size ≤ maxLen) (hrb : ∀ z ∈ b, z.row.length ≤ 1048576 ∧ ∀ v ∈ z.row, v.t.size ≤ maxLen) (hon : -9223372036854775808 ≤ on ∧ on ≤ 9223372036854775807) (h1 : diffOkB a = true) (h2 : diffOkB b = true) (h3 : 0 ≤ on) (ha0 : a.length = 0) (hb0 : 0 < b.length) (h5 : on ≤ (widD b : Int)) :
    Calls Try.prog 26 #[.slice A a.length c, .slice B b.length d, .int .i64 on] w (DPost w []) := by
  have HA := Lib.hid ha
  have HB := Lib.hid hb
  have HRA := Lib.hid hra
  have HRB := Lib.hid hrb
  obtain ⟨hon1, hon2⟩ := hon
  clear ha hb hra hrb
  have hB0 : Below w.heap.size w (w.alloc (.cells #[] 55)) := (Below.refl _ _).alloc (Nat.le_refl _) _
  obtain rfl := List.eq_nil_of_length_eq_zero ha0
  clear ha0
  go_enter Try.func26, Try.ntmps26
  go_wp2_with fail
  refine (spec_diffOk A c [] _ (HA.out.to_ hB0) (by first | omega | simp) HRA.out).mono ?_
  rintro e w1 ⟨rfl, hb1⟩
  have hB1 := below_next hB0 hb1 rfl rfl
  rw [h1]
  go_wp2_with fail
  refine (spec_diffOk B d b _ (HB.out.to_ hB1) (by first | omega | simp) HRB.out).mono ?_
  rintro e w2 ⟨rfl, hb2⟩
  have hB2 := below_next hB1 hb2 rfl rfl
  rw [h2]
  have h3d : decide (on < 0) = false := by simp; omega
  have h3n : ¬ on < 0 := by omega
  obtain ⟨g', o', B1, d1, rfl, cb⟩ := first_cell (HB.out.to_ hB2) hb0
  have pb : (0 : Int) < (b.length : Int) := by omega
  have pbd : decide ((0 : Int) < (b.length : Int)) = true := by simpa using pb
  have h5d : decide ((widD b : Int) < on) = false := by simp; omega
  go_wp2_with fail
  refine wp_region_quiet_below (by kernel_rfl) (by kernel_rfl) ?_
  repeat (go_big_quiet_step (first | fail))
  refine wpQuiet_nil ?_
  intro _ hw'
  obtain ⟨⟨dq, osq⟩, hw''⟩ := hw'
  subst hw''
  have hB3 := below_next hB2 (below_regrown w2 dq osq) rfl rfl
  generalize grow (redrawn w2 dq) osq = w3 at *
  clear cb
  go_wp2_with fail
  go_ret
  exact none_post hB3

set_option maxRecDepth 100000 in
set_option maxHeartbeats 800000 in
theorem join_n8 {lo lo' : Nat} (A B : Option Addr) (c d : Nat) (a b : List GDiff) (on : Int) (w : World) (ha : DiffsAt w lo w.heap.size A a) (hb : DiffsAt w lo' w.heap.size B b) (hla : a.length ≤ 1048576) (hlb : b.length ≤ 1048576)
    (hra : ∀ z ∈ a, z.row.length ≤ 1048576 ∧ ∀ v ∈ z.row, v.t.size ≤ maxLen) (hrb : ∀ z ∈ b, z.row.length ≤ 1048576 ∧ ∀ v ∈ z.row, v.t.size ≤ maxLen) (hon : -9223372036854775808 ≤ on ∧ on ≤ 9223372036854775807) (h1 : diffOkB a = true) (h2 : diffOkB b = true) (h3 : 0 ≤ on) (ha0 : 0 < a.length) (h4 : on ≤ (widD a : Int)) (hb0 : b.length = 0) :
    Calls Try.prog 26 #[.slice A a.length c, .slice B b.length d, .int .i64 on] w (DPost w []) := by
  have HA := Lib.hid ha
  have HB := Lib.hid hb
  have HRA := Lib.hid hra
  have HRB := Lib.hid hrb
  obtain ⟨hon1, hon2⟩ := hon
  clear ha hb hra hrb
  have hB0 : Below w.heap.size w (w.alloc (.cells #[] 55)) := (Below.refl _ _).alloc (Nat.le_refl _) _
  obtain rfl := List.eq_nil_of_length_eq_zero hb0
  clear hb0
  go_enter Try.func26, Try.ntmps26
  go_wp2_with fail
  refine (spec_diffOk A c a _ (HA.out.to_ hB0) (by first | omega | simp) HRA.out).mono ?_
  rintro e w1 ⟨rfl, hb1⟩
  have hB1 := below_next hB0 hb1 rfl rfl
  rw [h1]
  go_wp2_with fail
  refine (spec_diffOk B d [] _ (HB.out.to_ hB1) (by first | omega | simp) HRB.out).mono ?_
  rintro e w2 ⟨rfl, hb2⟩
  have hB2 := below_next hB1 hb2 rfl rfl
  rw [h2]
  have h3d : decide (on < 0) = false := by simp; omega
  have h3n : ¬ on < 0 := by omega
  obtain ⟨g, o, A1, c1, rfl, ca⟩ := first_cell (HA.out.to_ hB2) ha0
  have pa : (0 : Int) < (a.length : Int) := by omega
  have pad : decide ((0 : Int) < (a.length : Int)) = true := by simpa using pa
  have h4d : decide ((widD a : Int) < on) = false := by simp; omega
  have pe : ((a.length : Int) == 0) = false := by rw [beq_eq_false_iff_ne]; omega
  have q0 := cell_regrown ca
  go_wp2_with fail
  refine wp_region_quiet_below (by kernel_rfl) (by kernel_rfl) ?_
  repeat (go_big_quiet_step (first | fail))
  refine wpQuiet_nil ?_
  intro _ hw'
  obtain ⟨⟨dq, osq⟩, hw''⟩ := hw'
  subst hw''
  have hB3 := below_next hB2 (below_regrown w2 dq osq) rfl rfl
  generalize grow (redrawn w2 dq) osq = w3 at *
  clear ca q0
  go_wp2_with fail
  go_ret
  exact none_post hB3

set_option maxRecDepth 100000 in
set_option maxHeartbeats 800000 in
theorem join_n9 {lo lo' : Nat} (A B : Option Addr) (c d : Nat) (a b : List GDiff) (on : Int) (w : World) (ha : DiffsAt w lo w.heap.size A a) (hb : DiffsAt w lo' w.heap.size B b) (hla : a.length ≤ 1048576) (hlb : b.length ≤ 1048576)
    (hra : ∀ z ∈ a, z.row.length ≤ 1048576 ∧ ∀ v ∈ z.row, v.t.size ≤ maxLen) (hrb : ∀ z ∈ b, z.row.length ≤ 1048576 ∧ ∀ v ∈ z.row, v.t.size ≤ maxLen) (hon : -9223372036854775808 ≤ on ∧ on ≤ 9223372036854775807) (h1 : diffOkB a = true) (h2 : diffOkB b = true) (h3 : 0 ≤ on) (ha0 : 0 < a.length) (h4 : on ≤ (widD a : Int)) (hb0 : 0 < b.length) (h5 : (widD b : Int) < on) :
    Calls Try.prog 26 #[.slice A a.length c, .slice B b.length d, .int .i64 on] w (DPost w []) := by
  have HA := Lib.hid ha
  have HB := Lib.hid hb
  have HRA := Lib.hid hra
  have HRB := Lib.hid hrb
  obtain ⟨hon1, hon2⟩ := hon
  clear ha hb hra hrb
  have hB0 : Below w.heap.size w (w.alloc (.cells #[] 55)) := (Below.refl _ _).alloc (Nat.le_refl _) _
  go_enter Try.func26, Try.ntmps26
  go_wp2_with fail
  refine (spec_diffOk A c a _ (HA.out.to_ hB0) (by first | omega | simp) HRA.out).mono ?_
  rintro e w1 ⟨rfl, hb1⟩
  have hB1 := below_next hB0 hb1 rfl rfl
  rw [h1]
  go_wp2_with fail
  refine (spec_diffOk B d b _ (HB.out.to_ hB1) (by first | omega | simp) HRB.out).mono ?_
  rintro e w2 ⟨rfl, hb2⟩
  have hB2 := below_next hB1 hb2 rfl rfl
  rw [h2]
  have h3d : decide (on < 0) = false := by simp; omega
  have h3n : ¬ on < 0 := by omega
  obtain ⟨g, o, A1, c1, rfl, ca⟩ := first_cell (HA.out.to_ hB2) ha0
  have pa : (0 : Int) < (a.length : Int) := by omega
  obtain ⟨g', o', B1, d1, rfl, cb⟩ := first_cell (HB.out.to_ hB2) hb0
  have pb : (0 : Int) < (b.length : Int) := by omega
  have pad : decide ((0 : Int) < (a.length : Int)) = true := by simpa using pa
  have h4d : decide ((widD a : Int) < on) = false := by simp; omega
  have pbd : decide ((0 : Int) < (b.length : Int)) = true := by simpa using pb
  have h5d : decide ((widD b : Int) < on) = true := by simpa using h5
  go_wp2_with fail
  go_ret
  exact none_post hB2

set_option maxRecDepth 100000 in
set_option maxHeartbeats 800000 in
theorem join_n10 {lo lo' : Nat} (A B : Option Addr) (c d : Nat) (a b : List GDiff) (on : Int) (w : World) (ha : DiffsAt w lo w.heap.size A a) (hb : DiffsAt w lo' w.heap.size B b) (hla : a.length ≤ 1048576) (hlb : b.length ≤ 1048576)
    (hra : ∀ z ∈ a, z.row.length ≤ 1048576 ∧ ∀ v ∈ z.row, v.t.size ≤ maxLen) (hrb : ∀ z ∈ b, z.row.length ≤ 1048576 ∧ ∀ v ∈ z.row, v.t.size ≤ maxLen) (hon : -9223372036854775808 ≤ on ∧ on ≤ 9223372036854775807) (h1 : diffOkB a = true) (h2 : diffOkB b = true) (h3 : 0 ≤ on) (ha0 : 0 < a.length) (h4 : on ≤ (widD a : Int)) (hb0 : 0 < b.length) (h5 : on ≤ (widD b : Int)) (hwa : widD a ≤ 8) (hwb : widD b ≤ 8) (h6 : 8 < (widD a : Int) + widD b - on) :
    Calls Try.prog 26 #[.slice A a.length c, .slice B b.length d, .int .i64 on] w (DPost w []) := by
  have HA := Lib.hid ha
  have HB := Lib.hid hb
  have HRA := Lib.hid hra
  have HRB := Lib.hid hrb
  obtain ⟨hon1, hon2⟩ := hon
  clear ha hb hra hrb
  have hB0 : Below w.heap.size w (w.alloc (.cells #[] 55)) := (Below.refl _ _).alloc (Nat.le_refl _) _
  go_enter Try.func26, Try.ntmps26
  go_wp2_with fail
  refine (spec_diffOk A c a _ (HA.out.to_ hB0) (by first | omega | simp) HRA.out).mono ?_
  rintro e w1 ⟨rfl, hb1⟩
  have hB1 := below_next hB0 hb1 rfl rfl
  rw [h1]
  go_wp2_with fail
  refine (spec_diffOk B d b _ (HB.out.to_ hB1) (by first | omega | simp) HRB.out).mono ?_
  rintro e w2 ⟨rfl, hb2⟩
  have hB2 := below_next hB1 hb2 rfl rfl
  rw [h2]
  have h3d : decide (on < 0) = false := by simp; omega
  have h3n : ¬ on < 0 := by omega
  obtain ⟨g, o, A1, c1, rfl, ca⟩ := first_cell (HA.out.to_ hB2) ha0
  have pa : (0 : Int) < (a.length : Int) := by omega
  obtain ⟨g', o', B1, d1, rfl, cb⟩ := first_cell (HB.out.to_ hB2) hb0
  have pb : (0 : Int) < (b.length : Int) := by omega
  have pad : decide ((0 : Int) < (a.length : Int)) = true := by simpa using pa
  have h4d : decide ((widD a : Int) < on) = false := by simp; omega
  have pbd : decide ((0 : Int) < (b.length : Int)) = true := by simpa using pb
  have h5d : decide ((widD b : Int) < on) = false := by simp; omega
  have pe : ((a.length : Int) == 0) = false := by rw [beq_eq_false_iff_ne]; omega
  have pf : ((b.length : Int) == 0) = false := by rw [beq_eq_false_iff_ne]; omega
  have q0 := cell_regrown ca
  have q1 := cell_regrown cb
  have h6d : decide (8 < (widD a : Int) + (widD b : Int) - on) = true := by simpa using h6
  go_wp2_with fail
  refine wp_region_quiet_below (by kernel_rfl) (by kernel_rfl) ?_
  repeat (go_big_quiet_step (first | fail))
  refine wpQuiet_nil ?_
  intro _ hw'
  obtain ⟨⟨dq, osq⟩, hw''⟩ := hw'
  subst hw''
  have hB3 := below_next hB2 (below_regrown w2 dq osq) rfl rfl
  generalize grow (redrawn w2 dq) osq = w3 at *
  clear ca cb q0 q1
  go_wp2_with fail
  go_ret
  exact none_post hB3

end Go.Proofs.Ytemcpdpbikgfcaa
