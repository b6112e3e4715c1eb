/-
  slices.Equal at nodes.
-/
import Derived.Test.YtpipikjkhmhmhaaFlat
import Derived.Deep.QuietTactic
import Derived.BigQuiet
import Derived.Lib.QuietBelow
import Derived.Laws.StructEq
import Derived.Lib.Strings
namespace Go.Proofs.Ytpipikjkhmhmhaa
open Go.RowKit Go.Sort
set_option linter.unusedVariables false

theorem heldV : Try.prog.stoodInHeld 28 = false := by kernel_rfl
theorem structV : Try.prog.underlying 28 = some (.struct (Try.prog.fieldsOf 28)) := by kernel_rfl
theorem heldN : Try.prog.stoodInHeld 112 = false := by kernel_rfl
theorem structN : Try.prog.underlying 112 = some (.struct (Try.prog.fieldsOf 112)) := by kernel_rfl
theorem guardN : Try.prog.eqGuardType Try.prog.depth 112 = false := by kernel_rfl
theorem eqV9 (k n k' n' : Int) (t t' : ByteArray) (w : World) : (Op.equalIn 9999 28 (.agg #[.int .i64 k, .int .i64 n, .string t]) (.agg #[.int .i64 k', .int .i64 n', .string t'])).run Try.prog w = .ok (k == k' && n == n' && t.toList == t'.toList) w := by
  have u3 := Try.underlying2
  have a3 := Try.isAgg2
  have z3 := Try.sizeOf2
  have u9 := Try.underlying9
  have a9 := Try.isAgg9
  have z9 := Try.sizeOf9
  rw [show (9999 : Nat) = 9998 + 1 from rfl, run_equalIn_agg w 9998 28 _ _ structV heldV]
  simp only [Program.fieldsOf, Try.underlying28]
  go_simp
  by_cases h1 : k = k' <;> by_cases h2 : n = n' <;> by_cases h3 : t.toList = t'.toList <;> simp [h1, h2, h3]
def eqNB (x y : GNode) : Bool := x.k == y.k && x.name.toList == y.name.toList && x.v.k == y.v.k && x.v.n == y.v.n && x.v.t.toList == y.v.t.toList && x.size == y.size
theorem eqN (x y : GNode) (w : World) : (Op.equalIn 10000 112 (.agg #[.int .i64 x.k, .string x.name, .int .i64 x.v.k, .int .i64 x.v.n, .string x.v.t, .int .i64 x.size]) (.agg #[.int .i64 y.k, .string y.name, .int .i64 y.v.k, .int .i64 y.v.n, .string y.v.t, .int .i64 y.size])).run Try.prog w = .ok (eqNB x y) w := by
  unfold eqNB
  have u3 := Try.underlying2
  have a3 := Try.isAgg2
  have z3 := Try.sizeOf2
  have u9 := Try.underlying9
  have a9 := Try.isAgg9
  have z9 := Try.sizeOf9
  have av := Try.isAgg28
  have zv := Try.sizeOf28
  have ev := eqV9 x.v.k x.v.n y.v.k y.v.n x.v.t y.v.t
  rw [show (10000 : Nat) = 9999 + 1 from rfl, run_equalIn_agg w 9999 112 _ _ structN heldN]
  simp only [Program.fieldsOf, Try.underlying112]
  go_simp
  by_cases h1 : x.k = y.k <;> by_cases h2 : x.name.toList = y.name.toList <;> by_cases h3 : x.v.k = y.v.k <;> by_cases h4 : x.v.n = y.v.n <;> by_cases h5 : x.v.t.toList = y.v.t.toList <;> by_cases h6 : x.size = y.size <;> simp [h1, h2, h3, h4, h5, h6]
theorem neqN (x y : GNode) (w : World) : (binOp .neq 112 (.agg #[.int .i64 x.k, .string x.name, .int .i64 x.v.k, .int .i64 x.v.n, .string x.v.t, .int .i64 x.size]) (.agg #[.int .i64 y.k, .string y.name, .int .i64 y.v.k, .int .i64 y.v.n, .string y.v.t, .int .i64 y.size])).run Try.prog w = .ok (.bool (!eqNB x y)) w := by
  rw [run_neq_struct, eqN]; rfl
theorem toList_ext {a b : ByteArray} (h : a.toList = b.toList) : a = b := ByteArray.ext (Array.toList_inj.1 (by rw [← Lib.toList_data, ← Lib.toList_data, h]))
theorem eqNB_iff (x y : GNode) : eqNB x y = true ↔ x = y := by
  constructor
  · intro h
    simp [eqNB] at h
    obtain ⟨⟨⟨⟨⟨h1, h2⟩, h3⟩, h4⟩, h5⟩, h6⟩ := h
    cases x with
    | mk k nm v sz =>
      cases y with
      | mk k' nm' v' sz' =>
        cases v; cases v'
        simp at h1 h2 h3 h4 h5 h6
        rw [h1, toList_ext h2, h3, h4, toList_ext h5, h6]
  · rintro rfl; simp [eqNB]

set_option maxRecDepth 100000 in
set_option maxHeartbeats 1600000 in
theorem equal_nodes {lo lo' : Nat} (A A' : Option Addr) (c c' : Nat) (r r' : List GNode) (w : World) (hr : NodesAt w lo w.heap.size A r) (hr' : NodesAt w lo' w.heap.size A' r') (hl : r.length ≤ 1048576) (hl' : r'.length ≤ 1048576) :
    Calls Try.prog 113 #[.slice A r.length c, .slice A' r'.length c'] w fun e w' => ∃ b : Bool, e = .returned (.bool b) ∧ (b = true ↔ r = r') ∧ Below w.heap.size w w' := by
  by_cases hlen : r.length = r'.length
  · have hb : ((r.length : Int) != (r'.length : Int)) = false := by simp [hlen]
    have hb' : ((r.length : Int) == (r'.length : Int)) = true := by simp [hlen]
    go_enter Try.func113, Try.ntmps113
    go_wp2_with fail
    go_loopw [13] (fun i w' => ∃ k : Nat, k ≤ r.length ∧ i = .int .i64 k ∧ Hid (r.take k = r'.take k) ∧ Below w.heap.size w w') (fun i _ => r.length - (intOf i).toNat)
    case atStart => exact ⟨0, Nat.zero_le _, rfl, Lib.hid rfl, Below.refl _ _⟩
    case round =>
      obtain ⟨k, hk, rfl, hT, hB⟩ := hrel
      by_cases hlt : k < r.length
      · have hlt' : k < r'.length := by omega
        obtain ⟨g, o, rfl, hg0, hg, c0, c1, c2, c3, c4, c5⟩ := (hr.to_ hB).at_ hlt
        obtain ⟨g', o', rfl, hg0', hg', d0, d1, d2, d3, d4, d5⟩ := (hr'.to_ hB).at_ hlt'
        have hi0 : (0 : Int) ≤ (k : Int) := by omega
        have hi1 : (k : Int) < (r.length : Int) := by omega
        have hi2 : (k : Int) < (r'.length : Int) := by omega
        have hgd := guardN
        have q0 := cell_regrown c0
        have q1 := cell_regrown c1
        have q2 := cell_regrown c2
        have q3 := cell_regrown c3
        have q4 := cell_regrown c4
        have q5 := cell_regrown c5
        have p0 := cell_regrown d0
        have p1 := cell_regrown d1
        have p2 := cell_regrown d2
        have p3 := cell_regrown d3
        have p4 := cell_regrown d4
        have p5 := cell_regrown d5
        have hnq := fun W => neqN r[k] r'[k] W
        have HI := Lib.hid (eqNB_iff r[k] r'[k])
        go_wp2_with fail
        refine wp_region_quiet_below (by kernel_rfl) (by kernel_rfl) ?_
        repeat (go_big_quiet_step (fail))
        refine wpQuiet_nil ?_
        intro _ hw'
        obtain ⟨⟨dq, osq⟩, hw''⟩ := hw'
        subst hw''
        have hB2 := below_next hB (below_regrown wr dq osq) rfl rfl
        generalize grow (redrawn wr dq) osq = wx at *
        clear q0 q1 q2 q3 q4 q5 p0 p1 p2 p3 p4 p5 c0 c1 c2 c3 c4 c5 d0 d1 d2 d3 d4 d5 hnq
        have hT2 := Lib.hid (fun he : r[k] = r'[k] => show r.take (k + 1) = r'.take (k + 1) by rw [List.take_succ_eq_append_getElem hlt, List.take_succ_eq_append_getElem hlt', hT.out, he])
        have hE2 := Lib.hid (fun he : ¬ r[k] = r'[k] => show ¬ r = r' by rintro rfl; exact he rfl)
        generalize eqNB r[k] r'[k] = b at *
        cases b with
        | true =>
          have hT3 := Lib.hid (hT2.out (HI.out.1 rfl))
          clear hT2 hE2 HI
          go_wp2_with fail
          go_roundw
          case rel => exact ⟨k + 1, by omega, by go_num, hT3, hB2⟩
          case measure => simp [intOf]; omega
        | false =>
          have hE := Lib.hid (hE2.out (fun h => by have := HI.out.2 h; cases this))
          clear hT2 hE2 HI
          go_wp2_with fail
          go_ret
          exact ⟨false, rfl, by simp [hE.out], hB2⟩
      · have hE := Lib.hid (show r = r' by
          have h := hT.out
          rwa [List.take_of_length_le (by omega), List.take_of_length_le (by omega)] at h)
        go_wp2_with fail
        go_ret
        exact ⟨true, rfl, by simp [hE.out], hB⟩
  · have hb : ((r.length : Int) != (r'.length : Int)) = true := by simp; omega
    have hE := Lib.hid (show ¬ r = r' by rintro rfl; exact hlen rfl)
    go_enter Try.func113, Try.ntmps113
    go_wp2_with fail
    go_ret
    exact ⟨false, rfl, by simp [hE.out], Below.refl _ _⟩
end Go.Proofs.Ytpipikjkhmhmhaa
