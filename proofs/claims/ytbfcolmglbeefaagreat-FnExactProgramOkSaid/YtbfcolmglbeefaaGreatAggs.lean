/-
  impl.aggsOk.
-/
import Derived.Test.YtbfcolmglbeefaaGreatLitOk
namespace Go.Proofs.YtbfcolmglbeefaaGreat
open Go.RowKit Go.Sort
set_option linter.unusedVariables false

def firstK (es : List GNode) : Int := match es with | [] => 0 | x :: _ => x.k
def aggGood (a : ByteArray) (es : List GNode) : Bool := isT a [] || (aggB a && (!isT a [99, 111, 117, 110, 116] || decide (firstK es = 6)))
def aggOn (a : ByteArray) : Nat := if isT a [] then 0 else 1
def aggsAll (aggs : List ByteArray) (args : List (List GNode)) (n : Nat) : Bool := (List.range n).all (fun i => aggGood (aggs.getD i ByteArray.empty) (args.getD i []))
def aggsB (x : GRule) : Bool := decide (x.aggs.length = x.head.args.length) && aggsAll x.aggs x.head.args x.aggs.length && decide (sumC aggOn x.aggs ≤ 1)
theorem aggsAll_succ (aggs : List ByteArray) (args : List (List GNode)) (k : Nat) (h : k < aggs.length) (h' : k < args.length) : aggsAll aggs args (k + 1) = (aggsAll aggs args k && aggGood aggs[k] args[k]) := by
  unfold aggsAll
  rw [List.range_succ, List.all_append]
  simp [List.getD, h, h']
theorem aggsAll_bad (aggs : List ByteArray) (args : List (List GNode)) (k : Nat) (h : k < aggs.length) (h' : k < args.length) (hb : aggGood aggs[k] args[k] = false) : aggsAll aggs args aggs.length = false := by
  unfold aggsAll
  rw [List.all_eq_false]
  exact ⟨k, List.mem_range.2 h, by simp [List.getD, h, h', hb]⟩
theorem impl_agg_is (b : Bool) (s : ByteArray) (w : World) (h : aggB s = b) :
    Calls Tryz.prog 59 #[.string s] w fun e w' => e = .returned (.bool b) ∧ w = w' := by subst h; exact impl_agg s w
set_option maxRecDepth 100000 in
set_option maxHeartbeats 1600000 in
theorem ok_aggs {lo : Nat} (x : GRule) (A1 : Option Addr) (c1 : Nat) (A2 : Option Addr) (c2 : Nat) (A3 : Option Addr) (c3 : Nat) (w : World) (hka : x.aggs.length ≤ 1048576) (hkr : x.head.args.length ≤ 1048576) (s1 : NodeSsAt w lo w.heap.size A1 x.head.args) (s2 : StrsAt w lo w.heap.size A2 x.aggs) (hne : ∀ es ∈ x.head.args, es ≠ []) :
    Calls Tryz.prog 38 #[.agg #[.string x.head.name, .slice A1 x.head.args.length c1, .slice A2 x.aggs.length c2, .slice A3 x.body.length c3]] w fun e w' => e = .returned (.bool (aggsB x)) ∧ Below w.heap.size w w' := by
  have hB0 : Below w.heap.size w (w.alloc (.cells #[.string x.head.name, .slice A1 x.head.args.length c1, .slice A2 x.aggs.length c2, .slice A3 x.body.length c3] 47)) := (Below.refl _ _).alloc (Nat.le_refl _) _
  by_cases hlen : (x.aggs.length : Int) = x.head.args.length
  · have hN := Lib.hid (show aggsB x = (aggsAll x.aggs x.head.args x.aggs.length && decide (sumC aggOn x.aggs ≤ 1)) by unfold aggsB; rw [decide_eq_true (show x.aggs.length = x.head.args.length by omega)]; rfl)
    have HL := Lib.hid (show x.aggs.length = x.head.args.length by omega)
    have hd : (((x.aggs.length : Int) != (x.head.args.length : Int)) = false) := by simpa using hlen
    have hP := Lib.hid (Whole.new w 47 [.string x.head.name, .slice A1 x.head.args.length c1, .slice A2 x.aggs.length c2, .slice A3 x.body.length c3])
    have HS1 := Lib.hid s1
    have HS2 := Lib.hid s2
    have HNE := Lib.hid hne
    clear s1 s2 hne hlen
    go_enter Tryz.func38, Tryz.ntmps38
    go_wp2_with fail
    go_loopw [3, 17] (fun n i w' => ∃ k : Nat, k ≤ x.aggs.length ∧ i = .int .i64 k ∧ n = .int .i64 (sumC aggOn (x.aggs.take k) : Nat) ∧ sumC aggOn (x.aggs.take k) ≤ k ∧ Hid (aggsAll x.aggs x.head.args k = true) ∧ Hid (w' = (w.alloc (.cells #[.string x.head.name, .slice A1 x.head.args.length c1, .slice A2 x.aggs.length c2, .slice A3 x.body.length c3] 47)))) (fun n i _ => x.aggs.length - (intOf i).toNat)
    case atStart => exact ⟨0, Nat.zero_le _, rfl, rfl, by simp [sumC], Lib.hid rfl, Lib.hid rfl⟩
    case round =>
      obtain ⟨k, hk, rfl, rfl, hn, hal, hw⟩ := hrel
      have hBr : Below w.heap.size w wr := by rw [hw.out]; exact hB0
      by_cases hlt : k < x.aggs.length
      · have hlt' : k < x.head.args.length := by have := HL.out; omega
        have hPr := hP.out
        rw [← hw.out] at hPr
        have p1 : wr.cell? ⟨w.heap.size, 1, none⟩ = some (.slice A1 x.head.args.length c1) := hPr.cell 1
        clear hPr
        obtain ⟨g, o, rfl, hg0, hg, he⟩ := (HS2.out.to_ hBr).at_ hlt
        have h0 : wr.cell? ⟨g, o + k, none⟩ = some (.string x.aggs[k]) := he
        clear he
        obtain ⟨g', o', rfl, hg0', hg', A0, c0, ⟨h0y, _⟩, s0⟩ := (HS1.out.to_ hBr).at_ hlt'
        have hpos : 0 < x.head.args[k].length := List.length_pos_iff.2 (HNE.out _ (List.getElem_mem hlt'))
        obtain ⟨g1, o1, rfl, hg10, hg1, hn0, _⟩ := s0.at_ hpos
        rw [Nat.zero_mul, Nat.add_zero] at hn0
        have hfk := Lib.hid (show firstK x.head.args[k] = x.head.args[k][0].k by
          generalize x.head.args[k] = es at hpos
          cases es with
          | nil => simp at hpos
          | cons a l => rfl)
        have hi0 : (0 : Int) ≤ (k : Int) := by omega
        have hi1 : (k : Int) < (x.aggs.length : Int) := by omega
        have hi2 : (k : Int) < (x.head.args.length : Int) := by omega
        have hi3 : (0 : Int) < (x.head.args[k].length : Int) := by omega
        have hsum := Lib.hid (sumC_take aggOn x.aggs k hlt)
        have hsn := Lib.hid (aggsAll_succ x.aggs x.head.args k hlt hlt')
        have hbad := Lib.hid (aggsAll_bad x.aggs x.head.args k hlt hlt')
        by_cases ha : (x.aggs[k].toList == []) = true
        · have hg2 := Lib.hid (show aggsAll x.aggs x.head.args (k + 1) = true by rw [hsn.out, hal.out, aggGood, isT, ha]; rfl)
          have hs2 := Lib.hid (show sumC aggOn (x.aggs.take (k + 1)) = sumC aggOn (x.aggs.take k) by rw [hsum.out, aggOn, isT, ha]; rfl)
          go_wp2_with fail
          go_roundw
          case rel => exact ⟨k + 1, by omega, by go_num, by rw [hs2.out], by rw [hs2.out]; omega, hg2, hw⟩
          case measure => simp [intOf]; omega
        · rw [Bool.not_eq_true] at ha
          obtain ⟨b, hb⟩ : ∃ b, aggB x.aggs[k] = b := ⟨_, rfl⟩
          have HB := Lib.hid hb
          clear hb
          cases b with
          | false =>
            have H := Lib.hid (show aggsB x = false by rw [hN.out, hbad.out (by rw [aggGood, isT, ha, HB.out]; rfl)]; rfl)
            go_wp2_with (go_at_call 59; refine (impl_agg_is false _ _ HB.out).mono ?_; rintro e w' ⟨rfl, rfl⟩)
            go_ret
            exact ⟨ret_bool (by rw [H.out]), hBr⟩
          | true =>
            have hs2 := Lib.hid (show sumC aggOn (x.aggs.take (k + 1)) = sumC aggOn (x.aggs.take k) + 1 by rw [hsum.out, aggOn, isT, ha]; rfl)
            by_cases hcn : (x.aggs[k].toList == [99, 111, 117, 110, 116]) = true
            · by_cases h6 : x.head.args[k][0].k = 6
              · have hg2 := Lib.hid (show aggsAll x.aggs x.head.args (k + 1) = true by rw [hsn.out, hal.out, aggGood, HB.out, hfk.out, decide_eq_true h6]; simp)
                go_wp2_with (go_at_call 59; refine (impl_agg_is true _ _ HB.out).mono ?_; rintro e w' ⟨rfl, rfl⟩)
                go_roundw
                case rel => exact ⟨k + 1, by omega, by go_num, by rw [hs2.out]; go_num, by rw [hs2.out]; omega, hg2, hw⟩
                case measure => simp [intOf]; omega
              · have H := Lib.hid (show aggsB x = false by rw [hN.out, hbad.out (by rw [aggGood, isT, isT, ha, hcn, hfk.out, decide_eq_false h6]; simp)]; rfl)
                go_wp2_with (go_at_call 59; refine (impl_agg_is true _ _ HB.out).mono ?_; rintro e w' ⟨rfl, rfl⟩)
                go_ret
                exact ⟨ret_bool (by rw [H.out]), hBr⟩
            · rw [Bool.not_eq_true] at hcn
              have hg2 := Lib.hid (show aggsAll x.aggs x.head.args (k + 1) = true by rw [hsn.out, hal.out, aggGood, HB.out, isT, isT, hcn]; simp)
              go_wp2_with (go_at_call 59; refine (impl_agg_is true _ _ HB.out).mono ?_; rintro e w' ⟨rfl, rfl⟩)
              go_roundw
              case rel => exact ⟨k + 1, by omega, by go_num, by rw [hs2.out]; go_num, by rw [hs2.out]; omega, hg2, hw⟩
              case measure => simp [intOf]; omega
      · have hi1 : ¬ (k : Int) < (x.aggs.length : Int) := by omega
        have hT := Lib.hid (show aggsB x = decide (((sumC aggOn (x.aggs.take k) : Nat) : Int) ≤ 1) by
          have hke : k = x.aggs.length := by omega
          have h := hal.out
          rw [hke] at h
          rw [hN.out, h, List.take_of_length_le (by omega)]
          simp
          omega)
        go_wp2_with fail
        go_ret
        exact ⟨ret_bool (by rw [hT.out]), hBr⟩
  · have H := Lib.hid (show aggsB x = false by unfold aggsB; rw [decide_eq_false (show ¬ x.aggs.length = x.head.args.length by omega)]; rfl)
    have hd : (((x.aggs.length : Int) == (x.head.args.length : Int)) = false) := by simpa using hlen
    clear hlen
    go_enter Tryz.func38, Tryz.ntmps38
    go_wp2_with fail
    go_ret
    exact ⟨ret_bool (by rw [H.out]), hB0⟩
end Go.Proofs.YtbfcolmglbeefaaGreat
