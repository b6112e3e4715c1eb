/-
  impl.all over rules.
-/
import Derived.Test.YtbfcolmglbeefaaGreatRuleOk
namespace Go.Proofs.YtbfcolmglbeefaaGreat
open Go.RowKit Go.Sort
set_option linter.unusedVariables false

set_option maxHeartbeats 800000 in
theorem all_Rule_clo {lo : Nat} (x : GRule) (A1 : Option Addr) (c1 : Nat) (A2 : Option Addr) (c2 : Nat) (A3 : Option Addr) (c3 : Nat) (b : Bool) (g : Nat) (w : World) (hb : ruleB x = b) (hf : fitRule x) (hk : costRule x ≤ 1048576) (s1 : NodeSsAt w lo w.heap.size A1 x.head.args) (s2 : StrsAt w lo w.heap.size A2 x.aggs) (s3 : LitsAt w lo w.heap.size A3 x.body) (hg : w.cell? ⟨g, 0, none⟩ = some (.func (.func 19) #[] #[])) :
    Calls Tryz.prog 36 #[.agg #[.string x.head.name, .slice A1 x.head.args.length c1, .slice A2 x.aggs.length c2, .slice A3 x.body.length c3], .pointer (some ⟨g, 0, none⟩)] w fun e w' => e = .returned (.bool (!b)) ∧ Below w.heap.size w w' := by
  have hgl : g < w.heap.size := World.block_lt_of_cell? w ⟨g, 0, none⟩ hg
  have hB0 : Below w.heap.size w (w.alloc (.cells #[.string x.head.name, .slice A1 x.head.args.length c1, .slice A2 x.aggs.length c2, .slice A3 x.body.length c3] 47)) := (Below.refl _ _).alloc (Nat.le_refl _) _
  go_enter Tryz.func36, Tryz.ntmps36
  go_wp2_with fail
  refine (ok_rule x A1 c1 A2 c2 A3 c3 _ hf hk (s1.to_ hB0) (s2.to_ hB0) (s3.to_ hB0)).mono ?_
  rintro e w1 ⟨rfl, hb1⟩
  have hB1 := below_next hB0 hb1 rfl rfl
  rw [hb]
  go_wp2_with fail
  go_ret
  exact ⟨rfl, hB1⟩
theorem all_Rule_snoc (xs : List (GRule)) (k : Nat) (h : k < xs.length) : (xs.take (k + 1)).all ruleB = ((xs.take k).all ruleB && ruleB xs[k]) := by
  rw [List.take_succ_eq_append_getElem h, List.all_append]; simp
theorem all_Rule_bad (xs : List (GRule)) (k : Nat) (h : k < xs.length) (hb : ruleB xs[k] = false) : xs.all ruleB = false := by
  rw [List.all_eq_false]; exact ⟨xs[k], List.getElem_mem h, by simp [hb]⟩
set_option maxHeartbeats 1600000 in
theorem all_Rule_index {lo : Nat} (A : Option Addr) (c g : Nat) (xs : List (GRule)) (w : World) (hf : fitRules xs) (hk : costRules xs ≤ 1048576) (hr : RulesAt w lo w.heap.size A xs) (hg : w.cell? ⟨g, 0, none⟩ = some (.func (.func 19) #[] #[])) :
    Calls Tryz.prog 56 #[.slice A xs.length c, .func (.func 36) #[] #[.pointer (some ⟨g, 0, none⟩)]] w fun e w' => ∃ z : Int, e = .returned (.int .i64 z) ∧ decide (0 ≤ z) = (!xs.all ruleB) ∧ Below w.heap.size w w' := by
  have hl : xs.length ≤ 1048576 := by unfold costRules at hk; omega
  have FX := Lib.hid hf.2
  have HK := Lib.hid hk
  have HR := Lib.hid hr
  have HG := Lib.hid hg
  have hgl : g < w.heap.size := World.block_lt_of_cell? w ⟨g, 0, none⟩ hg
  clear hf hk hr hg
  go_enter Tryz.func56, Tryz.ntmps56
  go_wp2_with fail
  go_loopw [8] (fun i w' => ∃ k : Nat, k ≤ xs.length ∧ i = .int .i64 k ∧ Hid ((xs.take k).all ruleB = true) ∧ Below w.heap.size w w') (fun i _ => xs.length - (intOf i).toNat)
  case atStart => exact ⟨0, Nat.zero_le _, rfl, Lib.hid rfl, Below.refl _ _⟩
  case round =>
    obtain ⟨k, hk, rfl, hal, hB⟩ := hrel
    by_cases hlt : k < xs.length
    · obtain ⟨g1, o1, rfl, hg0, hg1, he⟩ := (HR.out.to_ hB).at_ hlt
      have hi0 : (0 : Int) ≤ (k : Int) := by omega
      have hi1 : (k : Int) < (xs.length : Int) := by omega
      have hm := FX.out _ (List.getElem_mem hlt)
      have hck : costRule xs[k] ≤ 1048576 := by have h1 := HK.out; have h2 := sumC_mem costRule xs _ (List.getElem_mem hlt); unfold costRules at h1; omega
      have hgc : wr.cell? ⟨g, 0, none⟩ = some (.func (.func 19) #[] #[]) := (hB.cell (p := ⟨g, 0, none⟩) hgl).trans HG.out
      have hsn := Lib.hid (all_Rule_snoc xs k hlt)
      obtain ⟨h0, h1, h2, h3⟩ := he
      obtain ⟨A1, c1, h1y, s1⟩ := h1
      obtain ⟨A2, c2, h2y, s2⟩ := h2
      obtain ⟨A3, c3, h3y, s3⟩ := h3
      obtain ⟨b, hbx⟩ : ∃ b, ruleB xs[k] = b := ⟨_, rfl⟩
      have HB := Lib.hid hbx
      clear hbx
      go_wp2_with fail
      refine (all_Rule_clo xs[k] A1 c1 A2 c2 A3 c3 b g _ HB.out hm hck s1 s2 s3 hgc).mono ?_
      rintro e w2 ⟨rfl, hb2⟩
      have hB2 := below_next hB hb2 rfl rfl
      clear h0 h1y h2y h3y hgc
      cases b with
      | true =>
        have HX := Lib.hid (show (xs.take (k + 1)).all ruleB = true by rw [hsn.out, hal.out, HB.out]; rfl)
        go_wp2_with fail
        go_roundw
        case rel => exact ⟨k + 1, by omega, by go_num, HX, hB2⟩
        case measure => simp [intOf]; omega
      | false =>
        have HX := Lib.hid (all_Rule_bad xs k hlt HB.out)
        go_wp2_with fail
        go_ret
        exact ⟨k, rfl, by rw [HX.out]; simp, hB2⟩
    · have hi1 : ¬ (k : Int) < (xs.length : Int) := by omega
      have HX := Lib.hid (show xs.all ruleB = true by have h := hal.out; rwa [List.take_of_length_le (by omega)] at h)
      go_wp2_with fail
      go_ret
      exact ⟨-1, rfl, by rw [HX.out]; rfl, hB⟩
theorem all_Rule_contains {lo : Nat} (A : Option Addr) (c g : Nat) (xs : List (GRule)) (w : World) (hf : fitRules xs) (hk : costRules xs ≤ 1048576) (hr : RulesAt w lo w.heap.size A xs) (hg : w.cell? ⟨g, 0, none⟩ = some (.func (.func 19) #[] #[])) :
    Calls Tryz.prog 35 #[.slice A xs.length c, .func (.func 36) #[] #[.pointer (some ⟨g, 0, none⟩)]] w fun e w' => e = .returned (.bool (!xs.all ruleB)) ∧ Below w.heap.size w w' := by
  go_enter Tryz.func35, Tryz.ntmps35
  go_wp2_with fail
  refine (all_Rule_index A c g xs _ hf hk hr hg).mono ?_
  rintro e w1 ⟨z, rfl, hz, hb1⟩
  have HZ := Lib.hid hz
  clear hz
  go_wp2_with fail
  go_ret
  exact ⟨ret_bool HZ.out, hb1⟩
theorem all_Rule {lo : Nat} (A : Option Addr) (c : Nat) (xs : List (GRule)) (w : World) (hf : fitRules xs) (hk : costRules xs ≤ 1048576) (hr : RulesAt w lo w.heap.size A xs) :
    Calls Tryz.prog 18 #[.slice A xs.length c, .func (.func 19) #[] #[]] w fun e w' => e = .returned (.bool (xs.all ruleB)) ∧ Below w.heap.size w w' := by
  have hB0 : Below w.heap.size w (w.alloc (.cells #[.func (.func 19) #[] #[]] 41)) := (Below.refl _ _).alloc (Nat.le_refl _) _
  go_enter Tryz.func18, Tryz.ntmps18
  go_wp2_with fail
  refine (all_Rule_contains A c w.heap.size xs _ hf hk (hr.to_ hB0) (by go_simp)).mono ?_
  rintro e w1 ⟨rfl, hb1⟩
  have hB1 := below_next hB0 hb1 rfl rfl
  obtain ⟨b, hbx⟩ : ∃ b, xs.all ruleB = b := ⟨_, rfl⟩
  have HBX := Lib.hid hbx
  rw [hbx]
  clear hbx
  go_wp2_with fail
  go_ret
  exact ⟨ret_bool (by rw [HBX.out]), hB1⟩

end Go.Proofs.YtbfcolmglbeefaaGreat
