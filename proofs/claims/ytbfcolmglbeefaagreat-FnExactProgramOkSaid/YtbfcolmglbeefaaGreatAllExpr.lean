/-
  impl.all over expressions.
-/
import Derived.Test.YtbfcolmglbeefaaGreatExprOk
namespace Go.Proofs.YtbfcolmglbeefaaGreat
open Go.RowKit Go.Sort
set_option linter.unusedVariables false

theorem ok_exprA {lo : Nat} (x : List GNode) (A0 : Option Addr) (c0 : Nat) (w : World) (hf : fitNodeS x) (hk : costNodeS x ≤ 1048576) (q0 : CapOk x.length c0) (s0 : NodesAt w lo w.heap.size A0 x) : Calls Tryz.prog 58 #[.slice A0 x.length c0] w fun e w' => e = .returned (.bool (exprB x)) ∧ Below w.heap.size w w' :=
  ok_expr A0 c0 x w (by unfold costNodeS costNodes at hk; omega) q0.1 q0.2 hf s0
set_option maxHeartbeats 800000 in
theorem all_NodeS_clo {lo : Nat} (x : List GNode) (A0 : Option Addr) (c0 : Nat) (b : Bool) (g : Nat) (w : World) (hb : exprB x = b) (hf : fitNodeS x) (hk : costNodeS x ≤ 1048576) (q0 : CapOk x.length c0) (s0 : NodesAt w lo w.heap.size A0 x) (hg : w.cell? ⟨g, 0, none⟩ = some (.func (.func 58) #[] #[])) :
    Calls Tryz.prog 75 #[.slice A0 x.length c0, .pointer (some ⟨g, 0, none⟩)] w fun e w' => e = .returned (.bool (!b)) ∧ Below w.heap.size w w' := by
  have hgl : g < w.heap.size := World.block_lt_of_cell? w ⟨g, 0, none⟩ hg
  have hB0 : Below w.heap.size w w := Below.refl _ _
  go_enter Tryz.func75, Tryz.ntmps75
  go_wp2_with fail
  refine (ok_exprA x A0 c0 _ hf hk q0 (s0.to_ hB0)).mono ?_
  rintro e w1 ⟨rfl, hb1⟩
  have hB1 := below_next hB0 hb1 rfl rfl
  rw [hb]
  go_wp2_with fail
  go_ret
  exact ⟨rfl, hB1⟩
theorem all_NodeS_snoc (xs : List (List GNode)) (k : Nat) (h : k < xs.length) : (xs.take (k + 1)).all exprB = ((xs.take k).all exprB && exprB xs[k]) := by
  rw [List.take_succ_eq_append_getElem h, List.all_append]; simp
theorem all_NodeS_bad (xs : List (List GNode)) (k : Nat) (h : k < xs.length) (hb : exprB xs[k] = false) : xs.all exprB = false := by
  rw [List.all_eq_false]; exact ⟨xs[k], List.getElem_mem h, by simp [hb]⟩
set_option maxHeartbeats 1600000 in
theorem all_NodeS_index {lo : Nat} (A : Option Addr) (c g : Nat) (xs : List (List GNode)) (w : World) (hf : fitNodeSs xs) (hk : costNodeSs xs ≤ 1048576) (hr : NodeSsAt w lo w.heap.size A xs) (hg : w.cell? ⟨g, 0, none⟩ = some (.func (.func 58) #[] #[])) :
    Calls Tryz.prog 87 #[.slice A xs.length c, .func (.func 75) #[] #[.pointer (some ⟨g, 0, none⟩)]] w fun e w' => ∃ z : Int, e = .returned (.int .i64 z) ∧ decide (0 ≤ z) = (!xs.all exprB) ∧ Below w.heap.size w w' := by
  have hl : xs.length ≤ 1048576 := by unfold costNodeSs at hk; omega
  have FX := Lib.hid hf.2
  have HK := Lib.hid hk
  have HR := Lib.hid hr
  have HG := Lib.hid hg
  have hgl : g < w.heap.size := World.block_lt_of_cell? w ⟨g, 0, none⟩ hg
  clear hf hk hr hg
  go_enter Tryz.func87, Tryz.ntmps87
  go_wp2_with fail
  go_loopw [8] (fun i w' => ∃ k : Nat, k ≤ xs.length ∧ i = .int .i64 k ∧ Hid ((xs.take k).all exprB = true) ∧ Below w.heap.size w w') (fun i _ => xs.length - (intOf i).toNat)
  case atStart => exact ⟨0, Nat.zero_le _, rfl, Lib.hid rfl, Below.refl _ _⟩
  case round =>
    obtain ⟨k, hk, rfl, hal, hB⟩ := hrel
    by_cases hlt : k < xs.length
    · obtain ⟨g1, o1, rfl, hg0, hg1, he⟩ := (HR.out.to_ hB).at_ hlt
      have hi0 : (0 : Int) ≤ (k : Int) := by omega
      have hi1 : (k : Int) < (xs.length : Int) := by omega
      have hm := FX.out _ (List.getElem_mem hlt)
      have hck : costNodeS xs[k] ≤ 1048576 := by have h1 := HK.out; have h2 := sumC_mem costNodeS xs _ (List.getElem_mem hlt); unfold costNodeSs at h1; omega
      have hgc : wr.cell? ⟨g, 0, none⟩ = some (.func (.func 58) #[] #[]) := (hB.cell (p := ⟨g, 0, none⟩) hgl).trans HG.out
      have hsn := Lib.hid (all_NodeS_snoc xs k hlt)
      obtain ⟨A0, c0, ⟨h0y, q0⟩, s0⟩ := he
      obtain ⟨b, hbx⟩ : ∃ b, exprB xs[k] = b := ⟨_, rfl⟩
      have HB := Lib.hid hbx
      clear hbx
      go_wp2_with fail
      refine (all_NodeS_clo xs[k] A0 c0 b g _ HB.out hm hck q0 s0 hgc).mono ?_
      rintro e w2 ⟨rfl, hb2⟩
      have hB2 := below_next hB hb2 rfl rfl
      clear h0y hgc
      cases b with
      | true =>
        have HX := Lib.hid (show (xs.take (k + 1)).all exprB = true by rw [hsn.out, hal.out, HB.out]; rfl)
        go_wp2_with fail
        go_roundw
        case rel => exact ⟨k + 1, by omega, by go_num, HX, hB2⟩
        case measure => simp [intOf]; omega
      | false =>
        have HX := Lib.hid (all_NodeS_bad xs k hlt HB.out)
        go_wp2_with fail
        go_ret
        exact ⟨k, rfl, by rw [HX.out]; simp, hB2⟩
    · have hi1 : ¬ (k : Int) < (xs.length : Int) := by omega
      have HX := Lib.hid (show xs.all exprB = true by have h := hal.out; rwa [List.take_of_length_le (by omega)] at h)
      go_wp2_with fail
      go_ret
      exact ⟨-1, rfl, by rw [HX.out]; rfl, hB⟩
theorem all_NodeS_contains {lo : Nat} (A : Option Addr) (c g : Nat) (xs : List (List GNode)) (w : World) (hf : fitNodeSs xs) (hk : costNodeSs xs ≤ 1048576) (hr : NodeSsAt w lo w.heap.size A xs) (hg : w.cell? ⟨g, 0, none⟩ = some (.func (.func 58) #[] #[])) :
    Calls Tryz.prog 74 #[.slice A xs.length c, .func (.func 75) #[] #[.pointer (some ⟨g, 0, none⟩)]] w fun e w' => e = .returned (.bool (!xs.all exprB)) ∧ Below w.heap.size w w' := by
  go_enter Tryz.func74, Tryz.ntmps74
  go_wp2_with fail
  refine (all_NodeS_index A c g xs _ hf hk hr hg).mono ?_
  rintro e w1 ⟨z, rfl, hz, hb1⟩
  have HZ := Lib.hid hz
  clear hz
  go_wp2_with fail
  go_ret
  exact ⟨ret_bool HZ.out, hb1⟩
theorem all_NodeS {lo : Nat} (A : Option Addr) (c : Nat) (xs : List (List GNode)) (w : World) (hf : fitNodeSs xs) (hk : costNodeSs xs ≤ 1048576) (hr : NodeSsAt w lo w.heap.size A xs) :
    Calls Tryz.prog 57 #[.slice A xs.length c, .func (.func 58) #[] #[]] w fun e w' => e = .returned (.bool (xs.all exprB)) ∧ Below w.heap.size w w' := by
  have hB0 : Below w.heap.size w (w.alloc (.cells #[.func (.func 58) #[] #[]] 84)) := (Below.refl _ _).alloc (Nat.le_refl _) _
  go_enter Tryz.func57, Tryz.ntmps57
  go_wp2_with fail
  refine (all_NodeS_contains A c w.heap.size xs _ hf hk (hr.to_ hB0) (by go_simp)).mono ?_
  rintro e w1 ⟨rfl, hb1⟩
  have hB1 := below_next hB0 hb1 rfl rfl
  obtain ⟨b, hbx⟩ : ∃ b, xs.all exprB = b := ⟨_, rfl⟩
  have HBX := Lib.hid hbx
  rw [hbx]
  clear hbx
  go_wp2_with fail
  go_ret
  exact ⟨ret_bool (by rw [HBX.out]), hB1⟩

end Go.Proofs.YtbfcolmglbeefaaGreat
