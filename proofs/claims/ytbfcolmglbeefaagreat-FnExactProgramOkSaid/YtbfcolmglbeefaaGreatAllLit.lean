/-
  impl.all over literals.
-/
import Derived.Test.YtbfcolmglbeefaaGreatLitOk
namespace Go.Proofs.YtbfcolmglbeefaaGreat
open Go.RowKit Go.Sort
set_option linter.unusedVariables false

set_option maxHeartbeats 800000 in
theorem all_Lit_clo {lo : Nat} (x : GLit) (A2 : Option Addr) (c2 : Nat) (A4 : Option Addr) (c4 : Nat) (A5 : Option Addr) (c5 : Nat) (b : Bool) (g : Nat) (w : World) (hb : litB x = b) (hf : fitLit x) (hk : costLit x ≤ 1048576) (s2 : NodeSsAt w lo w.heap.size A2 x.atom.args) (q4 : CapOk x.left.length c4) (s4 : NodesAt w lo w.heap.size A4 x.left) (q5 : CapOk x.right.length c5) (s5 : NodesAt w lo w.heap.size A5 x.right) (hg : w.cell? ⟨g, 0, none⟩ = some (.func (.func 40) #[] #[])) :
    Calls Tryz.prog 61 #[.agg #[.int .i64 x.k, .string x.atom.name, .slice A2 x.atom.args.length c2, .string x.op, .slice A4 x.left.length c4, .slice A5 x.right.length c5], .pointer (some ⟨g, 0, none⟩)] w fun e w' => e = .returned (.bool (!b)) ∧ Below w.heap.size w w' := by
  have hgl : g < w.heap.size := World.block_lt_of_cell? w ⟨g, 0, none⟩ hg
  have hB0 : Below w.heap.size w (w.alloc (.cells #[.int .i64 x.k, .string x.atom.name, .slice A2 x.atom.args.length c2, .string x.op, .slice A4 x.left.length c4, .slice A5 x.right.length c5] 73)) := (Below.refl _ _).alloc (Nat.le_refl _) _
  go_enter Tryz.func61, Tryz.ntmps61
  go_wp2_with fail
  refine (ok_lit x A2 c2 A4 c4 A5 c5 _ hf hk (s2.to_ hB0) q4 (s4.to_ hB0) q5 (s5.to_ hB0)).mono ?_
  rintro e w1 ⟨rfl, hb1⟩
  have hB1 := below_next hB0 hb1 rfl rfl
  rw [hb]
  go_wp2_with fail
  go_ret
  exact ⟨rfl, hB1⟩
theorem all_Lit_snoc (xs : List (GLit)) (k : Nat) (h : k < xs.length) : (xs.take (k + 1)).all litB = ((xs.take k).all litB && litB xs[k]) := by
  rw [List.take_succ_eq_append_getElem h, List.all_append]; simp
theorem all_Lit_bad (xs : List (GLit)) (k : Nat) (h : k < xs.length) (hb : litB xs[k] = false) : xs.all litB = false := by
  rw [List.all_eq_false]; exact ⟨xs[k], List.getElem_mem h, by simp [hb]⟩
set_option maxHeartbeats 1600000 in
theorem all_Lit_index {lo : Nat} (A : Option Addr) (c g : Nat) (xs : List (GLit)) (w : World) (hf : fitLits xs) (hk : costLits xs ≤ 1048576) (hr : LitsAt w lo w.heap.size A xs) (hg : w.cell? ⟨g, 0, none⟩ = some (.func (.func 40) #[] #[])) :
    Calls Tryz.prog 79 #[.slice A xs.length c, .func (.func 61) #[] #[.pointer (some ⟨g, 0, none⟩)]] w fun e w' => ∃ z : Int, e = .returned (.int .i64 z) ∧ decide (0 ≤ z) = (!xs.all litB) ∧ Below w.heap.size w w' := by
  have hl : xs.length ≤ 1048576 := by unfold costLits at hk; omega
  have FX := Lib.hid hf.2
  have HK := Lib.hid hk
  have HR := Lib.hid hr
  have HG := Lib.hid hg
  have hgl : g < w.heap.size := World.block_lt_of_cell? w ⟨g, 0, none⟩ hg
  clear hf hk hr hg
  go_enter Tryz.func79, Tryz.ntmps79
  go_wp2_with fail
  go_loopw [8] (fun i w' => ∃ k : Nat, k ≤ xs.length ∧ i = .int .i64 k ∧ Hid ((xs.take k).all litB = true) ∧ Below w.heap.size w w') (fun i _ => xs.length - (intOf i).toNat)
  case atStart => exact ⟨0, Nat.zero_le _, rfl, Lib.hid rfl, Below.refl _ _⟩
  case round =>
    obtain ⟨k, hk, rfl, hal, hB⟩ := hrel
    by_cases hlt : k < xs.length
    · obtain ⟨g1, o1, rfl, hg0, hg1, he⟩ := (HR.out.to_ hB).at_ hlt
      have hi0 : (0 : Int) ≤ (k : Int) := by omega
      have hi1 : (k : Int) < (xs.length : Int) := by omega
      have hm := FX.out _ (List.getElem_mem hlt)
      have hck : costLit xs[k] ≤ 1048576 := by have h1 := HK.out; have h2 := sumC_mem costLit xs _ (List.getElem_mem hlt); unfold costLits at h1; omega
      have hgc : wr.cell? ⟨g, 0, none⟩ = some (.func (.func 40) #[] #[]) := (hB.cell (p := ⟨g, 0, none⟩) hgl).trans HG.out
      have hsn := Lib.hid (all_Lit_snoc xs k hlt)
      obtain ⟨h0, h1, h2, h3, h4, h5⟩ := he
      obtain ⟨A2, c2, h2y, s2⟩ := h2
      obtain ⟨A4, c4, ⟨h4y, q4⟩, s4⟩ := h4
      obtain ⟨A5, c5, ⟨h5y, q5⟩, s5⟩ := h5
      obtain ⟨b, hbx⟩ : ∃ b, litB xs[k] = b := ⟨_, rfl⟩
      have HB := Lib.hid hbx
      clear hbx
      go_wp2_with fail
      refine (all_Lit_clo xs[k] A2 c2 A4 c4 A5 c5 b g _ HB.out hm hck s2 q4 s4 q5 s5 hgc).mono ?_
      rintro e w2 ⟨rfl, hb2⟩
      have hB2 := below_next hB hb2 rfl rfl
      clear h0 h1 h2y h3 h4y h5y hgc
      cases b with
      | true =>
        have HX := Lib.hid (show (xs.take (k + 1)).all litB = true by rw [hsn.out, hal.out, HB.out]; rfl)
        go_wp2_with fail
        go_roundw
        case rel => exact ⟨k + 1, by omega, by go_num, HX, hB2⟩
        case measure => simp [intOf]; omega
      | false =>
        have HX := Lib.hid (all_Lit_bad xs k hlt HB.out)
        go_wp2_with fail
        go_ret
        exact ⟨k, rfl, by rw [HX.out]; simp, hB2⟩
    · have hi1 : ¬ (k : Int) < (xs.length : Int) := by omega
      have HX := Lib.hid (show xs.all litB = true by have h := hal.out; rwa [List.take_of_length_le (by omega)] at h)
      go_wp2_with fail
      go_ret
      exact ⟨-1, rfl, by rw [HX.out]; rfl, hB⟩
theorem all_Lit_contains {lo : Nat} (A : Option Addr) (c g : Nat) (xs : List (GLit)) (w : World) (hf : fitLits xs) (hk : costLits xs ≤ 1048576) (hr : LitsAt w lo w.heap.size A xs) (hg : w.cell? ⟨g, 0, none⟩ = some (.func (.func 40) #[] #[])) :
    Calls Tryz.prog 60 #[.slice A xs.length c, .func (.func 61) #[] #[.pointer (some ⟨g, 0, none⟩)]] w fun e w' => e = .returned (.bool (!xs.all litB)) ∧ Below w.heap.size w w' := by
  go_enter Tryz.func60, Tryz.ntmps60
  go_wp2_with fail
  refine (all_Lit_index A c g xs _ hf hk hr hg).mono ?_
  rintro e w1 ⟨z, rfl, hz, hb1⟩
  have HZ := Lib.hid hz
  clear hz
  go_wp2_with fail
  go_ret
  exact ⟨ret_bool HZ.out, hb1⟩
theorem all_Lit {lo : Nat} (A : Option Addr) (c : Nat) (xs : List (GLit)) (w : World) (hf : fitLits xs) (hk : costLits xs ≤ 1048576) (hr : LitsAt w lo w.heap.size A xs) :
    Calls Tryz.prog 39 #[.slice A xs.length c, .func (.func 40) #[] #[]] w fun e w' => e = .returned (.bool (xs.all litB)) ∧ Below w.heap.size w w' := by
  have hB0 : Below w.heap.size w (w.alloc (.cells #[.func (.func 40) #[] #[]] 71)) := (Below.refl _ _).alloc (Nat.le_refl _) _
  go_enter Tryz.func39, Tryz.ntmps39
  go_wp2_with fail
  refine (all_Lit_contains A c w.heap.size xs _ hf hk (hr.to_ hB0) (by go_simp)).mono ?_
  rintro e w1 ⟨rfl, hb1⟩
  have hB1 := below_next hB0 hb1 rfl rfl
  obtain ⟨b, hbx⟩ : ∃ b, xs.all litB = b := ⟨_, rfl⟩
  have HBX := Lib.hid hbx
  rw [hbx]
  clear hbx
  go_wp2_with fail
  go_ret
  exact ⟨ret_bool (by rw [HBX.out]), hB1⟩

end Go.Proofs.YtbfcolmglbeefaaGreat
