/-
  impl.all over declarations.
-/
import Derived.Test.YtbfcolmglbeefaaGreatDeclOk
namespace Go.Proofs.YtbfcolmglbeefaaGreat
open Go.RowKit Go.Sort
set_option linter.unusedVariables false

set_option maxHeartbeats 800000 in
theorem all_Decl_clo {lo : Nat} (x : GDecl) (A1 : Option Addr) (c1 : Nat) (b : Bool) (g : Nat) (w : World) (hb : declB x = b) (hf : fitDecl x) (hk : costDecl x ≤ 1048576) (s1 : StrsAt w lo w.heap.size A1 x.types) (hg : w.cell? ⟨g, 0, none⟩ = some (.func (.func 16) #[] #[])) :
    Calls Tryz.prog 31 #[.agg #[.string x.name, .slice A1 x.types.length c1], .pointer (some ⟨g, 0, none⟩)] w fun e w' => e = .returned (.bool (!b)) ∧ Below w.heap.size w w' := by
  have hgl : g < w.heap.size := World.block_lt_of_cell? w ⟨g, 0, none⟩ hg
  have hB0 : Below w.heap.size w (w.alloc (.cells #[.string x.name, .slice A1 x.types.length c1] 40)) := (Below.refl _ _).alloc (Nat.le_refl _) _
  go_enter Tryz.func31, Tryz.ntmps31
  go_wp2_with fail
  refine (ok_decl x A1 c1 _ hf hk (s1.to_ hB0)).mono ?_
  rintro e w1 ⟨rfl, hb1⟩
  have hB1 := below_next hB0 hb1 rfl rfl
  rw [hb]
  go_wp2_with fail
  go_ret
  exact ⟨rfl, hB1⟩
theorem all_Decl_snoc (xs : List (GDecl)) (k : Nat) (h : k < xs.length) : (xs.take (k + 1)).all declB = ((xs.take k).all declB && declB xs[k]) := by
  rw [List.take_succ_eq_append_getElem h, List.all_append]; simp
theorem all_Decl_bad (xs : List (GDecl)) (k : Nat) (h : k < xs.length) (hb : declB xs[k] = false) : xs.all declB = false := by
  rw [List.all_eq_false]; exact ⟨xs[k], List.getElem_mem h, by simp [hb]⟩
set_option maxHeartbeats 1600000 in
theorem all_Decl_index {lo : Nat} (A : Option Addr) (c g : Nat) (xs : List (GDecl)) (w : World) (hf : fitDecls xs) (hk : costDecls xs ≤ 1048576) (hr : DeclsAt w lo w.heap.size A xs) (hg : w.cell? ⟨g, 0, none⟩ = some (.func (.func 16) #[] #[])) :
    Calls Tryz.prog 52 #[.slice A xs.length c, .func (.func 31) #[] #[.pointer (some ⟨g, 0, none⟩)]] w fun e w' => ∃ z : Int, e = .returned (.int .i64 z) ∧ decide (0 ≤ z) = (!xs.all declB) ∧ Below w.heap.size w w' := by
  have hl : xs.length ≤ 1048576 := by unfold costDecls at hk; omega
  have FX := Lib.hid hf.2
  have HK := Lib.hid hk
  have HR := Lib.hid hr
  have HG := Lib.hid hg
  have hgl : g < w.heap.size := World.block_lt_of_cell? w ⟨g, 0, none⟩ hg
  clear hf hk hr hg
  go_enter Tryz.func52, Tryz.ntmps52
  go_wp2_with fail
  go_loopw [8] (fun i w' => ∃ k : Nat, k ≤ xs.length ∧ i = .int .i64 k ∧ Hid ((xs.take k).all declB = true) ∧ Below w.heap.size w w') (fun i _ => xs.length - (intOf i).toNat)
  case atStart => exact ⟨0, Nat.zero_le _, rfl, Lib.hid rfl, Below.refl _ _⟩
  case round =>
    obtain ⟨k, hk, rfl, hal, hB⟩ := hrel
    by_cases hlt : k < xs.length
    · obtain ⟨g1, o1, rfl, hg0, hg1, he⟩ := (HR.out.to_ hB).at_ hlt
      have hi0 : (0 : Int) ≤ (k : Int) := by omega
      have hi1 : (k : Int) < (xs.length : Int) := by omega
      have hm := FX.out _ (List.getElem_mem hlt)
      have hck : costDecl xs[k] ≤ 1048576 := by have h1 := HK.out; have h2 := sumC_mem costDecl xs _ (List.getElem_mem hlt); unfold costDecls at h1; omega
      have hgc : wr.cell? ⟨g, 0, none⟩ = some (.func (.func 16) #[] #[]) := (hB.cell (p := ⟨g, 0, none⟩) hgl).trans HG.out
      have hsn := Lib.hid (all_Decl_snoc xs k hlt)
      obtain ⟨h0, h1⟩ := he
      obtain ⟨A1, c1, h1y, s1⟩ := h1
      obtain ⟨b, hbx⟩ : ∃ b, declB xs[k] = b := ⟨_, rfl⟩
      have HB := Lib.hid hbx
      clear hbx
      go_wp2_with fail
      refine (all_Decl_clo xs[k] A1 c1 b g _ HB.out hm hck s1 hgc).mono ?_
      rintro e w2 ⟨rfl, hb2⟩
      have hB2 := below_next hB hb2 rfl rfl
      clear h0 h1y hgc
      cases b with
      | true =>
        have HX := Lib.hid (show (xs.take (k + 1)).all declB = true by rw [hsn.out, hal.out, HB.out]; rfl)
        go_wp2_with fail
        go_roundw
        case rel => exact ⟨k + 1, by omega, by go_num, HX, hB2⟩
        case measure => simp [intOf]; omega
      | false =>
        have HX := Lib.hid (all_Decl_bad xs k hlt HB.out)
        go_wp2_with fail
        go_ret
        exact ⟨k, rfl, by rw [HX.out]; simp, hB2⟩
    · have hi1 : ¬ (k : Int) < (xs.length : Int) := by omega
      have HX := Lib.hid (show xs.all declB = true by have h := hal.out; rwa [List.take_of_length_le (by omega)] at h)
      go_wp2_with fail
      go_ret
      exact ⟨-1, rfl, by rw [HX.out]; rfl, hB⟩
theorem all_Decl_contains {lo : Nat} (A : Option Addr) (c g : Nat) (xs : List (GDecl)) (w : World) (hf : fitDecls xs) (hk : costDecls xs ≤ 1048576) (hr : DeclsAt w lo w.heap.size A xs) (hg : w.cell? ⟨g, 0, none⟩ = some (.func (.func 16) #[] #[])) :
    Calls Tryz.prog 30 #[.slice A xs.length c, .func (.func 31) #[] #[.pointer (some ⟨g, 0, none⟩)]] w fun e w' => e = .returned (.bool (!xs.all declB)) ∧ Below w.heap.size w w' := by
  go_enter Tryz.func30, Tryz.ntmps30
  go_wp2_with fail
  refine (all_Decl_index A c g xs _ hf hk hr hg).mono ?_
  rintro e w1 ⟨z, rfl, hz, hb1⟩
  have HZ := Lib.hid hz
  clear hz
  go_wp2_with fail
  go_ret
  exact ⟨ret_bool HZ.out, hb1⟩
theorem all_Decl {lo : Nat} (A : Option Addr) (c : Nat) (xs : List (GDecl)) (w : World) (hf : fitDecls xs) (hk : costDecls xs ≤ 1048576) (hr : DeclsAt w lo w.heap.size A xs) :
    Calls Tryz.prog 15 #[.slice A xs.length c, .func (.func 16) #[] #[]] w fun e w' => e = .returned (.bool (xs.all declB)) ∧ Below w.heap.size w w' := by
  have hB0 : Below w.heap.size w (w.alloc (.cells #[.func (.func 16) #[] #[]] 37)) := (Below.refl _ _).alloc (Nat.le_refl _) _
  go_enter Tryz.func15, Tryz.ntmps15
  go_wp2_with fail
  refine (all_Decl_contains A c w.heap.size xs _ hf hk (hr.to_ hB0) (by go_simp)).mono ?_
  rintro e w1 ⟨rfl, hb1⟩
  have hB1 := below_next hB0 hb1 rfl rfl
  obtain ⟨b, hbx⟩ : ∃ b, xs.all declB = b := ⟨_, rfl⟩
  have HBX := Lib.hid hbx
  rw [hbx]
  clear hbx
  go_wp2_with fail
  go_ret
  exact ⟨ret_bool (by rw [HBX.out]), hB1⟩

end Go.Proofs.YtbfcolmglbeefaaGreat
