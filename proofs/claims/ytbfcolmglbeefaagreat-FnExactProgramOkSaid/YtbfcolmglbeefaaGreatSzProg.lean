/-
  How the laws measure programs.
-/
import Derived.Test.YtbfcolmglbeefaaGreatSzRule
import Derived.Test.YtbfcolmglbeefaaGreatTyProg
namespace Go.Proofs.YtbfcolmglbeefaaGreat
open Go.RowKit Go.Sort
set_option linter.unusedVariables false

set_option maxHeartbeats 1600000 in
theorem sz_Rules {lo : Nat} (A : Option Addr) (c : Nat) (xs : List (GRule)) (left : Int) (w : World) (hf : fitRules xs) (hr : RulesAt w lo w.heap.size A xs) (h0 : 0 ≤ left) (h1 : left ≤ 1048576) :
    Calls Tryz.prog 10 #[.slice A xs.length c, .int .i64 left] w fun e w' => e = .returned (.int .i64 (szC (costRules xs) left)) ∧ Below w.heap.size w w' := by
  have hl : xs.length ≤ 9223372036854775807 := by have h := hf.1; unfold maxLen at h; exact h
  have FX := Lib.hid hf.2
  clear hf
  have hct := Lib.hid (show costRules xs = xs.length + sumC costRule xs from rfl)
  have HR := Lib.hid hr
  clear hr
  by_cases hlen : left - xs.length < 0
  · have H := Lib.hid (show szC (costRules xs) left = -1 by rw [hct.out]; unfold szC; rw [if_pos (by omega)])
    go_enter Tryz.func10, Tryz.ntmps10
    go_wp2_with fail
    go_ret
    exact ⟨ret_int (by rw [H.out]), Below.refl _ _⟩
  go_enter Tryz.func10, Tryz.ntmps10
  go_wp2_with fail
  go_loopw [1, 5] (fun l i w' => ∃ k : Nat, k ≤ xs.length ∧ i = .int .i64 k ∧ l = .int .i64 (left - xs.length - (sumC costRule (xs.take k) : Nat)) ∧ 0 ≤ left - xs.length - (sumC costRule (xs.take k) : Nat) ∧ Below w.heap.size w w') (fun _ i _ => xs.length - (intOf i).toNat)
  case atStart => exact ⟨0, Nat.zero_le _, rfl, by simp [sumC], by simp [sumC]; omega, Below.refl _ _⟩
  case round =>
    obtain ⟨k, hk, rfl, rfl, hp, hB⟩ := hrel
    by_cases hlt : k < xs.length
    · obtain ⟨g, o, rfl, hg0, hg, he⟩ := (HR.out.to_ hB).at_ hlt
      have hst := Lib.hid (sumC_take costRule xs k hlt)
      have htot := sumC_le costRule xs (k + 1)
      have hm := FX.out _ (List.getElem_mem hlt)
      have hi1 : (k : Int) < (xs.length : Int) := by omega
      have hi0 : (0 : Int) ≤ (k : Int) := by omega
      obtain ⟨h0x, h1x, h2x, h3x⟩ := he
      obtain ⟨A1, c1, h1y, s1⟩ := h1x
      obtain ⟨A2, c2, h2y, s2⟩ := h2x
      obtain ⟨A3, c3, h3y, s3⟩ := h3x
      go_wp2_with fail
      refine (sz_Rule xs[k] A1 c1 A2 c2 A3 c3 _ _ hm s1 s2 s3 hp (by omega)).mono ?_
      rintro e w2 ⟨rfl, hb2⟩
      have hB2 := below_next hB hb2 rfl rfl
      clear h0x h1y h2y h3y
      by_cases hneg : left - xs.length - (sumC costRule (xs.take k) : Nat) - (costRule xs[k] : Nat) < 0
      · have hs : szC (costRule xs[k]) (left - xs.length - (sumC costRule (xs.take k) : Nat)) = -1 := by unfold szC; rw [if_pos hneg]
        have H := Lib.hid (show szC (costRules xs) left = -1 by have := hst.out; rw [hct.out]; unfold szC; rw [if_pos (by omega)])
        rw [hs]
        clear hs
        go_wp2_with fail
        go_ret
        exact ⟨ret_int (by rw [H.out]), hB2⟩
      · have hs : szC (costRule xs[k]) (left - xs.length - (sumC costRule (xs.take k) : Nat)) = left - xs.length - (sumC costRule (xs.take (k + 1)) : Nat) := by have := hst.out; unfold szC; rw [if_neg hneg]; omega
        have hp2 : 0 ≤ left - xs.length - (sumC costRule (xs.take (k + 1)) : Nat) := by have := hst.out; omega
        rw [hs]
        clear hs
        go_wp2_with fail
        go_roundw
        case rel => exact ⟨k + 1, by omega, by go_num, rfl, hp2, hB2⟩
        case measure => simp [intOf]; omega
    · have H := Lib.hid (show szC (costRules xs) left = left - xs.length - (sumC costRule (xs.take k) : Nat) by
        rw [List.take_of_length_le (by omega)] at hp ⊢
        rw [hct.out]; unfold szC; rw [if_neg (by omega)]; omega)
      have hi1 : ¬ (k : Int) < (xs.length : Int) := by omega
      go_wp2_with fail
      go_ret
      exact ⟨ret_int (by rw [H.out]), hB⟩

set_option maxHeartbeats 1600000 in
theorem sz_Decl {lo : Nat} (x : GDecl) (A1 : Option Addr) (c1 : Nat) (left : Int) (w : World) (hf : fitDecl x) (s1 : StrsAt w lo w.heap.size A1 x.types) (h0 : 0 ≤ left) (h1 : left ≤ 1048576) :
    Calls Tryz.prog 22 #[.agg #[.string x.name, .slice A1 x.types.length c1], .int .i64 left] w fun e w' => e = .returned (.int .i64 (szC (costDecl x) left)) ∧ Below w.heap.size w w' := by
  have F := Lib.hid hf
  clear hf
  have m0 : x.name.size ≤ 9223372036854775807 := by have h := F.out.1; unfold maxLen at h; exact h
  have hct := Lib.hid (show costDecl x = x.name.size + costStrs x.types from rfl)
  have hB0 : Below w.heap.size w (w.alloc (.cells #[.string x.name, .slice A1 x.types.length c1] 56)) := (Below.refl _ _).alloc (Nat.le_refl _) _
  have hP := Lib.hid (Whole.new w 56 [.string x.name, .slice A1 x.types.length c1])
  by_cases hn0 : left - (x.name.size : Nat) < 0
  · have H := Lib.hid (show szC (costDecl x) left = -1 by rw [hct.out]; unfold szC; rw [if_pos (by omega)])
    go_enter Tryz.func22, Tryz.ntmps22
    go_wp2_with fail
    go_ret
    exact ⟨ret_int (by rw [H.out]), hB0⟩
  go_enter Tryz.func22, Tryz.ntmps22
  go_wp2_with fail
  refine (sz_Strs A1 c1 x.types _ _ F.out.2 (s1.to_ hB0) (by omega) (by omega)).mono ?_
  rintro e w1 ⟨rfl, hb1⟩
  have hB1' := below_next hB0 hb1 rfl rfl
  by_cases hn1 : left - (x.name.size : Nat) - (costStrs x.types : Nat) < 0
  · have hs : szC (costStrs x.types) (left - (x.name.size : Nat)) = -1 := by unfold szC; rw [if_pos hn1]
    have H := Lib.hid (show szC (costDecl x) left = -1 by rw [hct.out]; unfold szC; rw [if_pos (by omega)])
    rw [hs]
    clear hs
    go_wp2_with fail
    go_ret
    exact ⟨ret_int (by rw [H.out]), hB1'⟩
  have hs1 : szC (costStrs x.types) (left - (x.name.size : Nat)) = left - (x.name.size : Nat) - (costStrs x.types : Nat) := by unfold szC; rw [if_neg hn1]
  rw [hs1]
  clear hs1
  have H := Lib.hid (show szC (costDecl x) left = left - (x.name.size : Nat) - (costStrs x.types : Nat) by rw [hct.out]; unfold szC; rw [if_neg (by omega)] <;> omega)
  go_wp2_with fail
  go_ret
  exact ⟨ret_int (by rw [H.out]), hB1'⟩

set_option maxHeartbeats 1600000 in
theorem sz_Decls {lo : Nat} (A : Option Addr) (c : Nat) (xs : List (GDecl)) (left : Int) (w : World) (hf : fitDecls xs) (hr : DeclsAt w lo w.heap.size A xs) (h0 : 0 ≤ left) (h1 : left ≤ 1048576) :
    Calls Tryz.prog 9 #[.slice A xs.length c, .int .i64 left] w fun e w' => e = .returned (.int .i64 (szC (costDecls xs) left)) ∧ Below w.heap.size w w' := by
  have hl : xs.length ≤ 9223372036854775807 := by have h := hf.1; unfold maxLen at h; exact h
  have FX := Lib.hid hf.2
  clear hf
  have hct := Lib.hid (show costDecls xs = xs.length + sumC costDecl xs from rfl)
  have HR := Lib.hid hr
  clear hr
  by_cases hlen : left - xs.length < 0
  · have H := Lib.hid (show szC (costDecls xs) left = -1 by rw [hct.out]; unfold szC; rw [if_pos (by omega)])
    go_enter Tryz.func9, Tryz.ntmps9
    go_wp2_with fail
    go_ret
    exact ⟨ret_int (by rw [H.out]), Below.refl _ _⟩
  go_enter Tryz.func9, Tryz.ntmps9
  go_wp2_with fail
  go_loopw [1, 5] (fun l i w' => ∃ k : Nat, k ≤ xs.length ∧ i = .int .i64 k ∧ l = .int .i64 (left - xs.length - (sumC costDecl (xs.take k) : Nat)) ∧ 0 ≤ left - xs.length - (sumC costDecl (xs.take k) : Nat) ∧ Below w.heap.size w w') (fun _ i _ => xs.length - (intOf i).toNat)
  case atStart => exact ⟨0, Nat.zero_le _, rfl, by simp [sumC], by simp [sumC]; omega, Below.refl _ _⟩
  case round =>
    obtain ⟨k, hk, rfl, rfl, hp, hB⟩ := hrel
    by_cases hlt : k < xs.length
    · obtain ⟨g, o, rfl, hg0, hg, he⟩ := (HR.out.to_ hB).at_ hlt
      have hst := Lib.hid (sumC_take costDecl xs k hlt)
      have htot := sumC_le costDecl xs (k + 1)
      have hm := FX.out _ (List.getElem_mem hlt)
      have hi1 : (k : Int) < (xs.length : Int) := by omega
      have hi0 : (0 : Int) ≤ (k : Int) := by omega
      obtain ⟨h0x, h1x⟩ := he
      obtain ⟨A1, c1, h1y, s1⟩ := h1x
      go_wp2_with fail
      refine (sz_Decl xs[k] A1 c1 _ _ hm s1 hp (by omega)).mono ?_
      rintro e w2 ⟨rfl, hb2⟩
      have hB2 := below_next hB hb2 rfl rfl
      clear h0x h1y
      by_cases hneg : left - xs.length - (sumC costDecl (xs.take k) : Nat) - (costDecl xs[k] : Nat) < 0
      · have hs : szC (costDecl xs[k]) (left - xs.length - (sumC costDecl (xs.take k) : Nat)) = -1 := by unfold szC; rw [if_pos hneg]
        have H := Lib.hid (show szC (costDecls xs) left = -1 by have := hst.out; rw [hct.out]; unfold szC; rw [if_pos (by omega)])
        rw [hs]
        clear hs
        go_wp2_with fail
        go_ret
        exact ⟨ret_int (by rw [H.out]), hB2⟩
      · have hs : szC (costDecl xs[k]) (left - xs.length - (sumC costDecl (xs.take k) : Nat)) = left - xs.length - (sumC costDecl (xs.take (k + 1)) : Nat) := by have := hst.out; unfold szC; rw [if_neg hneg]; omega
        have hp2 : 0 ≤ left - xs.length - (sumC costDecl (xs.take (k + 1)) : Nat) := by have := hst.out; omega
        rw [hs]
        clear hs
        go_wp2_with fail
        go_roundw
        case rel => exact ⟨k + 1, by omega, by go_num, rfl, hp2, hB2⟩
        case measure => simp [intOf]; omega
    · have H := Lib.hid (show szC (costDecls xs) left = left - xs.length - (sumC costDecl (xs.take k) : Nat) by
        rw [List.take_of_length_le (by omega)] at hp ⊢
        rw [hct.out]; unfold szC; rw [if_neg (by omega)]; omega)
      have hi1 : ¬ (k : Int) < (xs.length : Int) := by omega
      go_wp2_with fail
      go_ret
      exact ⟨ret_int (by rw [H.out]), hB⟩

set_option maxHeartbeats 1600000 in
theorem sz_Program {lo : Nat} (x : GProgram) (A0 : Option Addr) (c0 : Nat) (A1 : Option Addr) (c1 : Nat) (left : Int) (w : World) (hf : fitProgram x) (s0 : DeclsAt w lo w.heap.size A0 x.decls) (s1 : RulesAt w lo w.heap.size A1 x.rules) (h0 : 0 ≤ left) (h1 : left ≤ 1048576) :
    Calls Tryz.prog 4 #[.agg #[.slice A0 x.decls.length c0, .slice A1 x.rules.length c1], .int .i64 left] w fun e w' => e = .returned (.int .i64 (szC (costProgram x) left)) ∧ Below w.heap.size w w' := by
  have F := Lib.hid hf
  clear hf
  have hct := Lib.hid (show costProgram x = costDecls x.decls + costRules x.rules from rfl)
  have hB0 : Below w.heap.size w (w.alloc (.cells #[.slice A0 x.decls.length c0, .slice A1 x.rules.length c1] 25)) := (Below.refl _ _).alloc (Nat.le_refl _) _
  have hP := Lib.hid (Whole.new w 25 [.slice A0 x.decls.length c0, .slice A1 x.rules.length c1])
  go_enter Tryz.func4, Tryz.ntmps4
  go_wp2_with fail
  refine (sz_Decls A0 c0 x.decls _ _ F.out.1 (s0.to_ hB0) (by omega) (by omega)).mono ?_
  rintro e w0 ⟨rfl, hb0⟩
  have hB0' := below_next hB0 hb0 rfl rfl
  have P0 := hP.out.below hb0 hP.out.lt
  have p0_0 : w0.cell? ⟨w.heap.size, 0, none⟩ = some (.slice A0 x.decls.length c0) := P0.cell 0
  have p0_1 : w0.cell? ⟨w.heap.size, 1, none⟩ = some (.slice A1 x.rules.length c1) := P0.cell 1
  have hP0 := Lib.hid P0
  clear P0
  by_cases hn0 : left - (costDecls x.decls : Nat) < 0
  · have hs : szC (costDecls x.decls) (left) = -1 := by unfold szC; rw [if_pos hn0]
    have H := Lib.hid (show szC (costProgram x) left = -1 by rw [hct.out]; unfold szC; rw [if_pos (by omega)])
    rw [hs]
    clear hs
    go_wp2_with fail
    go_ret
    exact ⟨ret_int (by rw [H.out]), hB0'⟩
  have hs0 : szC (costDecls x.decls) (left) = left - (costDecls x.decls : Nat) := by unfold szC; rw [if_neg hn0]
  rw [hs0]
  clear hs0
  go_wp2_with fail
  refine (sz_Rules A1 c1 x.rules _ _ F.out.2 (s1.to_ hB0') (by omega) (by omega)).mono ?_
  rintro e w1 ⟨rfl, hb1⟩
  have hB1' := below_next hB0' hb1 rfl rfl
  clear p0_0 p0_1
  by_cases hn1 : left - (costDecls x.decls : Nat) - (costRules x.rules : Nat) < 0
  · have hs : szC (costRules x.rules) (left - (costDecls x.decls : Nat)) = -1 := by unfold szC; rw [if_pos hn1]
    have H := Lib.hid (show szC (costProgram x) left = -1 by rw [hct.out]; unfold szC; rw [if_pos (by omega)])
    rw [hs]
    clear hs
    go_wp2_with fail
    go_ret
    exact ⟨ret_int (by rw [H.out]), hB1'⟩
  have hs1 : szC (costRules x.rules) (left - (costDecls x.decls : Nat)) = left - (costDecls x.decls : Nat) - (costRules x.rules : Nat) := by unfold szC; rw [if_neg hn1]
  rw [hs1]
  clear hs1
  have H := Lib.hid (show szC (costProgram x) left = left - (costDecls x.decls : Nat) - (costRules x.rules : Nat) by rw [hct.out]; unfold szC; rw [if_neg (by omega)] <;> omega)
  go_wp2_with fail
  go_ret
  exact ⟨ret_int (by rw [H.out]), hB1'⟩

end Go.Proofs.YtbfcolmglbeefaaGreat
