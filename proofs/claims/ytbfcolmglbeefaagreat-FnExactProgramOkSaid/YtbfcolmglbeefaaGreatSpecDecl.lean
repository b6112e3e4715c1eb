/-
  spec.l2DeclOk.
-/
import Derived.Test.YtbfcolmglbeefaaGreatDeclOk
namespace Go.Proofs.YtbfcolmglbeefaaGreat
open Go.RowKit Go.Sort
set_option linter.unusedVariables false

set_option maxRecDepth 100000 in
set_option maxHeartbeats 1600000 in
theorem sp_decl {lo : Nat} (x : GDecl) (A1 : Option Addr) (c1 : Nat) (w : World) (hf : fitDecl x) (hk : costDecl x ≤ 1048576) (s1 : StrsAt w lo w.heap.size A1 x.types) :
    Calls Tryz.prog 11 #[.agg #[.string x.name, .slice A1 x.types.length c1]] w fun e w' => e = .returned (.bool (declB x)) ∧ Below w.heap.size w w' := by
  have hB0 : Below w.heap.size w (w.alloc (.cells #[.string x.name, .slice A1 x.types.length c1] 40)) := (Below.refl _ _).alloc (Nat.le_refl _) _
  have hP := Lib.hid (Whole.new w 40 [.string x.name, .slice A1 x.types.length c1])
  obtain ⟨f0, f1⟩ := hf
  have hkt : costStrs x.types ≤ 1048576 := by unfold costDecl at hk; omega
  have hla : x.types.length ≤ 1048576 := by unfold costStrs at hkt; omega
  clear hk
  obtain ⟨b, hb⟩ : ∃ b, wordB x.name = b := ⟨_, rfl⟩
  have HB := Lib.hid hb
  clear hb
  have hWO : Calls Tryz.prog 24 #[.string x.name] (w.alloc (.cells #[.string x.name, .slice A1 x.types.length c1] 40)) fun e w' => e = .returned (.bool b) ∧ (w.alloc (.cells #[.string x.name, .slice A1 x.types.length c1] 40)) = w' := spec_word_is b _ _ f0 HB.out
  have HWO := Lib.hid hWO
  clear hWO
  cases b with
  | false =>
    have H := Lib.hid (show declB x = false by unfold declB; rw [HB.out]; rfl)
    go_enter Tryz.func11, Tryz.ntmps11
    go_wp2_with fail
    refine HWO.out.mono ?_
    rintro e w1 ⟨rfl, rfl⟩
    go_wp2_with fail
    go_ret
    exact ⟨ret_bool (by rw [H.out]), hB0⟩
  | true =>
    by_cases h8 : (8 : Int) < (x.types.length : Int)
    · have H := Lib.hid (show declB x = false by unfold declB; rw [decide_eq_false (show ¬ x.types.length ≤ 8 by omega)]; simp)
      go_enter Tryz.func11, Tryz.ntmps11
      go_wp2_with fail
      refine HWO.out.mono ?_
      rintro e w1 ⟨rfl, rfl⟩
      go_wp2_with fail
      go_ret
      exact ⟨ret_bool (by rw [H.out]), hB0⟩
    · have hN := Lib.hid (show declB x = x.types.all typeB by unfold declB; rw [HB.out, decide_eq_true (show x.types.length ≤ 8 by omega)]; rfl)
      have h8d : decide ((8 : Int) < (x.types.length : Int)) = false := by simpa using h8
      have HS1 := Lib.hid s1
      have HK := Lib.hid hkt
      clear s1 f1 hkt
      go_enter Tryz.func11, Tryz.ntmps11
      go_wp2_with fail
      refine HWO.out.mono ?_
      rintro e w1 ⟨rfl, rfl⟩
      go_wp2_with fail
      go_loopw [3] (fun i w' => ∃ k : Nat, k ≤ x.types.length ∧ i = .int .i64 k ∧ Hid ((x.types.take k).all typeB = true) ∧ Hid (Whole w' w.heap.size 40 [.string x.name, .slice A1 x.types.length c1]) ∧ Below w.heap.size w w') (fun i _ => x.types.length - (intOf i).toNat)
      case atStart => exact ⟨0, Nat.zero_le _, rfl, Lib.hid rfl, hP, hB0⟩
      case round =>
        obtain ⟨k, hk, rfl, hal, hPr, hBr⟩ := hrel
        have p1 : wr.cell? ⟨w.heap.size, 1, none⟩ = some (.slice A1 x.types.length c1) := hPr.out.cell 1
        by_cases hlt : k < x.types.length
        · obtain ⟨g, o, rfl, hg0, hg, he⟩ := (HS1.out.to_ hBr).at_ hlt
          have h0 : wr.cell? ⟨g, o + k, none⟩ = some (.string x.types[k]) := he
          clear he
          have hi0 : (0 : Int) ≤ (k : Int) := by omega
          have hi1 : (k : Int) < (x.types.length : Int) := by omega
          have hsn := Lib.hid (all_Str_snoc x.types k hlt)
          have hbd := Lib.hid (all_Str_bad x.types k hlt)
          by_cases t1 : x.types[k].toList = [105, 110, 116]
          · have t1n := Lib.hid (show (x.types[k].toList == [105, 110, 116]) = true from beq_iff_eq.2 t1)
            have HX := Lib.hid (show (x.types.take (k + 1)).all typeB = true by rw [hsn.out, hal.out, typeB, isT, t1n.out]; rfl)
            go_wp2_with fail
            go_roundw
            case rel => exact ⟨k + 1, by omega, by go_num, HX, hPr, hBr⟩
            case measure => simp [intOf]; omega
          · skip
            have t1n := Lib.hid (show (x.types[k].toList == [105, 110, 116]) = false from beq_eq_false_iff_ne.2 t1)
            by_cases t2 : x.types[k].toList = [116, 101, 120, 116]
            · have t2n := Lib.hid (show (x.types[k].toList == [116, 101, 120, 116]) = true from beq_iff_eq.2 t2)
              have HX := Lib.hid (show (x.types.take (k + 1)).all typeB = true by rw [hsn.out, hal.out, typeB, isT, isT, isT, t2n.out]; simp)
              go_wp2_with fail
              go_roundw
              case rel => exact ⟨k + 1, by omega, by go_num, HX, hPr, hBr⟩
              case measure => simp [intOf]; omega
            · skip
              have t2n := Lib.hid (show (x.types[k].toList == [116, 101, 120, 116]) = false from beq_eq_false_iff_ne.2 t2)
              by_cases t3 : x.types[k].toList = [97, 110, 121]
              · have t3n := Lib.hid (show (x.types[k].toList == [97, 110, 121]) = true from beq_iff_eq.2 t3)
                have HX := Lib.hid (show (x.types.take (k + 1)).all typeB = true by rw [hsn.out, hal.out, typeB, isT, isT, isT, t3n.out]; simp)
                go_wp2_with fail
                go_roundw
                case rel => exact ⟨k + 1, by omega, by go_num, HX, hPr, hBr⟩
                case measure => simp [intOf]; omega
              · skip
                have t3n := Lib.hid (show (x.types[k].toList == [97, 110, 121]) = false from beq_eq_false_iff_ne.2 t3)
                have HX := Lib.hid (show declB x = false by rw [hN.out]; exact hbd.out (by rw [typeB, isT, isT, isT, t1n.out, t2n.out, t3n.out]; rfl))
                have t1p := t1n.out
                have t2p := t2n.out
                have t3p := t3n.out
                clear t1 t2 t3
                go_wp2_with fail
                go_ret
                exact ⟨ret_bool (by rw [HX.out]), hBr⟩
        · have hi1 : ¬ (k : Int) < (x.types.length : Int) := by omega
          have HX := Lib.hid (show declB x = true by have h := hal.out; rw [hN.out]; rwa [List.take_of_length_le (by omega)] at h)
          go_wp2_with fail
          go_ret
          exact ⟨ret_bool (by rw [HX.out]), hBr⟩
theorem sp_decl_is {lo : Nat} (b : Bool) (x : GDecl) (A1 : Option Addr) (c1 : Nat) (w : World) (h : declB x = b) (hf : fitDecl x) (hk : costDecl x ≤ 1048576) (s1 : StrsAt w lo w.heap.size A1 x.types) :
    Calls Tryz.prog 11 #[.agg #[.string x.name, .slice A1 x.types.length c1]] w fun e w' => e = .returned (.bool b) ∧ Below w.heap.size w w' := by subst h; exact sp_decl x A1 c1 w hf hk s1
end Go.Proofs.YtbfcolmglbeefaaGreat
