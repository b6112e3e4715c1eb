/-
  impl.declOk, impl.declsAscend; spec.l2DeclOk.
-/
import Derived.Test.YtbfcolmglbeefaaGreatAllStr
import Derived.Test.YtbfcolmglbeefaaGreatTyProg
namespace Go.Proofs.YtbfcolmglbeefaaGreat
open Go.RowKit Go.Sort
set_option linter.unusedVariables false

def declB (x : GDecl) : Bool := wordB x.name && decide (x.types.length ≤ 8) && x.types.all typeB
theorem impl_word_is (b : Bool) (s : ByteArray) (w : World) (hs : s.size ≤ maxLen) (h : wordB s = b) :
    Calls Tryz.prog 32 #[.string s] w fun e w' => e = .returned (.bool b) ∧ w = w' := by subst h; exact impl_word s w hs
theorem spec_word_is (b : Bool) (s : ByteArray) (w : World) (hs : s.size ≤ maxLen) (h : wordB s = b) :
    Calls Tryz.prog 24 #[.string s] w fun e w' => e = .returned (.bool b) ∧ w = w' := by subst h; exact spec_word s w hs
set_option maxHeartbeats 1600000 in
theorem ok_decl {lo : Nat} (x : GDecl) (A1 : Option Addr) (c1 : Nat) (w : World) (hf : fitDecl x) (hk : costDecl x ≤ 1048576) (s1 : StrsAt w lo w.heap.size A1 x.types) :
    Calls Tryz.prog 16 #[.agg #[.string x.name, .slice A1 x.types.length c1]] w fun e w' => e = .returned (.bool (declB x)) ∧ Below w.heap.size w w' := by
  have hB0 : Below w.heap.size w (w.alloc (.cells #[.string x.name, .slice A1 x.types.length c1] 40)) := (Below.refl _ _).alloc (Nat.le_refl _) _
  obtain ⟨f0, f1⟩ := hf
  have hkt : costStrs x.types ≤ 1048576 := by unfold costDecl at hk; omega
  obtain ⟨b, hb⟩ : ∃ b, wordB x.name = b := ⟨_, rfl⟩
  have HB := Lib.hid hb
  clear hb
  go_enter Tryz.func16, Tryz.ntmps16
  go_wp2_with fail
  refine (impl_word_is b _ _ f0 HB.out).mono ?_
  rintro e w1 ⟨rfl, rfl⟩
  cases b with
  | false =>
    have H := Lib.hid (show declB x = false by unfold declB; rw [HB.out]; rfl)
    go_wp2_with fail
    go_ret
    exact ⟨ret_bool (by rw [H.out]), hB0⟩
  | true =>
    by_cases h8 : (x.types.length : Int) ≤ 8
    · have H := Lib.hid (show declB x = x.types.all typeB by unfold declB; rw [HB.out, decide_eq_true (show x.types.length ≤ 8 by omega)]; rfl)
      go_wp2_with fail
      refine (all_Str A1 c1 x.types _ f1 hkt (s1.to_ hB0)).mono ?_
      rintro e w2 ⟨rfl, hb2⟩
      have hB2 := below_next hB0 hb2 rfl rfl
      go_wp2_with fail
      go_ret
      exact ⟨ret_bool (by rw [H.out]), hB2⟩
    · have h8d : decide ((x.types.length : Int) ≤ 8) = false := by simpa using h8
      have h8n : decide (x.types.length ≤ 8) = false := by simp; omega
      have H := Lib.hid (show declB x = false by unfold declB; rw [h8n]; simp)
      clear h8n
      go_wp2_with fail
      go_ret
      exact ⟨ret_bool (by rw [H.out]), hB0⟩
end Go.Proofs.YtbfcolmglbeefaaGreat
