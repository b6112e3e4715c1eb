/-
  impl.declsAscend.
-/
import Derived.Test.YtbfcolmglbeefaaGreatAllDecl
import Derived.Deep.QuietTactic
import Derived.BigQuiet
import Derived.Lib.QuietBelow
import Derived.Lib.Strings
import Derived.Laws.Cover1
namespace Go.Proofs.YtbfcolmglbeefaaGreat
open Go.RowKit Go.Sort
set_option linter.unusedVariables false

def lessD (x y : GDecl) : Bool := Op.bytesLess x.name.toList y.name.toList
def ascTo (xs : List GDecl) : Nat → Bool
  | 0 => true
  | k + 1 => ascTo xs k && (match xs[k]?, xs[k + 1]? with
    | some a, some b => lessD a b
    | _, _ => true)
def ascB (xs : List GDecl) : Bool := ascTo xs (xs.length - 1)
theorem ascTo_next (xs : List GDecl) (k : Nat) (h0 : k < xs.length) (h : k + 1 < xs.length) : ascTo xs (k + 1) = (ascTo xs k && lessD xs[k] xs[k + 1]) := by
  rw [ascTo, List.getElem?_eq_getElem h0, List.getElem?_eq_getElem h]
theorem ascTo_false (xs : List GDecl) (k : Nat) (h : ascTo xs k = false) : ∀ m, k ≤ m → ascTo xs m = false := by
  intro m hm
  induction m with
  | zero => have : k = 0 := by omega
            subst this; exact h
  | succ m ih =>
    rcases Nat.lt_or_ge m k with h' | h'
    · have : k = m + 1 := by omega
      subst this; exact h
    · rw [ascTo, ih h']; rfl
set_option maxRecDepth 100000 in
set_option maxHeartbeats 1600000 in
theorem ok_ascend {lo : Nat} (A : Option Addr) (c : Nat) (xs : List GDecl) (w : World) (hl : xs.length ≤ 1048576) (hr : DeclsAt w lo w.heap.size A xs) :
    Calls Tryz.prog 17 #[.slice A xs.length c] w fun e w' => e = .returned (.bool (ascB xs)) ∧ Below w.heap.size w w' := by
  go_enter Tryz.func17, Tryz.ntmps17
  go_wp2_with fail
  go_loopw [3] (fun i w' => ∃ k : Nat, (k = 0 ∨ k < xs.length) ∧ i = .int .i64 (k + 1 : Nat) ∧ Hid (ascTo xs k = true) ∧ Below w.heap.size w w') (fun i _ => xs.length - (intOf i).toNat)
  case atStart => exact ⟨0, .inl rfl, rfl, Lib.hid rfl, Below.refl _ _⟩
  case round =>
    obtain ⟨k, hk, rfl, hT, hB⟩ := hrel
    by_cases hlt : k + 1 < xs.length
    · have hlt0 : k < xs.length := by omega
      obtain ⟨g, o, rfl, hg0, hg, c0, _⟩ := (hr.to_ hB).at_ hlt0
      obtain ⟨g', o', he', hg0', hg', d0, _⟩ := (hr.to_ hB).at_ hlt
      cases he'
      have hi0 : (0 : Int) ≤ (k : Int) := by omega
      have hi1 : (k : Int) < (xs.length : Int) := by omega
      have hi2 : ((k + 1 : Nat) : Int) < (xs.length : Int) := by omega
      have hi3 : (k : Int) + 1 < (xs.length : Int) := by omega
      have hi4 : (0 : Int) ≤ (k : Int) + 1 := by omega
      have e1 : IntKind.i64.wrap ((k : Int) + 1 - 1) = (k : Int) := by rw [IntKind.wrap_i64]; omega
      have e2 : ((k : Int) + 1).toNat = k + 1 := by omega
      have q0 := cell_regrown c0
      have q1 := cell_regrown d0
      have HN := Lib.hid (ascTo_next xs k hlt0 hlt)
      go_wp2_with fail
      refine wp_region_quiet_below (by kernel_rfl) (by kernel_rfl) ?_
      repeat (go_big_quiet_step (fail))
      refine wpQuiet_nil ?_
      intro _ hw'
      obtain ⟨⟨dq, osq⟩, hw''⟩ := hw'
      subst hw''
      have hB2 := below_next hB (below_regrown wr dq osq) rfl rfl
      generalize grow (redrawn wr dq) osq = wx at *
      clear q0 q1 c0 d0
      have HL : Hid (∀ b, Op.bytesLess xs[k].name.toList xs[k + 1].name.toList = b → ascTo xs (k + 1) = b) := Lib.hid (fun b hb => by rw [HN.out, hT.out, lessD, hb]; rfl)
      clear HN
      generalize Op.bytesLess xs[k].name.toList xs[k + 1].name.toList = b at *
      cases b with
      | true =>
        have HT := Lib.hid (HL.out true rfl)
        clear HL
        go_wp2_with fail
        go_roundw
        case rel => exact ⟨k + 1, .inr hlt, by go_num, HT, hB2⟩
        case measure => simp [intOf]; omega
      | false =>
        have HT := Lib.hid (show ascB xs = false from ascTo_false xs (k + 1) (HL.out false rfl) _ (by omega))
        clear HL
        go_wp2_with fail
        go_ret
        exact ⟨ret_bool (by rw [HT.out]), hB2⟩
    · have hi3 : ¬ (k : Int) + 1 < (xs.length : Int) := by omega
      have HT := Lib.hid (show ascB xs = true by
        unfold ascB
        have h := hT.out
        rwa [show xs.length - 1 = k by omega])
      go_wp2_with fail
      go_ret
      exact ⟨ret_bool (by rw [HT.out]), hB⟩
end Go.Proofs.YtbfcolmglbeefaaGreat
