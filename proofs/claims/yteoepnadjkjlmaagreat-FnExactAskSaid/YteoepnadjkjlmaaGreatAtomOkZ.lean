/-
  The rows of a relation; spec.l5Rows, impl.rowsOf. impl.all over expressions. Words, by their answer. impl.atomOk.
-/
import Derived.Test.YteoepnadjkjlmaaGreatDbOkMZ
import Derived.Test.YteoepnadjkjlmaaGreatExprOkZ
import Derived.Test.YteoepnadjkjlmaaGreatValueOkZ
import Derived.Test.YteoepnadjkjlmaaGreatSzAtomZ
namespace Go.Proofs.YteoepnadjkjlmaaGreat
open Go.RowKit Go.Sort
set_option linter.unusedVariables false

/-- The place of a relation: the first one of this name; the length if there is none. -/
def findR (xs : List GRel) (s : ByteArray) : Nat := xs.findIdx (fun x => x.name.toList == s.toList)
def rowsR (xs : List GRel) (s : ByteArray) : List (List GV) := match xs[findR xs s]? with
  | some x => x.rows
  | none => []
def rowsOfB (xs : List GRel) (s : ByteArray) : List (List GV) := if dbOkB xs = true then rowsR xs s else []
theorem findR_at (xs : List GRel) (s : ByteArray) (k : Nat) (h : k < xs.length) (hk : k ≤ findR xs s) (hb : (xs[k].name.toList == s.toList) = true) : findR xs s = k := by
  unfold findR at hk ⊢
  rcases Nat.lt_or_ge k (xs.findIdx (fun x => x.name.toList == s.toList)) with h' | h'
  · have := List.not_of_lt_findIdx h'
    simp only [hb] at this
    cases this
  · omega
theorem findR_next (xs : List GRel) (s : ByteArray) (k : Nat) (h : k < xs.length) (hk : k ≤ findR xs s) (hb : (xs[k].name.toList == s.toList) = false) : k + 1 ≤ findR xs s := by
  rcases Nat.lt_or_ge k (findR xs s) with h' | h'
  · exact h'
  · have e : findR xs s = k := by omega
    have h2 : xs.findIdx (fun x => x.name.toList == s.toList) < xs.length := by unfold findR at e; omega
    have := List.findIdx_getElem (w := h2)
    unfold findR at e
    simp only [e] at this
    rw [hb] at this
    cases this
theorem rowsR_hit (xs : List GRel) (s : ByteArray) (k : Nat) (h : k < xs.length) (he : findR xs s = k) : rowsR xs s = xs[k].rows := by
  unfold rowsR; rw [he, List.getElem?_eq_getElem h]
theorem rowsR_none (xs : List GRel) (s : ByteArray) (h : xs.length ≤ findR xs s) : rowsR xs s = [] := by
  unfold rowsR; rw [List.getElem?_eq_none h]
theorem rowsR_fit {xs : List GRel} (h : ∀ x ∈ xs, RelFit x) (s : ByteArray) : (rowsR xs s).length ≤ 1048576 ∧ ∀ r ∈ rowsR xs s, r.length ≤ 1048576 ∧ ∀ v ∈ r, v.t.size ≤ 1048576 := by
  unfold rowsR
  split
  · rename_i x hx
    exact h x (List.mem_of_getElem? hx)
  · exact ⟨by simp, by simp⟩
/-- What a look for rows answers: the very rows in memory, or nothing. -/
def RowsAns (w : World) (xs : List GRel) (s : ByteArray) (e : Ending) (w' : World) : Prop := ∃ A c, e = .returned (.slice A (rowsR xs s).length c) ∧ CapOk (rowsR xs s).length c ∧ TabC w' w'.heap.size A (rowsR xs s) ∧ Below w.heap.size w w'

set_option maxRecDepth 100000 in
set_option maxHeartbeats 1600000 in
theorem spec_relRows {lo : Nat} (A : Option Addr) (c : Nat) (xs : List GRel) (s : ByteArray) (w : World) (hl : xs.length ≤ 1048576) (hr : RelsAt w lo w.heap.size A xs) :
    Calls Tryz.prog 21 #[.slice A xs.length c, .string s] w (RowsAns w xs s) := by
  have HR := Lib.hid hr
  clear hr
  go_enter Tryz.func21, Tryz.ntmps21
  go_wp2_with fail
  go_loopw [5] (fun i w' => ∃ k : Nat, k ≤ xs.length ∧ i = .int .i64 k ∧ Hid (k ≤ findR xs s) ∧ Below w.heap.size w w') (fun i _ => xs.length - (intOf i).toNat)
  case atStart => exact ⟨0, Nat.zero_le _, rfl, Lib.hid (Nat.zero_le _), Below.refl _ _⟩
  case round =>
    obtain ⟨k, hk, rfl, hT, hB⟩ := hrel
    by_cases hlt : k < xs.length
    · obtain ⟨g, o, rfl, hg0, hg, c0, A', c', ⟨c1, hcap⟩, s1⟩ := (HR.out.to_ hB).at_ hlt
      have hi2 : (0 : Int) ≤ (k : Int) := by omega
      have hi3 : (k : Int) < (xs.length : Int) := by omega
      obtain ⟨b, hb⟩ : ∃ b, (xs[k].name.toList == s.toList) = b := ⟨_, rfl⟩
      have HAT := Lib.hid (findR_at xs s k hlt hT.out)
      have HNX := Lib.hid (findR_next xs s k hlt hT.out)
      cases b with
      | true =>
        have hE := Lib.hid (rowsR_hit xs s k hlt (HAT.out hb))
        have hP : Hid (RowsAns w xs s (.returned (.slice A' xs[k].rows.length c')) wr) := Lib.hid ⟨A', c', by rw [hE.out], by rw [hE.out]; exact hcap, by rw [hE.out]; exact s1.tabC, hB⟩
        clear s1
        go_wp2_with fail
        go_ret
        exact hP.out
      | false =>
        have hT2 := Lib.hid (HNX.out hb)
        clear s1
        go_wp2_with fail
        go_roundw
        case rel => exact ⟨k + 1, by omega, by go_num, hT2, hB⟩
        case measure => simp [intOf]; omega
    · have hi3 : ¬ (k : Int) < (xs.length : Int) := by omega
      have hE := Lib.hid (rowsR_none xs s (by have := hT.out; omega))
      go_wp2_with fail
      go_ret
      exact ⟨_, _, by rw [hE.out]; rfl, by rw [hE.out]; exact ⟨Nat.le_refl _, Nat.zero_le _⟩, by rw [hE.out]; exact .inl rfl, hB.alloc hB.size _⟩
end Go.Proofs.YteoepnadjkjlmaaGreat
namespace Go.Proofs.YteoepnadjkjlmaaGreat
open Go.RowKit Go.Sort
set_option linter.unusedVariables false

theorem ok_exprA {lo : Nat} (x : List GNode) (A0 : Option Addr) (c0 : Nat) (w : World) (hf : fitNodeS x) (hk : costNodeS x ≤ 1048576) (q0 : CapOk x.length c0) (s0 : NodesAt w lo w.heap.size A0 x) : Calls Tryz.prog 75 #[.slice A0 x.length c0] w fun e w' => e = .returned (.bool (exprB x)) ∧ Below w.heap.size w w' :=
  ok_expr A0 c0 x w (by unfold costNodeS costNodes at hk; omega) q0.1 q0.2 hf s0
set_option maxHeartbeats 800000 in
theorem all_NodeS_clo {lo : Nat} (x : List GNode) (A0 : Option Addr) (c0 : Nat) (b : Bool) (g : Nat) (w : World) (hb : exprB x = b) (hf : fitNodeS x) (hk : costNodeS x ≤ 1048576) (q0 : CapOk x.length c0) (s0 : NodesAt w lo w.heap.size A0 x) (hg : w.cell? ⟨g, 0, none⟩ = some (.func (.func 75) #[] #[])) :
    Calls Tryz.prog 77 #[.slice A0 x.length c0, .pointer (some ⟨g, 0, none⟩)] w fun e w' => e = .returned (.bool (!b)) ∧ Below w.heap.size w w' := by
  have hgl : g < w.heap.size := World.block_lt_of_cell? w ⟨g, 0, none⟩ hg
  have hB0 : Below w.heap.size w w := Below.refl _ _
  go_enter Tryz.func77, Tryz.ntmps77
  go_wp2_with fail
  refine (ok_exprA x A0 c0 _ hf hk q0 (s0.to_ hB0)).mono ?_
  rintro e w1 ⟨rfl, hb1⟩
  have hB1 := below_next hB0 hb1 rfl rfl
  rw [hb]
  go_wp2_with fail
  go_ret
  exact ⟨rfl, hB1⟩
theorem all_NodeS_snoc (xs : List (List GNode)) (k : Nat) (h : k < xs.length) : (xs.take (k + 1)).all exprB = ((xs.take k).all exprB && exprB xs[k]) := by
  rw [List.take_succ_eq_append_getElem h, List.all_append]; simp
theorem all_NodeS_bad (xs : List (List GNode)) (k : Nat) (h : k < xs.length) (hb : exprB xs[k] = false) : xs.all exprB = false := by
  rw [List.all_eq_false]; exact ⟨xs[k], List.getElem_mem h, by simp [hb]⟩
set_option maxHeartbeats 1600000 in
theorem all_NodeS_index {lo : Nat} (A : Option Addr) (c g : Nat) (xs : List (List GNode)) (w : World) (hf : fitNodeSs xs) (hk : costNodeSs xs ≤ 1048576) (hr : NodeSsAt w lo w.heap.size A xs) (hg : w.cell? ⟨g, 0, none⟩ = some (.func (.func 75) #[] #[])) :
    Calls Tryz.prog 57 #[.slice A xs.length c, .func (.func 77) #[] #[.pointer (some ⟨g, 0, none⟩)]] w fun e w' => ∃ z : Int, e = .returned (.int .i64 z) ∧ decide (0 ≤ z) = (!xs.all exprB) ∧ Below w.heap.size w w' := by
  have hl : xs.length ≤ 1048576 := by unfold costNodeSs at hk; omega
  have FX := Lib.hid hf.2
  have HK := Lib.hid hk
  have HR := Lib.hid hr
  have HG := Lib.hid hg
  have hgl : g < w.heap.size := World.block_lt_of_cell? w ⟨g, 0, none⟩ hg
  clear hf hk hr hg
  go_enter Tryz.func57, Tryz.ntmps57
  go_wp2_with fail
  go_loopw [8] (fun i w' => ∃ k : Nat, k ≤ xs.length ∧ i = .int .i64 k ∧ Hid ((xs.take k).all exprB = true) ∧ Below w.heap.size w w') (fun i _ => xs.length - (intOf i).toNat)
  case atStart => exact ⟨0, Nat.zero_le _, rfl, Lib.hid rfl, Below.refl _ _⟩
  case round =>
    obtain ⟨k, hk, rfl, hal, hB⟩ := hrel
    by_cases hlt : k < xs.length
    · obtain ⟨g1, o1, rfl, hg0, hg1, he⟩ := (HR.out.to_ hB).at_ hlt
      have hi0 : (0 : Int) ≤ (k : Int) := by omega
      have hi1 : (k : Int) < (xs.length : Int) := by omega
      have hm := FX.out _ (List.getElem_mem hlt)
      have hck : costNodeS xs[k] ≤ 1048576 := by have h1 := HK.out; have h2 := sumC_mem costNodeS xs _ (List.getElem_mem hlt); unfold costNodeSs at h1; omega
      have hgc : wr.cell? ⟨g, 0, none⟩ = some (.func (.func 75) #[] #[]) := (hB.cell (p := ⟨g, 0, none⟩) hgl).trans HG.out
      have hsn := Lib.hid (all_NodeS_snoc xs k hlt)
      obtain ⟨A0, c0, ⟨h0y, q0⟩, s0⟩ := he
      obtain ⟨b, hbx⟩ : ∃ b, exprB xs[k] = b := ⟨_, rfl⟩
      have HB := Lib.hid hbx
      clear hbx
      go_wp2_with fail
      refine (all_NodeS_clo xs[k] A0 c0 b g _ HB.out hm hck q0 s0 hgc).mono ?_
      rintro e w2 ⟨rfl, hb2⟩
      have hB2 := below_next hB hb2 rfl rfl
      clear h0y hgc
      cases b with
      | true =>
        have HX := Lib.hid (show (xs.take (k + 1)).all exprB = true by rw [hsn.out, hal.out, HB.out]; rfl)
        go_wp2_with fail
        go_roundw
        case rel => exact ⟨k + 1, by omega, by go_num, HX, hB2⟩
        case measure => simp [intOf]; omega
      | false =>
        have HX := Lib.hid (all_NodeS_bad xs k hlt HB.out)
        go_wp2_with fail
        go_ret
        exact ⟨k, rfl, by rw [HX.out]; simp, hB2⟩
    · have hi1 : ¬ (k : Int) < (xs.length : Int) := by omega
      have HX := Lib.hid (show xs.all exprB = true by have h := hal.out; rwa [List.take_of_length_le (by omega)] at h)
      go_wp2_with fail
      go_ret
      exact ⟨-1, rfl, by rw [HX.out]; rfl, hB⟩
theorem all_NodeS_contains {lo : Nat} (A : Option Addr) (c g : Nat) (xs : List (List GNode)) (w : World) (hf : fitNodeSs xs) (hk : costNodeSs xs ≤ 1048576) (hr : NodeSsAt w lo w.heap.size A xs) (hg : w.cell? ⟨g, 0, none⟩ = some (.func (.func 75) #[] #[])) :
    Calls Tryz.prog 76 #[.slice A xs.length c, .func (.func 77) #[] #[.pointer (some ⟨g, 0, none⟩)]] w fun e w' => e = .returned (.bool (!xs.all exprB)) ∧ Below w.heap.size w w' := by
  go_enter Tryz.func76, Tryz.ntmps76
  go_wp2_with fail
  refine (all_NodeS_index A c g xs _ hf hk hr hg).mono ?_
  rintro e w1 ⟨z, rfl, hz, hb1⟩
  have HZ := Lib.hid hz
  clear hz
  go_wp2_with fail
  go_ret
  exact ⟨ret_bool HZ.out, hb1⟩
theorem all_NodeS {lo : Nat} (A : Option Addr) (c : Nat) (xs : List (List GNode)) (w : World) (hf : fitNodeSs xs) (hk : costNodeSs xs ≤ 1048576) (hr : NodeSsAt w lo w.heap.size A xs) :
    Calls Tryz.prog 53 #[.slice A xs.length c, .func (.func 75) #[] #[]] w fun e w' => e = .returned (.bool (xs.all exprB)) ∧ Below w.heap.size w w' := by
  have hB0 : Below w.heap.size w (w.alloc (.cells #[.func (.func 75) #[] #[]] 77)) := (Below.refl _ _).alloc (Nat.le_refl _) _
  go_enter Tryz.func53, Tryz.ntmps53
  go_wp2_with fail
  refine (all_NodeS_contains A c w.heap.size xs _ hf hk (hr.to_ hB0) (by go_simp)).mono ?_
  rintro e w1 ⟨rfl, hb1⟩
  have hB1 := below_next hB0 hb1 rfl rfl
  obtain ⟨b, hbx⟩ : ∃ b, xs.all exprB = b := ⟨_, rfl⟩
  have HBX := Lib.hid hbx
  rw [hbx]
  clear hbx
  go_wp2_with fail
  go_ret
  exact ⟨ret_bool (by rw [HBX.out]), hB1⟩

end Go.Proofs.YteoepnadjkjlmaaGreat
namespace Go.Proofs.YteoepnadjkjlmaaGreat
open Go.RowKit Go.Sort
set_option linter.unusedVariables false

theorem impl_word_is (b : Bool) (s : ByteArray) (w : World) (hs : s.size ≤ maxLen) (h : wordB s = b) :
    Calls Tryz.prog 50 #[.string s] w fun e w' => e = .returned (.bool b) ∧ w = w' := by subst h; exact impl_word s w hs
theorem spec_word_is (b : Bool) (s : ByteArray) (w : World) (hs : s.size ≤ maxLen) (h : wordB s = b) :
    Calls Tryz.prog 42 #[.string s] w fun e w' => e = .returned (.bool b) ∧ w = w' := by subst h; exact spec_word s w hs
end Go.Proofs.YteoepnadjkjlmaaGreat
namespace Go.Proofs.YteoepnadjkjlmaaGreat
open Go.RowKit Go.Sort
set_option linter.unusedVariables false

def atomB (x : GAtom) : Bool := wordB x.name && decide (x.args.length ≤ 8) && x.args.all exprB
set_option maxHeartbeats 1600000 in
theorem ok_atom {lo : Nat} (x : GAtom) (A1 : Option Addr) (c1 : Nat) (w : World) (hf : fitAtom x) (hk : costAtom x ≤ 1048576) (s1 : NodeSsAt w lo w.heap.size A1 x.args) :
    Calls Tryz.prog 52 #[.agg #[.string x.name, .slice A1 x.args.length c1]] w fun e w' => e = .returned (.bool (atomB x)) ∧ Below w.heap.size w w' := by
  have hB0 : Below w.heap.size w (w.alloc (.cells #[.string x.name, .slice A1 x.args.length c1] 34)) := (Below.refl _ _).alloc (Nat.le_refl _) _
  obtain ⟨f0, f1⟩ := hf
  have hkt : costNodeSs x.args ≤ 1048576 := by unfold costAtom at hk; omega
  obtain ⟨b, hb⟩ : ∃ b, wordB x.name = b := ⟨_, rfl⟩
  have HB := Lib.hid hb
  clear hb
  go_enter Tryz.func52, Tryz.ntmps52
  go_wp2_with fail
  refine (impl_word_is b _ _ f0 HB.out).mono ?_
  rintro e w1 ⟨rfl, rfl⟩
  cases b with
  | false =>
    have H := Lib.hid (show atomB x = false by unfold atomB; rw [HB.out]; rfl)
    go_wp2_with fail
    go_ret
    exact ⟨ret_bool (by rw [H.out]), hB0⟩
  | true =>
    by_cases h8 : (x.args.length : Int) ≤ 8
    · have H := Lib.hid (show atomB x = x.args.all exprB by unfold atomB; rw [HB.out, decide_eq_true (show x.args.length ≤ 8 by omega)]; rfl)
      go_wp2_with fail
      refine (all_NodeS A1 c1 x.args _ f1 hkt (s1.to_ hB0)).mono ?_
      rintro e w2 ⟨rfl, hb2⟩
      have hB2 := below_next hB0 hb2 rfl rfl
      go_wp2_with fail
      go_ret
      exact ⟨ret_bool (by rw [H.out]), hB2⟩
    · have h8d : decide ((x.args.length : Int) ≤ 8) = false := by simpa using h8
      have h8n : decide (x.args.length ≤ 8) = false := by simp; omega
      have H := Lib.hid (show atomB x = false by unfold atomB; rw [h8n]; simp)
      clear h8n
      go_wp2_with fail
      go_ret
      exact ⟨ret_bool (by rw [H.out]), hB0⟩
end Go.Proofs.YteoepnadjkjlmaaGreat
