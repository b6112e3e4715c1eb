/-
  spec.l2Vars, spec.l2AtomVars.
-/
import Derived.Test.YtmbdccbgcobflaaAdd
import Derived.Test.YtmbdccbgcobflaaTyRule
namespace Go.Proofs.Ytmbdccbgcobflaa
open Go.RowKit Go.Sort
set_option linter.unusedVariables false

def varN (x : GNode) : List ByteArray := if x.k = 1 then [x.name] else []
def varsL (es : List GNode) : List ByteArray := es.flatMap varN
def varsA (args : List (List GNode)) : List ByteArray := args.flatMap varsL
def addAll (l ns : List ByteArray) : List ByteArray := ns.foldl insM l
theorem addAll_append (l a b : List ByteArray) : addAll l (a ++ b) = addAll (addAll l a) b := by simp [addAll]
theorem varsL_snoc (es : List GNode) (k : Nat) (h : k < es.length) : varsL (es.take (k + 1)) = varsL (es.take k) ++ varN es[k] := by
  unfold varsL; rw [List.take_succ_eq_append_getElem h, List.flatMap_append]; simp
theorem varsA_snoc (es : List (List GNode)) (k : Nat) (h : k < es.length) : varsA (es.take (k + 1)) = varsA (es.take k) ++ varsL es[k] := by
  unfold varsA; rw [List.take_succ_eq_append_getElem h, List.flatMap_append]; simp
theorem insM_length (l : List ByteArray) (s : ByteArray) : (insM l s).length ≤ l.length + 1 := by
  unfold insM
  split
  · omega
  · have := posM_le s l; simp; omega
theorem addAll_length (ns : List ByteArray) : ∀ l, (addAll l ns).length ≤ l.length + ns.length := by
  induction ns with
  | nil => intro l; simp [addAll]
  | cons x r ih =>
    intro l
    have h1 := ih (insM l x)
    have h2 := insM_length l x
    have h3 : addAll l (x :: r) = addAll (insM l x) r := rfl
    rw [h3]
    simp
    omega
theorem varsL_length (es : List GNode) : (varsL es).length ≤ es.length := by
  unfold varsL
  induction es with
  | nil => simp
  | cons x r ih =>
    simp only [List.flatMap_cons, List.length_append, List.length_cons]
    have : (varN x).length ≤ 1 := by unfold varN; split <;> simp
    omega
theorem varsA_length (args : List (List GNode)) : (varsA args).length ≤ sumC costNodeS args := by
  unfold varsA sumC
  induction args with
  | nil => simp
  | cons x r ih =>
    simp only [List.flatMap_cons, List.length_append, List.map_cons, List.sum_cons]
    have h1 := varsL_length x
    have h2 : x.length ≤ costNodeS x := by unfold costNodeS costNodes; omega
    omega
def VarsPost (w : World) (l : List ByteArray) (e : Ending) (w' : World) : Prop := ∃ v, e = .returned v ∧ SL w' v l ∧ Below w.heap.size w w'
set_option maxRecDepth 100000 in
set_option maxHeartbeats 1600000 in
theorem spec_vars {lo : Nat} (A : Option Addr) (c : Nat) (es : List GNode) (v : Value) (l : List ByteArray) (w : World) (hl : l.length + es.length ≤ 1048576) (hr : NodesAt w lo w.heap.size A es) (hv : SL w v l) :
    Calls Try.prog 17 #[.slice A es.length c, v] w (VarsPost w (addAll l (varsL es))) := by
  have HR := Lib.hid hr
  have HV := Lib.hid hv
  clear hr hv
  go_enter Try.func17, Try.ntmps17
  go_wp2_with fail
  go_loopw [1, 5] (fun out i w' => ∃ (k : Nat) (L : List ByteArray), k ≤ es.length ∧ i = .int .i64 k ∧ Hid (L = addAll l (varsL (es.take k))) ∧ Hid (L.length ≤ l.length + k) ∧ Hid (SL w' out L) ∧ Below w.heap.size w w') (fun _ i _ => es.length - (intOf i).toNat)
  case atStart => exact ⟨0, l, Nat.zero_le _, rfl, Lib.hid rfl, Lib.hid (Nat.le_refl _), HV, Below.refl _ _⟩
  case round =>
    obtain ⟨k, L, hk, rfl, hL, hLl, hS, hB⟩ := hrel
    by_cases hlt : k < es.length
    · obtain ⟨g, o, rfl, hg0, hg, h0, h1, _⟩ := (HR.out.to_ hB).at_ hlt
      have hi0 : (0 : Int) ≤ (k : Int) := by omega
      have hi1 : (k : Int) < (es.length : Int) := by omega
      have hsn := Lib.hid (varsL_snoc es k hlt)
      by_cases hk1 : es[k].k = 1
      · have hkb : (es[k].k == 1) = true := beq_iff_eq.2 hk1
        have hst := Lib.hid (show insM L es[k].name = addAll l (varsL (es.take (k + 1))) by rw [hsn.out, addAll_append, ← hL.out, varN, if_pos hk1]; rfl)
        have hln := Lib.hid (show (insM L es[k].name).length ≤ l.length + (k + 1) by have := insM_length L es[k].name; have := hLl.out; omega)
        obtain ⟨g1, o1, c1, rfl, q1, b1, r1⟩ := hS.out
        clear hk1
        go_wp2_with fail
        refine (spec_add g1 o1 c1 L es[k].name _ (by have := hLl.out; omega) q1.1 q1.2 b1 r1).mono ?_
        rintro e w2 ⟨v2, rfl, hS2, hb2⟩
        have hB2 := below_next hB hb2 rfl rfl
        have HS2 := Lib.hid hS2
        clear h0 h1 r1 hS2
        go_wp2_with fail
        go_roundw
        case rel => exact ⟨k + 1, _, by omega, by go_num, hst, hln, HS2, hB2⟩
        case measure => simp [intOf]; omega
      · have hkb : (es[k].k == 1) = false := beq_eq_false_iff_ne.2 hk1
        have hst := Lib.hid (show L = addAll l (varsL (es.take (k + 1))) by rw [hsn.out, addAll_append, ← hL.out, varN, if_neg hk1]; rfl)
        have hln := Lib.hid (show L.length ≤ l.length + (k + 1) by have := hLl.out; omega)
        clear hk1
        go_wp2_with fail
        go_roundw
        case rel => exact ⟨k + 1, L, by omega, by go_num, hst, hln, hS, hB⟩
        case measure => simp [intOf]; omega
    · have hi1 : ¬ (k : Int) < (es.length : Int) := by omega
      have HX := Lib.hid (show L = addAll l (varsL es) by have h := hL.out; rwa [List.take_of_length_le (by omega)] at h)
      go_wp2_with fail
      go_ret
      exact ⟨_, rfl, by rw [← HX.out]; exact hS.out, hB⟩
set_option maxRecDepth 100000 in
set_option maxHeartbeats 1600000 in
theorem spec_atomVars {lo : Nat} (x : GAtom) (A1 : Option Addr) (c1 : Nat) (v : Value) (l : List ByteArray) (w : World) (hl : l.length + costNodeSs x.args ≤ 1048576) (s1 : NodeSsAt w lo w.heap.size A1 x.args) (hv : SL w v l) :
    Calls Try.prog 16 #[.agg #[.string x.name, .slice A1 x.args.length c1], v] w (VarsPost w (addAll l (varsA x.args))) := by
  have hB0 : Below w.heap.size w (w.alloc (.cells #[.string x.name, .slice A1 x.args.length c1] 33)) := (Below.refl _ _).alloc (Nat.le_refl _) _
  have hP := Lib.hid (Whole.new w 33 [.string x.name, .slice A1 x.args.length c1])
  have hla : x.args.length ≤ 1048576 := by unfold costNodeSs at hl; omega
  have HR := Lib.hid s1
  have HV := Lib.hid (hv.to_ hB0)
  have HL := Lib.hid hl
  clear s1 hv hl
  go_enter Try.func16, Try.ntmps16
  go_wp2_with fail
  go_loopw [1, 5] (fun out i w' => ∃ (k : Nat) (L : List ByteArray), k ≤ x.args.length ∧ i = .int .i64 k ∧ Hid (L = addAll l (varsA (x.args.take k))) ∧ Hid (SL w' out L) ∧ Hid (Whole w' w.heap.size 33 [.string x.name, .slice A1 x.args.length c1]) ∧ Below w.heap.size w w') (fun _ i _ => x.args.length - (intOf i).toNat)
  case atStart => exact ⟨0, l, Nat.zero_le _, rfl, Lib.hid rfl, HV, hP, hB0⟩
  case round =>
    obtain ⟨k, L, hk, rfl, hL, hS, hPr, hB⟩ := hrel
    have p1 : wr.cell? ⟨w.heap.size, 1, none⟩ = some (.slice A1 x.args.length c1) := hPr.out.cell 1
    by_cases hlt : k < x.args.length
    · obtain ⟨g, o, rfl, hg0, hg, A0, c0, ⟨h0y, q0⟩, s0⟩ := (HR.out.to_ hB).at_ hlt
      have hi0 : (0 : Int) ≤ (k : Int) := by omega
      have hi1 : (k : Int) < (x.args.length : Int) := by omega
      have hst := Lib.hid (show addAll L (varsL x.args[k]) = addAll l (varsA (x.args.take (k + 1))) by rw [varsA_snoc x.args k hlt, addAll_append, ← hL.out])
      have hbd : L.length + x.args[k].length ≤ 1048576 := by
        have h1 := HL.out
        have h2 := addAll_length (varsA (x.args.take k)) l
        rw [← hL.out] at h2
        have h3 := varsA_length (x.args.take k)
        have h4 := sumC_take costNodeS x.args k hlt
        have h5 := sumC_le costNodeS x.args (k + 1)
        have h6 : x.args[k].length ≤ costNodeS x.args[k] := by unfold costNodeS costNodes; omega
        unfold costNodeSs at h1
        omega
      go_wp2_with fail
      refine (spec_vars A0 c0 x.args[k] _ L _ hbd s0 hS.out).mono ?_
      rintro e w2 ⟨v2, rfl, hS2, hb2⟩
      have hB2 := below_next hB hb2 rfl rfl
      have HS2 := Lib.hid hS2
      have hP2 := Lib.hid (hPr.out.below hb2 hPr.out.lt)
      clear h0y p1 hS2
      go_wp2_with fail
      go_roundw
      case rel => exact ⟨k + 1, _, by omega, by go_num, hst, HS2, hP2, hB2⟩
      case measure => simp [intOf]; omega
    · have hi1 : ¬ (k : Int) < (x.args.length : Int) := by omega
      have HX := Lib.hid (show L = addAll l (varsA x.args) by have h := hL.out; rwa [List.take_of_length_le (by omega)] at h)
      go_wp2_with fail
      go_ret
      exact ⟨_, rfl, by rw [← HX.out]; exact hS.out, hB⟩
end Go.Proofs.Ytmbdccbgcobflaa
