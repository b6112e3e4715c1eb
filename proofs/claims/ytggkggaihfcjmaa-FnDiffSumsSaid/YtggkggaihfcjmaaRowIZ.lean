/-
  Steps of a region that draws its order: a load of a whole array, a look-up in a map, the entry of a map, the store into it. (rowKey).row.
-/
import Derived.Test.YtggkggaihfcjmaaCmpZ
import Derived.Deep.RegionLaw
import Derived.Test.YtggkggaihfcjmaaTabOkSZ
import Derived.Laws.StructEq
import Derived.Lib.Strings
namespace Go.Proofs.Ytggkggaihfcjmaa
open Go.RowKit
set_option linter.unusedVariables false

theorem step_load_row {P : Program} {ops : Array Oper} {o : Oper} {a : Act} {W : World} {K : Act → World → Prop} {Q : Exit → Act → World → Prop} {E : Prop}
    (hg : o.guard = none) (ty : TypeId) (x : Operand) (hop : o.op = .load ty x) (g : Nat) (hx : a.eval x = .pointer (some ⟨g, 0, none⟩)) (t : TypeId) (cs : Array Value) (fr : Nat × Nat) (d : TypeDesc) (hW : W.heap[g]? = some (.cells cs t fr))
    (hu : P.underlying ty = some d) (hd : (match d with | .struct _ | .array _ _ => true | _ => false) = true) (hi : (P.info? ty).map (·.size) = some cs.size) (hK : K (a.put o.dst (.agg cs)) W) :
    if Region.wanted o (yielded ops a.tmps) = true then Oper.wp P o a W K Q else E := by
  have hw : Region.wanted o (yielded ops a.tmps) = true := by simp [Region.wanted, hg]
  rw [if_pos hw]
  exact wp_load_row ty x hop g hx t cs fr d hW hu hd hi hK
theorem step_lookup {P : Program} {ops : Array Oper} {o : Oper} {a : Act} {W : World} {K : Act → World → Prop} {Q : Exit → Act → World → Prop} {E : Prop}
    (hg : o.guard = none) (m x : Operand) (t : TypeId) (hop : o.op = .lookup t m x false) (mv key v : Value) (hm : a.eval m = mv) (hx : a.eval x = key) (hrun : (Instr.lookup t mv key false).run P W = .ok v W) (hK : K (a.put o.dst v) W) :
    if Region.wanted o (yielded ops a.tmps) = true then Oper.wp P o a W K Q else E := by
  have hw : Region.wanted o (yielded ops a.tmps) = true := by simp [Region.wanted, hg]
  rw [if_pos hw]
  unfold Oper.wp
  simp [execOp, hop, hm, hx, hrun, Result.andThen]
  exact hK
theorem step_entry {P : Program} {ops : Array Oper} {o : Oper} {a : Act} {W W1 : World} {K : Act → World → Prop} {Q : Exit → Act → World → Prop} {E : Prop}
    (hg : o.guard = none) (m x : Operand) (t : TypeId) (hop : o.op = .mapEntry t m x) (mv key v : Value) (hm : a.eval m = mv) (hx : a.eval x = key) (hrun : (Instr.mapEntry t mv key).run P W = .ok v W1) (hK : K (a.put o.dst v) W1) :
    if Region.wanted o (yielded ops a.tmps) = true then Oper.wp P o a W K Q else E := by
  have hw : Region.wanted o (yielded ops a.tmps) = true := by simp [Region.wanted, hg]
  rw [if_pos hw]
  unfold Oper.wp
  simp [execOp, hop, hm, hx, hrun, Result.andThen]
  exact hK
theorem step_estore {P : Program} {ops : Array Oper} {o : Oper} {a : Act} {W W1 : World} {K : Act → World → Prop} {Q : Exit → Act → World → Prop} {E : Prop}
    (hg : o.guard = none) (m s x : Operand) (t : TypeId) (hop : o.op = .entryStore t m s x) (mv st v : Value) (hm : a.eval m = mv) (hs : a.eval s = st) (hx : a.eval x = v) (hrun : (Instr.entryStore t mv st v).run P W = .ok () W1) (hK : K (a.put o.dst undef) W1) :
    if Region.wanted o (yielded ops a.tmps) = true then Oper.wp P o a W K Q else E := by
  have hw : Region.wanted o (yielded ops a.tmps) = true := by simp [Region.wanted, hg]
  rw [if_pos hw]
  unfold Oper.wp
  simp [execOp, hop, hm, hs, hx, hrun, Result.andThen]
  exact hK
theorem wpList_load_row {P : Program} {ops : Array Oper} {rest : List Oper} {o : Oper} {a : Act} {W : World} {Q : Exit → Act → World → Prop}
    (hg : o.guard = none) (ty : TypeId) (x : Operand) (hop : o.op = .load ty x) (g : Nat) (hx : a.eval x = .pointer (some ⟨g, 0, none⟩)) (t : TypeId) (cs : Array Value) (fr : Nat × Nat) (d : TypeDesc) (hW : W.heap[g]? = some (.cells cs t fr))
    (hu : P.underlying ty = some d) (hd : (match d with | .struct _ | .array _ _ => true | _ => false) = true) (hi : (P.info? ty).map (·.size) = some cs.size) (hK : wpList P ops Q rest (a.put o.dst (.agg cs)) W) : wpList P ops Q (o :: rest) a W :=
  wpList_plain hg fun K' hK' => wp_load_row ty x hop g hx t cs fr d hW hu hd hi (hK' _ _ hK)
theorem wpList_delete_run {P : Program} {ops : Array Oper} {rest : List Oper} {o : Oper} {a : Act} {W W1 : World} {Q : Exit → Act → World → Prop}
    (hg : o.guard = none) (m x : Operand) (t k : TypeId) (hop : o.op = Op.call { callee := Callee.builtin Builtin.delete, args := #[m, x], argTypes := #[t, k] }) (mv key : Value) (hm : a.eval m = mv) (hx : a.eval x = key)
    (hrun : (Builtin.delete_ #[t, k] o.type #[mv, key]).run P W = .ok (.tuple #[]) W1) (hK : wpList P ops Q rest (a.put o.dst (.tuple #[])) W1) : wpList P ops Q (o :: rest) a W := by
  refine wpList_plain hg fun K' hK' => ?_
  unfold Oper.wp
  simp [execOp, hop, resolve, invoke, builtin, hm, hx, hrun, Result.andThen]
  exact hK' _ _ hK
theorem infoKey : (Try.prog.info? 83).map (·.size) = some 24 := by kernel_rfl
end Go.Proofs.Ytggkggaihfcjmaa
namespace Go.Proofs.Ytggkggaihfcjmaa
open Go.RowKit Go.Shelf
set_option linter.unusedVariables false

theorem heldVk : Try.prog.stoodInHeld 52 = false := by kernel_rfl
theorem structVk : Try.prog.underlying 52 = some (.struct (Try.prog.fieldsOf 52)) := by kernel_rfl
def encG (v : GV) : List Value := [.int .i64 v.k, .int .i64 v.n, .string v.t]
def eqG (x y : GV) : Bool := x.k == y.k && x.n == y.n && x.t.toList == y.t.toList
instance inhabitedG : Inhabited GV := ⟨zGV⟩
theorem eqlG : EqlAt Try.prog 52 (fun x => .agg (encG x).toArray) eqG := by
  refine ⟨fun x y w => ?_, GuardAt.agg _ (by kernel_rfl)⟩
  have u3 := Try.underlying2
  have a3 := Try.isAgg2
  have z3 := Try.sizeOf2
  have u9 := Try.underlying9
  have a9 := Try.isAgg9
  have z9 := Try.sizeOf9
  simp only [encG, eqG]
  rw [run_eql_struct, show (10000 : Nat) = 9999 + 1 from rfl, run_equalIn_agg w 9999 52 _ _ structVk heldVk]
  simp only [Program.fieldsOf, Try.underlying52]
  go_simp
  by_cases h1 : x.k = y.k <;> by_cases h2 : x.n = y.n <;> by_cases h3 : x.t.toList = y.t.toList <;> simp [h1, h2, h3]
theorem eqG_ok {v : GV} (h : okG v = true) : eqG zGV v = false := by
  have hk : v.k ≠ 0 := by
    intro e
    unfold okG valueOkB at h
    rw [e] at h
    simp at h
  unfold eqG zGV
  simp; intro e; exact absurd e.symm hk
theorem idx_skip : ∀ (r t : List GV) (i : Nat), (∀ v ∈ r, eqG zGV v = false) → Lib.idxByFrom eqG zGV (r ++ t) i = Lib.idxByFrom eqG zGV t (i + r.length)
  | [], t, i, _ => by simp
  | v :: r, t, i, h => by
    rw [List.cons_append, Lib.idxByFrom, h v List.mem_cons_self]
    simp only [Bool.false_eq_true, if_false]
    rw [idx_skip r t (i + 1) (fun x hx => h x (List.mem_cons_of_mem _ hx)), List.length_cons]
    congr 1; omega
/-- What slices.Index finds in a row's key. -/
def wideI (r : List GV) : Int := if r.length < 8 then (r.length : Int) else -1
theorem idx_pad {r : List GV} (h : rowOkB r = true) : Lib.idxBy eqG (pad r) zGV = wideI r := by
  unfold Lib.idxBy pad wideI
  rw [idx_skip r _ 0 (fun v hv => eqG_ok ((rowOk_parts h).2 v hv)), Nat.zero_add]
  have hl := (rowOk_parts h).1
  by_cases h8 : r.length < 8
  · rw [if_pos h8]
    obtain ⟨m, hm⟩ : ∃ m, 8 - r.length = m + 1 := ⟨7 - r.length, by omega⟩
    rw [hm, List.replicate_succ, Lib.idxByFrom]
    simp [eqG]
  · rw [if_neg h8]
    have : 8 - r.length = 0 := by omega
    rw [this]; rfl
theorem flat_enc (r : List GV) (j : Nat) (hj : j < r.length) (i : Nat) (v : Value) (h : (encG r[j]!)[i]? = some v) : (flat r)[j * 3 + i]? = some v := by
  obtain ⟨f0, f1, f2⟩ := flat_at r j r[j] (List.getElem?_eq_getElem hj)
  rw [getElem!_pos r j hj] at h
  unfold encG at h
  match i, h with
  | 0, h => simp at h; subst h; exact f0
  | 1, h => simp at h; subst h; exact f1
  | 2, h => simp at h; subst h; exact f2
theorem slice_key (g m : Nat) (W : World) (hm : m ≤ 8) : (Instr.sliceAt 83 (.pointer (some ⟨g, 0, none⟩)) none (some (.int .i64 (m : Int))) none).run Try.prog W = .ok (.slice (some ⟨g, 0, none⟩) m 8) W := by
  simp [Instr.sliceAt, run_underlying keyArr, Instr.sureAddr, Instr.sliceBounds, Result.andThen, Addr.add]
  rw [run_sliceBound (P := Try.prog) W .i64 (m : Int) 8 _ (by omega) (by omega)]
  simp
theorem below_drewN {B : Nat} {a b : World} (h : Below B a b) (q : Nat) : Below B a (b.drewN q) := ⟨h.os, h.tape, h.output, h.size, h.block⟩
theorem index_key (b : Nat) (r : List GV) (w : World) (hW : Whole w b 83 (flat (pad r))) (h : rowOkB r = true) :
    Calls Try.prog 102 #[.slice (some ⟨b, 0, none⟩) 8 8, .agg #[.int .i64 0, .int .i64 0, .string ⟨#[]⟩]] w fun e w' => e = .returned (.int .i64 (wideI r)) ∧ Below w.heap.size w w' := by
  have hp := pad_length (rowOk_parts h).1
  have hcon := AnyQ.slices_Index (α := GV) Try.indexL 3 Try.isAgg52 Try.sizeOf52 encG (fun _ => rfl) eqG eqlG b 0 8 8 (pad r) zGV w (by omega) (by omega) (fun j hj i v hv => by
    rw [hW.cell, Nat.zero_add]
    exact flat_enc (pad r) j hj i v hv)
  rw [List.take_of_length_le (by omega), idx_pad h] at hcon
  refine Calls.mono hcon fun e w' he => ?_
  obtain ⟨rfl, q, rfl⟩ := he
  exact ⟨rfl, below_drewN ((Below.refl _ _).alloc (Nat.le_refl _) _) q⟩
theorem Whole.front {w : World} {B g : Nat} {t : TypeId} {vs : List GV} {l : List Value} (h : Whole w g t (flat vs ++ l)) (hg : g < B) : RowAt w B (some ⟨g, 0, none⟩) vs := by
  refine .inr ⟨g, 0, rfl, hg, fun i v hv => ?_⟩
  obtain ⟨h0, h1, h2⟩ := flat_at vs i v hv
  have hi : i < vs.length := (List.getElem?_eq_some_iff.1 hv).1
  have key : ∀ j, j < vs.length * 3 → (flat vs ++ l)[j]? = (flat vs)[j]? := fun j hj => List.getElem?_append_left (by rw [flat_length]; exact hj)
  refine ⟨?_, ?_, ?_⟩ <;> rw [h.cell, Nat.zero_add, key _ (by omega)] <;> assumption
/-- What (rowKey).row leaves. -/
def RowPost (w : World) (r : List GV) (e : Ending) (w' : World) : Prop :=
  ∃ g, e = .returned (.slice (some ⟨g, 0, none⟩) r.length r.length) ∧ w.heap.size ≤ g ∧ Whole w' g 52 (flat r) ∧ Below w.heap.size w w'
set_option maxRecDepth 100000 in
set_option maxHeartbeats 1600000 in
theorem row_of (r : List GV) (w : World) (h : rowOkB r = true) :
    Calls Try.prog 89 #[keyV r] w (RowPost w r) := by
  have hr := rowOk_parts h
  have hB0 : Below w.heap.size w (w.alloc (.cells (flat (pad r)).toArray 83)) := (Below.refl _ _).alloc (Nat.le_refl _) _
  have HW := Lib.hid (Whole.new w 83 (flat (pad r)))
  have hsz : ∀ v ∈ r, v.t.size ≤ 1048576 := fun v hv => Nat.le_trans (okG_size (hr.2 v hv)) (by omega)
  have HSZ := Lib.hid hsz
  have hl := hr.1
  clear hsz hr
  unfold keyV
  go_enter Try.func89, Try.ntmps89
  go_wp2_with fail
  refine (index_key w.heap.size r _ HW.out h).mono ?_
  rintro e w1 ⟨rfl, hb1⟩
  have hB1 : Below w.heap.size w w1 := below_next hB0 hb1 rfl rfl
  have hW1 := HW.out.below hb1 HW.out.lt
  have hr1 : RowAt w1 w1.heap.size (some ⟨w.heap.size, 0, none⟩) r := by
    have e : flat (pad r) = flat r ++ flat (List.replicate (8 - r.length) zGV) := flat_append _ _
    rw [e] at hW1
    exact hW1.front hW1.lt
  have HR1 := Lib.hid hr1
  clear hr1 hW1 hB0 hb1
  by_cases h8 : r.length < 8
  · have hw : wideI r = (r.length : Int) := by unfold wideI; rw [if_pos h8]
    rw [hw]
    clear hw
    have hx : ¬ ((r.length : Int) < 0) := by omega
    have hsl := slice_key w.heap.size r.length w1 hl
    go_wp2_with fail
    clear hsl
    refine (copy_row (some ⟨w.heap.size, 0, none⟩) 8 r w1 HR1.out (by omega) HSZ.out).mono ?_
    rintro e w2 ⟨rfl, hW2, hb2⟩
    go_wp2_with fail
    go_ret
    exact ⟨w1.heap.size, rfl, hB1.size, hW2, below_next hB1 hb2 rfl rfl⟩
  · have hw : wideI r = -1 := by unfold wideI; rw [if_neg h8]
    rw [hw]
    clear hw
    have h9 : r.length = 8 := by omega
    have hcr := copy_row (some ⟨w.heap.size, 0, none⟩) 8 r w1 HR1.out (by omega) HSZ.out
    rw [h9] at hcr
    have H9 := Lib.hid h9
    clear h9 hl h8
    have hsl : (Instr.sliceAt 83 (.pointer (some ⟨w.heap.size, 0, none⟩)) none (some (.int .i64 8)) none).run Try.prog w1 = .ok (.slice (some ⟨w.heap.size, 0, none⟩) 8 8) w1 := slice_key w.heap.size 8 w1 (by omega)
    go_wp2_with fail
    clear hsl
    refine hcr.mono ?_
    rintro e w2 ⟨rfl, hW2, hb2⟩
    clear hcr
    rw [H9.out]
    go_wp2_with fail
    go_ret
    exact ⟨w1.heap.size, by rw [H9.out]; rfl, hB1.size, hW2, below_next hB1 hb2 rfl rfl⟩
end Go.Proofs.Ytggkggaihfcjmaa
