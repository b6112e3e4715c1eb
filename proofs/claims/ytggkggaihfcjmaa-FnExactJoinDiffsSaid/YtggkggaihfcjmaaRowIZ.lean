/-
  Contracts of strings.Clone and impl.copyRow. (rowKey).row.
-/
import Derived.Test.YtggkggaihfcjmaaTyZ
import Derived.Test.YtggkggaihfcjmaaShelf
import Derived.Laws.CopyOwn
import Derived.Test.YtggkggaihfcjmaaStepMZ
import Derived.Laws.StructEq
import Derived.Lib.Strings
namespace Go.Proofs.Ytggkggaihfcjmaa
open Go.RowKit
set_option linter.unusedVariables false

theorem strings_clone (s : ByteArray) (w : World) (hs : s.size ≤ 1048576) :
    Calls Try.prog 97 #[.string s] w fun e w' => e = .returned (.string s) ∧ Below w.heap.size w w' := by

  go_enter Try.func97, Try.ntmps97
  go_wp2_with fail
  refine (Try.stringslite_Clone s _ (by omega)).mono ?_
  rintro e w1 ⟨rfl, hb1⟩
  go_wp2_with fail
  go_ret
  exact ⟨rfl, hb1⟩

/-- copy at elements of k cells. -/
theorem run_copy_k (P : Program) (w : World) (dT sT ty elem : TypeId) (k g o dLen dCap : Nat) (a : Addr) (sLen sCap : Nat) (cur : Array Value) (t : TypeId) (cs : List Value)
    (hu : P.underlying dT = some (.slice elem)) (hs : (P.info? elem).map (·.size) = some k)
    (hg : w.heap[g]? = some (.cells cur t (0, 0))) (hn : cs.length = Nat.min sLen dLen * k)
    (hsrc : ∀ j v, cs[j]? = some v → w.cell? (a.add j) = some v) (hfit : o + cs.length ≤ cur.size) (h1 : ∀ v ∈ cs, v.oneCell' = true) :
    (Builtin.copy_ #[dT, sT] ty #[.slice (some ⟨g, o, none⟩) dLen dCap, .slice (some a) sLen sCap]).run P w =
      .ok (goInt (Nat.min sLen dLen)) (w.setRow g (cur.toList.take o ++ cs ++ cur.toList.drop (o + cs.length)).toArray) := by
  have hl := run_loadCells_list (P := P) w a cs hsrc
  have hst := run_storeCells_at P g o t cs 0 cur w hg (by simpa using hfit) h1
  cases hq : P.info? elem with
  | none => simp [hq] at hs
  | some i =>
    have hi : i.size = k := by simpa [hq] using hs
    simp [Builtin.copy_, run_underlying hu, Builtin.lenOf, Builtin.firstCells, sizeOf, typeInfo, hq, hi, ← hn, hl, hst]
theorem run_copy_k0 (P : Program) (w : World) (dT sT ty elem : TypeId) (k : Nat) (d a : Option Addr) (dLen dCap sLen sCap : Nat) (hu : P.underlying dT = some (.slice elem)) (hs : (P.info? elem).map (·.size) = some k) (hn : Nat.min sLen dLen = 0) :
    (Builtin.copy_ #[dT, sT] ty #[.slice d dLen dCap, .slice a sLen sCap]).run P w = .ok (goInt 0) w := by
  cases hq : P.info? elem with
  | none => simp [hq] at hs
  | some i =>
    have hl : ∀ (x : Addr), (loadCells x 0).run P w = .ok #[] w := fun x => by simpa using run_loadCells_list (P := P) w x [] (by simp)
    cases d <;> cases a <;> simp [Builtin.copy_, run_underlying hu, Builtin.lenOf, Builtin.firstCells, sizeOf, typeInfo, hq, hn, storeCells, hl]
theorem sizeV : (Try.prog.info? 52).map (·.size) = some 3 := by kernel_rfl

theorem row_cells {w : World} {g o : Nat} {vs : List GV} (h : ∀ i v, vs[i]? = some v → VAt w g (o + i * 3) v) : ∀ j u, (flat vs)[j]? = some u → w.cell? ((⟨g, o, none⟩ : Addr).add j) = some u := by
  intro j u hu
  obtain ⟨i, v, hv, h'⟩ := flat_get vs j u hu
  obtain ⟨c0, c1, c2⟩ := h i v hv
  have ha : (⟨g, o, none⟩ : Addr).add j = ⟨g, o + j, none⟩ := by unfold Addr.add; split <;> simp_all
  rw [ha]
  rcases h' with ⟨rfl, rfl⟩ | ⟨rfl, rfl⟩ | ⟨rfl, rfl⟩
  · exact c0
  · exact c1
  · exact c2
theorem flat_same (vs : List GV) (i : Nat) (h : i < vs.length) : (flat vs).set (i * 3 + 2) (.string vs[i].t) = flat vs := by
  have h3 := (flat_at vs i vs[i] (List.getElem?_eq_getElem h)).2.2
  obtain ⟨hl, e⟩ := List.getElem?_eq_some_iff.1 h3
  rw [← e]
  exact List.set_getElem_self hl

/-- What impl.copyRow leaves. -/
def CopyPost (w : World) (vs : List GV) (e : Ending) (w' : World) : Prop :=
  e = .returned (.slice (some ⟨w.heap.size, 0, none⟩) vs.length vs.length) ∧ Whole w' w.heap.size 52 (flat vs) ∧ Below w.heap.size w w'

set_option maxHeartbeats 1600000 in
theorem copy_row (A : Option Addr) (c : Nat) (vs : List GV) (w : World) (hr : RowAt w w.heap.size A vs) (hl : vs.length ≤ 1048576) (hv : ∀ v ∈ vs, v.t.size ≤ 1048576) :
    Calls Try.prog 72 #[.slice A vs.length c] w (CopyPost w vs) := by
  obtain ⟨i0, hi0, hz0, hz1, hz2⟩ := info_parts infoV
  have hmk := fun W => run_make (P := Try.prog) W 53 52 i0 _ Try.underlying53 hi0 hz0 .i64 .i64 vs.length vs.length (by omega) (by omega) (by rw [hz2]; omega) (by omega)
  have HC := Lib.hid (show ∃ W1 : World, (Builtin.copy_ #[53, 53] 3 #[.slice (some ⟨w.heap.size, 0, none⟩) vs.length vs.length, .slice A vs.length c]).run Try.prog (w.alloc (.cells (madeCells #[.int .i64 0, .int .i64 0, .string ByteArray.empty] (vs.length * 3)) 52)) = .ok (goInt vs.length) W1 ∧ Whole W1 w.heap.size 52 (flat vs) ∧ Below w.heap.size w W1 by
    have hW := Whole.new w 52 (madeCells #[.int .i64 0, .int .i64 0, .string ByteArray.empty] (vs.length * 3)).toList
    rw [Array.toArray_toList] at hW
    have hB0 : Below w.heap.size w (w.alloc (.cells (madeCells #[.int .i64 0, .int .i64 0, .string ByteArray.empty] (vs.length * 3)) 52)) := (Below.refl _ _).alloc (Nat.le_refl _) _
    rcases hr with rfl | ⟨g, o, rfl, hg, hc⟩
    · refine ⟨_, run_copy_k0 _ _ _ _ _ _ 3 _ _ _ _ _ _ Try.underlying53 sizeV (by simp), ?_, hB0⟩
      simpa [flat, madeCells] using hW
    · have h := run_copy_k Try.prog _ 53 53 3 52 3 w.heap.size 0 vs.length vs.length ⟨g, o, none⟩ vs.length c _ _ (flat vs) Try.underlying53 sizeV hW (by rw [flat_length]; simp) (row_cells fun i v h => (hc i v h).below hB0 hg) (by rw [flat_length]; simp [size_madeCells]) (flat_one vs)
      rw [show Nat.min vs.length vs.length = vs.length from Nat.min_self _] at h
      refine ⟨_, h, ?_, below_setRow hB0 (Nat.le_refl _) _⟩
      have h2 := setRow_heap _ w.heap.size _ (((madeCells #[.int .i64 0, .int .i64 0, .string ByteArray.empty] (vs.length * 3)).toList.take 0 ++ flat vs ++ (madeCells #[.int .i64 0, .int .i64 0, .string ByteArray.empty] (vs.length * 3)).toList.drop (0 + (flat vs).length)).toArray) _ _ hW
      unfold Whole
      rw [h2, List.take_zero, List.nil_append, List.drop_eq_nil_of_le (by rw [flat_length]; simp [size_madeCells]), List.append_nil])
  obtain ⟨W1, hcp, hW1, hB1⟩ := HC.out
  have HW1 := Lib.hid hW1
  clear HC hW1
  go_enter Try.func72, Try.ntmps72
  go_wp2_with fail
  clear hcp hmk
  go_loopw [13] (fun i w' => ∃ k : Nat, k ≤ vs.length ∧ i = .int .i64 k ∧ Hid (Whole w' w.heap.size 52 (flat vs)) ∧ Below w.heap.size w w') (fun i _ => vs.length - (intOf i).toNat)
  case atStart => exact ⟨0, Nat.zero_le _, rfl, HW1, hB1⟩
  case round =>
    obtain ⟨k, hk, rfl, hW, hB⟩ := hrel
    by_cases hlt : k < vs.length
    · have hm : vs[k].t.size ≤ 1048576 := hv _ (List.getElem_mem hlt)
      have q0 := hW.out.cell (k * 3 + 2)
      rw [(flat_at vs k vs[k] (List.getElem?_eq_getElem hlt)).2.2] at q0
      have hws : w.heap.size < wr.heap.size := hW.out.lt
      go_wp2_with fail
      refine (strings_clone _ _ hm).mono ?_
      rintro e w2 ⟨rfl, hb2⟩
      have hB2 := below_next hB hb2 rfl rfl
      have hW2 := hW.out.below hb2 hws
      have q1 := hW2.cell (k * 3 + 2)
      rw [(flat_at vs k vs[k] (List.getElem?_eq_getElem hlt)).2.2] at q1
      have r1 := hW2.frozen (k * 3 + 2)
      have hW3 := hW2.set_ (k * 3 + 2) (.string vs[k].t)
      rw [flat_same vs k hlt] at hW3
      have HW3 := Lib.hid hW3
      have hB3 := hB2.setCell (p := ⟨w.heap.size, k * 3 + 2, none⟩) (Nat.le_refl _) (.string vs[k].t)
      clear q0 hW2 hW3
      go_wp2_with fail
      go_roundw
      case rel => exact ⟨k + 1, by omega, by go_num, HW3, hB3⟩
      case measure => simp [intOf]; omega
    · go_wp2_with fail
      go_ret
      exact ⟨rfl, hW.out, hB⟩
end Go.Proofs.Ytggkggaihfcjmaa
namespace Go.Proofs.Ytggkggaihfcjmaa
open Go.RowKit Go.Shelf
set_option linter.unusedVariables false

theorem heldVk : Try.prog.stoodInHeld 52 = false := by kernel_rfl
theorem structVk : Try.prog.underlying 52 = some (.struct (Try.prog.fieldsOf 52)) := by kernel_rfl
def encG (v : GV) : List Value := [.int .i64 v.k, .int .i64 v.n, .string v.t]
def eqG (x y : GV) : Bool := x.k == y.k && x.n == y.n && x.t.toList == y.t.toList
instance inhabitedG : Inhabited GV := ⟨zGV⟩
theorem eqlG : EqlAt Try.prog 52 (fun x => .agg (encG x).toArray) eqG := by
  refine ⟨fun x y w => ?_, GuardAt.agg _ (by kernel_rfl)⟩
  have u3 := Try.underlying2
  have a3 := Try.isAgg2
  have z3 := Try.sizeOf2
  have u9 := Try.underlying9
  have a9 := Try.isAgg9
  have z9 := Try.sizeOf9
  simp only [encG, eqG]
  rw [run_eql_struct, show (10000 : Nat) = 9999 + 1 from rfl, run_equalIn_agg w 9999 52 _ _ structVk heldVk]
  simp only [Program.fieldsOf, Try.underlying52]
  go_simp
  by_cases h1 : x.k = y.k <;> by_cases h2 : x.n = y.n <;> by_cases h3 : x.t.toList = y.t.toList <;> simp [h1, h2, h3]
theorem eqG_ok {v : GV} (h : okG v = true) : eqG zGV v = false := by
  have hk : v.k ≠ 0 := by
    intro e
    unfold okG valueOkB at h
    rw [e] at h
    simp at h
  unfold eqG zGV
  simp; intro e; exact absurd e.symm hk
theorem idx_skip : ∀ (r t : List GV) (i : Nat), (∀ v ∈ r, eqG zGV v = false) → Lib.idxByFrom eqG zGV (r ++ t) i = Lib.idxByFrom eqG zGV t (i + r.length)
  | [], t, i, _ => by simp
  | v :: r, t, i, h => by
    rw [List.cons_append, Lib.idxByFrom, h v List.mem_cons_self]
    simp only [Bool.false_eq_true, if_false]
    rw [idx_skip r t (i + 1) (fun x hx => h x (List.mem_cons_of_mem _ hx)), List.length_cons]
    congr 1; omega
/-- What slices.Index finds in a row's key. -/
def wideI (r : List GV) : Int := if r.length < 8 then (r.length : Int) else -1
theorem idx_pad {r : List GV} (h : rowOkB r = true) : Lib.idxBy eqG (pad r) zGV = wideI r := by
  unfold Lib.idxBy pad wideI
  rw [idx_skip r _ 0 (fun v hv => eqG_ok ((rowOk_parts h).2 v hv)), Nat.zero_add]
  have hl := (rowOk_parts h).1
  by_cases h8 : r.length < 8
  · rw [if_pos h8]
    obtain ⟨m, hm⟩ : ∃ m, 8 - r.length = m + 1 := ⟨7 - r.length, by omega⟩
    rw [hm, List.replicate_succ, Lib.idxByFrom]
    simp [eqG]
  · rw [if_neg h8]
    have : 8 - r.length = 0 := by omega
    rw [this]; rfl
theorem flat_enc (r : List GV) (j : Nat) (hj : j < r.length) (i : Nat) (v : Value) (h : (encG r[j]!)[i]? = some v) : (flat r)[j * 3 + i]? = some v := by
  obtain ⟨f0, f1, f2⟩ := flat_at r j r[j] (List.getElem?_eq_getElem hj)
  rw [getElem!_pos r j hj] at h
  unfold encG at h
  match i, h with
  | 0, h => simp at h; subst h; exact f0
  | 1, h => simp at h; subst h; exact f1
  | 2, h => simp at h; subst h; exact f2
theorem slice_key (g m : Nat) (W : World) (hm : m ≤ 8) : (Instr.sliceAt 83 (.pointer (some ⟨g, 0, none⟩)) none (some (.int .i64 (m : Int))) none).run Try.prog W = .ok (.slice (some ⟨g, 0, none⟩) m 8) W := by
  simp [Instr.sliceAt, run_underlying keyArr, Instr.sureAddr, Instr.sliceBounds, Result.andThen, Addr.add]
  rw [run_sliceBound (P := Try.prog) W .i64 (m : Int) 8 _ (by omega) (by omega)]
  simp
theorem below_drewN {B : Nat} {a b : World} (h : Below B a b) (q : Nat) : Below B a (b.drewN q) := ⟨h.os, h.tape, h.output, h.size, h.block⟩
theorem index_key (b : Nat) (r : List GV) (w : World) (hW : Whole w b 83 (flat (pad r))) (h : rowOkB r = true) :
    Calls Try.prog 102 #[.slice (some ⟨b, 0, none⟩) 8 8, .agg #[.int .i64 0, .int .i64 0, .string ⟨#[]⟩]] w fun e w' => e = .returned (.int .i64 (wideI r)) ∧ Below w.heap.size w w' := by
  have hp := pad_length (rowOk_parts h).1
  have hcon := AnyQ.slices_Index (α := GV) Try.indexL 3 Try.isAgg52 Try.sizeOf52 encG (fun _ => rfl) eqG eqlG b 0 8 8 (pad r) zGV w (by omega) (by omega) (fun j hj i v hv => by
    rw [hW.cell, Nat.zero_add]
    exact flat_enc (pad r) j hj i v hv)
  rw [List.take_of_length_le (by omega), idx_pad h] at hcon
  refine Calls.mono hcon fun e w' he => ?_
  obtain ⟨rfl, q, rfl⟩ := he
  exact ⟨rfl, below_drewN ((Below.refl _ _).alloc (Nat.le_refl _) _) q⟩
theorem Whole.front {w : World} {B g : Nat} {t : TypeId} {vs : List GV} {l : List Value} (h : Whole w g t (flat vs ++ l)) (hg : g < B) : RowAt w B (some ⟨g, 0, none⟩) vs := by
  refine .inr ⟨g, 0, rfl, hg, fun i v hv => ?_⟩
  obtain ⟨h0, h1, h2⟩ := flat_at vs i v hv
  have hi : i < vs.length := (List.getElem?_eq_some_iff.1 hv).1
  have key : ∀ j, j < vs.length * 3 → (flat vs ++ l)[j]? = (flat vs)[j]? := fun j hj => List.getElem?_append_left (by rw [flat_length]; exact hj)
  refine ⟨?_, ?_, ?_⟩ <;> rw [h.cell, Nat.zero_add, key _ (by omega)] <;> assumption
/-- What (rowKey).row leaves. -/
def RowPost (w : World) (r : List GV) (e : Ending) (w' : World) : Prop :=
  ∃ g, e = .returned (.slice (some ⟨g, 0, none⟩) r.length r.length) ∧ w.heap.size ≤ g ∧ Whole w' g 52 (flat r) ∧ Below w.heap.size w w'
set_option maxRecDepth 100000 in
set_option maxHeartbeats 1600000 in
theorem row_of (r : List GV) (w : World) (h : rowOkB r = true) :
    Calls Try.prog 89 #[keyV r] w (RowPost w r) := by
  have hr := rowOk_parts h
  have hB0 : Below w.heap.size w (w.alloc (.cells (flat (pad r)).toArray 83)) := (Below.refl _ _).alloc (Nat.le_refl _) _
  have HW := Lib.hid (Whole.new w 83 (flat (pad r)))
  have hsz : ∀ v ∈ r, v.t.size ≤ 1048576 := fun v hv => Nat.le_trans (okG_size (hr.2 v hv)) (by omega)
  have HSZ := Lib.hid hsz
  have hl := hr.1
  clear hsz hr
  unfold keyV
  go_enter Try.func89, Try.ntmps89
  go_wp2_with fail
  refine (index_key w.heap.size r _ HW.out h).mono ?_
  rintro e w1 ⟨rfl, hb1⟩
  have hB1 : Below w.heap.size w w1 := below_next hB0 hb1 rfl rfl
  have hW1 := HW.out.below hb1 HW.out.lt
  have hr1 : RowAt w1 w1.heap.size (some ⟨w.heap.size, 0, none⟩) r := by
    have e : flat (pad r) = flat r ++ flat (List.replicate (8 - r.length) zGV) := flat_append _ _
    rw [e] at hW1
    exact hW1.front hW1.lt
  have HR1 := Lib.hid hr1
  clear hr1 hW1 hB0 hb1
  by_cases h8 : r.length < 8
  · have hw : wideI r = (r.length : Int) := by unfold wideI; rw [if_pos h8]
    rw [hw]
    clear hw
    have hx : ¬ ((r.length : Int) < 0) := by omega
    have hsl := slice_key w.heap.size r.length w1 hl
    go_wp2_with fail
    clear hsl
    refine (copy_row (some ⟨w.heap.size, 0, none⟩) 8 r w1 HR1.out (by omega) HSZ.out).mono ?_
    rintro e w2 ⟨rfl, hW2, hb2⟩
    go_wp2_with fail
    go_ret
    exact ⟨w1.heap.size, rfl, hB1.size, hW2, below_next hB1 hb2 rfl rfl⟩
  · have hw : wideI r = -1 := by unfold wideI; rw [if_neg h8]
    rw [hw]
    clear hw
    have h9 : r.length = 8 := by omega
    have hcr := copy_row (some ⟨w.heap.size, 0, none⟩) 8 r w1 HR1.out (by omega) HSZ.out
    rw [h9] at hcr
    have H9 := Lib.hid h9
    clear h9 hl h8
    have hsl : (Instr.sliceAt 83 (.pointer (some ⟨w.heap.size, 0, none⟩)) none (some (.int .i64 8)) none).run Try.prog w1 = .ok (.slice (some ⟨w.heap.size, 0, none⟩) 8 8) w1 := slice_key w.heap.size 8 w1 (by omega)
    go_wp2_with fail
    clear hsl
    refine hcr.mono ?_
    rintro e w2 ⟨rfl, hW2, hb2⟩
    clear hcr
    rw [H9.out]
    go_wp2_with fail
    go_ret
    exact ⟨w1.heap.size, by rw [H9.out]; rfl, hB1.size, hW2, below_next hB1 hb2 rfl rfl⟩
end Go.Proofs.Ytggkggaihfcjmaa
