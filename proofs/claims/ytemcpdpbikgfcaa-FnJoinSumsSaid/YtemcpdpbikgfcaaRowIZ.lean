/-
  slices.SortFunc over differences whose rows are blocks of their own: the closure of impl.diffsOf, what the sort leaves. Steps of a region that draws its order: a load of a whole array, a look-up in a map, the entry of a map, the store into it. (rowKey).row.
-/
import Derived.Test.YtemcpdpbikgfcaaCmpGZ
import Derived.Test.YtemcpdpbikgfcaaNegSZ
import Derived.Test.YtemcpdpbikgfcaaCoef
import Derived.Test.YtemcpdpbikgfcaaShelf
import Derived.Test.YtemcpdpbikgfcaaCmpZ
import Derived.Deep.RegionLaw
import Derived.Test.YtemcpdpbikgfcaaTabOkSZ
import Derived.Laws.StructEq
import Derived.Lib.Strings
namespace Go.Proofs.Ytemcpdpbikgfcaa
open Go.RowKit Go.Sort Go.Shelf
set_option linter.unusedVariables false

theorem Grows.alloc {a b : World} (h : Grows a b) (o : Obj) : Grows a (b.alloc o) := ⟨h.1.alloc h.1.size _, h.2⟩
theorem sort_closureD (A A' : Option Addr) (c c' : Nat) (vs us : List GV) (n n' : Int) (w : World) (hr : RowAt w w.heap.size A vs) (hr' : RowAt w w.heap.size A' us) (hl : vs.length ≤ 1048576) (hl' : us.length ≤ 1048576) :
    Calls Try.prog 91 #[.agg #[.slice A vs.length c, .int .i64 n], .agg #[.slice A' us.length c', .int .i64 n']] w fun e w' => e = .returned (.int .i64 (cmpR vs us)) ∧ Grows w w' := by
  have hg : Grows w ((w.alloc (.cells #[.slice A vs.length c, .int .i64 n] 55)).alloc (.cells #[.slice A' us.length c', .int .i64 n'] 55)) := ((Grows.refl w).alloc _).alloc _
  have h1 := Lib.hid (hr.to_ hg.1)
  have h2 := Lib.hid (hr'.to_ hg.1)
  clear hr hr'
  go_enter Try.func91, Try.ntmps91
  go_wp2_with fail
  refine (impl_rows_d A A' c c' vs us _ h1.out h2.out hl hl').mono ?_
  rintro e w1 ⟨rfl, hb1⟩
  go_wp2_with fail
  go_ret
  exact ⟨rfl, hg.next hb1⟩
theorem sortK_block {α : Type} [Inhabited α] (enc : α → List Value) (k : Nat) (w : World) (g off m : Nat) (dk : Array α) (os : Array Obj) {i : Nat} (hi : i < w.heap.size) (hne : i ≠ g) : (sortWorldK enc k w g off m dk os).heap[i]? = w.heap[i]? := by
  unfold sortWorldK putRowK
  rw [heap_grow_old _ _ (by simpa using hi)]
  show (mapBlock (Sort.ahead w m) g _).heap[i]? = _
  simp only [mapBlock, Array.getElem?_modify]
  rw [if_neg (fun e => hne e.symm)]
  rfl
theorem sortK_own {α : Type} [Inhabited α] (enc : α → List Value) (k : Nat) (w : World) (g m : Nat) (dk : Array α) (os : Array Obj) {t : TypeId} {l : List Value} (h : Whole w g t l) (hl : dk.size * k ≤ l.length) : Whole (sortWorldK enc k w g 0 m dk os) g t ((flatK enc k dk).toList ++ l.drop (dk.size * k)) := by
  have hlt := h.lt
  unfold Whole sortWorldK putRowK at *
  rw [heap_grow_old _ _ (by simpa using hlt)]
  show (mapBlock (Sort.ahead w m) g _).heap[g]? = _
  simp only [mapBlock, Array.getElem?_modify, if_true, heap_ahead, h, Option.map_some, onCells]
  congr 2
  apply Array.ext_getElem?
  intro i
  simp only [putCells, Array.getElem?_mapIdx, List.getElem?_toArray]
  by_cases hi : i < dk.size * k
  · rw [List.getElem?_append_left (by simpa using hi), List.getElem?_eq_getElem (by omega)]
    simp [hi]
  · rw [List.getElem?_append_right (by simp; omega)]
    simp only [Array.length_toList, size_flatK, List.getElem?_drop]
    rw [show dk.size * k + (i - dk.size * k) = i by omega]
    cases l[i]? with
    | none => rfl
    | some x => simp [hi]
theorem sortK_grown {α : Type} [Inhabited α] (enc : α → List Value) (k : Nat) (w : World) (g off m : Nat) (dk : Array α) (os : Array Obj) : w.grownBy (sortWorldK enc k w g off m dk os) (some g) :=
  ⟨rfl, rfl, rfl, by simp [sortWorldK, putRowK, putRow, mapBlock], fun i hi hne => sortK_block enc k w g off m dk os hi (fun e => hne (by rw [e]))⟩
def dh0 : DH := ((none, 0), ⟨[], 0⟩)
def encP (ps : List DH) (i : Nat) : List Value := dhL (ps.getD i dh0)
def rowP (ps : List DH) (i : Nat) : List GV := (ps.getD i dh0).2.row
def cfP (ps : List DH) (i j : Nat) : Int := cmpR (rowP ps i) (rowP ps j)
theorem swo_P (ps : List DH) : SWO (ltOf (cfP ps)) where
  irrefl x := by unfold ltOf cfP; rw [(good_cmpR.eq _ _).2 rfl]; rfl
  trans x y z h1 h2 := by
    unfold ltOf cfP at *
    simp only [decide_eq_true_eq] at *
    exact good_cmpR.trans _ _ _ h1 h2
  ntrans x y z h1 h2 := by
    unfold ltOf cfP at *
    simp only [decide_eq_false_iff_not] at *
    intro h3
    have h4 := good_cmpR.anti (rowP ps x) (rowP ps y)
    by_cases h5 : cmpR (rowP ps y) (rowP ps x) < 0
    · exact h2 (good_cmpR.trans _ _ _ h5 h3)
    · have h6 : cmpR (rowP ps y) (rowP ps x) = 0 := by omega
      rw [(good_cmpR.eq _ _).1 h6] at h2
      exact h2 h3
theorem getD_mem {α : Type} {l : List α} {d : α} {i : Nat} (h : i < l.length) : l.getD i d ∈ l := by simp [List.getD, List.getElem?_eq_getElem h]
theorem rowW_at {B : Nat} {w w' : World} {p : DH} (h : RowW B w p) (hb : ∀ b, p.1.1 = some ⟨b, 0, none⟩ → b < w.heap.size → (∃ l, Whole w b 52 l) → w'.heap[b]? = w.heap[b]?) : RowAt w' w'.heap.size p.1.1 p.2.row := by
  rcases h with h | ⟨b, l, e, hB, hW⟩
  · exact .inl h
  · have h1 : Whole w' b 52 (flat p.2.row ++ l) := (hb b e hW.lt ⟨_, hW⟩).trans hW
    rw [e]
    refine .inr ⟨b, 0, rfl, h1.lt, fun i v hv => ?_⟩
    obtain ⟨h0, h2, h3⟩ := flat_at p.2.row i v hv
    have hi : i < p.2.row.length := (List.getElem?_eq_some_iff.1 hv).1
    have key : ∀ j, j < p.2.row.length * 3 → (flat p.2.row ++ l)[j]? = (flat p.2.row)[j]? := fun j hj => List.getElem?_append_left (by rw [flat_length]; exact hj)
    refine ⟨?_, ?_, ?_⟩ <;> rw [h1.cell, Nat.zero_add, key _ (by omega)] <;> assumption
theorem whole_ne {w : World} {g b : Nat} {l l' : List Value} (h : Whole w g 55 l) (h' : Whole w b 52 l') : b ≠ g := by
  intro e; subst e; unfold Whole at h h'; rw [h] at h'; cases h'
theorem cmp_laysD {B : Nat} (g : Nat) (ps : List DH) (l : List Value) (w : World) (hg : Whole w g 55 (flatH ps ++ l)) (h : ∀ p ∈ ps, RowW B w p) (hl : ∀ p ∈ ps, p.2.row.length ≤ 1048576) : CmpLays Try.prog 91 #[] (encP ps) 2 (cfP ps) g 0 ps.length w := by
  intro m os dk hs x y
  have hrow : ∀ i, RowAt (sortWorldK (encP ps) 2 w g 0 m dk os) (sortWorldK (encP ps) 2 w g 0 m dk os).heap.size (ps.getD i dh0).1.1 (rowP ps i) := by
    intro i
    unfold rowP
    rcases Nat.lt_or_ge i ps.length with hi | hi
    · exact rowW_at (h _ (getD_mem hi)) (fun b _ hlt ⟨l', hW⟩ => sortK_block _ _ _ _ _ _ _ _ hlt (whole_ne hg hW))
    · exact .inl (by simp [List.getD, List.getElem?_eq_none hi, dh0])
  have hlen : ∀ i, (rowP ps i).length ≤ 1048576 := by
    intro i
    unfold rowP
    rcases Nat.lt_or_ge i ps.length with hi | hi
    · exact hl _ (getD_mem hi)
    · simp [List.getD, List.getElem?_eq_none hi, dh0]
  exact (sort_closureD _ _ _ _ (rowP ps x) (rowP ps y) _ _ _ (hrow x) (hrow y) (hlen x) (hlen y)).mono fun e w' ⟨he, hg⟩ => ⟨he, hg.out⟩
theorem dhL_get (p : DH) (j : Nat) (hj : j < 2) : (dhL p)[j]? = some (dhL p)[j]! := by
  match j, hj with
  | 0, _ => rfl
  | 1, _ => rfl
theorem flatH_get (ps : List DH) (j : Nat) (hj : j < ps.length * 2) : (flatH ps)[j]? = some (dhL (ps.getD (j / 2) dh0))[j % 2]! := by
  have hi : j / 2 < ps.length := by omega
  obtain ⟨f0, f1⟩ := flatH_at ps (j / 2) ps[j / 2] (List.getElem?_eq_getElem hi)
  have hd : ps.getD (j / 2) dh0 = ps[j / 2] := by simp [List.getD, List.getElem?_eq_getElem hi]
  rw [hd]
  rcases Nat.mod_two_eq_zero_or_one j with h0 | h1
  · rw [h0]
    rw [show j / 2 * 2 = j by omega] at f0
    exact f0
  · rw [h1]
    rw [show j / 2 * 2 + 1 = j by omega] at f1
    exact f1
theorem flatK_H (ps : List DH) (d : Array Nat) : (flatK (encP ps) 2 d).toList = flatH (d.toList.map fun i => ps.getD i dh0) := by
  apply List.ext_getElem?
  intro j
  by_cases hj : j < d.size * 2
  · rw [flatH_get _ j (by simpa using hj)]
    have h1 := get_flatK (encP ps) 2 d j hj
    rw [Array.getElem?_toList, Array.getElem?_eq_getElem (by simpa using hj)]
    rw [getElem!_pos (flatK (encP ps) 2 d) j (by simpa using hj)] at h1
    rw [h1]
    have h2 : j / 2 < d.size := by omega
    unfold encP
    simp [List.getD, h2]
  · rw [List.getElem?_eq_none (by simpa using hj), List.getElem?_eq_none (by rw [flatH_length]; simpa using hj)]
/-- What the sort leaves. -/
def SortPostD (w : World) (g : Nat) (ps : List DH) (l : List Value) (e : Ending) (w' : World) : Prop :=
  e = .returned (.tuple #[]) ∧ ∃ qs : List DH, qs.Perm ps ∧ qs.Pairwise (fun a b => cmpR a.2.row b.2.row ≤ 0) ∧ Whole w' g 55 (flatH qs ++ l) ∧ w.grownBy w' (some g)
theorem range_getDH (ps : List DH) : (List.range ps.length).map (fun i => ps.getD i dh0) = ps := by
  apply List.ext_getElem
  · simp
  · intro i h1 h2
    simp [List.getD, List.getElem?_eq_getElem h2]
theorem sort_diffs {B : Nat} (g cap : Nat) (ps : List DH) (l : List Value) (w : World) (hg : Whole w g 55 (flatH ps ++ l)) (h : ∀ p ∈ ps, RowW B w p) (hl : ∀ p ∈ ps, p.2.row.length ≤ 1048576) (hn : ps.length ≤ 3000) :
    Calls Try.prog 90 #[.slice (some ⟨g, 0, none⟩) ps.length cap, .func (.func 91) #[] #[]] w (SortPostD w g ps l) := by
  have eg : ∀ args w, (callFunc 91 args).run Try.prog w = .ok (.enter 91 args) w := enters_of Try.func91 (by kernel_rfl) rfl
  have hd : (Array.range ps.length).size = ps.length := by simp
  have hH : HoldsK (encP ps) 2 w g 0 (Array.range ps.length) := by
    intro j hj
    rw [size_flatK, hd] at hj
    refine ⟨?_, hg.frozen _⟩
    rw [hg.cell, Nat.zero_add, List.getElem?_append_left (by rw [flatH_length]; exact hj), flatH_get ps j hj, get_flatK _ _ _ _ (by rw [hd]; exact hj)]
    have h2 : j / 2 < ps.length := by omega
    simp [encP, h2, getElem!_pos]
  have hcon := AnyQ.slices_SortFunc (α := Nat) Try.sortL 2 Try.isAgg55 Try.sizeOf55 (encP ps) (fun _ => rfl) (fun x => dhL_one _) (cfP ps) (swo_P ps) 91 #[] g 0 cap (Array.range ps.length) w eg (by rw [hd]; exact cmp_laysD g ps l w hg h hl) hH hg.lt (by rw [hd]; omega)
  rw [hd] at hcon
  refine Calls.mono hcon fun e w' he => ?_
  obtain ⟨rfl, d', n, os, hp, hs, rfl⟩ := he
  obtain ⟨hp1, hp2, hp3⟩ := hp
  rw [hd] at hp1
  have e1 : d'.extract 0 ps.length = d' := by rw [← hp1]; simp
  have e2 : (Array.range ps.length).extract 0 ps.length = Array.range ps.length := by rw [show ps.length = (Array.range ps.length).size by simp]; simp
  rw [e1, e2, Array.toList_range] at hp3
  have hq : (d'.toList.map fun i => ps.getD i dh0).Perm ps := by
    have := hp3.map (fun i => ps.getD i dh0)
    rwa [range_getDH] at this
  refine ⟨rfl, d'.toList.map (fun i => ps.getD i dh0), hq, ?_, ?_, sortK_grown _ _ _ _ _ _ _ _⟩
  · rw [List.pairwise_map, List.pairwise_iff_getElem]
    intro i j hi hj hij
    have h1 := hs i j (Nat.zero_le _) hij (by simpa [hp1] using hj)
    rw [getElem!_pos d' i (by simpa using hi), getElem!_pos d' j (by simpa using hj)] at h1
    unfold ltOf cfP at h1
    simp only [decide_eq_false_iff_not] at h1
    have h2 := good_cmpR.anti (rowP ps d'[i]) (rowP ps d'[j])
    show cmpR (rowP ps d'.toList[i]) (rowP ps d'.toList[j]) ≤ 0
    simp only [Array.getElem_toList]
    omega
  · have := sortK_own (encP ps) 2 w g n d' os hg (by rw [List.length_append, flatH_length, hp1]; omega)
    rw [flatK_H, List.drop_append_of_le_length (by rw [flatH_length, hp1]; exact Nat.le_refl _), List.drop_eq_nil_of_le (by rw [flatH_length, hp1]; exact Nat.le_refl _), List.nil_append] at this
    exact this
end Go.Proofs.Ytemcpdpbikgfcaa
namespace Go.Proofs.Ytemcpdpbikgfcaa
open Go.RowKit
set_option linter.unusedVariables false

theorem step_load_row {P : Program} {ops : Array Oper} {o : Oper} {a : Act} {W : World} {K : Act → World → Prop} {Q : Exit → Act → World → Prop} {E : Prop}
    (hg : o.guard = none) (ty : TypeId) (x : Operand) (hop : o.op = .load ty x) (g : Nat) (hx : a.eval x = .pointer (some ⟨g, 0, none⟩)) (t : TypeId) (cs : Array Value) (fr : Nat × Nat) (d : TypeDesc) (hW : W.heap[g]? = some (.cells cs t fr))
    (hu : P.underlying ty = some d) (hd : (match d with | .struct _ | .array _ _ => true | _ => false) = true) (hi : (P.info? ty).map (·.size) = some cs.size) (hK : K (a.put o.dst (.agg cs)) W) :
    if Region.wanted o (yielded ops a.tmps) = true then Oper.wp P o a W K Q else E := by
  have hw : Region.wanted o (yielded ops a.tmps) = true := by simp [Region.wanted, hg]
  rw [if_pos hw]
  exact wp_load_row ty x hop g hx t cs fr d hW hu hd hi hK
theorem step_lookup {P : Program} {ops : Array Oper} {o : Oper} {a : Act} {W : World} {K : Act → World → Prop} {Q : Exit → Act → World → Prop} {E : Prop}
    (hg : o.guard = none) (m x : Operand) (t : TypeId) (hop : o.op = .lookup t m x false) (mv key v : Value) (hm : a.eval m = mv) (hx : a.eval x = key) (hrun : (Instr.lookup t mv key false).run P W = .ok v W) (hK : K (a.put o.dst v) W) :
    if Region.wanted o (yielded ops a.tmps) = true then Oper.wp P o a W K Q else E := by
  have hw : Region.wanted o (yielded ops a.tmps) = true := by simp [Region.wanted, hg]
  rw [if_pos hw]
  unfold Oper.wp
  simp [execOp, hop, hm, hx, hrun, Result.andThen]
  exact hK
theorem step_entry {P : Program} {ops : Array Oper} {o : Oper} {a : Act} {W W1 : World} {K : Act → World → Prop} {Q : Exit → Act → World → Prop} {E : Prop}
    (hg : o.guard = none) (m x : Operand) (t : TypeId) (hop : o.op = .mapEntry t m x) (mv key v : Value) (hm : a.eval m = mv) (hx : a.eval x = key) (hrun : (Instr.mapEntry t mv key).run P W = .ok v W1) (hK : K (a.put o.dst v) W1) :
    if Region.wanted o (yielded ops a.tmps) = true then Oper.wp P o a W K Q else E := by
  have hw : Region.wanted o (yielded ops a.tmps) = true := by simp [Region.wanted, hg]
  rw [if_pos hw]
  unfold Oper.wp
  simp [execOp, hop, hm, hx, hrun, Result.andThen]
  exact hK
theorem step_estore {P : Program} {ops : Array Oper} {o : Oper} {a : Act} {W W1 : World} {K : Act → World → Prop} {Q : Exit → Act → World → Prop} {E : Prop}
    (hg : o.guard = none) (m s x : Operand) (t : TypeId) (hop : o.op = .entryStore t m s x) (mv st v : Value) (hm : a.eval m = mv) (hs : a.eval s = st) (hx : a.eval x = v) (hrun : (Instr.entryStore t mv st v).run P W = .ok () W1) (hK : K (a.put o.dst undef) W1) :
    if Region.wanted o (yielded ops a.tmps) = true then Oper.wp P o a W K Q else E := by
  have hw : Region.wanted o (yielded ops a.tmps) = true := by simp [Region.wanted, hg]
  rw [if_pos hw]
  unfold Oper.wp
  simp [execOp, hop, hm, hs, hx, hrun, Result.andThen]
  exact hK
theorem wpList_load_row {P : Program} {ops : Array Oper} {rest : List Oper} {o : Oper} {a : Act} {W : World} {Q : Exit → Act → World → Prop}
    (hg : o.guard = none) (ty : TypeId) (x : Operand) (hop : o.op = .load ty x) (g : Nat) (hx : a.eval x = .pointer (some ⟨g, 0, none⟩)) (t : TypeId) (cs : Array Value) (fr : Nat × Nat) (d : TypeDesc) (hW : W.heap[g]? = some (.cells cs t fr))
    (hu : P.underlying ty = some d) (hd : (match d with | .struct _ | .array _ _ => true | _ => false) = true) (hi : (P.info? ty).map (·.size) = some cs.size) (hK : wpList P ops Q rest (a.put o.dst (.agg cs)) W) : wpList P ops Q (o :: rest) a W :=
  wpList_plain hg fun K' hK' => wp_load_row ty x hop g hx t cs fr d hW hu hd hi (hK' _ _ hK)
theorem wpList_delete_run {P : Program} {ops : Array Oper} {rest : List Oper} {o : Oper} {a : Act} {W W1 : World} {Q : Exit → Act → World → Prop}
    (hg : o.guard = none) (m x : Operand) (t k : TypeId) (hop : o.op = Op.call { callee := Callee.builtin Builtin.delete, args := #[m, x], argTypes := #[t, k] }) (mv key : Value) (hm : a.eval m = mv) (hx : a.eval x = key)
    (hrun : (Builtin.delete_ #[t, k] o.type #[mv, key]).run P W = .ok (.tuple #[]) W1) (hK : wpList P ops Q rest (a.put o.dst (.tuple #[])) W1) : wpList P ops Q (o :: rest) a W := by
  refine wpList_plain hg fun K' hK' => ?_
  unfold Oper.wp
  simp [execOp, hop, resolve, invoke, builtin, hm, hx, hrun, Result.andThen]
  exact hK' _ _ hK
theorem infoKey : (Try.prog.info? 83).map (·.size) = some 24 := by kernel_rfl
end Go.Proofs.Ytemcpdpbikgfcaa
namespace Go.Proofs.Ytemcpdpbikgfcaa
open Go.RowKit Go.Shelf
set_option linter.unusedVariables false

theorem heldVk : Try.prog.stoodInHeld 52 = false := by kernel_rfl
theorem structVk : Try.prog.underlying 52 = some (.struct (Try.prog.fieldsOf 52)) := by kernel_rfl
def encG (v : GV) : List Value := [.int .i64 v.k, .int .i64 v.n, .string v.t]
def eqG (x y : GV) : Bool := x.k == y.k && x.n == y.n && x.t.toList == y.t.toList
instance inhabitedG : Inhabited GV := ⟨zGV⟩
theorem eqlG : EqlAt Try.prog 52 (fun x => .agg (encG x).toArray) eqG := by
  refine ⟨fun x y w => ?_, GuardAt.agg _ (by kernel_rfl)⟩
  have u3 := Try.underlying2
  have a3 := Try.isAgg2
  have z3 := Try.sizeOf2
  have u9 := Try.underlying9
  have a9 := Try.isAgg9
  have z9 := Try.sizeOf9
  simp only [encG, eqG]
  rw [run_eql_struct, show (10000 : Nat) = 9999 + 1 from rfl, run_equalIn_agg w 9999 52 _ _ structVk heldVk]
  simp only [Program.fieldsOf, Try.underlying52]
  go_simp
  by_cases h1 : x.k = y.k <;> by_cases h2 : x.n = y.n <;> by_cases h3 : x.t.toList = y.t.toList <;> simp [h1, h2, h3]
theorem eqG_ok {v : GV} (h : okG v = true) : eqG zGV v = false := by
  have hk : v.k ≠ 0 := by
    intro e
    unfold okG valueOkB at h
    rw [e] at h
    simp at h
  unfold eqG zGV
  simp; intro e; exact absurd e.symm hk
theorem idx_skip : ∀ (r t : List GV) (i : Nat), (∀ v ∈ r, eqG zGV v = false) → Lib.idxByFrom eqG zGV (r ++ t) i = Lib.idxByFrom eqG zGV t (i + r.length)
  | [], t, i, _ => by simp
  | v :: r, t, i, h => by
    rw [List.cons_append, Lib.idxByFrom, h v List.mem_cons_self]
    simp only [Bool.false_eq_true, if_false]
    rw [idx_skip r t (i + 1) (fun x hx => h x (List.mem_cons_of_mem _ hx)), List.length_cons]
    congr 1; omega
/-- What slices.Index finds in a row's key. -/
def wideI (r : List GV) : Int := if r.length < 8 then (r.length : Int) else -1
theorem idx_pad {r : List GV} (h : rowOkB r = true) : Lib.idxBy eqG (pad r) zGV = wideI r := by
  unfold Lib.idxBy pad wideI
  rw [idx_skip r _ 0 (fun v hv => eqG_ok ((rowOk_parts h).2 v hv)), Nat.zero_add]
  have hl := (rowOk_parts h).1
  by_cases h8 : r.length < 8
  · rw [if_pos h8]
    obtain ⟨m, hm⟩ : ∃ m, 8 - r.length = m + 1 := ⟨7 - r.length, by omega⟩
    rw [hm, List.replicate_succ, Lib.idxByFrom]
    simp [eqG]
  · rw [if_neg h8]
    have : 8 - r.length = 0 := by omega
    rw [this]; rfl
theorem flat_enc (r : List GV) (j : Nat) (hj : j < r.length) (i : Nat) (v : Value) (h : (encG r[j]!)[i]? = some v) : (flat r)[j * 3 + i]? = some v := by
  obtain ⟨f0, f1, f2⟩ := flat_at r j r[j] (List.getElem?_eq_getElem hj)
  rw [getElem!_pos r j hj] at h
  unfold encG at h
  match i, h with
  | 0, h => simp at h; subst h; exact f0
  | 1, h => simp at h; subst h; exact f1
  | 2, h => simp at h; subst h; exact f2
theorem slice_key (g m : Nat) (W : World) (hm : m ≤ 8) : (Instr.sliceAt 83 (.pointer (some ⟨g, 0, none⟩)) none (some (.int .i64 (m : Int))) none).run Try.prog W = .ok (.slice (some ⟨g, 0, none⟩) m 8) W := by
  simp [Instr.sliceAt, run_underlying keyArr, Instr.sureAddr, Instr.sliceBounds, Result.andThen, Addr.add]
  rw [run_sliceBound (P := Try.prog) W .i64 (m : Int) 8 _ (by omega) (by omega)]
  simp
theorem below_drewN {B : Nat} {a b : World} (h : Below B a b) (q : Nat) : Below B a (b.drewN q) := ⟨h.os, h.tape, h.output, h.size, h.block⟩
theorem index_key (b : Nat) (r : List GV) (w : World) (hW : Whole w b 83 (flat (pad r))) (h : rowOkB r = true) :
    Calls Try.prog 102 #[.slice (some ⟨b, 0, none⟩) 8 8, .agg #[.int .i64 0, .int .i64 0, .string ⟨#[]⟩]] w fun e w' => e = .returned (.int .i64 (wideI r)) ∧ Below w.heap.size w w' := by
  have hp := pad_length (rowOk_parts h).1
  have hcon := AnyQ.slices_Index (α := GV) Try.indexL 3 Try.isAgg52 Try.sizeOf52 encG (fun _ => rfl) eqG eqlG b 0 8 8 (pad r) zGV w (by omega) (by omega) (fun j hj i v hv => by
    rw [hW.cell, Nat.zero_add]
    exact flat_enc (pad r) j hj i v hv)
  rw [List.take_of_length_le (by omega), idx_pad h] at hcon
  refine Calls.mono hcon fun e w' he => ?_
  obtain ⟨rfl, q, rfl⟩ := he
  exact ⟨rfl, below_drewN ((Below.refl _ _).alloc (Nat.le_refl _) _) q⟩
theorem Whole.front {w : World} {B g : Nat} {t : TypeId} {vs : List GV} {l : List Value} (h : Whole w g t (flat vs ++ l)) (hg : g < B) : RowAt w B (some ⟨g, 0, none⟩) vs := by
  refine .inr ⟨g, 0, rfl, hg, fun i v hv => ?_⟩
  obtain ⟨h0, h1, h2⟩ := flat_at vs i v hv
  have hi : i < vs.length := (List.getElem?_eq_some_iff.1 hv).1
  have key : ∀ j, j < vs.length * 3 → (flat vs ++ l)[j]? = (flat vs)[j]? := fun j hj => List.getElem?_append_left (by rw [flat_length]; exact hj)
  refine ⟨?_, ?_, ?_⟩ <;> rw [h.cell, Nat.zero_add, key _ (by omega)] <;> assumption
/-- What (rowKey).row leaves. -/
def RowPost (w : World) (r : List GV) (e : Ending) (w' : World) : Prop :=
  ∃ g, e = .returned (.slice (some ⟨g, 0, none⟩) r.length r.length) ∧ w.heap.size ≤ g ∧ Whole w' g 52 (flat r) ∧ Below w.heap.size w w'
set_option maxRecDepth 100000 in
set_option maxHeartbeats 1600000 in
theorem row_of (r : List GV) (w : World) (h : rowOkB r = true) :
    Calls Try.prog 89 #[keyV r] w (RowPost w r) := by
  have hr := rowOk_parts h
  have hB0 : Below w.heap.size w (w.alloc (.cells (flat (pad r)).toArray 83)) := (Below.refl _ _).alloc (Nat.le_refl _) _
  have HW := Lib.hid (Whole.new w 83 (flat (pad r)))
  have hsz : ∀ v ∈ r, v.t.size ≤ 1048576 := fun v hv => Nat.le_trans (okG_size (hr.2 v hv)) (by omega)
  have HSZ := Lib.hid hsz
  have hl := hr.1
  clear hsz hr
  unfold keyV
  go_enter Try.func89, Try.ntmps89
  go_wp2_with fail
  refine (index_key w.heap.size r _ HW.out h).mono ?_
  rintro e w1 ⟨rfl, hb1⟩
  have hB1 : Below w.heap.size w w1 := below_next hB0 hb1 rfl rfl
  have hW1 := HW.out.below hb1 HW.out.lt
  have hr1 : RowAt w1 w1.heap.size (some ⟨w.heap.size, 0, none⟩) r := by
    have e : flat (pad r) = flat r ++ flat (List.replicate (8 - r.length) zGV) := flat_append _ _
    rw [e] at hW1
    exact hW1.front hW1.lt
  have HR1 := Lib.hid hr1
  clear hr1 hW1 hB0 hb1
  by_cases h8 : r.length < 8
  · have hw : wideI r = (r.length : Int) := by unfold wideI; rw [if_pos h8]
    rw [hw]
    clear hw
    have hx : ¬ ((r.length : Int) < 0) := by omega
    have hsl := slice_key w.heap.size r.length w1 hl
    go_wp2_with fail
    clear hsl
    refine (copy_row (some ⟨w.heap.size, 0, none⟩) 8 r w1 HR1.out (by omega) HSZ.out).mono ?_
    rintro e w2 ⟨rfl, hW2, hb2⟩
    go_wp2_with fail
    go_ret
    exact ⟨w1.heap.size, rfl, hB1.size, hW2, below_next hB1 hb2 rfl rfl⟩
  · have hw : wideI r = -1 := by unfold wideI; rw [if_neg h8]
    rw [hw]
    clear hw
    have h9 : r.length = 8 := by omega
    have hcr := copy_row (some ⟨w.heap.size, 0, none⟩) 8 r w1 HR1.out (by omega) HSZ.out
    rw [h9] at hcr
    have H9 := Lib.hid h9
    clear h9 hl h8
    have hsl : (Instr.sliceAt 83 (.pointer (some ⟨w.heap.size, 0, none⟩)) none (some (.int .i64 8)) none).run Try.prog w1 = .ok (.slice (some ⟨w.heap.size, 0, none⟩) 8 8) w1 := slice_key w.heap.size 8 w1 (by omega)
    go_wp2_with fail
    clear hsl
    refine hcr.mono ?_
    rintro e w2 ⟨rfl, hW2, hb2⟩
    clear hcr
    rw [H9.out]
    go_wp2_with fail
    go_ret
    exact ⟨w1.heap.size, by rw [H9.out]; rfl, hB1.size, hW2, below_next hB1 hb2 rfl rfl⟩
end Go.Proofs.Ytemcpdpbikgfcaa
