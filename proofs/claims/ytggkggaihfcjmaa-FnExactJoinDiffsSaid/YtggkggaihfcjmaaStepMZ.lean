/-
  A multiset of rows as a map: what the map reads as, and what adding one difference makes of it. Steps of a region that draws its order: a load of a whole array, a look-up in a map, the entry of a map, the store into it.
-/
import Derived.Test.YtggkggaihfcjmaaMapE
import Derived.Test.YtggkggaihfcjmaaCoef
import Derived.Test.YtggkggaihfcjmaaJoinM
import Derived.Deep.RegionLaw
namespace Go.Proofs.Ytggkggaihfcjmaa
open Go.RowKit
set_option linter.unusedVariables false

theorem okG_fit {v : GV} (h : okG v = true) : v.fit := by
  have hs := okG_size h
  have hk : 1 ≤ v.k ∧ v.k ≤ 3 ∧ -1000000000 ≤ v.n ∧ v.n ≤ 1000000000 := by
    unfold okG valueOkB at h
    split at h
    · simp only [Bool.and_eq_true, decide_eq_true_eq] at h; omega
    · split at h
      · simp only [Bool.and_eq_true, decide_eq_true_eq] at h; omega
      · split at h
        · simp only [Bool.and_eq_true, decide_eq_true_eq] at h; omega
        · cases h
  refine ⟨WalkArith.wf_i64 (by omega), WalkArith.wf_i64 (by omega), by unfold maxLen; omega⟩
theorem okG_zero : okG zGV = false := by unfold okG valueOkB zGV; simp
theorem takeWhile_pad (p : GV → Bool) (z : GV) (hz : p z = false) (m : Nat) : ∀ r : List GV, (∀ v ∈ r, p v = true) → (r ++ List.replicate m z).takeWhile p = r
  | [], _ => by cases m <;> simp [List.replicate, hz]
  | v :: r, h => by
    rw [List.cons_append, List.takeWhile_cons, if_pos (h v List.mem_cons_self), takeWhile_pad p z hz m r (fun x hx => h x (List.mem_cons_of_mem _ hx))]
theorem rowOk_parts {r : List GV} (h : rowOkB r = true) : r.length ≤ 8 ∧ ∀ v ∈ r, okG v = true := by
  unfold rowOkB at h
  simp only [Bool.and_eq_true, decide_eq_true_eq, List.all_eq_true] at h
  exact ⟨h.2, h.1⟩
theorem pad_back {r : List GV} (h : rowOkB r = true) : (pad r).takeWhile okG = r := takeWhile_pad okG zGV okG_zero _ r (rowOk_parts h).2
theorem key_row {r : List GV} (h : rowOkB r = true) : keyOf Try.prog 83 (keyV r) = some (klOf r) := key_is (rowOk_parts h).1 (fun v hv => okG_fit ((rowOk_parts h).2 v hv))
theorem pad_inj {r r' : List GV} (h : rowOkB r = true) (h' : rowOkB r' = true) (e : pad r = pad r') : r = r' := by rw [← pad_back h, ← pad_back h', e]
theorem kl_inj {r r' : List GV} (h : rowOkB r = true) (h' : rowOkB r' = true) (e : klOf r = klOf r') : r = r' := by
  have h1 := keyK.inj (key_row h) (by rw [e]; exact key_row h')
  unfold keyV at h1
  simp only [Value.agg.injEq] at h1
  exact pad_inj h h' (flat_inj _ _ (by simpa using h1))
theorem kl_key {r : List GV} (h : rowOkB r = true) : WideAt.IsKeyLit (klOf r) := keyK.key (key_row h)
/-- The map's datum holds the sums of zs that are not 0. -/
structure MsD (D : DataW Unit) (zs : List GDiff) : Prop where
  has : ∀ r, rowOkB r = true → Maps.has D (klOf r) = decide (coef zs r ≠ 0)
  at_ : ∀ r, rowOkB r = true → D.atKey (klOf r) (.lit (.int .i64 0)) = .lit (.int .i64 (coef zs r))
  key : ∀ l, Maps.has D l = true → ∃ r, rowOkB r = true ∧ l = klOf r
theorem msD_nil : MsD (.map []) [] := ⟨fun r h => rfl, fun r h => rfl, fun l h => by cases h⟩
theorem coef_snoc (zs : List GDiff) (z : GDiff) (r : List GV) : coef (zs ++ [z]) r = coef zs r + if cmpR z.row r = 0 then z.count else 0 := by
  rw [coef_append, coef_cons, coef_nil, Int.add_zero]
theorem coef_snoc_same (zs : List GDiff) (z : GDiff) : coef (zs ++ [z]) z.row = coef zs z.row + z.count := by rw [coef_snoc, if_pos ((good_cmpR.eq _ _).2 rfl)]
theorem coef_snoc_other (zs : List GDiff) (z : GDiff) {r : List GV} (h : r ≠ z.row) : coef (zs ++ [z]) r = coef zs r := by rw [coef_snoc, if_neg (fun e => h ((good_cmpR.eq _ _).1 e).symm), Int.add_zero]
theorem MsD.put {D : DataW Unit} {zs : List GDiff} {z : GDiff} (h : MsD D zs) (hm : Maps.IsMap D) (hz : rowOkB z.row = true) (h0 : coef zs z.row + z.count ≠ 0) : MsD (D.put (klOf z.row) (.lit (.int .i64 (coef zs z.row + z.count)))) (zs ++ [z]) := by
  refine ⟨fun r hr => ?_, fun r hr => ?_, fun l hl => ?_⟩
  · by_cases e : r = z.row
    · subst e; rw [Maps.has_put_same hm (kl_key hz), coef_snoc_same]; simp [h0]
    · rw [Maps.has_put_other (fun e' => e (kl_inj hr hz e')), coef_snoc_other zs z e]; exact h.has r hr
  · by_cases e : r = z.row
    · subst e; rw [Maps.atKey_put_same hm (kl_key hz), coef_snoc_same]
    · rw [Maps.atKey_put_other (fun e' => e (kl_inj hr hz e')), coef_snoc_other zs z e]; exact h.at_ r hr
  · by_cases e : l = klOf z.row
    · exact ⟨z.row, hz, e⟩
    · rw [Maps.has_put_other e] at hl; exact h.key l hl
theorem MsD.del {D : DataW Unit} {zs : List GDiff} {z : GDiff} {d : DataW Unit} (h : MsD D zs) (hm : Maps.IsMap D) (hz : rowOkB z.row = true) (h0 : coef zs z.row + z.count = 0) : MsD ((D.put (klOf z.row) d).del (klOf z.row)) (zs ++ [z]) := by
  refine ⟨fun r hr => ?_, fun r hr => ?_, fun l hl => ?_⟩
  · by_cases e : r = z.row
    · subst e; rw [Maps.has_del_same, coef_snoc_same]; simp [h0]
    · rw [Maps.has_del_other (fun e' => e (kl_inj hr hz e')), Maps.has_put_other (fun e' => e (kl_inj hr hz e')), coef_snoc_other zs z e]; exact h.has r hr
  · by_cases e : r = z.row
    · subst e; rw [Maps.atKey_del_same, coef_snoc_same, h0]
    · rw [Maps.atKey_del_other (fun e' => e (kl_inj hr hz e')), Maps.atKey_put_other (fun e' => e (kl_inj hr hz e')), coef_snoc_other zs z e]; exact h.at_ r hr
  · by_cases e : l = klOf z.row
    · exact ⟨z.row, hz, e⟩
    · rw [Maps.has_del_other e, Maps.has_put_other e] at hl; exact h.key l hl
/-- A multiset in memory: block b, at most n entries. -/
def Ms (w : World) (b n : Nat) (zs : List GDiff) : Prop := ∃ D : DataW Unit, w.ownsMap Try.prog 83 (plainElem Try.prog 2) b n D ∧ MsD D zs
theorem Ms.kept {w w' : World} {b n : Nat} {zs : List GDiff} {row : Option Nat} (h : Ms w b n zs) (hg : w.grownBy w' row) (hne : some b ≠ row) : Ms w' b n zs := by
  obtain ⟨D, ho, hD⟩ := h; exact ⟨D, ho.kept hg hne, hD⟩
theorem Ms.lt {w : World} {b n : Nat} {zs : List GDiff} (h : Ms w b n zs) : b < w.heap.size := by obtain ⟨D, ho, hD⟩ := h; exact ho.lt
theorem ms_made (w : World) : Ms (w.alloc (.map #[] 0)) w.heap.size 0 [] := ⟨_, World.ownsMap_made w _ _ _, msD_nil⟩
theorem keyKL : WideMaps.KeyLaw Try.prog 83 := deep_law_laid laidOutP (m := 4) (by omega) keyRow keyDeep (by rw [keyArr])
theorem zero64 (u : World) : (zeroValue 2).run Try.prog u = .ok (.int .i64 0) u := by kernel_rfl
end Go.Proofs.Ytggkggaihfcjmaa
namespace Go.Proofs.Ytggkggaihfcjmaa
open Go.RowKit
set_option linter.unusedVariables false

theorem step_load_row {P : Program} {ops : Array Oper} {o : Oper} {a : Act} {W : World} {K : Act → World → Prop} {Q : Exit → Act → World → Prop} {E : Prop}
    (hg : o.guard = none) (ty : TypeId) (x : Operand) (hop : o.op = .load ty x) (g : Nat) (hx : a.eval x = .pointer (some ⟨g, 0, none⟩)) (t : TypeId) (cs : Array Value) (fr : Nat × Nat) (d : TypeDesc) (hW : W.heap[g]? = some (.cells cs t fr))
    (hu : P.underlying ty = some d) (hd : (match d with | .struct _ | .array _ _ => true | _ => false) = true) (hi : (P.info? ty).map (·.size) = some cs.size) (hK : K (a.put o.dst (.agg cs)) W) :
    if Region.wanted o (yielded ops a.tmps) = true then Oper.wp P o a W K Q else E := by
  have hw : Region.wanted o (yielded ops a.tmps) = true := by simp [Region.wanted, hg]
  rw [if_pos hw]
  exact wp_load_row ty x hop g hx t cs fr d hW hu hd hi hK
theorem step_lookup {P : Program} {ops : Array Oper} {o : Oper} {a : Act} {W : World} {K : Act → World → Prop} {Q : Exit → Act → World → Prop} {E : Prop}
    (hg : o.guard = none) (m x : Operand) (t : TypeId) (hop : o.op = .lookup t m x false) (mv key v : Value) (hm : a.eval m = mv) (hx : a.eval x = key) (hrun : (Instr.lookup t mv key false).run P W = .ok v W) (hK : K (a.put o.dst v) W) :
    if Region.wanted o (yielded ops a.tmps) = true then Oper.wp P o a W K Q else E := by
  have hw : Region.wanted o (yielded ops a.tmps) = true := by simp [Region.wanted, hg]
  rw [if_pos hw]
  unfold Oper.wp
  simp [execOp, hop, hm, hx, hrun, Result.andThen]
  exact hK
theorem step_entry {P : Program} {ops : Array Oper} {o : Oper} {a : Act} {W W1 : World} {K : Act → World → Prop} {Q : Exit → Act → World → Prop} {E : Prop}
    (hg : o.guard = none) (m x : Operand) (t : TypeId) (hop : o.op = .mapEntry t m x) (mv key v : Value) (hm : a.eval m = mv) (hx : a.eval x = key) (hrun : (Instr.mapEntry t mv key).run P W = .ok v W1) (hK : K (a.put o.dst v) W1) :
    if Region.wanted o (yielded ops a.tmps) = true then Oper.wp P o a W K Q else E := by
  have hw : Region.wanted o (yielded ops a.tmps) = true := by simp [Region.wanted, hg]
  rw [if_pos hw]
  unfold Oper.wp
  simp [execOp, hop, hm, hx, hrun, Result.andThen]
  exact hK
theorem step_estore {P : Program} {ops : Array Oper} {o : Oper} {a : Act} {W W1 : World} {K : Act → World → Prop} {Q : Exit → Act → World → Prop} {E : Prop}
    (hg : o.guard = none) (m s x : Operand) (t : TypeId) (hop : o.op = .entryStore t m s x) (mv st v : Value) (hm : a.eval m = mv) (hs : a.eval s = st) (hx : a.eval x = v) (hrun : (Instr.entryStore t mv st v).run P W = .ok () W1) (hK : K (a.put o.dst undef) W1) :
    if Region.wanted o (yielded ops a.tmps) = true then Oper.wp P o a W K Q else E := by
  have hw : Region.wanted o (yielded ops a.tmps) = true := by simp [Region.wanted, hg]
  rw [if_pos hw]
  unfold Oper.wp
  simp [execOp, hop, hm, hs, hx, hrun, Result.andThen]
  exact hK
theorem wpList_load_row {P : Program} {ops : Array Oper} {rest : List Oper} {o : Oper} {a : Act} {W : World} {Q : Exit → Act → World → Prop}
    (hg : o.guard = none) (ty : TypeId) (x : Operand) (hop : o.op = .load ty x) (g : Nat) (hx : a.eval x = .pointer (some ⟨g, 0, none⟩)) (t : TypeId) (cs : Array Value) (fr : Nat × Nat) (d : TypeDesc) (hW : W.heap[g]? = some (.cells cs t fr))
    (hu : P.underlying ty = some d) (hd : (match d with | .struct _ | .array _ _ => true | _ => false) = true) (hi : (P.info? ty).map (·.size) = some cs.size) (hK : wpList P ops Q rest (a.put o.dst (.agg cs)) W) : wpList P ops Q (o :: rest) a W :=
  wpList_plain hg fun K' hK' => wp_load_row ty x hop g hx t cs fr d hW hu hd hi (hK' _ _ hK)
theorem wpList_delete_run {P : Program} {ops : Array Oper} {rest : List Oper} {o : Oper} {a : Act} {W W1 : World} {Q : Exit → Act → World → Prop}
    (hg : o.guard = none) (m x : Operand) (t k : TypeId) (hop : o.op = Op.call { callee := Callee.builtin Builtin.delete, args := #[m, x], argTypes := #[t, k] }) (mv key : Value) (hm : a.eval m = mv) (hx : a.eval x = key)
    (hrun : (Builtin.delete_ #[t, k] o.type #[mv, key]).run P W = .ok (.tuple #[]) W1) (hK : wpList P ops Q rest (a.put o.dst (.tuple #[])) W1) : wpList P ops Q (o :: rest) a W := by
  refine wpList_plain hg fun K' hK' => ?_
  unfold Oper.wp
  simp [execOp, hop, resolve, invoke, builtin, hm, hx, hrun, Result.andThen]
  exact hK' _ _ hK
theorem infoKey : (Try.prog.info? 83).map (·.size) = some 24 := by kernel_rfl
end Go.Proofs.Ytggkggaihfcjmaa
