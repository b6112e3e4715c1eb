/-
  'm[k] = append(m[k], x)' on a map of slices of the call's own: the entry, what stands in it, the store into it.
-/
import Derived.Test.YtggkggaihfcjmaaStepMZ
namespace Go.Proofs.Ytggkggaihfcjmaa
open Go.RowKit Go.WideElems Go.WideShapes Go.ChangeShapes Go.ChangeMaps Go.MapKept
set_option linter.unusedVariables false

theorem owns_block {H : Type} {P : Program} {k : TypeId} {R : Value → Option (DataW H × List MemPlace)} {W W' : World} {b n : Nat} {D : DataW H} (h : W.ownsMap P k R b n D) (hb : W'.heap[b]? = W.heap[b]?) : W'.ownsMap P k R b n D := by
  obtain ⟨es, clock, h1, h2⟩ := h
  exact ⟨es, clock, hb.trans h1, h2⟩
theorem entry_app {H : Type} {P : Program} {k e t : TypeId} {R : Value → Option (DataW H × List MemPlace)} {W : World} {b n : Nat} {D : DataW H} (K : WideMaps.KeyLaw P k) (ht : P.underlying t = some (.map k e)) {z : Value} {zd : DataW H} {zp : List MemPlace}
    (hz : ∀ u : World, (zeroValue e).run P u = .ok z u) (hzd : R z = some (zd, zp)) (own : W.ownsMap P k R b n D) (hn : n < maxLen) {key : Value} {kl : Lit} (hkey : keyOf P k key = some kl) :
    ∃ (v0 : Value) (st : Nat) (W1 : World) (ps0 : List MemPlace), (Instr.mapEntry t (.map (some b)) key).run P W = .ok (.tuple #[v0, .int .i64 (st : Int)]) W1 ∧ R v0 = some (D.atKey kl zd, ps0) ∧ W.grownBy W1 (some b) ∧ (∃ es cl, W1.heap[b]? = some (.map es cl)) ∧
      ∀ (W2 : World) (val : Value) (d : DataW H) (ps : List MemPlace), W2.heap[b]? = W1.heap[b]? → R val = some (d, ps) → ∃ W3, (Instr.entryStore t (.map (some b)) (.int .i64 (st : Int)) val).run P W2 = .ok () W3 ∧ W3.ownsMap P k R b (n + 1) (D.put kl d) ∧ W2.grownBy W3 (some b) := by
  have K' := Maps.Keyed.of_law K
  obtain ⟨v, ps, hl, hv⟩ := own.lookup K' ht (hz W) hzd hkey
  have own' := own
  obtain ⟨es, clock, hb, F, hs, hD⟩ := own
  obtain ⟨v0, st, es1, clock1, hrun, hv0, hst⟩ := entry_then_store K ht hz hb F hkey
  have hg1 : W.grownBy (setBlock W b (.map es1 clock1)) (some b) := ⟨rfl, rfl, rfl, by simp [setBlock], fun i _ hi => heap_setBlock_other hb _ (fun e => hi (by rw [e]))⟩
  have hvv : v0 = v := by
    rcases K.find W hkey es.toList F.keys with ⟨h1, h2⟩ | ⟨j, e0, h1, h2, h3⟩
    · have r1 : (Instr.mapEntry t (.map (some b)) key).run P W = .ok (.tuple #[z, goInt clock]) (setBlock W b (.map (es.push ⟨key, z, clock⟩) (clock + 1))) := by
        simp [Instr.mapEntry, run_underlying ht, MapKept.run_getObj_map hb, K.check W false hkey, h1, hz, MapKept.run_setObj_map _ hb, Result.andThen, setBlock]
      have r2 : (Instr.lookup t (.map (some b)) key false).run P W = .ok z W := by
        simp [Instr.lookup, run_underlying ht, MapKept.run_getObj_map hb, K.check W _ hkey, h1, hz, Result.andThen]
      rw [r1] at hrun
      rw [r2] at hl
      have e1 := (Result.ok.inj hrun).1
      have e2 := (Result.ok.inj hl).1
      simp only [Value.tuple.injEq] at e1
      have e3 : z = v0 := by
        have := congrArg (fun a : Array Value => a[0]?) e1
        simpa using this
      rw [← e3, ← e2]
    · have hj : es[j]? = some e0 := by simpa using h2
      have r1 : ∃ st' W', (Instr.mapEntry t (.map (some b)) key).run P W = .ok (.tuple #[e0.val, st']) W' := by
        have hsame : es.modify j (fun e => { e with key := key }) = es := by
          apply Array.ext'
          rw [Array.toList_modify, modify_eq_set _ _ _ _ h2]
          have : ({ e0 with key := key } : MapEntry) = e0 := by rw [← h3]
          rw [this]
          exact WideElems.set_self _ _ _ h2
        exact ⟨_, setBlock W b (.map es clock), by
          simp [Instr.mapEntry, run_underlying ht, MapKept.run_getObj_map hb, K.check W false hkey, h1, hj, h3, K.stays W hkey, hsame, MapKept.run_setObj_map _ hb, Result.andThen, setBlock]
          rfl⟩
      obtain ⟨st', W', r1⟩ := r1
      have r2 : (Instr.lookup t (.map (some b)) key false).run P W = .ok e0.val W := by
        simp [Instr.lookup, run_underlying ht, MapKept.run_getObj_map hb, K.check W _ hkey, h1, Result.andThen]
      rw [r1] at hrun
      rw [r2] at hl
      have e1 := (Result.ok.inj hrun).1
      have e2 := (Result.ok.inj hl).1
      simp only [Value.tuple.injEq] at e1
      have e3 : e0.val = v0 := by
        have := congrArg (fun a : Array Value => a[0]?) e1
        simpa using this
      rw [← e3, ← e2]
  refine ⟨v0, st, _, ps, hrun, by rw [hvv]; exact hv, hg1, ⟨es1, clock1, heap_setBlock_same hb _⟩, fun W2 val d ps' hW2 hval => ?_⟩
  have hb2 : W2.heap[b]? = some (.map es1 clock1) := hW2.trans (heap_setBlock_same hb _)
  obtain ⟨es', clock', he1, hu1⟩ := hst W2 val hb2
  obtain ⟨w2, hu2, o2, _⟩ := own'.update K' ht hn hkey hval
  have e2 : w2 = setBlock W b (.map es' clock') := by rw [hu1] at hu2; exact (Result.ok.inj hu2).2.symm
  refine ⟨_, he1, ?_, ⟨rfl, rfl, rfl, by simp [setBlock], fun i _ hi => heap_setBlock_other hb2 _ (fun e => hi (by rw [e]))⟩⟩
  refine owns_block o2 ?_
  rw [heap_setBlock_same hb2, e2, heap_setBlock_same hb]
theorem wpList_entry {P : Program} {ops : Array Oper} {rest : List Oper} {o : Oper} {a : Act} {W W1 : World} {Q : Exit → Act → World → Prop}
    (hg : o.guard = none) (m x : Operand) (t : TypeId) (hop : o.op = .mapEntry t m x) (mv key v : Value) (hm : a.eval m = mv) (hx : a.eval x = key) (hrun : (Instr.mapEntry t mv key).run P W = .ok v W1) (hK : wpList P ops Q rest (a.put o.dst v) W1) : wpList P ops Q (o :: rest) a W := by
  refine wpList_plain hg fun K' hK' => ?_
  unfold Oper.wp
  simp [execOp, hop, hm, hx, hrun, Result.andThen]
  exact hK' _ _ hK
theorem wpList_estore {P : Program} {ops : Array Oper} {rest : List Oper} {o : Oper} {a : Act} {W W1 : World} {Q : Exit → Act → World → Prop}
    (hg : o.guard = none) (m s x : Operand) (t : TypeId) (hop : o.op = .entryStore t m s x) (mv st v : Value) (hm : a.eval m = mv) (hs : a.eval s = st) (hx : a.eval x = v) (hrun : (Instr.entryStore t mv st v).run P W = .ok () W1) (hK : wpList P ops Q rest (a.put o.dst undef) W1) : wpList P ops Q (o :: rest) a W := by
  refine wpList_plain hg fun K' hK' => ?_
  unfold Oper.wp
  simp [execOp, hop, hm, hs, hx, hrun, Result.andThen]
  exact hK' _ _ hK
/-- How an element that is a slice reads: as itself. -/
def sliceR (v : Value) : Option (DataW Unit × List MemPlace) :=
  match v with
  | .slice none 0 0 => some (.nil, [])
  | .slice (some ⟨g, 0, none⟩) m c => some (.slice [.lit (.int .i64 g), .lit (.int .i64 m), .lit (.int .i64 c)] [], [])
  | _ => none
theorem sliceR_nil : sliceR (.slice none 0 0) = some (.nil, []) := rfl
theorem sliceR_some (g m c : Nat) : sliceR (.slice (some ⟨g, 0, none⟩) m c) = some (.slice [.lit (.int .i64 g), .lit (.int .i64 m), .lit (.int .i64 c)] [], []) := rfl
theorem sliceR_inj {v v' : Value} {d : DataW Unit} {p p' : List MemPlace} (h : sliceR v = some (d, p)) (h' : sliceR v' = some (d, p')) : v = v' := by
  unfold sliceR at h h'
  split at h <;> split at h' <;> simp at h h'
  · rfl
  · obtain ⟨rfl, _⟩ := h; cases h'.1
  · obtain ⟨rfl, _⟩ := h; cases h'.1
  · obtain ⟨rfl, _⟩ := h
    have := h'.1
    simp at this
    obtain ⟨h1, h2, h3⟩ := this
    rw [Int.ofNat_inj.1 h1, Int.ofNat_inj.1 h2, Int.ofNat_inj.1 h3]
theorem sliceR_own {w : World} {base : Nat} {e : TypeId} {size n : Nat} {v : Value} {xs : List Value} (h : w.ownsRow base e size v n xs) : ∃ d, sliceR v = some (d, []) := by
  rcases h.2 with ⟨rfl, _⟩ | ⟨g, cap, cur, rfl, _⟩
  · exact ⟨_, rfl⟩
  · exact ⟨_, rfl⟩
end Go.Proofs.Ytggkggaihfcjmaa
