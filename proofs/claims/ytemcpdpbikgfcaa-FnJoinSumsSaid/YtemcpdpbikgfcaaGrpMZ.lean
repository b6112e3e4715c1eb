/-
  'm[k] = append(m[k], x)' on a map of slices of the call's own: the entry, what stands in it, the store into it. Differences in groups by the first values of their rows: a map of slices.
-/
import Derived.Test.YtemcpdpbikgfcaaRowIZ
import Derived.Test.YtemcpdpbikgfcaaTabHeadZ
import Derived.Maps.AppendAt
namespace Go.Proofs.Ytemcpdpbikgfcaa
open Go.RowKit Go.WideElems Go.WideShapes Go.ChangeShapes Go.ChangeMaps Go.MapKept
set_option linter.unusedVariables false

theorem owns_block {H : Type} {P : Program} {k : TypeId} {R : Value → Option (DataW H × List MemPlace)} {W W' : World} {b n : Nat} {D : DataW H} (h : W.ownsMap P k R b n D) (hb : W'.heap[b]? = W.heap[b]?) : W'.ownsMap P k R b n D := by
  obtain ⟨es, clock, h1, h2⟩ := h
  exact ⟨es, clock, hb.trans h1, h2⟩
theorem entry_app {H : Type} {P : Program} {k e t : TypeId} {R : Value → Option (DataW H × List MemPlace)} {W : World} {b n : Nat} {D : DataW H} (K : WideMaps.KeyLaw P k) (ht : P.underlying t = some (.map k e)) {z : Value} {zd : DataW H} {zp : List MemPlace}
    (hz : ∀ u : World, (zeroValue e).run P u = .ok z u) (hzd : R z = some (zd, zp)) (own : W.ownsMap P k R b n D) (hn : n < maxLen) {key : Value} {kl : Lit} (hkey : keyOf P k key = some kl) :
    ∃ (v0 : Value) (st : Nat) (W1 : World) (ps0 : List MemPlace), (Instr.mapEntry t (.map (some b)) key).run P W = .ok (.tuple #[v0, .int .i64 (st : Int)]) W1 ∧ R v0 = some (D.atKey kl zd, ps0) ∧ W.grownBy W1 (some b) ∧ (∃ es cl, W1.heap[b]? = some (.map es cl)) ∧
      ∀ (W2 : World) (val : Value) (d : DataW H) (ps : List MemPlace), W2.heap[b]? = W1.heap[b]? → R val = some (d, ps) → ∃ W3, (Instr.entryStore t (.map (some b)) (.int .i64 (st : Int)) val).run P W2 = .ok () W3 ∧ W3.ownsMap P k R b (n + 1) (D.put kl d) ∧ W2.grownBy W3 (some b) := by
  have K' := Maps.Keyed.of_law K
  obtain ⟨v, ps, hl, hv⟩ := own.lookup K' ht (hz W) hzd hkey
  have own' := own
  obtain ⟨es, clock, hb, F, hs, hD⟩ := own
  obtain ⟨v0, st, es1, clock1, hrun, hv0, hst⟩ := entry_then_store K ht hz hb F hkey
  have hg1 : W.grownBy (setBlock W b (.map es1 clock1)) (some b) := ⟨rfl, rfl, rfl, by simp [setBlock], fun i _ hi => heap_setBlock_other hb _ (fun e => hi (by rw [e]))⟩
  have hvv : v0 = v := by
    rcases K.find W hkey es.toList F.keys with ⟨h1, h2⟩ | ⟨j, e0, h1, h2, h3⟩
    · have r1 : (Instr.mapEntry t (.map (some b)) key).run P W = .ok (.tuple #[z, goInt clock]) (setBlock W b (.map (es.push ⟨key, z, clock⟩) (clock + 1))) := by
        simp [Instr.mapEntry, run_underlying ht, MapKept.run_getObj_map hb, K.check W false hkey, h1, hz, MapKept.run_setObj_map _ hb, Result.andThen, setBlock]
      have r2 : (Instr.lookup t (.map (some b)) key false).run P W = .ok z W := by
        simp [Instr.lookup, run_underlying ht, MapKept.run_getObj_map hb, K.check W _ hkey, h1, hz, Result.andThen]
      rw [r1] at hrun
      rw [r2] at hl
      have e1 := (Result.ok.inj hrun).1
      have e2 := (Result.ok.inj hl).1
      simp only [Value.tuple.injEq] at e1
      have e3 : z = v0 := by
        have := congrArg (fun a : Array Value => a[0]?) e1
        simpa using this
      rw [← e3, ← e2]
    · have hj : es[j]? = some e0 := by simpa using h2
      have r1 : ∃ st' W', (Instr.mapEntry t (.map (some b)) key).run P W = .ok (.tuple #[e0.val, st']) W' := by
        have hsame : es.modify j (fun e => { e with key := key }) = es := by
          apply Array.ext'
          rw [Array.toList_modify, modify_eq_set _ _ _ _ h2]
          have : ({ e0 with key := key } : MapEntry) = e0 := by rw [← h3]
          rw [this]
          exact WideElems.set_self _ _ _ h2
        exact ⟨_, setBlock W b (.map es clock), by
          simp [Instr.mapEntry, run_underlying ht, MapKept.run_getObj_map hb, K.check W false hkey, h1, hj, h3, K.stays W hkey, hsame, MapKept.run_setObj_map _ hb, Result.andThen, setBlock]
          rfl⟩
      obtain ⟨st', W', r1⟩ := r1
      have r2 : (Instr.lookup t (.map (some b)) key false).run P W = .ok e0.val W := by
        simp [Instr.lookup, run_underlying ht, MapKept.run_getObj_map hb, K.check W _ hkey, h1, Result.andThen]
      rw [r1] at hrun
      rw [r2] at hl
      have e1 := (Result.ok.inj hrun).1
      have e2 := (Result.ok.inj hl).1
      simp only [Value.tuple.injEq] at e1
      have e3 : e0.val = v0 := by
        have := congrArg (fun a : Array Value => a[0]?) e1
        simpa using this
      rw [← e3, ← e2]
  refine ⟨v0, st, _, ps, hrun, by rw [hvv]; exact hv, hg1, ⟨es1, clock1, heap_setBlock_same hb _⟩, fun W2 val d ps' hW2 hval => ?_⟩
  have hb2 : W2.heap[b]? = some (.map es1 clock1) := hW2.trans (heap_setBlock_same hb _)
  obtain ⟨es', clock', he1, hu1⟩ := hst W2 val hb2
  obtain ⟨w2, hu2, o2, _⟩ := own'.update K' ht hn hkey hval
  have e2 : w2 = setBlock W b (.map es' clock') := by rw [hu1] at hu2; exact (Result.ok.inj hu2).2.symm
  refine ⟨_, he1, ?_, ⟨rfl, rfl, rfl, by simp [setBlock], fun i _ hi => heap_setBlock_other hb2 _ (fun e => hi (by rw [e]))⟩⟩
  refine owns_block o2 ?_
  rw [heap_setBlock_same hb2, e2, heap_setBlock_same hb]
theorem wpList_entry {P : Program} {ops : Array Oper} {rest : List Oper} {o : Oper} {a : Act} {W W1 : World} {Q : Exit → Act → World → Prop}
    (hg : o.guard = none) (m x : Operand) (t : TypeId) (hop : o.op = .mapEntry t m x) (mv key v : Value) (hm : a.eval m = mv) (hx : a.eval x = key) (hrun : (Instr.mapEntry t mv key).run P W = .ok v W1) (hK : wpList P ops Q rest (a.put o.dst v) W1) : wpList P ops Q (o :: rest) a W := by
  refine wpList_plain hg fun K' hK' => ?_
  unfold Oper.wp
  simp [execOp, hop, hm, hx, hrun, Result.andThen]
  exact hK' _ _ hK
theorem wpList_estore {P : Program} {ops : Array Oper} {rest : List Oper} {o : Oper} {a : Act} {W W1 : World} {Q : Exit → Act → World → Prop}
    (hg : o.guard = none) (m s x : Operand) (t : TypeId) (hop : o.op = .entryStore t m s x) (mv st v : Value) (hm : a.eval m = mv) (hs : a.eval s = st) (hx : a.eval x = v) (hrun : (Instr.entryStore t mv st v).run P W = .ok () W1) (hK : wpList P ops Q rest (a.put o.dst undef) W1) : wpList P ops Q (o :: rest) a W := by
  refine wpList_plain hg fun K' hK' => ?_
  unfold Oper.wp
  simp [execOp, hop, hm, hs, hx, hrun, Result.andThen]
  exact hK' _ _ hK
/-- How an element that is a slice reads: as itself. -/
def sliceR (v : Value) : Option (DataW Unit × List MemPlace) :=
  match v with
  | .slice none 0 0 => some (.nil, [])
  | .slice (some ⟨g, 0, none⟩) m c => some (.slice [.lit (.int .i64 g), .lit (.int .i64 m), .lit (.int .i64 c)] [], [])
  | _ => none
theorem sliceR_nil : sliceR (.slice none 0 0) = some (.nil, []) := rfl
theorem sliceR_some (g m c : Nat) : sliceR (.slice (some ⟨g, 0, none⟩) m c) = some (.slice [.lit (.int .i64 g), .lit (.int .i64 m), .lit (.int .i64 c)] [], []) := rfl
theorem sliceR_inj {v v' : Value} {d : DataW Unit} {p p' : List MemPlace} (h : sliceR v = some (d, p)) (h' : sliceR v' = some (d, p')) : v = v' := by
  unfold sliceR at h h'
  split at h <;> split at h' <;> simp at h h'
  · rfl
  · obtain ⟨rfl, _⟩ := h; cases h'.1
  · obtain ⟨rfl, _⟩ := h; cases h'.1
  · obtain ⟨rfl, _⟩ := h
    have := h'.1
    simp at this
    obtain ⟨h1, h2, h3⟩ := this
    rw [Int.ofNat_inj.1 h1, Int.ofNat_inj.1 h2, Int.ofNat_inj.1 h3]
theorem sliceR_own {w : World} {base : Nat} {e : TypeId} {size n : Nat} {v : Value} {xs : List Value} (h : w.ownsRow base e size v n xs) : ∃ d, sliceR v = some (d, []) := by
  rcases h.2 with ⟨rfl, _⟩ | ⟨g, cap, cur, rfl, _⟩
  · exact ⟨_, rfl⟩
  · exact ⟨_, rfl⟩
end Go.Proofs.Ytemcpdpbikgfcaa
namespace Go.Proofs.Ytemcpdpbikgfcaa
open Go.RowKit Go.Sort
set_option linter.unusedVariables false

theorem infoDiffG : (Try.prog.info? 55).map (fun i => (i.zero, i.size, i.bytes)) = some (some (.agg #[.slice none 0 0, .int .i64 0]), 2, 32) := by kernel_rfl
theorem zeroDs (u : World) : (zeroValue 24).run Try.prog u = .ok (.slice none 0 0) u := by kernel_rfl
def grpB (n : Nat) (b : List GDiff) (r : List GV) : List GDiff := b.filter fun y => decide (cmpR r (y.row.take n) = 0)
theorem grp_snoc (n : Nat) (b : List GDiff) (k : Nat) (h : k < b.length) (r : List GV) : grpB n (b.take (k + 1)) r = grpB n (b.take k) r ++ (if cmpR r (b[k].row.take n) = 0 then [b[k]] else []) := by
  unfold grpB
  rw [List.take_succ_eq_append_getElem h, List.filter_append]
  congr 1
  by_cases e : cmpR r (b[k].row.take n) = 0
  · rw [if_pos e, List.filter_cons_of_pos (by simpa using e), List.filter_nil]
  · rw [if_neg e, List.filter_cons_of_neg (by simpa using e), List.filter_nil]
theorem self0 (r : List GV) : cmpR r r = 0 := (good_cmpR.eq _ _).2 rfl
theorem ne0 {r r0 : List GV} (h : r ≠ r0) : ¬ cmpR r r0 = 0 := fun e => h ((good_cmpR.eq _ _).1 e)
def joinZ (n : Nat) (x y : GDiff) : GDiff := ⟨x.row ++ y.row.drop n, x.count * y.count⟩
theorem rowJ_grp (n : Nat) (x : GDiff) (b : List GDiff) : rowJ n x b = (grpB n b (x.row.take n)).map (joinZ n x) := by
  unfold rowJ grpB
  induction b with
  | nil => rfl
  | cons y b ih =>
    rw [List.flatMap_cons, ih]
    unfold pairD
    by_cases h : cmpR (x.row.take n) (y.row.take n) = 0
    · rw [if_pos h, List.filter_cons_of_pos (by simpa using h)]; rfl
    · rw [if_neg h, List.filter_cons_of_neg (by simpa using h)]; rfl
/-- The groups while they are filled: V r is the slice that stands for r, Ps r its elements with their heads. -/
structure Grp (w0 w : World) (mb cnt n : Nat) (zs : List GDiff) (V : List GV → Value) (Ps : List GV → List DH) : Prop where
  own : ∃ D : DataW Unit, w.ownsMap Try.prog 83 sliceR mb cnt D ∧ ∀ r, rowOkB r = true → sliceR (V r) = some (D.atKey (klOf r) .nil, [])
  row : ∀ r, rowOkB r = true → w.ownsRow w0.heap.size 55 2 (V r) (Ps r).length (flatH (Ps r))
  is_ : ∀ r, rowOkB r = true → (Ps r).map (·.2) = grpB n zs r
  apart : ∀ r r', rowOkB r = true → rowOkB r' = true → r ≠ r' → (V r).ownBlock = none ∨ (V r).ownBlock ≠ (V r').ownBlock
  heads : ∀ r, ∀ p ∈ Ps r, RowAt w0 w0.heap.size p.1.1 p.2.row ∧ CapOk p.2.row.length p.1.2
  low : Below w0.heap.size w0 w
  big : w0.heap.size ≤ mb
theorem grp_made {w0 w : World} {n : Nat} (hb : Below w0.heap.size w0 w) : Grp w0 (w.alloc (.map #[] 0)) w.heap.size 0 n [] (fun _ => .slice none 0 0) (fun _ => []) :=
  ⟨⟨_, World.ownsMap_made w _ _ _, fun r hr => rfl⟩, fun r hr => World.ownsRow_nil _ _ _ _, fun r hr => rfl, fun _ _ _ _ _ => .inl rfl, fun r p hp => by simp at hp, hb.alloc hb.size _, hb.size⟩
theorem map_lt {w : World} {mb cnt : Nat} {D : DataW Unit} (h : w.ownsMap Try.prog 83 sliceR mb cnt D) : ∃ es cl, w.heap[mb]? = some (.map es cl) := by
  obtain ⟨es, cl, h1, _⟩ := h; exact ⟨es, cl, h1⟩
theorem own_not_map {w : World} {base mb n : Nat} {e : TypeId} {size : Nat} {v : Value} {xs : List Value} {es : Array MapEntry} {cl : Nat} (h : w.ownsRow base e size v n xs) (hm : w.heap[mb]? = some (.map es cl)) : v.ownBlock = none ∨ v.ownBlock ≠ some mb := by
  rcases h.2 with ⟨rfl, _⟩ | ⟨g, cap, cur, rfl, _, hh, _⟩
  · exact .inl rfl
  · refine .inr (fun e => ?_)
    simp [Value.ownBlock] at e
    subst e
    rw [hm] at hh; cases hh
theorem Grp.below {w0 w w' : World} {mb cnt n : Nat} {zs : List GDiff} {V : List GV → Value} {Ps : List GV → List DH} (h : Grp w0 w mb cnt n zs V Ps) (hb : Below w.heap.size w w') : Grp w0 w' mb cnt n zs V Ps := by
  obtain ⟨D, ho, hD⟩ := h.own
  refine ⟨⟨D, ho.kept (grown_below (b := none) hb) (by simp), hD⟩, fun r hr => World.ownsRow.kept (row := none) (h.row r hr) (grown_below hb) (by cases hv : (V r).ownBlock <;> simp), h.is_, h.apart, h.heads, below_next h.low hb rfl rfl, h.big⟩
/-- The entry for z's row, appended to and stored. -/
theorem Grp.step {w0 w W1 W2 W3 : World} {mb cnt n : Nat} {zs : List GDiff} {V : List GV → Value} {Ps : List GV → List DH} {D : DataW Unit} {p : DH} {v' : Value} {r0 : List GV} (h : Grp w0 w mb cnt n zs V Ps) (hr0 : rowOkB r0 = true)
    (hrr : r0 = p.2.row.take n) (hp : RowAt w0 w0.heap.size p.1.1 p.2.row ∧ CapOk p.2.row.length p.1.2)
    (hD : w.ownsMap Try.prog 83 sliceR mb cnt D) (hDV : ∀ r, rowOkB r = true → sliceR (V r) = some (D.atKey (klOf r) .nil, [])) {d : DataW Unit} (hv' : sliceR v' = some (d, []))
    (hg1 : w.grownBy W1 (some mb)) (hm1 : ∃ es cl, W1.heap[mb]? = some (.map es cl)) (hg2 : W1.grownBy W2 (V r0).ownBlock) (hob : v'.ownBlock = (V r0).ownBlock ∨ v'.ownBlock = some W1.heap.size)
    (ho2 : W2.ownsRow w0.heap.size 55 2 v' ((Ps r0).length + 1) (flatH (Ps r0) ++ dhL p))
    (ho3 : W3.ownsMap Try.prog 83 sliceR mb (cnt + 1) (D.put (klOf r0) d)) (hg3 : W2.grownBy W3 (some mb)) :
    ∃ V' Ps', Grp w0 W3 mb (cnt + 1) n (zs ++ [p.2]) V' Ps' := by
  obtain ⟨es1, cl1, hm1⟩ := hm1
  have hbw := hD.lt
  have k1 : ∀ r, rowOkB r = true → W1.ownsRow w0.heap.size 55 2 (V r) (Ps r).length (flatH (Ps r)) := fun r hr => by
    obtain ⟨es, cl, hm⟩ := map_lt hD
    exact World.ownsRow.kept (h.row r hr) hg1 (own_not_map (h.row r hr) hm)
  have hm2 : W2.heap[mb]? = some (.map es1 cl1) := by
    have hl1 : mb < W1.heap.size := (Array.getElem?_eq_some_iff.1 hm1).1
    refine (hg2.block mb hl1 (fun e => ?_)).trans hm1
    rcases own_not_map (k1 r0 hr0) hm1 with h' | h'
    · rw [h'] at e; cases e
    · exact h' e.symm
  have k2 : ∀ r, rowOkB r = true → r ≠ r0 → W2.ownsRow w0.heap.size 55 2 (V r) (Ps r).length (flatH (Ps r)) := fun r hr hne => World.ownsRow.kept (k1 r hr) hg2 (h.apart r r0 hr hr0 hne)
  have k3 : ∀ r, rowOkB r = true → r ≠ r0 → W3.ownsRow w0.heap.size 55 2 (V r) (Ps r).length (flatH (Ps r)) := fun r hr hne => World.ownsRow.kept (k2 r hr hne) hg3 (own_not_map (k2 r hr hne) hm2)
  have ho2' := World.ownsRow.kept ho2 hg3 (own_not_map ho2 hm2)
  have hfar : ∀ r, rowOkB r = true → r ≠ r0 → (V r).ownBlock = none ∨ (V r).ownBlock ≠ v'.ownBlock := fun r hr hne => by
    rcases hob with e | e
    · rw [e]; exact h.apart r r0 hr hr0 hne
    · rw [e]
      rcases hv : (V r).ownBlock with _ | g
      · exact .inl rfl
      · refine .inr (fun e' => ?_)
        injection e' with e'
        have := (World.ownsRow.lt (k1 r hr) g hv).2
        omega
  have hlow : Below w0.heap.size w0 W3 := by
    have l1 := h.low.trans ((Below.refl w0.heap.size w).grown hg1 h.low.size (fun k hk => by injection hk with hk; rw [← hk]; exact h.big))
    have l2 := l1.trans ((Below.refl w0.heap.size W1).grown hg2 l1.size (fun k hk => (World.ownsRow.lt (k1 r0 hr0) k hk).1))
    exact l2.trans ((Below.refl w0.heap.size W2).grown hg3 l2.size (fun k hk => by injection hk with hk; rw [← hk]; exact h.big))
  refine ⟨fun r => if cmpR r r0 = 0 then v' else V r, fun r => if cmpR r r0 = 0 then Ps r0 ++ [p] else Ps r, ⟨_, ho3, fun r hr => ?_⟩, fun r hr => ?_, fun r hr => ?_, fun r r' hr hr' hne => ?_, fun r q hq => ?_, hlow, h.big⟩
  · by_cases e : r = r0
    · subst e; rw [if_pos (self0 r), Maps.atKey_put_same hD.isMap (kl_key hr0)]; exact hv'
    · rw [if_neg (ne0 e), Maps.atKey_put_other (fun e' => e (kl_inj hr hr0 e'))]; exact hDV r hr
  · by_cases e : r = r0
    · subst e; simp only [if_pos (self0 r)]
      rw [flatH_append, List.length_append]
      simpa [flatH] using ho2'
    · simp only [if_neg (ne0 e)]; exact k3 r hr e
  · have hs : grpB n (zs ++ [p.2]) r = grpB n zs r ++ (if cmpR r (p.2.row.take n) = 0 then [p.2] else []) := by
      have := grp_snoc n (zs ++ [p.2]) zs.length (by simp) r
      rw [List.take_of_length_le (l := zs ++ [p.2]) (by simp)] at this
      simpa using this
    rw [hs, ← hrr]
    by_cases e : r = r0
    · subst e; rw [if_pos (self0 r), if_pos (self0 r), List.map_append, h.is_ r hr]; rfl
    · rw [if_neg (ne0 e), if_neg (ne0 e), h.is_ r hr, List.append_nil]
  · by_cases e : r = r0
    · subst e
      have e' : r' ≠ r := fun e => hne e.symm
      simp only [if_pos (self0 r), if_neg (ne0 e')]
      rcases hfar r' hr' e' with h1 | h1
      · rw [h1]
        rcases hv : v'.ownBlock with _ | g
        · exact .inl rfl
        · exact .inr (by simp)
      · exact .inr (fun e => h1 e.symm)
    · by_cases e' : r' = r0
      · subst e'; simp only [if_pos (self0 r'), if_neg (ne0 e)]; exact hfar r hr e
      · simp only [if_neg (ne0 e), if_neg (ne0 e')]; exact h.apart r r' hr hr' hne
  · by_cases e : r = r0
    · subst e
      simp only [if_pos (self0 r)] at hq
      rw [List.mem_append, List.mem_singleton] at hq
      rcases hq with hq | rfl
      · exact h.heads r q hq
      · exact hp
    · simp only [if_neg (ne0 e)] at hq; exact h.heads r q hq
/-- The groups when they are only read. -/
def GrpV (w : World) (mb cnt n : Nat) (b : List GDiff) : Prop :=
  ∃ D : DataW Unit, w.ownsMap Try.prog 83 sliceR mb cnt D ∧ ∀ r, rowOkB r = true → ∃ A c hs, sliceR (.slice A hs.length c) = some (D.atKey (klOf r) .nil, []) ∧ hs.map (·.2) = grpB n b r ∧ HeadsAt w A hs ∧ ∀ p ∈ hs, CapOk p.2.row.length p.1.2
theorem Grp.view {w0 w : World} {mb cnt n : Nat} {zs : List GDiff} {V : List GV → Value} {Ps : List GV → List DH} (h : Grp w0 w mb cnt n zs V Ps) : GrpV w mb cnt n zs := by
  obtain ⟨D, ho, hD⟩ := h.own
  refine ⟨D, ho, fun r hr => ?_⟩
  obtain ⟨A, c, e, hH⟩ := heads_own (h.row r hr) (fun p hp => ((h.heads r p hp).1.below h.low (Nat.le_refl _)).mono h.low.size)
  refine ⟨A, c, Ps r, ?_, h.is_ r hr, hH, fun p hp => (h.heads r p hp).2⟩
  rw [← e]; exact hD r hr
theorem GrpV.below {w w' : World} {mb cnt n : Nat} {b : List GDiff} (h : GrpV w mb cnt n b) (hb : Below w.heap.size w w') : GrpV w' mb cnt n b := by
  obtain ⟨D, ho, hD⟩ := h
  refine ⟨D, ho.kept (grown_below (b := none) hb) (by simp), fun r hr => ?_⟩
  obtain ⟨A, c, hs, h1, h2, h3, h4⟩ := hD r hr
  exact ⟨A, c, hs, h1, h2, h3.below hb, h4⟩
theorem GrpV.grown {w w' : World} {mb mb2 cnt n : Nat} {b : List GDiff} {es : Array MapEntry} {cl : Nat} (h : GrpV w mb cnt n b) (hm : w.heap[mb2]? = some (.map es cl)) (hg : w.grownBy w' (some mb2)) (hne : mb ≠ mb2) : GrpV w' mb cnt n b := by
  obtain ⟨D, ho, hD⟩ := h
  refine ⟨D, ho.kept hg (fun e => hne (by injection e)), fun r hr => ?_⟩
  obtain ⟨A, c, hs, h1, h2, h3, h4⟩ := hD r hr
  exact ⟨A, c, hs, h1, h2, h3.grown hm hg, h4⟩
/-- What a look-up finds. -/
theorem GrpV.look {w : World} {mb cnt n : Nat} {b : List GDiff} (h : GrpV w mb cnt n b) {r : List GV} (hr : rowOkB r = true) :
    ∃ A c hs, (Instr.lookup 78 (.map (some mb)) (keyV r) false).run Try.prog w = .ok (.slice A hs.length c) w ∧ hs.map (·.2) = grpB n b r ∧ HeadsAt w A hs ∧ ∀ p ∈ hs, CapOk p.2.row.length p.1.2 := by
  obtain ⟨D, ho, hD⟩ := h
  obtain ⟨A, c, hs, h1, h2, h3, h4⟩ := hD r hr
  obtain ⟨v, ps, hrun, hv⟩ := ho.lookup keyK Try.underlying78 (zeroDs w) sliceR_nil (key_row hr)
  refine ⟨A, c, hs, ?_, h2, h3, h4⟩
  rw [hrun, sliceR_inj hv h1]
end Go.Proofs.Ytemcpdpbikgfcaa
