/-
  'm[k] += x' on a map of the call's own: the entry, the look-up on either side of it, the store into it. append of one difference to a list of the call's own.
-/
import Derived.Test.YtggkggaihfcjmaaKeyM
import Derived.WideKeyEntry
import Derived.Test.YtggkggaihfcjmaaDRow
import Derived.Test.YtggkggaihfcjmaaToDiff
namespace Go.Proofs.Ytggkggaihfcjmaa
open Go.RowKit Go.WideElems Go.WideShapes Go.ChangeShapes Go.ChangeMaps Go.MapKept
set_option linter.unusedVariables false

theorem setBlock_twice (w : World) (b : Nat) (x y : Obj) : setBlock (setBlock w b x) b y = setBlock w b y := by
  unfold setBlock; simp
theorem setBlock_self {w : World} {b : Nat} {x : Obj} (h : w.heap[b]? = some x) : setBlock w b x = w := by
  unfold setBlock
  cases w with
  | mk heap =>
    simp only at h ⊢
    congr 1
    obtain ⟨hl, e⟩ := Array.getElem?_eq_some_iff.1 h
    apply Array.ext_getElem?
    intro i
    rw [Array.getElem?_setIfInBounds]
    by_cases hi : b = i
    · subst hi; rw [if_pos rfl, if_pos hl, h]
    · rw [if_neg hi]
theorem entry_mid {H : Type} {P : Program} {k e t : TypeId} {W : World} {b n : Nat} {D : DataW H} (K : WideMaps.KeyLaw P k) (ht : P.underlying t = some (.map k e)) (he : P.underlying e = some (.int .i64))
    (hz : ∀ u : World, (zeroValue e).run P u = .ok (.int .i64 0) u) (own : W.ownsMap P k (plainElem P e) b n D) (hn : n < maxLen) {key : Value} {kl : Lit} (hkey : keyOf P k key = some kl) :
    ∃ (s : Int) (st : Nat) (v0 : Value) (W1 : World), D.atKey kl (.lit (.int .i64 0)) = .lit (.int .i64 s) ∧
      (Instr.lookup t (.map (some b)) key false).run P W = .ok (.int .i64 s) W ∧
      (Instr.mapEntry t (.map (some b)) key).run P W = .ok (.tuple #[v0, .int .i64 (st : Int)]) W1 ∧
      (Instr.lookup t (.map (some b)) key false).run P W1 = .ok (.int .i64 s) W1 ∧
      W.grownBy W1 (some b) ∧
      ∀ x : Int, (Lit.int .i64 x).wf = true → ∃ W2, (Instr.entryStore t (.map (some b)) (.int .i64 (st : Int)) (.int .i64 x)).run P W1 = .ok () W2 ∧ W2.ownsMap P k (plainElem P e) b (n + 1) (D.put kl (.lit (.int .i64 x))) ∧ W.grownBy W2 (some b) := by
  have K' := Maps.Keyed.of_law K
  have hw0 : (Lit.int .i64 0).wf = true := by decide
  obtain ⟨s, hl, hat, hws⟩ := own.lookup_int K' ht he (hz W) hkey
  obtain ⟨es, clock, hb, F, hs, hD⟩ := own
  obtain ⟨v0, st, es1, clock1, hrun, hv0, hst⟩ := entry_then_store K ht hz hb F hkey
  have own' : W.ownsMap P k (plainElem P e) b n D := ⟨es, clock, hb, F, hs, hD⟩
  have hg1 : W.grownBy (setBlock W b (.map es1 clock1)) (some b) := ⟨rfl, rfl, rfl, by simp [setBlock], fun i _ hi => heap_setBlock_other hb _ (fun e => hi (by rw [e]))⟩
  refine ⟨s, st, v0, _, hat, hl, hrun, ?_, hg1, fun x hx => ?_⟩
  · -- the look-up behind the entry
    have hE : (setBlock W b (.map es1 clock1) = W) ∨ ∃ w', (Instr.mapUpdate t (.map (some b)) key (.int .i64 0)).run P W = .ok () w' ∧ setBlock W b (.map es1 clock1) = w' ∧ D.atKey kl (.lit (.int .i64 0)) = .lit (.int .i64 0) := by
      rcases K.find W hkey es.toList F.keys with ⟨h1, h2⟩ | ⟨j, e0, h1, h2, h3⟩
      · right
        have r1 : (Instr.mapEntry t (.map (some b)) key).run P W = .ok (.tuple #[.int .i64 0, goInt clock]) (setBlock W b (.map (es.push ⟨key, .int .i64 0, clock⟩) (clock + 1))) := by
          simp [Instr.mapEntry, run_underlying ht, MapKept.run_getObj_map hb, K.check W false hkey, h1, hz, MapKept.run_setObj_map _ hb, Result.andThen, setBlock]
        have r2 : (Instr.mapUpdate t (.map (some b)) key (.int .i64 0)).run P W = .ok () (setBlock W b (.map (es.push ⟨key, .int .i64 0, clock⟩) (clock + 1))) := by
          simp [Instr.mapUpdate, run_underlying ht, MapKept.run_getObj_map hb, K.check W false hkey, h1, MapKept.run_setObj_map _ hb, Result.andThen, setBlock]
        rw [r1] at hrun
        refine ⟨_, r2, (Result.ok.inj hrun).2.symm, ?_⟩
        have hz' := hz W
        rcases Maps.fit_look false K' ht hz' hb F hkey with ⟨_, _, hat'⟩ | ⟨e0, y, hm, hk, _⟩
        · rw [hD]; exact hat' _
        · exact absurd hk (h2 e0 hm)
      · left
        have hj : es[j]? = some e0 := by simpa using h2
        have hsame : es.modify j (fun e => { e with key := key }) = es := by
          apply Array.ext'
          rw [Array.toList_modify, modify_eq_set _ _ _ _ h2]
          have : ({ e0 with key := key } : MapEntry) = e0 := by rw [← h3]
          rw [this]
          exact WideElems.set_self _ _ _ h2
        have r1 : (Instr.mapEntry t (.map (some b)) key).run P W = .ok (.tuple #[e0.val, goInt e0.born]) (setBlock W b (.map es clock)) := by
          simp [Instr.mapEntry, run_underlying ht, MapKept.run_getObj_map hb, K.check W false hkey, h1, hj, h3, K.stays W hkey, hsame, MapKept.run_setObj_map _ hb, Result.andThen, setBlock]
        rw [r1] at hrun
        rw [← (Result.ok.inj hrun).2]
        exact setBlock_self hb
    rcases hE with hE | ⟨w', hu, hE, h0⟩
    · rw [hE]; exact hl
    · rw [hE]
      obtain ⟨w2, hu2, o2, _⟩ := own'.update K' ht hn hkey (plainElem_int he hw0)
      have : w' = w2 := by rw [hu] at hu2; exact (Result.ok.inj hu2).2
      subst this
      obtain ⟨s2, hl2, hat2, _⟩ := o2.lookup_int K' ht he (hz w') hkey
      rw [Maps.atKey_put_same own'.isMap (K'.key hkey)] at hat2
      rw [hat] at h0
      have e1 : s = 0 := by simpa using h0
      have e2 : s2 = 0 := by simpa using hat2.symm
      rw [hl2, e1, e2]
  · obtain ⟨es', clock', he1, hu1⟩ := hst _ (.int .i64 x) (heap_setBlock_same hb _)
    obtain ⟨w2, hu2, o2, hg2⟩ := own'.update K' ht hn hkey (plainElem_int he hx)
    have e2 : w2 = setBlock W b (.map es' clock') := by rw [hu1] at hu2; exact (Result.ok.inj hu2).2.symm
    refine ⟨_, he1, ?_, ?_⟩
    · rw [setBlock_twice, ← e2]; exact o2
    · rw [setBlock_twice, ← e2]; exact hg2
end Go.Proofs.Ytggkggaihfcjmaa
namespace Go.Proofs.Ytggkggaihfcjmaa
open Go.RowKit Go.Sort
set_option linter.unusedVariables false

theorem wpList_dapp {ops : Array Oper} {rest : List Oper} {o : Oper} {a : Act} {Q : Exit → Act → World → Prop} (W : World) (hgd : o.guard = none) (s x : Operand)
    (ho : o.op = .call { callee := .builtin .append, args := #[s, x], argTypes := #[24, 24] })
    (w0 : World) (v : Value) (zs : List GDiff) (p : DH) (hs : a.eval s = v) (hI : DAcc w0 W v zs) (hp : DHok W w0.heap.size p) (hx : a.eval x = .slice (some ⟨W.heap.size, 0, none⟩) 1 1) (hb : zs.length ≤ 4194304)
    (h : ∀ v' w', DAcc w0 w' v' (zs ++ [p.2]) → wpList Try.prog ops Q rest (a.put o.dst v') w') : wpList Try.prog ops Q (o :: rest) a (W.alloc (.cells #[.slice p.1.1 p.2.row.length p.1.2, .int .i64 p.2.count] 55)) := by
  obtain ⟨i0, hi, hz0, hz1, hz2⟩ := info_parts infoDiff
  have hB : Below W.heap.size W (W.alloc (.cells #[.slice p.1.1 p.2.row.length p.1.2, .int .i64 p.2.count] 55)) := (Below.refl _ _).alloc (Nat.le_refl _) _
  have hI2 := hI.below hB
  obtain ⟨ps, e, how, hq⟩ := hI2.own
  refine wpList_append_own _ hgd s x _ ho w0.heap.size 55 i0 _ 2 32 Try.underlying24 hi hz0 hz1 hz2 rfl (by decide) v zs.length (flatH ps) hs how ⟨W.heap.size, 0, none⟩ 1 1 (dhL p) hx rfl (dhL_cells W p _) (dhL_one p) (by unfold maxLen; omega) (by omega) hI2.low.size (fun v' w' h1 h2 h3 => h v' w' ?_)
  obtain ⟨ps', e', how', hq'⟩ := hI2.own
  have hbw : Below w0.heap.size (W.alloc (.cells #[.slice p.1.1 p.2.row.length p.1.2, .int .i64 p.2.count] 55)) w' := (Below.refl _ _).grown h2 hI2.low.size (fun k hk => (World.ownsRow.lt how k hk).1)
  have hk := KeepT.grown how h2
  have hp2 : DHok (W.alloc (.cells #[.slice p.1.1 p.2.row.length p.1.2, .int .i64 p.2.count] 55)) w0.heap.size p := ⟨hp.1.keep (hB.mono hI.low.size) (KeepT.below hB), hp.2⟩
  refine ⟨⟨ps ++ [p], by simp [e], ?_, fun q hm => ?_⟩, fun e1 => hI2.ne (h3.1 e1).1, hI2.low.trans hbw⟩
  · rw [flatH_append, List.length_append]
    simpa [flatH] using h1
  · rw [List.mem_append, List.mem_singleton] at hm
    rcases hm with hm | rfl
    · exact ⟨(hq q hm).1.keep hbw hk, (hq q hm).2⟩
    · exact ⟨hp2.1.keep hbw hk, hp2.2⟩
end Go.Proofs.Ytggkggaihfcjmaa
