/-
  append of one difference as a step of a region that draws, at whatever world. A list of differences that a call of the program's builds, each row a block of its own.
-/
import Derived.Test.YtggkggaihfcjmaaCntZ
import Derived.Test.YtggkggaihfcjmaaMarkD
namespace Go.Proofs.Ytggkggaihfcjmaa
open Go.RowKit Go.Sort
set_option linter.unusedVariables false

theorem dhL_cellsW {W : World} {b : Nat} {p : DH} (h0 : W.cell? ⟨b, 0, none⟩ = some (.slice p.1.1 p.2.row.length p.1.2)) (h1 : W.cell? ⟨b, 1, none⟩ = some (.int .i64 p.2.count)) : ∀ j u, (dhL p)[j]? = some u → W.cell? ((⟨b, 0, none⟩ : Addr).add j) = some u := by
  intro j u hj
  match j, hj with
  | 0, hj => simp [dhL] at hj; subst hj; rw [Addr.add_lit]; exact h0
  | 1, hj => simp [dhL] at hj; subst hj; rw [Addr.add_lit]; exact h1
theorem step_dappW {ops : Array Oper} {o : Oper} {a : Act} {W' : World} {K : Act → World → Prop} {Q : Exit → Act → World → Prop} {E : Prop}
    (hg : o.guard = none) (s x : Operand) (hop : o.op = Op.call { callee := Callee.builtin Builtin.append, args := #[s, x], argTypes := #[24, 24] })
    (w0 W : World) (v : Value) (zs : List GDiff) (p : DH) (b : Nat) (hs : a.eval s = v) (hI : DAcc w0 W v zs) (hp : DHok W w0.heap.size p) (hx : a.eval x = .slice (some ⟨b, 0, none⟩) 1 1)
    (hB : Below W.heap.size W W') (h0 : W'.cell? ⟨b, 0, none⟩ = some (.slice p.1.1 p.2.row.length p.1.2)) (h1 : W'.cell? ⟨b, 1, none⟩ = some (.int .i64 p.2.count)) (hb : zs.length ≤ 4194304)
    (hK : ∀ v' w', DAcc w0 w' v' (zs ++ [p.2]) → K (a.put o.dst v') w') :
    if Region.wanted o (yielded ops a.tmps) = true then Oper.wp Try.prog o a W' K Q else E := by
  have hw : Region.wanted o (yielded ops a.tmps) = true := by simp [Region.wanted, hg]
  rw [if_pos hw]
  obtain ⟨i0, hi, hz0, hz1, hz2⟩ := info_parts infoDiff
  have hI2 := hI.below hB
  have hp2 : DHok W' w0.heap.size p := ⟨hp.1.keep (hB.mono hI.low.size) (KeepT.below hB), hp.2⟩
  obtain ⟨ps, e, how, hq⟩ := hI2.own
  refine wp_append_own _ s x _ hop w0.heap.size 55 i0 _ 2 32 Try.underlying24 hi hz0 hz1 hz2 rfl (by decide) v zs.length (flatH ps) hs how ⟨b, 0, none⟩ 1 1 (dhL p) hx rfl (dhL_cellsW h0 h1) (dhL_one p) (by unfold maxLen; omega) (by omega) hI2.low.size (fun v' w' h1 h2 h3 => hK v' w' ?_)
  have hbw : Below w0.heap.size W' w' := (Below.refl _ _).grown h2 hI2.low.size (fun k hk => (World.ownsRow.lt how k hk).1)
  have hk := KeepT.grown how h2
  refine ⟨⟨ps ++ [p], by simp [e], ?_, fun q hm => ?_⟩, fun e1 => hI2.ne (h3.1 e1).1, hI2.low.trans hbw⟩
  · rw [flatH_append, List.length_append]
    simpa [flatH] using h1
  · rw [List.mem_append, List.mem_singleton] at hm
    rcases hm with hm | rfl
    · exact ⟨(hq q hm).1.keep hbw hk, (hq q hm).2⟩
    · exact ⟨hp2.1.keep hbw hk, hp2.2⟩
end Go.Proofs.Ytggkggaihfcjmaa
namespace Go.Proofs.Ytggkggaihfcjmaa
open Go.RowKit Go.Sort
set_option linter.unusedVariables false

structure GAcc (w0 w : World) (v : Value) (ps : List DH) : Prop where
  own : w.ownsRow w0.heap.size 55 2 v ps.length (flatH ps)
  row : ∀ p ∈ ps, RowW w0.heap.size w p
  apart : ps.Pairwise Apart
  cap : ∀ p ∈ ps, CapOk p.2.row.length p.1.2
  ne : v ≠ .slice none 0 0
  low : Below w0.heap.size w0 w
theorem GAcc.made {w0 w : World} {n m : Nat} {z : Array Value} (h : Below w0.heap.size w0 w) (hn : w.heap.size = n) (hm : m ≤ maxLen) (hz : z.size = m * 2) : GAcc w0 (w.alloc (.cells z 55)) (.slice (some ⟨n, 0, none⟩) 0 m) [] := by
  subst hn
  refine ⟨?_, fun p hp => by simp at hp, by simp, fun p hp => by simp at hp, by simp, h.alloc h.size _⟩
  simpa [flatH] using World.ownsRow_made (base := w0.heap.size) (e := 55) (size := 2) w z m h.size hm hz
theorem GAcc.slice {w0 w : World} {v : Value} {ps : List DH} (h : GAcc w0 w v ps) : ∃ A c, v = .slice A ps.length c ∧ CapOk ps.length c := by
  rcases h.own.2 with ⟨rfl, h0⟩ | ⟨g, cap, cur, rfl, hg, hh, hc1, hc2, hc3, hc4⟩
  · exact absurd rfl h.ne
  · exact ⟨_, cap, rfl, hc1, hc2⟩
theorem GAcc.below {w0 w w' : World} {v : Value} {ps : List DH} (h : GAcc w0 w v ps) (hb : Below w.heap.size w w') : GAcc w0 w' v ps := by
  refine ⟨⟨h.own.1, ?_⟩, fun p hm => (h.row p hm).blk (fun b _ hlt => hb.block b hlt), h.apart, h.cap, h.ne, h.low.trans (hb.mono h.low.size)⟩
  rcases h.own.2 with h' | ⟨g, cap, cur, e', hg, hc, hr⟩
  · exact .inl h'
  · exact .inr ⟨g, cap, cur, e', hg, (hb.block g (Array.getElem?_eq_some_iff.1 hc).1).trans hc, hr⟩
theorem RowW.keep {B : Nat} {w w' : World} {p : DH} (h : RowW B w p) (hk : KeepT 55 w w') : RowW B w' p := by
  rcases h with h | ⟨b, l, e, hB, hW⟩
  · exact .inl h
  · refine .inr ⟨b, l, e, hB, (hk b hW.lt (fun cur fr e => ?_)).trans hW⟩
    unfold Whole at hW; rw [hW] at e; cases e
theorem step_gappW {ops : Array Oper} {o : Oper} {a : Act} {W' : World} {K : Act → World → Prop} {Q : Exit → Act → World → Prop} {E : Prop}
    (hg : o.guard = none) (s x : Operand) (hop : o.op = Op.call { callee := Callee.builtin Builtin.append, args := #[s, x], argTypes := #[24, 24] })
    (w0 W : World) (v : Value) (ps : List DH) (p : DH) (b : Nat) (hs : a.eval s = v) (hI : GAcc w0 W v ps) (hp : RowW w0.heap.size W p) (hpc : CapOk p.2.row.length p.1.2) (hap : ∀ q ∈ ps, Apart q p) (hx : a.eval x = .slice (some ⟨b, 0, none⟩) 1 1)
    (hB : Below W.heap.size W W') (h0 : W'.cell? ⟨b, 0, none⟩ = some (.slice p.1.1 p.2.row.length p.1.2)) (h1 : W'.cell? ⟨b, 1, none⟩ = some (.int .i64 p.2.count)) (hb : ps.length ≤ 4194304)
    (hK : ∀ v' w', GAcc w0 w' v' (ps ++ [p]) → K (a.put o.dst v') w') :
    if Region.wanted o (yielded ops a.tmps) = true then Oper.wp Try.prog o a W' K Q else E := by
  have hw : Region.wanted o (yielded ops a.tmps) = true := by simp [Region.wanted, hg]
  rw [if_pos hw]
  obtain ⟨i0, hi, hz0, hz1, hz2⟩ := info_parts infoDiff
  have hI2 := hI.below hB
  have hp2 : RowW w0.heap.size W' p := hp.blk (fun b _ hlt => hB.block b hlt)
  have how := hI2.own
  refine wp_append_own _ s x _ hop w0.heap.size 55 i0 _ 2 32 Try.underlying24 hi hz0 hz1 hz2 rfl (by decide) v ps.length (flatH ps) hs how ⟨b, 0, none⟩ 1 1 (dhL p) hx rfl (dhL_cellsW h0 h1) (dhL_one p) (by unfold maxLen; omega) (by omega) hI2.low.size (fun v' w' h1 h2 h3 => hK v' w' ?_)
  have hbw : Below w0.heap.size W' w' := (Below.refl _ _).grown h2 hI2.low.size (fun k hk => (World.ownsRow.lt how k hk).1)
  have hk := KeepT.grown how h2
  refine ⟨?_, fun q hm => ?_, ?_, fun q hm => ?_, fun e1 => hI2.ne (h3.1 e1).1, hI2.low.trans hbw⟩
  · rw [flatH_append, List.length_append]
    simpa [flatH] using h1
  · rw [List.mem_append, List.mem_singleton] at hm
    rcases hm with hm | rfl
    · exact (hI2.row q hm).keep hk
    · exact hp2.keep hk
  · rw [List.pairwise_append]
    exact ⟨hI2.apart, by simp, fun q hq r hr => by rw [List.mem_singleton] at hr; subst hr; exact hap q hq⟩
  · rw [List.mem_append, List.mem_singleton] at hm
    rcases hm with hm | rfl
    · exact hI2.cap q hm
    · exact hpc
theorem GAcc.ga {w0 w : World} {v : Value} {ps : List DH} (h : GAcc w0 w v ps) : ∃ A c, v = .slice A ps.length c ∧ DGA w0.heap.size w A ps := by
  rcases h.own.2 with ⟨rfl, h0⟩ | ⟨g, cap, cur, rfl, hg, hh, hc1, hc2, hc3, hc4⟩
  · exact absurd rfl h.ne
  · refine ⟨_, cap, rfl, .inr ⟨g, cur.toList.drop (ps.length * 2), rfl, hg, ?_, h.row, h.apart, h.cap⟩⟩
    unfold Whole
    rw [← hc4, List.take_append_drop]
    exact hh
theorem GAcc.post {w0 w : World} {v : Value} {ps : List DH} {zs : List GDiff} (h : GAcc w0 w v ps) (hz : ps.map (·.2) = zs) : IPost w0 zs (.returned v) w := by
  obtain ⟨A, c, e, hd⟩ := h.ga
  exact ⟨A, c, ps, by rw [e], hz, hd, h.low⟩
theorem ipost_none {w w' : World} (h : Below w.heap.size w w') : IPost w [] (.returned (.slice none 0 0)) w' := ⟨none, 0, [], rfl, rfl, .inl rfl, h⟩
end Go.Proofs.Ytggkggaihfcjmaa
