/-
  append of one difference to a list of the call's own.
-/
import Derived.Test.YtkkgiojgejfhlaaDRow
import Derived.Test.YtkkgiojgejfhlaaToDiff
namespace Go.Proofs.Ytkkgiojgejfhlaa
open Go.RowKit Go.Sort
set_option linter.unusedVariables false

theorem wpList_dapp {ops : Array Oper} {rest : List Oper} {o : Oper} {a : Act} {Q : Exit → Act → World → Prop} (W : World) (hgd : o.guard = none) (s x : Operand)
    (ho : o.op = .call { callee := .builtin .append, args := #[s, x], argTypes := #[25, 25] })
    (w0 : World) (v : Value) (zs : List GDiff) (p : DH) (hs : a.eval s = v) (hI : DAcc w0 W v zs) (hp : DHok W w0.heap.size p) (hx : a.eval x = .slice (some ⟨W.heap.size, 0, none⟩) 1 1) (hb : zs.length ≤ 4194304)
    (h : ∀ v' w', DAcc w0 w' v' (zs ++ [p.2]) → wpList Try.prog ops Q rest (a.put o.dst v') w') : wpList Try.prog ops Q (o :: rest) a (W.alloc (.cells #[.slice p.1.1 p.2.row.length p.1.2, .int .i64 p.2.count] 41)) := by
  obtain ⟨i0, hi, hz0, hz1, hz2⟩ := info_parts infoDiff
  have hB : Below W.heap.size W (W.alloc (.cells #[.slice p.1.1 p.2.row.length p.1.2, .int .i64 p.2.count] 41)) := (Below.refl _ _).alloc (Nat.le_refl _) _
  have hI2 := hI.below hB
  obtain ⟨ps, e, how, hq⟩ := hI2.own
  refine wpList_append_own _ hgd s x _ ho w0.heap.size 41 i0 _ 2 32 Try.underlying25 hi hz0 hz1 hz2 rfl (by decide) v zs.length (flatH ps) hs how ⟨W.heap.size, 0, none⟩ 1 1 (dhL p) hx rfl (dhL_cells W p _) (dhL_one p) (by unfold maxLen; omega) (by omega) hI2.low.size (fun v' w' h1 h2 h3 => h v' w' ?_)
  obtain ⟨ps', e', how', hq'⟩ := hI2.own
  have hbw : Below w0.heap.size (W.alloc (.cells #[.slice p.1.1 p.2.row.length p.1.2, .int .i64 p.2.count] 41)) w' := (Below.refl _ _).grown h2 hI2.low.size (fun k hk => (World.ownsRow.lt how k hk).1)
  have hk := KeepT.grown how h2
  have hp2 : DHok (W.alloc (.cells #[.slice p.1.1 p.2.row.length p.1.2, .int .i64 p.2.count] 41)) w0.heap.size p := ⟨hp.1.keep (hB.mono hI.low.size) (KeepT.below hB), hp.2⟩
  refine ⟨⟨ps ++ [p], by simp [e], ?_, fun q hm => ?_⟩, fun e1 => hI2.ne (h3.1 e1).1, hI2.low.trans hbw⟩
  · rw [flatH_append, List.length_append]
    simpa [flatH] using h1
  · rw [List.mem_append, List.mem_singleton] at hm
    rcases hm with hm | rfl
    · exact ⟨(hq q hm).1.keep hbw hk, (hq q hm).2⟩
    · exact ⟨hp2.1.keep hbw hk, hp2.2⟩
end Go.Proofs.Ytkkgiojgejfhlaa
