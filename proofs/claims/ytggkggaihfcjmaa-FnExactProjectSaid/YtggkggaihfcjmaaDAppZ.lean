/-
  impl.widthOf, impl.compatible; spec.l4Wide. append of one difference to a list of the call's own.
-/
import Derived.Test.YtggkggaihfcjmaaDiffOkS
import Derived.Test.YtggkggaihfcjmaaDRow
import Derived.Test.YtggkggaihfcjmaaToDiff
namespace Go.Proofs.Ytggkggaihfcjmaa
open Go.RowKit Go.Sort
set_option linter.unusedVariables false

theorem beq0_f {n : Nat} (h : n ≠ 0) : ((n : Int) == 0) = false := by rw [beq_eq_false_iff_ne]; omega
theorem beq0_t {n : Nat} (h : n = 0) : ((n : Int) == 0) = true := by subst h; rfl
def compatB (a b : List GDiff) : Bool := decide (a.length = 0) || decide (b.length = 0) || decide (wid (rowsD a) = wid (rowsD b))
theorem impl_width {lo : Nat} (A : Option Addr) (c : Nat) (zs : List GDiff) (w : World) (hr : DiffsAt w lo w.heap.size A zs) (hl : zs.length ≤ 4194304) :
    Calls Try.prog 87 #[.slice A zs.length c] w fun e w' => e = .returned (.int .i64 (wid (rowsD zs))) ∧ w = w' := by
  by_cases h0 : zs.length = 0
  · have hz : zs = [] := List.eq_nil_of_length_eq_zero h0
    subst hz
    go_enter Try.func87, Try.ntmps87
    go_wp2_with fail
    go_ret
    exact ⟨rfl, rfl⟩
  · have hp : 0 < zs.length := by omega
    obtain ⟨g, o, rfl, _, hg, ⟨A', c', ⟨hcell, hcap⟩, hrow⟩, hcnt⟩ := hr.at_ hp
    have hq : ((zs.length : Int) == 0) = false := beq0_f h0
    have hi1 : (0 : Int) < (zs.length : Int) := by omega
    have hw := Lib.hid (widD_eq hp)
    rw [Nat.zero_mul, Nat.add_zero] at hcell
    clear h0 hr hrow hcnt
    go_enter Try.func87, Try.ntmps87
    go_wp2_with fail
    go_ret
    exact ⟨by rw [hw.out]; rfl, rfl⟩
set_option maxHeartbeats 800000 in
theorem impl_compatible {lo lo' : Nat} (A B : Option Addr) (c d : Nat) (a b : List GDiff) (w : World) (ha : DiffsAt w lo w.heap.size A a) (hb : DiffsAt w lo' w.heap.size B b) (hl : a.length ≤ 4194304) (hl' : b.length ≤ 4194304) :
    Calls Try.prog 79 #[.slice A a.length c, .slice B b.length d] w fun e w' => e = .returned (.bool (compatB a b)) ∧ w = w' := by
  have HA := Lib.hid ha
  have HB := Lib.hid hb
  clear ha hb
  by_cases h0 : a.length = 0
  · have hc := Lib.hid (show compatB a b = true by unfold compatB; simp [h0])
    have hq : ((a.length : Int) == 0) = true := beq0_t h0
    clear h0
    go_enter Try.func79, Try.ntmps79
    go_wp2_with fail
    go_ret
    exact ⟨by rw [hc.out]; rfl, rfl⟩
  · have hq : ((a.length : Int) == 0) = false := beq0_f h0
    by_cases h1 : b.length = 0
    · have hc := Lib.hid (show compatB a b = true by unfold compatB; simp [h1])
      have hq' : ((b.length : Int) == 0) = true := beq0_t h1
      clear h0 h1
      go_enter Try.func79, Try.ntmps79
      go_wp2_with fail
      go_ret
      exact ⟨by rw [hc.out]; rfl, rfl⟩
    · have hq' : ((b.length : Int) == 0) = false := beq0_f h1
      have hc := Lib.hid (show compatB a b = (((wid (rowsD a) : Int)) == (wid (rowsD b) : Int)) by unfold compatB; rw [Bool.eq_iff_iff]; simp [h0, h1]; omega)
      clear h0 h1
      generalize hwa : wid (rowsD a) = wa at *
      generalize hwb : wid (rowsD b) = wb at *
      have H1 := Lib.hid (impl_width A c a w HA.out hl)
      have H2 := Lib.hid (impl_width B d b w HB.out hl')
      rw [hwa] at H1
      rw [hwb] at H2
      clear hwa hwb
      go_enter Try.func79, Try.ntmps79
      go_wp2_with fail
      refine H1.out.mono ?_
      rintro e w' ⟨rfl, rfl⟩
      go_wp2_with fail
      refine H2.out.mono ?_
      rintro e w' ⟨rfl, rfl⟩
      go_wp2_with fail
      go_ret
      exact ⟨by rw [hc.out]; rfl, rfl⟩
end Go.Proofs.Ytggkggaihfcjmaa
namespace Go.Proofs.Ytggkggaihfcjmaa
open Go.RowKit Go.Sort
set_option linter.unusedVariables false

theorem wpList_dapp {ops : Array Oper} {rest : List Oper} {o : Oper} {a : Act} {Q : Exit → Act → World → Prop} (W : World) (hgd : o.guard = none) (s x : Operand)
    (ho : o.op = .call { callee := .builtin .append, args := #[s, x], argTypes := #[24, 24] })
    (w0 : World) (v : Value) (zs : List GDiff) (p : DH) (hs : a.eval s = v) (hI : DAcc w0 W v zs) (hp : DHok W w0.heap.size p) (hx : a.eval x = .slice (some ⟨W.heap.size, 0, none⟩) 1 1) (hb : zs.length ≤ 4194304)
    (h : ∀ v' w', DAcc w0 w' v' (zs ++ [p.2]) → wpList Try.prog ops Q rest (a.put o.dst v') w') : wpList Try.prog ops Q (o :: rest) a (W.alloc (.cells #[.slice p.1.1 p.2.row.length p.1.2, .int .i64 p.2.count] 55)) := by
  obtain ⟨i0, hi, hz0, hz1, hz2⟩ := info_parts infoDiff
  have hB : Below W.heap.size W (W.alloc (.cells #[.slice p.1.1 p.2.row.length p.1.2, .int .i64 p.2.count] 55)) := (Below.refl _ _).alloc (Nat.le_refl _) _
  have hI2 := hI.below hB
  obtain ⟨ps, e, how, hq⟩ := hI2.own
  refine wpList_append_own _ hgd s x _ ho w0.heap.size 55 i0 _ 2 32 Try.underlying24 hi hz0 hz1 hz2 rfl (by decide) v zs.length (flatH ps) hs how ⟨W.heap.size, 0, none⟩ 1 1 (dhL p) hx rfl (dhL_cells W p _) (dhL_one p) (by unfold maxLen; omega) (by omega) hI2.low.size (fun v' w' h1 h2 h3 => h v' w' ?_)
  obtain ⟨ps', e', how', hq'⟩ := hI2.own
  have hbw : Below w0.heap.size (W.alloc (.cells #[.slice p.1.1 p.2.row.length p.1.2, .int .i64 p.2.count] 55)) w' := (Below.refl _ _).grown h2 hI2.low.size (fun k hk => (World.ownsRow.lt how k hk).1)
  have hk := KeepT.grown how h2
  have hp2 : DHok (W.alloc (.cells #[.slice p.1.1 p.2.row.length p.1.2, .int .i64 p.2.count] 55)) w0.heap.size p := ⟨hp.1.keep (hB.mono hI.low.size) (KeepT.below hB), hp.2⟩
  refine ⟨⟨ps ++ [p], by simp [e], ?_, fun q hm => ?_⟩, fun e1 => hI2.ne (h3.1 e1).1, hI2.low.trans hbw⟩
  · rw [flatH_append, List.length_append]
    simpa [flatH] using h1
  · rw [List.mem_append, List.mem_singleton] at hm
    rcases hm with hm | rfl
    · exact ⟨(hq q hm).1.keep hbw hk, (hq q hm).2⟩
    · exact ⟨hp2.1.keep hbw hk, hp2.2⟩
end Go.Proofs.Ytggkggaihfcjmaa
