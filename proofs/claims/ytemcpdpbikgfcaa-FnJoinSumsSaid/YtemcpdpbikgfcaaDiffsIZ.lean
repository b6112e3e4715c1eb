/-
  impl.keyOf. impl.diffsOf.
-/
import Derived.Test.YtemcpdpbikgfcaaRowIZ
import Derived.Test.YtemcpdpbikgfcaaTabOkSZ
import Derived.Test.YtemcpdpbikgfcaaRowOkZ
import Derived.Test.YtemcpdpbikgfcaaDiffOkIZ
import Derived.Deep.WholeRow
namespace Go.Proofs.Ytemcpdpbikgfcaa
open Go.RowKit
set_option linter.unusedVariables false

/-- What impl.keyOf leaves. -/
def KeyPost (w : World) (r : List GV) (e : Ending) (w' : World) : Prop := e = .returned (keyV r) ∧ Below w.heap.size w w'
theorem zeros_flat : flat (List.replicate 8 zGV) = [.int .i64 0, .int .i64 0, .string ⟨#[]⟩, .int .i64 0, .int .i64 0, .string ⟨#[]⟩, .int .i64 0, .int .i64 0, .string ⟨#[]⟩, .int .i64 0, .int .i64 0, .string ⟨#[]⟩, .int .i64 0, .int .i64 0, .string ⟨#[]⟩, .int .i64 0, .int .i64 0, .string ⟨#[]⟩, .int .i64 0, .int .i64 0, .string ⟨#[]⟩, .int .i64 0, .int .i64 0, .string ⟨#[]⟩] := rfl
theorem zeros_drop {r : List GV} (hl : r.length ≤ 8) : flat r ++ (flat (List.replicate 8 zGV)).drop (flat r).length = flat (pad r) := by
  have e : List.replicate 8 zGV = List.replicate r.length zGV ++ List.replicate (8 - r.length) zGV := by rw [List.replicate_append_replicate]; congr 1; omega
  rw [e, flat_append]
  unfold pad
  rw [flat_append, List.drop_append_of_le_length (by rw [flat_length, flat_length]; simp), List.drop_eq_nil_of_le (by rw [flat_length, flat_length]; simp), List.nil_append]
theorem flat_ones (r : List GV) : (flat r).toArray.all (·.oneCell') = true := by
  rw [Array.all_eq_true_iff_forall_mem]
  intro v hv
  exact flat_one r v (by simpa using hv)
set_option maxRecDepth 100000 in
set_option maxHeartbeats 1600000 in
theorem key_of (A : Option Addr) (c : Nat) (r : List GV) (w : World) (hr : RowAt w w.heap.size A r) (hl : r.length ≤ 8) :
    Calls Try.prog 65 #[.slice A r.length c] w (KeyPost w r) := by
  have HC := Lib.hid (show ∃ (W1 : World) (m : Value), (Builtin.copy_ #[53, 53] 3 #[.slice (some ⟨w.heap.size + 1, 0, none⟩) 8 8, .slice A r.length c]).run Try.prog ((w.alloc (.cells #[.int .i64 0, .int .i64 0, .string ⟨#[]⟩, .int .i64 0, .int .i64 0, .string ⟨#[]⟩, .int .i64 0, .int .i64 0, .string ⟨#[]⟩, .int .i64 0, .int .i64 0, .string ⟨#[]⟩, .int .i64 0, .int .i64 0, .string ⟨#[]⟩, .int .i64 0, .int .i64 0, .string ⟨#[]⟩, .int .i64 0, .int .i64 0, .string ⟨#[]⟩, .int .i64 0, .int .i64 0, .string ⟨#[]⟩] 83)).alloc (.cells #[.int .i64 0, .int .i64 0, .string ⟨#[]⟩, .int .i64 0, .int .i64 0, .string ⟨#[]⟩, .int .i64 0, .int .i64 0, .string ⟨#[]⟩, .int .i64 0, .int .i64 0, .string ⟨#[]⟩, .int .i64 0, .int .i64 0, .string ⟨#[]⟩, .int .i64 0, .int .i64 0, .string ⟨#[]⟩, .int .i64 0, .int .i64 0, .string ⟨#[]⟩, .int .i64 0, .int .i64 0, .string ⟨#[]⟩] 83)) = .ok m W1 ∧ Whole W1 (w.heap.size + 1) 83 (flat (pad r)) ∧ Whole W1 w.heap.size 83 (flat (List.replicate 8 zGV)) ∧ Below w.heap.size w W1 by
    have hB0 : Below w.heap.size w ((w.alloc (.cells #[.int .i64 0, .int .i64 0, .string ⟨#[]⟩, .int .i64 0, .int .i64 0, .string ⟨#[]⟩, .int .i64 0, .int .i64 0, .string ⟨#[]⟩, .int .i64 0, .int .i64 0, .string ⟨#[]⟩, .int .i64 0, .int .i64 0, .string ⟨#[]⟩, .int .i64 0, .int .i64 0, .string ⟨#[]⟩, .int .i64 0, .int .i64 0, .string ⟨#[]⟩, .int .i64 0, .int .i64 0, .string ⟨#[]⟩] 83)).alloc (.cells #[.int .i64 0, .int .i64 0, .string ⟨#[]⟩, .int .i64 0, .int .i64 0, .string ⟨#[]⟩, .int .i64 0, .int .i64 0, .string ⟨#[]⟩, .int .i64 0, .int .i64 0, .string ⟨#[]⟩, .int .i64 0, .int .i64 0, .string ⟨#[]⟩, .int .i64 0, .int .i64 0, .string ⟨#[]⟩, .int .i64 0, .int .i64 0, .string ⟨#[]⟩, .int .i64 0, .int .i64 0, .string ⟨#[]⟩] 83)) := ((Below.refl _ _).alloc (Nat.le_refl _) _).alloc (by simp) _
    have hW : Whole ((w.alloc (.cells #[.int .i64 0, .int .i64 0, .string ⟨#[]⟩, .int .i64 0, .int .i64 0, .string ⟨#[]⟩, .int .i64 0, .int .i64 0, .string ⟨#[]⟩, .int .i64 0, .int .i64 0, .string ⟨#[]⟩, .int .i64 0, .int .i64 0, .string ⟨#[]⟩, .int .i64 0, .int .i64 0, .string ⟨#[]⟩, .int .i64 0, .int .i64 0, .string ⟨#[]⟩, .int .i64 0, .int .i64 0, .string ⟨#[]⟩] 83)).alloc (.cells #[.int .i64 0, .int .i64 0, .string ⟨#[]⟩, .int .i64 0, .int .i64 0, .string ⟨#[]⟩, .int .i64 0, .int .i64 0, .string ⟨#[]⟩, .int .i64 0, .int .i64 0, .string ⟨#[]⟩, .int .i64 0, .int .i64 0, .string ⟨#[]⟩, .int .i64 0, .int .i64 0, .string ⟨#[]⟩, .int .i64 0, .int .i64 0, .string ⟨#[]⟩, .int .i64 0, .int .i64 0, .string ⟨#[]⟩] 83)) (w.heap.size + 1) 83 (flat (List.replicate 8 zGV)) := by
      have := Whole.new (w.alloc (.cells #[.int .i64 0, .int .i64 0, .string ⟨#[]⟩, .int .i64 0, .int .i64 0, .string ⟨#[]⟩, .int .i64 0, .int .i64 0, .string ⟨#[]⟩, .int .i64 0, .int .i64 0, .string ⟨#[]⟩, .int .i64 0, .int .i64 0, .string ⟨#[]⟩, .int .i64 0, .int .i64 0, .string ⟨#[]⟩, .int .i64 0, .int .i64 0, .string ⟨#[]⟩, .int .i64 0, .int .i64 0, .string ⟨#[]⟩] 83)) 83 (flat (List.replicate 8 zGV))
      rw [show (w.alloc (.cells #[.int .i64 0, .int .i64 0, .string ⟨#[]⟩, .int .i64 0, .int .i64 0, .string ⟨#[]⟩, .int .i64 0, .int .i64 0, .string ⟨#[]⟩, .int .i64 0, .int .i64 0, .string ⟨#[]⟩, .int .i64 0, .int .i64 0, .string ⟨#[]⟩, .int .i64 0, .int .i64 0, .string ⟨#[]⟩, .int .i64 0, .int .i64 0, .string ⟨#[]⟩, .int .i64 0, .int .i64 0, .string ⟨#[]⟩] 83)).heap.size = w.heap.size + 1 by simp] at this
      exact this
    have hV : Whole ((w.alloc (.cells #[.int .i64 0, .int .i64 0, .string ⟨#[]⟩, .int .i64 0, .int .i64 0, .string ⟨#[]⟩, .int .i64 0, .int .i64 0, .string ⟨#[]⟩, .int .i64 0, .int .i64 0, .string ⟨#[]⟩, .int .i64 0, .int .i64 0, .string ⟨#[]⟩, .int .i64 0, .int .i64 0, .string ⟨#[]⟩, .int .i64 0, .int .i64 0, .string ⟨#[]⟩, .int .i64 0, .int .i64 0, .string ⟨#[]⟩] 83)).alloc (.cells #[.int .i64 0, .int .i64 0, .string ⟨#[]⟩, .int .i64 0, .int .i64 0, .string ⟨#[]⟩, .int .i64 0, .int .i64 0, .string ⟨#[]⟩, .int .i64 0, .int .i64 0, .string ⟨#[]⟩, .int .i64 0, .int .i64 0, .string ⟨#[]⟩, .int .i64 0, .int .i64 0, .string ⟨#[]⟩, .int .i64 0, .int .i64 0, .string ⟨#[]⟩, .int .i64 0, .int .i64 0, .string ⟨#[]⟩] 83)) w.heap.size 83 (flat (List.replicate 8 zGV)) := by
      exact (Whole.new w 83 (flat (List.replicate 8 zGV))).below (B := w.heap.size + 1) (((Below.refl _ _).alloc (by simp) (.cells #[.int .i64 0, .int .i64 0, .string ⟨#[]⟩, .int .i64 0, .int .i64 0, .string ⟨#[]⟩, .int .i64 0, .int .i64 0, .string ⟨#[]⟩, .int .i64 0, .int .i64 0, .string ⟨#[]⟩, .int .i64 0, .int .i64 0, .string ⟨#[]⟩, .int .i64 0, .int .i64 0, .string ⟨#[]⟩, .int .i64 0, .int .i64 0, .string ⟨#[]⟩, .int .i64 0, .int .i64 0, .string ⟨#[]⟩] 83))) (by omega)
    rcases hr with rfl | ⟨g, o, rfl, hg, hc⟩
    · refine ⟨_, _, run_copy_k0 _ _ _ _ _ _ 3 _ _ _ _ _ _ Try.underlying53 sizeV (by simp), ?_, hV, hB0⟩
      simpa [pad, flat] using hW
    · have h := run_copy_k Try.prog _ 53 53 3 52 3 (w.heap.size + 1) 0 8 8 ⟨g, o, none⟩ r.length c _ _ (flat r) Try.underlying53 sizeV hW (by rw [flat_length, show Nat.min r.length 8 = r.length from Nat.min_eq_left hl]) (row_cells fun i v h => (hc i v h).below hB0 hg) (by rw [flat_length]; simp [flat_length]; omega) (flat_one r)
      refine ⟨_, _, h, ?_, ?_, below_setRow hB0 (Nat.le_succ _) _⟩
      · refine (setRow_heap _ (w.heap.size + 1) _ _ _ _ hW).trans ?_
        rw [List.take_zero, List.nil_append, Nat.zero_add, List.toList_toArray, zeros_drop hl]
      · unfold Whole at hV ⊢
        rw [← hV]
        exact (below_setRow (B := w.heap.size + 1) (Below.refl _ _) (Nat.le_refl _) _).block w.heap.size (by omega))
  obtain ⟨W1, m, hcp, hW1, hV1, hB1⟩ := HC.out
  have HW := Lib.hid hW1
  have HV := Lib.hid hV1
  have HI := Lib.hid (show (Try.prog.info? 83).map (·.size) = some (flat (pad r)).toArray.size by rw [List.size_toArray, flat_length, pad_length hl]; exact infoKey)
  have HS := Lib.hid (show (flat (List.replicate 8 zGV)).toArray.size = (flat (pad r)).toArray.size by rw [List.size_toArray, List.size_toArray, flat_length, flat_length, pad_length hl, List.length_replicate])
  have hb0 : w.heap.size ≠ w.heap.size + 1 := by omega
  clear HC hW1 hV1 hr
  go_enter Try.func65, Try.ntmps65
  go_wp2_with (first | (refine wpList_load_row rfl _ (.tmp 3) rfl (w.heap.size + 1) rfl _ (flat (pad r)).toArray _ _ HW.out keyArr rfl HI.out ?_) | (refine wpList_store_row rfl _ (.tmp 2) (.tmp 7) rfl w.heap.size (flat (pad r)).toArray rfl rfl _ _ HV.out HI.out HS.out (flat_ones _) ?_))
  clear hcp
  refine bodyPost_ret (v := keyV r) (results_cell_row (fn := Try.f65) rfl _ _ w.heap.size _ (flat (pad r)).toArray (0, 0) _ rfl (setRow_heap _ _ _ _ _ _ HV.out) keyArr rfl HI.out) rfl ⟨rfl, below_setRow hB1 (Nat.le_refl _) _⟩
end Go.Proofs.Ytemcpdpbikgfcaa
namespace Go.Proofs.Ytemcpdpbikgfcaa
open Go.RowKit Go.Sort
set_option linter.unusedVariables false

theorem GAcc.iter {w0 w w' : World} {v : Value} {ps : List DH} {it : Nat} (h : GAcc w0 w v ps) (hg : w.grownBy w' (some it)) (hb : w0.heap.size ≤ it) (hi : ∀ cur t fr, w.heap[it]? ≠ some (.cells cur t fr)) : GAcc w0 w' v ps := by
  refine ⟨⟨h.own.1, ?_⟩, fun p hm => ?_, h.apart, h.cap, h.ne, h.low.trans ((Below.refl _ _).grown hg h.low.size (fun k hk => by cases hk; exact hb))⟩
  · rcases h.own.2 with h' | ⟨g, cap, cur, e', hg', hc, hr⟩
    · exact .inl h'
    · exact .inr ⟨g, cap, cur, e', hg', (hg.block g (Array.getElem?_eq_some_iff.1 hc).1 (fun e => by injection e with e; subst e; exact hi _ _ _ hc)).trans hc, hr⟩
  · rcases h.row p hm with h1 | ⟨b, l, e, hB, hW⟩
    · exact .inl h1
    · refine .inr ⟨b, l, e, hB, (hg.block b hW.lt (fun e' => ?_)).trans hW⟩
      injection e' with e'
      subst e'
      exact hi _ _ _ hW
theorem wpList_gapp {ops : Array Oper} {rest : List Oper} {o : Oper} {a : Act} {W' : World} {Q : Exit → Act → World → Prop}
    (hg : o.guard = none) (s x : Operand) (hop : o.op = Op.call { callee := Callee.builtin Builtin.append, args := #[s, x], argTypes := #[24, 24] })
    (w0 : World) (v : Value) (ps : List DH) (p : DH) (b : Nat) (hs : a.eval s = v) (hI2 : GAcc w0 W' v ps) (hp2 : RowW w0.heap.size W' p) (hpc : CapOk p.2.row.length p.1.2) (hap : ∀ q ∈ ps, Apart q p) (hx : a.eval x = .slice (some ⟨b, 0, none⟩) 1 1)
    (h0 : W'.cell? ⟨b, 0, none⟩ = some (.slice p.1.1 p.2.row.length p.1.2)) (h1 : W'.cell? ⟨b, 1, none⟩ = some (.int .i64 p.2.count)) (hb : ps.length ≤ 4194304)
    (hK : ∀ v' w', GAcc w0 w' v' (ps ++ [p]) → W'.grownBy w' v.ownBlock → wpList Try.prog ops Q rest (a.put o.dst v') w') : wpList Try.prog ops Q (o :: rest) a W' := by
  obtain ⟨i0, hi, hz0, hz1, hz2⟩ := info_parts infoDiff
  have how := hI2.own
  refine wpList_append_own _ hg s x _ hop w0.heap.size 55 i0 _ 2 32 Try.underlying24 hi hz0 hz1 hz2 rfl (by decide) v ps.length (flatH ps) hs how ⟨b, 0, none⟩ 1 1 (dhL p) hx rfl (dhL_cellsW h0 h1) (dhL_one p) (by unfold maxLen; omega) (by omega) hI2.low.size (fun v' w' h1 h2 h3 => hK v' w' ?_ h2)
  have hbw : Below w0.heap.size W' w' := (Below.refl _ _).grown h2 hI2.low.size (fun k hk => (World.ownsRow.lt how k hk).1)
  have hk := KeepT.grown how h2
  refine ⟨?_, fun q hm => ?_, ?_, fun q hm => ?_, fun e1 => hI2.ne (h3.1 e1).1, hI2.low.trans hbw⟩
  · rw [flatH_append, List.length_append]
    simpa [flatH] using h1
  · rw [List.mem_append, List.mem_singleton] at hm
    rcases hm with hm | rfl
    · exact (hI2.row q hm).keep hk
    · exact hp2.keep hk
  · rw [List.pairwise_append]
    exact ⟨hI2.apart, by simp, fun q hq r hr => by rw [List.mem_singleton] at hr; subst hr; exact hap q hq⟩
  · rw [List.mem_append, List.mem_singleton] at hm
    rcases hm with hm | rfl
    · exact hI2.cap q hm
    · exact hpc
theorem apart_ge {B g : Nat} {w : World} {q p : DH} (h : RowW B w q) (hp : p.1.1 = some ⟨g, 0, none⟩) (hg : w.heap.size ≤ g) : Apart q p := by
  rcases h with h | ⟨b, l, e, hB, hW⟩
  · exact .inl h
  · refine .inr (.inr ?_)
    rw [e, hp]
    intro he
    have := hW.lt
    simp at he
    all_goals omega
theorem iter_not {P : Program} {w : World} {k : TypeId} {R : Value → Option (DataW Unit × List MemPlace)} {b r n cnt : Nat} {D : DataW Unit} {left : Lit → Bool} (h : w.ranges P k R b r n D left cnt) : ∀ cur t fr, w.heap[r]? ≠ some (.cells cur t fr) := by
  obtain ⟨_, _, _, _, _, _, _, _, _, hit, _⟩ := h
  intro cur t fr e
  rw [hit] at e; cases e
theorem wpList_len_ms {ops : Array Oper} {rest : List Oper} {o : Oper} {a : Act} {w : World} {Q : Exit → Act → World → Prop} (hg : o.guard = none) (m : Operand) (hop : o.op = Op.call { callee := Callee.builtin Builtin.len, args := #[m], argTypes := #[81] })
    (b n N : Nat) (D : DataW Unit) (hm : a.eval m = .map (some b)) (hown : w.ownsMap Try.prog 83 (plainElem Try.prog 2) b n D) (hN : Maps.size D = N)
    (hK : wpList Try.prog ops Q rest (a.put o.dst (.int .i64 (N : Int))) w) : wpList Try.prog ops Q (o :: rest) a w := by
  subst hN
  exact wpList_len_own w hg m _ hop _ _ Try.underlying81 _ b n D hm hown hK
theorem apart_symm {p q : DH} (h : Apart p q) : Apart q p := by
  rcases h with h | h | h
  · exact .inr (.inl h)
  · exact .inl h
  · exact .inr (.inr (fun e => h e.symm))
theorem RowW.blk' {B g : Nat} {w w' : World} {p : DH} {l : List Value} (h : RowW B w p) (hg : w.grownBy w' (some g)) (hW : Whole w g 55 l) : RowW B w' p := by
  rcases h with h | ⟨b, l', e, hB, hW'⟩
  · exact .inl h
  · exact .inr ⟨b, l', e, hB, (hg.block b hW'.lt (fun e' => by injection e' with e'; exact whole_ne hW hW' e')).trans hW'⟩
theorem row_of_agg (x : Array Value) (r : List GV) (w : World) (hx : Value.agg x = keyV r) (h : rowOkB r = true) : Calls Try.prog 89 #[.agg x] w (RowPost w r) := by
  rw [hx]; exact row_of r w h
/-- What impl.diffsOf leaves. -/
def DOPost (w : World) (zs : List GDiff) (e : Ending) (w' : World) : Prop := Below w.heap.size w w' ∧
  ((∃ A c ps, e = .returned (.tuple #[.slice A ps.length c, .bool true]) ∧ DGA w.heap.size w' A ps ∧ Canon (ps.map (·.2)) zs ∧ ps.length ≤ 3000 ∧ ∀ p ∈ ps, cntB p.2.count = true) ∨
   (e = .returned (.tuple #[.slice none 0 0, .bool false]) ∧ ((∃ r, coef zs r ≠ 0 ∧ cntB (coef zs r) = false) ∨ ∃ rs : List (List GV), rs.Nodup ∧ 3000 < rs.length ∧ ∀ r ∈ rs, coef zs r ≠ 0)))
set_option maxRecDepth 100000 in
set_option maxHeartbeats 3200000 in
theorem diffs_of (b n : Nat) (zs : List GDiff) (w : World) (hM : Ms w b n zs) (hz : ∀ z ∈ zs, rowOkB z.row = true) :
    Calls Try.prog 68 #[.map (some b)] w (DOPost w zs) := by
  obtain ⟨D, ho, hD⟩ := hM
  have hbw := ho.lt
  obtain ⟨N, hN⟩ : ∃ N, Maps.size D = N := ⟨_, rfl⟩
  have HN := Lib.hid hN
  have HO := Lib.hid ho
  have HD := Lib.hid hD
  have HZ := Lib.hid hz
  clear ho hD hz hN
  by_cases hbig : 3000 < N
  · have hi : (3000 : Int) < (N : Int) := by omega
    go_enter Try.func68, Try.ntmps68
    go_wp2_with (at_len; refine wpList_len_ms rfl _ rfl b n N D rfl HO.out HN.out ?_)
    go_ret2
    obtain ⟨rs, h1, h2, h3⟩ := ms_rows HD.out (HO.out.entries keyK)
    exact ⟨Below.refl _ _, .inr ⟨rfl, .inr ⟨rs, h1, by rw [h2, HN.out]; exact hbig, h3⟩⟩⟩
  · have hi : ¬ (3000 : Int) < (N : Int) := by omega
    obtain ⟨i0, hi0, hz0, hz1, hz2⟩ := info_parts infoDiff
    have hmk := fun W => run_make (P := Try.prog) W 24 55 i0 _ Try.underlying24 hi0 hz0 .i64 .i64 0 N (by omega) (by omega) (by rw [hz2]; omega) (by omega)
    go_enter Try.func68, Try.ntmps68
    go_wp2_with (first | (at_len; refine wpList_len_ms rfl _ rfl b n N D rfl (by first | exact HO.out | exact HO.out.alloc _) HN.out ?_) | (at_range; refine wpList_range_own (H := Unit) _ rfl _ _ rfl _ _ keyK Try.underlying81 _ b n D rfl (HO.out.alloc _) ?_; intro w2 hrg hg2 hs2; refine Hid.out ?_))
    refine Lib.hid ?_
    have hB2 : Below (w.alloc (.cells (madeCells #[.slice none 0 0, .int .i64 0] (N * 2)) 55)).heap.size (w.alloc (.cells (madeCells #[.slice none 0 0, .int .i64 0] (N * 2)) 55)) w2 := ⟨hg2.os, hg2.tape, hg2.output, hg2.size, fun k hk => hg2.block k hk (by simp)⟩
    have HG := Lib.hid ((GAcc.made (w0 := w) (Below.refl _ _) rfl (m := N) (z := madeCells #[.slice none 0 0, .int .i64 0] (N * 2)) (by unfold maxLen; omega) (by simp [size_madeCells])).below hB2)
    have HR := Lib.hid (show w2.ranges Try.prog 83 (plainElem Try.prog 2) b (w.heap.size + 1) n D (Maps.has D) N by
      have h := hrg
      rw [HN.out, show (w.alloc (.cells (madeCells #[.slice none 0 0, .int .i64 0] (N * 2)) 55)).heap.size = w.heap.size + 1 by simp] at h
      exact h)
    clear hmk hrg hg2 hs2 hB2
    go_wp2_with fail
    go_loopw [4] (fun z wr => ∃ (left : Lit → Bool) (cnt : Nat) (ps : List DH), ps.length + cnt ≤ N ∧ Hid (wr.ranges Try.prog 83 (plainElem Try.prog 2) b (w.heap.size + 1) n D left cnt) ∧ Hid (GAcc w wr z ps) ∧ Hid (Got D zs left ps)) (fun _ wr => wr.rangeLeft b (w.heap.size + 1))
    case atStart => exact ⟨_, N, [], by simp, HR, HG, Lib.hid (Got.start HD.out)⟩
    case round =>
      obtain ⟨left, cnt, ps, hlen, hrg, hG, hGot⟩ := hrel
      rcases hG.out.own.2 with ⟨hnil, _⟩ | ⟨g, cap, cur, rfl, hgB, hh, hc1, hc2, hc3, hc4⟩
      · exact absurd hnil hG.out.ne
      have hW := Lib.hid (show Whole wr g 55 (flatH ps ++ cur.toList.drop (ps.length * 2)) by unfold Whole; rw [← hc4, List.take_append_drop]; exact hh)
      have HM := Lib.hid hrg.out.left_eq
      clear hh hc1 hc2 hc3 hc4
      go_wp2_with (at_next; refine wpList_next_ranges (H := Unit) (α := Array Value) (β := Int) _ rfl _ rfl _ keyK _ Value.agg (Value.int .i64) (fun key kl h => by obtain ⟨xs, L, e, _, _⟩ := keyOf_top (by rw [keyArr]) h; exact ⟨xs, e⟩) (fun v y h => by obtain ⟨c, rfl, _⟩ := plainElem_int_inv Try.underlying2 h; exact ⟨c, rfl⟩) b (w.heap.size + 1) n D left cnt rfl hrg.out ?_ ?_)
      · intro hc0 hl0
        refine Hid.out ?_
        refine Lib.hid ?_
        have HL := Lib.hid hl0
        clear hc0 hl0
        go_wp2_with fail
        refine (sort_diffs (B := w.heap.size) g cap ps (cur.toList.drop (ps.length * 2)) wr hW.out hG.out.row (fun p hp => by have := (rowOk_parts (hGot.out.row p hp).1).1; omega) (by omega)).mono ?_
        rintro e w3 ⟨rfl, qs, hp, hs, hW3, hg3⟩
        have HP := Lib.hid hp
        have HS := Lib.hid hs
        have HW3 := Lib.hid hW3
        have HG3 := Lib.hid hg3
        clear hp hs hW3 hg3
        go_wp2_with fail
        go_ret2
        have hq : ∀ q ∈ qs, q ∈ ps := fun q hq => HP.out.mem_iff.1 hq
        have hl : qs.length = ps.length := HP.out.length_eq
        refine ⟨hG.out.low.trans ((Below.refl _ _).grown HG3.out hG.out.low.size (fun k hk => by cases hk; exact hgB)), .inl ⟨some ⟨g, 0, none⟩, cap, qs, by rw [hl]; rfl, .inr ⟨g, _, rfl, ⟨hgB, HW3.out, fun q hm => (hG.out.row q (hq q hm)).blk' HG3.out hW.out, ?_, fun q hm => hG.out.cap q (hq q hm)⟩⟩, hGot.out.canon HL.out HZ.out HP.out HS.out, by omega, fun q hm => (hGot.out.row q (hq q hm)).2.2.2⟩⟩
        exact (HP.out.pairwise_iff (fun {a b} h => apart_symm h)).2 hG.out.apart
      · intro x c kl yd yp w1 cnt1 hkey hlk hv hat hrg1 hlt hg1 hs1 hen
        refine Hid.out ?_
        refine Lib.hid ?_
        obtain ⟨r, hr, rfl⟩ := HD.out.key kl (hGot.out.sub kl hlk)
        have hx : Value.agg x = keyV r := keyK.inj hkey (key_row hr)
        have hx24 : x.size = 24 := by
          unfold keyV at hx
          simp only [Value.agg.injEq] at hx
          rw [hx, List.size_toArray, flat_length, pad_length (rowOk_parts hr).1]
        have hx1 : x.all (·.oneCell') = true := by
          unfold keyV at hx
          simp only [Value.agg.injEq] at hx
          rw [hx]; exact flat_ones _
        have hyd : yd = .lit (.int .i64 c) := by
          obtain ⟨c', e1, e2, _⟩ := plainElem_int_inv Try.underlying2 hv
          simp only [Value.int.injEq, true_and] at e1
          subst e1
          exact congrArg Prod.fst e2
        have hc : coef zs r = c := by
          have h1 := HD.out.at_ r hr
          rw [hat, hyd] at h1
          simpa using h1.symm
        have h0 : c ≠ 0 := by
          have h1 := HD.out.has r hr
          rw [hGot.out.sub _ hlk, hc] at h1
          simpa using h1.symm
        have hG1 := hG.out.iter hg1 (Nat.le_succ _) (iter_not hrg.out)
        have HX := Lib.hid hx
        have HX24 := Lib.hid (show (#[.int .i64 0, .int .i64 0, .string ⟨#[]⟩, .int .i64 0, .int .i64 0, .string ⟨#[]⟩, .int .i64 0, .int .i64 0, .string ⟨#[]⟩, .int .i64 0, .int .i64 0, .string ⟨#[]⟩, .int .i64 0, .int .i64 0, .string ⟨#[]⟩, .int .i64 0, .int .i64 0, .string ⟨#[]⟩, .int .i64 0, .int .i64 0, .string ⟨#[]⟩, .int .i64 0, .int .i64 0, .string ⟨#[]⟩] : Array Value).size = x.size by rw [hx24]; rfl)
        have HI := Lib.hid (show (Try.prog.info? 83).map (·.size) = some x.size by rw [hx24]; exact infoKey)
        have HX1 := Lib.hid hx1
        have HC := Lib.hid hc
        have H0 := Lib.hid h0
        have HRG := Lib.hid hrg1
        have HG1 := Lib.hid hG1
        have HLK := Lib.hid hlk
        have HR' := Lib.hid hr
        clear hx hx24 hx1 hyd hc h0 hrg1 hG1 hlk hr hkey hv hat hs1 hg1
        by_cases hcb : cntB c = true
        · go_wp2_with (refine wpList_store_row rfl _ (.tmp 5) (.tmp 18) rfl w1.heap.size x rfl rfl _ _ (heap_alloc_new w1 _) HI.out HX24.out HX1.out ?_; rw [World.setRow_alloc_new])
          refine (impl_countOk c _).mono ?_
          rintro e w2 ⟨rfl, rfl⟩
          rw [hcb]
          have hBx : Below w1.heap.size w1 (w1.alloc (.cells x 83)) := (Below.refl _ _).alloc (Nat.le_refl _) _
          clear hen
          go_wp2_with (refine wpList_load_row rfl _ (.tmp 5) rfl w1.heap.size rfl _ x _ _ (heap_alloc_new w1 _) keyArr rfl HI.out ?_)
          refine (row_of_agg x r _ HX.out HR'.out).mono ?_
          rintro e w4 ⟨g4, rfl, hg4, hW4, hb4⟩
          have hB4 : Below w1.heap.size w1 w4 := below_next hBx hb4 rfl rfl
          have hB5 : Below w1.heap.size w1 (w4.alloc (.cells #[.slice (some ⟨g4, 0, none⟩) r.length r.length, .int .i64 c] 55)) := hB4.alloc hB4.size _
          have hG5 := Lib.hid (HG1.out.below hB5)
          have hR5 := Lib.hid (show RowW w.heap.size (w4.alloc (.cells #[.slice (some ⟨g4, 0, none⟩) r.length r.length, .int .i64 c] 55)) ((some ⟨g4, 0, none⟩, r.length), ⟨r, c⟩) from .inr ⟨g4, [], rfl, by have := HG1.out.low.size; simp at hg4; omega, by rw [List.append_nil]; exact hW4.below ((Below.refl _ _).alloc (Nat.le_refl _) _) hW4.lt⟩)
          have hcp := Lib.hid (show CapOk r.length r.length from ⟨Nat.le_refl _, by have := (rowOk_parts HR'.out).1; omega⟩)
          have hap := Lib.hid (show ∀ q ∈ ps, Apart q ((some ⟨g4, 0, none⟩, r.length), ⟨r, c⟩) from fun q hq => apart_ge (HG1.out.row q hq) rfl (by simp at hg4; omega))
          have hrg5 := Lib.hid (HRG.out.kept (grown_below (b := none) hB5) (by simp) (by simp))
          have hb4l : ps.length ≤ 4194304 := by omega
          clear hg4 hW4 hb4 hB4 hB5 hBx
          go_wp2_with (at_builtin; refine wpList_gapp rfl (.tmp 23) (.tmp 28) rfl w _ ps ((some ⟨g4, 0, none⟩, r.length), ⟨r, c⟩) w4.heap.size rfl hG5.out hR5.out hcp.out hap.out rfl (by simp) (by simp) hb4l ?_; intro v6 w6 hG6 hg6; refine Hid.out ?_)
          refine Lib.hid ?_
          have HG6 := Lib.hid hG6
          have hrg6 := Lib.hid (hrg5.out.kept hg6 (row_ne_low hG5.out.own hbw) (row_ne_iter hG5.out.own hrg5.out))
          have HGot := Lib.hid (hGot.out.step (p := ((some ⟨g4, 0, none⟩, r.length), ⟨r, c⟩)) HLK.out HR'.out HC.out H0.out hcb)
          clear hG6 hg6
          go_wp2_with fail
          go_roundw
          case rel => exact ⟨_, cnt1, _, by simp; omega, hrg6, HG6, HGot⟩
          case measure => rw [hrg6.out.left_eq, HM.out]; exact hlt
        · rw [Bool.not_eq_true] at hcb
          go_wp2_with (refine wpList_store_row rfl _ (.tmp 5) (.tmp 18) rfl w1.heap.size x rfl rfl _ _ (heap_alloc_new w1 _) HI.out HX24.out HX1.out ?_; rw [World.setRow_alloc_new])
          refine (impl_countOk c _).mono ?_
          rintro e w2 ⟨rfl, rfl⟩
          rw [hcb]
          clear hen
          go_wp2_with fail
          go_ret2
          exact ⟨HG1.out.low.alloc HG1.out.low.size _, .inr ⟨rfl, .inl ⟨r, by rw [HC.out]; exact H0.out, by rw [HC.out]; exact hcb⟩⟩⟩
end Go.Proofs.Ytemcpdpbikgfcaa
