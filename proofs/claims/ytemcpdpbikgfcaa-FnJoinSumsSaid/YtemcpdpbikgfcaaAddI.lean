/-
  (multiset[rowKey]).add.
-/
import Derived.Test.YtemcpdpbikgfcaaRowIZ
import Derived.Maps.OwnOps
namespace Go.Proofs.Ytemcpdpbikgfcaa
open Go.RowKit
set_option linter.unusedVariables false

theorem grown_drew {w w1 : World} {row : Option Nat} (h : w.grownBy w1 row) : w.grownBy w1.drew row := ⟨h.os, h.tape, h.output, h.size, h.block⟩
/-- What (multiset[rowKey]).add leaves. -/
def AddPost (w : World) (b n : Nat) (zs : List GDiff) (e : Ending) (w' : World) : Prop := e = .returned (.tuple #[]) ∧ Ms w' b n zs ∧ w.grownBy w' (some b)
set_option maxRecDepth 100000 in
set_option maxHeartbeats 3200000 in
theorem add_walk (b : Nat) (c s : Int) (st : Nat) (v0 : Value) (w W1 W2 : World) (cs : Array Value) (hcs : cs.size = 24) (Z : Ending → World → Prop)
    (h1 : (Instr.lookup 81 (.map (some b)) (.agg cs) false).run Try.prog (w.alloc (.cells cs 83)).drew = .ok (.int .i64 s) (w.alloc (.cells cs 83)).drew)
    (h2 : (Instr.mapEntry 81 (.map (some b)) (.agg cs)).run Try.prog (w.alloc (.cells cs 83)).drew = .ok (.tuple #[v0, .int .i64 (st : Int)]) W1)
    (h3 : (Instr.lookup 81 (.map (some b)) (.agg cs) false).run Try.prog W1 = .ok (.int .i64 s) W1)
    (h4 : (Instr.entryStore 81 (.map (some b)) (.int .i64 (st : Int)) (.int .i64 (s + c))).run Try.prog W1 = .ok () W2)
    (h5 : (Instr.lookup 81 (.map (some b)) (.agg cs) false).run Try.prog W2 = .ok (.int .i64 (s + c)) W2)
    (hl : W2.heap[w.heap.size]? = some (.cells cs 83 (0, 0)))
    (hs1 : IntKind.i64.wrap (s + c) = s + c) (hs2 : -4611686018427387904 ≤ s + c) (hs3 : s + c ≤ 4611686018427387904)
    (hd : s + c = 0 → ∃ W3, (Builtin.delete_ #[81, 83] 0 #[.map (some b), .agg cs]).run Try.prog W2 = .ok (.tuple #[]) W3 ∧ Z (.returned (.tuple #[])) W3)
    (hz : s + c ≠ 0 → Z (.returned (.tuple #[])) W2) :
    Calls Try.prog 66 #[.map (some b), .agg cs, .int .i64 c] w Z := by
  have HD := Lib.hid hd
  have HZ := Lib.hid hz
  have H1 := Lib.hid h1
  have H2 := Lib.hid h2
  have H3 := Lib.hid h3
  have H4 := Lib.hid h4
  have H5 := Lib.hid h5
  have HL := Lib.hid hl
  have HI := Lib.hid (show (Try.prog.info? 83).map (·.size) = some cs.size by rw [hcs]; exact infoKey)
  have HN := Lib.hid (show (w.alloc (.cells cs 83)).drew.heap[w.heap.size]? = some (.cells cs 83 (0, 0)) from heap_alloc_new w _)
  clear hd hz h1 h2 h3 h4 h5 hl hcs
  go_enter Try.func66, Try.ntmps66
  go_wp2_with fail
  refine wp_region_any (by kernel_rfl) ?_
  change wpAny _ _ _ _ _ _ _ (World.drew _)
  refine wpAny_take (i := 0) (v := .map (some b)) rfl (by kernel_rfl) (by kernel_rfl) (by kernel_rfl) (fun _ _ _ h => h) (Or.inl ⟨by rfl, ?_⟩) ?_
  · intro w; go_simp
  refine wpAny_take (i := 3) (v := .int .i64 c) rfl (by kernel_rfl) (by kernel_rfl) (by kernel_rfl) (fun _ _ _ h => h) (Or.inl ⟨by rfl, ?_⟩) ?_
  · intro w; go_simp
  refine wpAny_ready (rs := [1]) (by kernel_rfl) (by simp) ?_
  refine AllReady.cons rfl (fun K hK => ?_) AllReady.nil
  refine step_load_row rfl _ _ rfl w.heap.size rfl _ cs _ _ HN.out keyArr rfl HI.out ?_
  refine hK _ _ ?_
  clear hK K
  refine wpAny_ready (rs := [2, 5]) (by kernel_rfl) (by simp) ?_
  refine AllReady.cons rfl (fun K hK => ?_) (AllReady.cons rfl (fun K hK => ?_) AllReady.nil)
  · refine step_lookup rfl _ _ _ rfl (.map (some b)) (.agg cs) _ rfl rfl H1.out ?_
    try go_simp
    refine hK _ _ ?_
    clear hK K
    refine wpAny_take (i := 4) (v := .int .i64 (s + c)) rfl (by kernel_rfl) (by kernel_rfl) (by kernel_rfl) (fun _ _ _ h => h) (Or.inl ⟨by rfl, ?_⟩) ?_
    · intro w; go_simp
    refine wpAny_ready (rs := [5]) (by kernel_rfl) (by simp) ?_
    refine AllReady.cons rfl (fun K hK => ?_) AllReady.nil
    refine step_entry rfl _ _ _ rfl (.map (some b)) (.agg cs) _ rfl rfl H2.out ?_
    try go_simp
    refine hK _ _ ?_
    clear hK K
    refine wpAny_take (i := 6) (v := .int .i64 (st : Int)) rfl (by kernel_rfl) (by kernel_rfl) (by kernel_rfl) (fun _ _ _ h => h) (Or.inl ⟨by rfl, ?_⟩) ?_
    · intro w; go_simp
    refine wpAny_ready (rs := [7]) (by kernel_rfl) (by simp) ?_
    refine AllReady.cons rfl (fun K hK => ?_) AllReady.nil
    refine step_estore rfl _ _ _ _ rfl (.map (some b)) (.int .i64 (st : Int)) (.int .i64 (s + c)) rfl rfl rfl H4.out ?_
    try go_simp
    refine hK _ _ ?_
    clear hK K
    refine wpAny_done (by kernel_rfl) ?_ _
    by_cases h0 : s + c = 0
    · obtain ⟨W3, hd, hz⟩ := HD.out h0
      have hq : ((s + c : Int) == 0) = true := by simpa using h0
      have HDl := Lib.hid hd
      have HZ3 := Lib.hid hz
      have h5 := H5.out
      clear h0 hd hz HD HZ
      go_wp2_with (first | (refine wpList_load_row rfl _ (.tmp 4) rfl w.heap.size rfl _ cs _ _ HL.out keyArr rfl HI.out ?_) | (at_delete; refine wpList_delete_run rfl _ _ _ _ rfl (.map (some b)) (.agg cs) rfl rfl HDl.out ?_))
      go_end0
      exact HZ3.out
    · have hq : ((s + c : Int) == 0) = false := by simpa using h0
      have HZ2 := Lib.hid (HZ.out h0)
      have h5 := H5.out
      clear h0 HD HZ
      go_wp2_with (first | (refine wpList_load_row rfl _ (.tmp 4) rfl w.heap.size rfl _ cs _ _ HL.out keyArr rfl HI.out ?_))
      go_end0
      exact HZ2.out
  · refine step_entry rfl _ _ _ rfl (.map (some b)) (.agg cs) _ rfl rfl H2.out ?_
    try go_simp
    refine hK _ _ ?_
    clear hK K
    refine wpAny_take (i := 6) (v := .int .i64 (st : Int)) rfl (by kernel_rfl) (by kernel_rfl) (by kernel_rfl) (fun _ _ _ h => h) (Or.inl ⟨by rfl, ?_⟩) ?_
    · intro w; go_simp
    refine wpAny_ready (rs := [2]) (by kernel_rfl) (by simp) ?_
    refine AllReady.cons rfl (fun K hK => ?_) AllReady.nil
    refine step_lookup rfl _ _ _ rfl (.map (some b)) (.agg cs) _ rfl rfl H3.out ?_
    try go_simp
    refine hK _ _ ?_
    clear hK K
    refine wpAny_take (i := 4) (v := .int .i64 (s + c)) rfl (by kernel_rfl) (by kernel_rfl) (by kernel_rfl) (fun _ _ _ h => h) (Or.inl ⟨by rfl, ?_⟩) ?_
    · intro w; go_simp
    refine wpAny_ready (rs := [7]) (by kernel_rfl) (by simp) ?_
    refine AllReady.cons rfl (fun K hK => ?_) AllReady.nil
    refine step_estore rfl _ _ _ _ rfl (.map (some b)) (.int .i64 (st : Int)) (.int .i64 (s + c)) rfl rfl rfl H4.out ?_
    try go_simp
    refine hK _ _ ?_
    clear hK K
    refine wpAny_done (by kernel_rfl) ?_ _
    by_cases h0 : s + c = 0
    · obtain ⟨W3, hd, hz⟩ := HD.out h0
      have hq : ((s + c : Int) == 0) = true := by simpa using h0
      have HDl := Lib.hid hd
      have HZ3 := Lib.hid hz
      have h5 := H5.out
      clear h0 hd hz HD HZ
      go_wp2_with (first | (refine wpList_load_row rfl _ (.tmp 4) rfl w.heap.size rfl _ cs _ _ HL.out keyArr rfl HI.out ?_) | (at_delete; refine wpList_delete_run rfl _ _ _ _ rfl (.map (some b)) (.agg cs) rfl rfl HDl.out ?_))
      go_end0
      exact HZ3.out
    · have hq : ((s + c : Int) == 0) = false := by simpa using h0
      have HZ2 := Lib.hid (HZ.out h0)
      have h5 := H5.out
      clear h0 HD HZ
      go_wp2_with (first | (refine wpList_load_row rfl _ (.tmp 4) rfl w.heap.size rfl _ cs _ _ HL.out keyArr rfl HI.out ?_))
      go_end0
      exact HZ2.out
theorem add_any (b n : Nat) (zs : List GDiff) (z : GDiff) (w : World) (hM : Ms w b n zs) (hn : n < maxLen) (hr : rowOkB z.row = true)
    (h1 : -4611686018427387904 ≤ coef zs z.row + z.count) (h2 : coef zs z.row + z.count ≤ 4611686018427387904) :
    Calls Try.prog 66 #[.map (some b), keyV z.row, .int .i64 z.count] w (AddPost w b (n + 1) (zs ++ [z])) := by
  have hkey := key_row hr
  have hcs : (flat (pad z.row)).toArray.size = 24 := by rw [List.size_toArray, flat_length, pad_length (rowOk_parts hr).1]
  unfold keyV at hkey ⊢
  generalize (flat (pad z.row)).toArray = cs at *
  obtain ⟨D, ho, hD⟩ := hM
  have hbw := ho.lt
  have hgw : w.grownBy (w.alloc (.cells cs 83)).drew (some b) := grown_drew (World.grownBy_alloc w _ _)
  have ho0 : (w.alloc (.cells cs 83)).drew.ownsMap Try.prog 83 (plainElem Try.prog 2) b n D := (ho.alloc _).drew
  obtain ⟨s, st, v0, W1, hat, l1, l2, l3, hg1, l4⟩ := entry_mid (t := 81) keyKL Try.underlying81 Try.underlying2 zero64 ho0 hn hkey
  have es : s = coef zs z.row := by have := hD.at_ z.row hr; rw [hat] at this; simpa using this
  subst es
  have hx : (Lit.int .i64 (coef zs z.row + z.count)).wf = true := WalkArith.wf_i64 (by omega)
  obtain ⟨W2, l5, ho2, hg2⟩ := l4 _ hx
  obtain ⟨s2, l6, hat2, _⟩ := ho2.lookup_int keyK Try.underlying81 Try.underlying2 (zero64 W2) hkey
  have es2 : coef zs z.row + z.count = s2 := by
    rw [Maps.atKey_put_same ho.isMap (kl_key hr)] at hat2
    simpa using hat2
  subst es2
  have hl : W2.heap[w.heap.size]? = some (.cells cs 83 (0, 0)) := by
    rw [hg2.block w.heap.size (by show w.heap.size < (w.alloc (.cells cs 83)).heap.size; simp) (by intro e; injection e with e; omega)]
    exact heap_alloc_new w _
  have hw1 : IntKind.i64.wrap (coef zs z.row + z.count) = coef zs z.row + z.count := by rw [IntKind.wrap_i64]; omega
  refine add_walk b z.count _ st v0 w W1 W2 cs hcs _ l1 l2 l3 l5 l6 hl hw1 h1 h2 (fun h0 => ?_) (fun h0 => ?_)
  · obtain ⟨W3, hdel, ho3, ht3⟩ := ho2.drop keyK Try.underlying81 hkey 0
    exact ⟨W3, hdel, rfl, ⟨_, ho3, hD.del ho.isMap hr h0⟩, grown_next (grown_next hgw hg2) ht3.grown⟩
  · exact ⟨rfl, ⟨_, ho2, hD.put ho.isMap hr h0⟩, grown_next hgw hg2⟩
end Go.Proofs.Ytemcpdpbikgfcaa
