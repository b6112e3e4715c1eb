/-
  Rows of nodes of the call's own; impl.appendFlat.
-/
import Derived.Test.YteoepnadjkjlmaaGreatGrow
import Derived.Test.YteoepnadjkjlmaaGreatMarkZ
import Derived.Test.YteoepnadjkjlmaaGreatToNode
import Derived.Deep.RegionHeld3
namespace Go.Proofs.YteoepnadjkjlmaaGreat
open Go.RowKit Go.Sort
set_option linter.unusedVariables false

def nodeL (x : GNode) : List Value := [.int .i64 x.k, .string x.name, .int .i64 x.v.k, .int .i64 x.v.n, .string x.v.t, .int .i64 x.size]
def flatN : List GNode → List Value
  | [] => []
  | x :: r => nodeL x ++ flatN r
theorem flatN_append (a b : List GNode) : flatN (a ++ b) = flatN a ++ flatN b := by
  induction a with
  | nil => rfl
  | cons x a ih => simp [flatN, ih]
theorem flatN_length (a : List GNode) : (flatN a).length = a.length * 6 := by
  induction a with
  | nil => rfl
  | cons x a ih => simp [flatN, nodeL, ih]; omega
def NRow (B : Nat) (w : World) (v : Value) (r : List GNode) : Prop := w.ownsRow B 81 6 v r.length (flatN r)
def zV : GV := ⟨0, 0, ByteArray.empty⟩
def treeN : Tr → List GNode
  | .var s => [⟨1, s, zV, 0⟩]
  | .con v => [⟨2, ByteArray.empty, v, 0⟩]
  | .any => [⟨6, ByteArray.empty, zV, 0⟩]
  | .op k l r => ⟨k, ByteArray.empty, zV, ((treeN l).length + (treeN r).length : Nat)⟩ :: (treeN l ++ treeN r)
theorem as_var (W : World) (v : Value) : (Instr.typeAssert (.iface 125 v) 120 125 true).run Tryz.prog W = .ok (.tuple #[v, .bool true]) W := by kernel_rfl
theorem as_con (W : World) (v : Value) : (Instr.typeAssert (.iface 126 v) 120 126 true).run Tryz.prog W = .ok (.tuple #[v, .bool true]) W := by kernel_rfl
theorem as_op (W : World) (v : Value) : (Instr.typeAssert (.iface 131 v) 120 131 true).run Tryz.prog W = .ok (.tuple #[v, .bool true]) W := by kernel_rfl
theorem as_con_var (W : World) (v : Value) : (Instr.typeAssert (.iface 126 v) 120 125 true).run Tryz.prog W = .ok (.tuple #[.string ⟨#[]⟩, .bool false]) W := by kernel_rfl
theorem as_op_var (W : World) (v : Value) : (Instr.typeAssert (.iface 131 v) 120 125 true).run Tryz.prog W = .ok (.tuple #[.string ⟨#[]⟩, .bool false]) W := by kernel_rfl
theorem as_any_var (W : World) (v : Value) : (Instr.typeAssert (.iface 128 v) 120 125 true).run Tryz.prog W = .ok (.tuple #[.string ⟨#[]⟩, .bool false]) W := by kernel_rfl
theorem as_op_con (W : World) (v : Value) : (Instr.typeAssert (.iface 131 v) 120 126 true).run Tryz.prog W = .ok (.tuple #[.agg #[.int .i64 0, .int .i64 0, .string ⟨#[]⟩], .bool false]) W := by kernel_rfl
theorem as_any_con (W : World) (v : Value) : (Instr.typeAssert (.iface 128 v) 120 126 true).run Tryz.prog W = .ok (.tuple #[.agg #[.int .i64 0, .int .i64 0, .string ⟨#[]⟩], .bool false]) W := by kernel_rfl
theorem as_any_op (W : World) (v : Value) : (Instr.typeAssert (.iface 128 v) 120 131 true).run Tryz.prog W = .ok (.tuple #[.agg #[.int .i64 0, .nilIface, .nilIface], .bool false]) W := by kernel_rfl
theorem news_six (w : World) (a b c d e f : Value) (t : TypeId) : ∀ j u, [a, b, c, d, e, f][j]? = some u → (w.alloc (.cells #[a, b, c, d, e, f] t)).cell? ((⟨w.heap.size, 0, none⟩ : Addr).add j) = some u := by
  intro j u hj
  match j, hj with
  | 0, hj => simp at hj; subst hj; simp [Addr.add]
  | 1, hj => simp at hj; subst hj; simp [Addr.add]
  | 2, hj => simp at hj; subst hj; simp [Addr.add]
  | 3, hj => simp at hj; subst hj; simp [Addr.add]
  | 4, hj => simp at hj; subst hj; simp [Addr.add]
  | 5, hj => simp at hj; subst hj; simp [Addr.add]
theorem news_six1 (w : World) (ob : Obj) (a b c d e f : Value) (t : TypeId) : ∀ j u, [a, b, c, d, e, f][j]? = some u → ((w.alloc ob).alloc (.cells #[a, b, c, d, e, f] t)).cell? ((⟨w.heap.size + 1, 0, none⟩ : Addr).add j) = some u := by
  have := news_six (w.alloc ob) a b c d e f t
  rwa [show (w.alloc ob).heap.size = w.heap.size + 1 by simp] at this
theorem nodeL_one (x : GNode) : ∀ u ∈ nodeL x, u.oneCell' = true := by
  intro u hu; simp [nodeL] at hu; rcases hu with rfl | rfl | rfl | rfl | rfl | rfl <;> rfl
theorem nrow_app {B : Nat} {w2 : World} {v2 : Value} {r : List GNode} {x : GNode} (h : w2.ownsRow B 81 6 v2 (r.length + 1) (flatN r ++ nodeL x)) : NRow B w2 v2 (r ++ [x]) := by
  unfold NRow
  rw [flatN_append, List.length_append]
  simpa [flatN] using h
theorem NRow.slice {B : Nat} {w : World} {v : Value} {r : List GNode} (h : NRow B w v r) : ∃ A c, v = .slice A r.length c := by
  rcases h.2 with ⟨rfl, h0⟩ | ⟨g, cap, cur, rfl, hg, hh, hc1, hc2, hc3, hc4⟩
  · exact ⟨none, 0, by rw [h0]⟩
  · exact ⟨_, cap, rfl⟩
/-- Blocks that hold no nodes are as before. -/
def KeepN (w w' : World) : Prop := ∀ i, i < w.heap.size → (∀ cur fr, w.heap[i]? ≠ some (.cells cur 81 fr)) → w'.heap[i]? = w.heap[i]?
theorem KeepN.refl (w : World) : KeepN w w := fun _ _ _ => rfl
theorem KeepN.trans {a b c : World} (h : KeepN a b) (hs : a.heap.size ≤ b.heap.size) (k : KeepN b c) : KeepN a c := fun i hi hn => (k i (by omega) (fun cur fr => by rw [h i hi hn]; exact hn cur fr)).trans (h i hi hn)
theorem KeepN.below {w w' : World} (h : Below w.heap.size w w') : KeepN w w' := fun i hi _ => h.block i hi
theorem KeepN.grown {B : Nat} {w w' : World} {A : Option Addr} {n c : Nat} {xs : List Value} (hr : w.ownsRow B 81 6 (.slice A n c) n xs) (hg : w.grownBy w' (Value.slice A n c).ownBlock) : KeepN w w' := by
  intro i hi hn
  refine hg.block i hi ?_
  intro he
  rcases hr.2 with ⟨e, _⟩ | ⟨g, cap, cur, e, hg, hh, _⟩
  · cases e; simp [Value.ownBlock] at he
  · cases e; simp [Value.ownBlock] at he; subst he; exact hn _ _ hh
theorem KeepN.cell {w w' : World} (h : KeepN w w') {i : Nat} {l : Array Value} {t : TypeId} (hi : w.heap[i]? = some (.cells l t)) (ht : t ≠ 81) : w'.heap[i]? = some (.cells l t) := by
  have hlt : i < w.heap.size := by
    rcases Nat.lt_or_ge i w.heap.size with h' | h'
    · exact h'
    · rw [Array.getElem?_eq_none h'] at hi; cases hi
  rw [h i hlt (fun cur fr e => by rw [hi] at e; cases e; exact ht rfl)]; exact hi
def FlatPost (B : Nat) (w : World) (r : List GNode) (t : Tr) (e : Ending) (w' : World) : Prop :=
  ∃ v', e = .returned v' ∧ NRow B w' v' (r ++ treeN t) ∧ Below B w w' ∧ KeepN w w'
theorem flat_keep {B k0 : Nat} {w w0 w1 w' : World} {k : Int} {u1 u2 : Value} (hb : Below B w1 w') (hk : KeepN w1 w') (hT : Hid (w1.heap[k0]? = some (.cells #[.int .i64 k, u1, u2] 131))) (hK : Hid (KeepN w w1)) (hB : Below B w w1) (hs : w0.heap.size ≤ w1.heap.size) :
    w'.cell? ⟨k0, 1, none⟩ = some u1 ∧ w'.cell? ⟨k0, 2, none⟩ = some u2 ∧ Hid (w'.heap[k0]? = some (.cells #[.int .i64 k, u1, u2] 131)) ∧ w0.heap.size ≤ w'.heap.size ∧ Hid (KeepN w w') ∧ Below B w w' := by
  have hT' := hk.cell hT.out (by decide)
  exact ⟨by simp [World.cell?, hT'], by simp [World.cell?, hT'], Lib.hid hT', Nat.le_trans hs hb.size, Lib.hid (KeepN.trans hK.out hB.size hk), hB.trans hb⟩
theorem NRow.drew {B : Nat} {w : World} {v : Value} {r : List GNode} (h : NRow B w v r) : NRow B w.drew v r := h
theorem flat_start {B k0 : Nat} {w w4 : World} {k : Int} {u1 u2 : Value} (hT : Hid (w4.heap[k0]? = some (.cells #[.int .i64 k, u1, u2] 131))) (hK : Hid (KeepN w w4)) (hB : Below B w w4) :
    w4.drew.cell? ⟨k0, 1, none⟩ = some u1 ∧ w4.drew.cell? ⟨k0, 2, none⟩ = some u2 ∧ Hid (w4.drew.heap[k0]? = some (.cells #[.int .i64 k, u1, u2] 131)) ∧ w4.heap.size ≤ w4.drew.heap.size ∧ Hid (KeepN w w4.drew) ∧ Below B w w4.drew := by
  have hT' : w4.drew.heap[k0]? = some (.cells #[.int .i64 k, u1, u2] 131) := hT.out
  exact ⟨by simp only [World.cell?, hT']; rfl, by simp only [World.cell?, hT']; rfl, Lib.hid hT', Nat.le_refl _, Lib.hid hK.out, hB.drew⟩
theorem NRow.len {B : Nat} {w : World} {v : Value} {r4 : List GNode} {t : Tr} (h : NRow B w v (r4 ++ treeN t)) : ∃ r5 A c, Hid (r5 = r4 ++ treeN t) ∧ Hid (r5.length = r4.length + (treeN t).length) ∧ v = .slice A r5.length c ∧ NRow B w (.slice A r5.length c) r5 := by
  obtain ⟨A, c, e⟩ := h.slice
  exact ⟨_, A, c, Lib.hid rfl, Lib.hid (by simp), e, by rw [← e]; exact h⟩
theorem flatN_set : ∀ (r : List GNode) (j : Nat) (x : GNode) (s : Int), r[j]? = some x → (flatN r).set (j * 6 + 5) (.int .i64 s) = flatN (r.set j ⟨x.k, x.name, x.v, s⟩)
  | [], j, x, s, h => by simp at h
  | y :: r, 0, x, s, h => by simp at h; subst h; simp [flatN, nodeL]
  | y :: r, j + 1, x, s, h => by
    have := flatN_set r j x s (by simpa using h)
    rw [show (j + 1) * 6 + 5 = (j * 6 + 5) + 1 + 1 + 1 + 1 + 1 + 1 by omega]
    simp [flatN, nodeL, this]
theorem nrow_open {B : Nat} {w : World} {A : Option Addr} {c : Nat} {r6 rr : List GNode} (h : NRow B w (.slice A r6.length c) r6) (hlt : rr.length < r6.length) :
    ∃ g, A = some ⟨g, 0, none⟩ ∧ B ≤ g ∧ (∃ u, w.cell? ⟨g, rr.length * 6 + 5, none⟩ = some u) ∧ w.frozen? ⟨g, rr.length * 6 + 5, none⟩ = false ∧ (∃ cur, w.heap[g]? = some (.cells cur 81)) ∧
      ∀ (x : GNode) (s : Int), r6[rr.length]? = some x → NRow B (w.setCell ⟨g, rr.length * 6 + 5, none⟩ (.int .i64 s)) (.slice (some ⟨g, 0, none⟩) r6.length c) (r6.set rr.length ⟨x.k, x.name, x.v, s⟩) := by
  rcases h.2 with ⟨e, h0⟩ | ⟨g, cap, cur, e, hg, hh, hc1, hc2, hc3, hc4⟩
  · omega
  · cases e
    have hW : Whole w g 81 cur.toList := by unfold Whole; rw [Array.toArray_toList]; exact hh
    refine ⟨g, rfl, hg, ?_, hW.frozen _, ⟨cur, hh⟩, fun x s hx => ⟨?_, .inr ⟨g, c, (cur.toList.set (rr.length * 6 + 5) (.int .i64 s)).toArray, ?_, hg, ?_, ?_, hc2, ?_, ?_⟩⟩⟩
    · have hlt2 : rr.length * 6 + 5 < cur.toList.length := by have : cur.toList.length = cur.size := rfl; omega
      exact ⟨_, (hW.cell _).trans (List.getElem?_eq_getElem hlt2)⟩
    · rw [flatN_length]
    · simp
    · exact hW.set_ _ _
    · simpa using hc1
    · simp [hc3]
    · simp only [List.length_set]
      rw [List.take_set, hc4]
      exact flatN_set _ _ _ _ hx
theorem tree_rows {rr r4 r5 r6 : List GNode} {k : Int} {l r : Tr} {x : GNode} (h4 : rr ++ [(⟨k, ByteArray.empty, zV, 0⟩ : GNode)] = r4) (h5 : r5 = r4 ++ treeN l) (h6 : r6 = r5 ++ treeN r) (hx : r6[rr.length]? = some x) :
    r6.set rr.length ⟨x.k, x.name, x.v, (r6.length : Int) - rr.length - 1⟩ = rr ++ treeN (.op k l r) := by
  subst h4 h5 h6
  simp at hx
  subst hx
  simp [treeN]
  omega
set_option maxRecDepth 100000 in
set_option maxHeartbeats 3200000 in
theorem impl_flat (t : Tr) : ∀ {B : Nat} (A : Option Addr) (c : Nat) (r : List GNode) (w : World), B ≤ w.heap.size → r.length + (treeN t).length ≤ 1000 → NRow B w (.slice A r.length c) r →
    Calls Tryz.prog 91 #[.slice A r.length c, TV t] w (FlatPost B w r t) := by
  induction t with
  | var s =>
    intro B A c r w hB hl hr
    unfold TV
    have a1 := fun W => as_var W (.string s)
    obtain ⟨i0, hi, hz0, hz1, hz2⟩ := info_parts infoNode
    have hl' : r.length + 1 ≤ 1000 := hl
    go_enter Tryz.func91, Tryz.ntmps91
    go_wp2_with (first | (at_builtin; refine wpList_append_own _ rfl (.tmp 13) (.tmp 16) _ rfl B 81 i0 _ 6 64 Tryz.underlying50 hi hz0 hz1 hz2 rfl (by decide) _ _ _ rfl ((show w.ownsRow B 81 6 (.slice A r.length c) _ _ from hr).alloc _) ⟨w.heap.size, 0, none⟩ 1 1 (nodeL ⟨1, s, zV, 0⟩) rfl rfl (by exact news_six w (.int .i64 1) (.string s) (.int .i64 0) (.int .i64 0) (.string ByteArray.empty) (.int .i64 0) 81) (nodeL_one _) (by unfold maxLen; omega) (by omega) (by simp; omega) ?_; intro v2 w4 ho2 hg2 _; refine Hid.out ?_))
    refine Lib.hid ?_
    have hV4 := nrow_app ho2
    have hB4 := (((Below.refl B w).alloc hB _).grown hg2 (by simp; omega) (own_ge hr))
    have hk4 := KeepN.trans (KeepN.below ((Below.refl _ w).alloc (Nat.le_refl _) _)) (by simp) (KeepN.grown (World.ownsRow.alloc hr _) hg2)
    obtain ⟨A2, c2, rfl⟩ := hV4.slice
    have HV4 := Lib.hid hV4
    clear ho2 hg2 hV4
    go_wp2_with fail
    go_ret
    exact ⟨_, rfl, HV4.out, hB4, hk4⟩
  | con v =>
    intro B A c r w hB hl hr
    unfold TV
    have a1 := fun W => as_con_var W (.agg #[.int .i64 v.k, .int .i64 v.n, .string v.t])
    have a2 := fun W => as_con W (.agg #[.int .i64 v.k, .int .i64 v.n, .string v.t])
    obtain ⟨i0, hi, hz0, hz1, hz2⟩ := info_parts infoNode
    have hl' : r.length + 1 ≤ 1000 := hl
    go_enter Tryz.func91, Tryz.ntmps91
    go_wp2_with (first | (at_builtin; refine wpList_append_own _ rfl (.tmp 21) (.tmp 24) _ rfl B 81 i0 _ 6 64 Tryz.underlying50 hi hz0 hz1 hz2 rfl (by decide) _ _ _ rfl (((show w.ownsRow B 81 6 (.slice A r.length c) _ _ from hr).alloc _).alloc _) ⟨w.heap.size + 1, 0, none⟩ 1 1 (nodeL ⟨2, ByteArray.empty, v, 0⟩) rfl rfl (by exact news_six1 w _ (.int .i64 2) (.string ByteArray.empty) (.int .i64 v.k) (.int .i64 v.n) (.string v.t) (.int .i64 0) 81) (nodeL_one _) (by unfold maxLen; omega) (by omega) (by simp; omega) ?_; intro v2 w4 ho2 hg2 _; refine Hid.out ?_))
    refine Lib.hid ?_
    have hV4 := nrow_app ho2
    have hB4 := ((((Below.refl B w).alloc hB _).alloc (by simp; omega) _).grown hg2 (by simp; omega) (own_ge hr))
    have hk4 := KeepN.trans (KeepN.below (((Below.refl _ w).alloc (Nat.le_refl _) _).alloc (by simp) _)) (by simp; omega) (KeepN.grown (World.ownsRow.alloc (World.ownsRow.alloc hr _) _) hg2)
    obtain ⟨A2, c2, rfl⟩ := hV4.slice
    have HV4 := Lib.hid hV4
    clear ho2 hg2 hV4
    go_wp2_with fail
    go_ret
    exact ⟨_, rfl, HV4.out, hB4, hk4⟩
  | any =>
    intro B A c r w hB hl hr
    unfold TV
    have a1 := fun W => as_any_var W (.agg #[])
    have a2 := fun W => as_any_con W (.agg #[])
    have a3 := fun W => as_any_op W (.agg #[])
    obtain ⟨i0, hi, hz0, hz1, hz2⟩ := info_parts infoNode
    have hl' : r.length + 1 ≤ 1000 := hl
    go_enter Tryz.func91, Tryz.ntmps91
    go_wp2_with (first | (at_builtin; refine wpList_append_own _ rfl (.tmp 54) (.tmp 56) _ rfl B 81 i0 _ 6 64 Tryz.underlying50 hi hz0 hz1 hz2 rfl (by decide) _ _ _ rfl ((show w.ownsRow B 81 6 (.slice A r.length c) _ _ from hr).alloc _) ⟨w.heap.size, 0, none⟩ 1 1 (nodeL ⟨6, ByteArray.empty, zV, 0⟩) rfl rfl (by exact news_six w (.int .i64 6) (.string ByteArray.empty) (.int .i64 0) (.int .i64 0) (.string ByteArray.empty) (.int .i64 0) 81) (nodeL_one _) (by unfold maxLen; omega) (by omega) (by simp; omega) ?_; intro v2 w4 ho2 hg2 _; refine Hid.out ?_))
    refine Lib.hid ?_
    have hV4 := nrow_app ho2
    have hB4 := (((Below.refl B w).alloc hB _).grown hg2 (by simp; omega) (own_ge hr))
    have hk4 := KeepN.trans (KeepN.below ((Below.refl _ w).alloc (Nat.le_refl _) _)) (by simp) (KeepN.grown (World.ownsRow.alloc hr _) hg2)
    obtain ⟨A2, c2, rfl⟩ := hV4.slice
    have HV4 := Lib.hid hV4
    clear ho2 hg2 hV4
    go_wp2_with fail
    go_ret
    exact ⟨_, rfl, HV4.out, hB4, hk4⟩
  | op k l r ihl ihr =>
    intro B A c rr w hB hl hr
    obtain ⟨T1, x1, h1⟩ := TV_iface l
    obtain ⟨T2, x2, h2⟩ := TV_iface r
    rw [h1] at ihl
    rw [h2] at ihr
    unfold TV
    rw [h1, h2]
    clear h1 h2
    have a1 := fun W => as_op_var W (.agg #[.int .i64 k, .iface T1 x1, .iface T2 x2])
    have a2 := fun W => as_op_con W (.agg #[.int .i64 k, .iface T1 x1, .iface T2 x2])
    have a3 := fun W => as_op W (.agg #[.int .i64 k, .iface T1 x1, .iface T2 x2])
    obtain ⟨i0, hi, hz0, hz1, hz2⟩ := info_parts infoNode
    have hl' : rr.length + ((treeN l).length + (treeN r).length + 1) ≤ 1000 := by simpa [treeN] using hl
    go_enter Tryz.func91, Tryz.ntmps91
    go_wp2_with (first | (at_builtin; refine wpList_append_own _ rfl (.tmp 31) (.tmp 35) _ rfl B 81 i0 _ 6 64 Tryz.underlying50 hi hz0 hz1 hz2 rfl (by decide) _ _ _ rfl (((show w.ownsRow B 81 6 (.slice A rr.length c) _ _ from hr).alloc _).alloc _) ⟨w.heap.size + 1, 0, none⟩ 1 1 (nodeL ⟨k, ByteArray.empty, zV, 0⟩) rfl rfl (by exact news_six1 w _ (.int .i64 k) (.string ByteArray.empty) (.int .i64 0) (.int .i64 0) (.string ByteArray.empty) (.int .i64 0) 81) (nodeL_one _) (by unfold maxLen; omega) (by omega) (by simp; omega) ?_; intro v2 w4 ho2 hg2 _; refine Hid.out ?_))
    refine Lib.hid ?_
    have hV4 := nrow_app ho2
    have hB4 := ((((Below.refl B w).alloc hB _).alloc (by simp; omega) _).grown hg2 (by simp; omega) (own_ge hr))
    have hkg := KeepN.grown (World.ownsRow.alloc (World.ownsRow.alloc hr _) _) hg2
    have hk4 : KeepN w w4 := by
      refine KeepN.trans ?_ ?_ hkg
      · exact KeepN.below (((Below.refl _ w).alloc (Nat.le_refl _) _).alloc (by simp) _)
      · simp; omega
    have hs4 : w.heap.size < w4.heap.size := by have := hg2.size; simp at this; omega
    have hT4 : w4.heap[w.heap.size]? = some (.cells #[.int .i64 k, .iface T1 x1, .iface T2 x2] 131) := hkg.cell (heap_alloc2_old _ _ _) (by decide)
    obtain ⟨A2, c2, rfl⟩ := hV4.slice
    obtain ⟨r4, hr4⟩ : ∃ r4, rr ++ [(⟨k, ByteArray.empty, zV, 0⟩ : GNode)] = r4 := ⟨_, rfl⟩
    have HL4 := Lib.hid (show r4.length = rr.length + 1 by rw [← hr4]; simp)
    rw [hr4] at hV4
    rw [hr4]
    have HR4 := Lib.hid hr4
    have HV4 := Lib.hid hV4.drew
    have HK4 := Lib.hid hk4
    have HT4 := Lib.hid hT4
    have b1 : w4.cell? ⟨w.heap.size, 1, none⟩ = some (.iface T1 x1) := by simp [World.cell?, hT4]
    have b2 : w4.cell? ⟨w.heap.size, 2, none⟩ = some (.iface T2 x2) := by simp [World.cell?, hT4]
    have hBs4 : B ≤ w4.heap.size := by omega
    have HS := flat_start HT4 HK4 hB4
    clear ho2 hg2 hV4 hkg hk4 hT4 hr4
    go_wp2_with fail
    clear a1 a2 a3 hz0 hz1 hz2 hi
    go_region_held3 (fun w' => w'.cell? ⟨w.heap.size, 1, none⟩ = some (.iface T1 x1) ∧ w'.cell? ⟨w.heap.size, 2, none⟩ = some (.iface T2 x2) ∧ Hid (w'.heap[w.heap.size]? = some (.cells #[.int .i64 k, .iface T1 x1, .iface T2 x2] 131)) ∧ w4.heap.size ≤ w'.heap.size ∧ Hid (KeepN w w') ∧ Below B w w')
      (first | exact HS
             | (go_split_ands; exact flat_keep hbx hkx (by assumption) (by assumption) (by assumption) (by omega)))
      (first
        | (go_at_call 91; (with_reducible show Calls _ _ #[Value.slice A2 r4.length c2, Value.iface T1 x1] _ _); refine (ihl (B := B) A2 c2 r4 _ (by go_split_ands; omega) (by have := HL4.out; omega) HV4.out).mono ?_; rintro e wx ⟨vx, rfl, hVx, hbx, hkx⟩; obtain ⟨r5, A3, c3, hr5, hl5, rfl, hVz⟩ := hVx.len; clear hVx)
        | (go_at_call 91; (with_reducible show Calls _ _ #[Value.slice A3 r5.length c3, Value.iface T2 x2] _ _); refine (ihr (B := B) A3 c3 r5 _ (by have := hBs4; go_split_ands; omega) (by have := HL4.out; have := hl5.out; omega) hVz).mono ?_; rintro e wy ⟨vy, rfl, hVy, hbx, hkx⟩; obtain ⟨r6, A5, c5, hr6, hl6, rfl, hVu⟩ := hVy.len; clear hVy))
    have hh : Hid (KeepN w wy) ∧ Below B w wy := by go_split_ands; exact ⟨by assumption, by assumption⟩
    have hlt : rr.length < r6.length := by have := HL4.out; have := hl5.out; have := hl6.out; omega
    have hle : r6.length ≤ 1000 := by have := HL4.out; have := hl5.out; have := hl6.out; omega
    obtain ⟨x, hx⟩ : ∃ x, r6[rr.length]? = some x := ⟨_, List.getElem?_eq_getElem hlt⟩
    have hVw := nrow_open (rr := rr) hVu hlt
    obtain ⟨g, rfl, hgB, ⟨u, hcs⟩, hfz, ⟨cur, hcur⟩, hset⟩ := hVw
    have hset' := Lib.hid (hset x ((r6.length : Int) - rr.length - 1) hx)
    rw [tree_rows HR4.out hr5.out hr6.out hx] at hset'
    have hk9 : Hid (KeepN w (wy.setCell ⟨g, rr.length * 6 + 5, none⟩ (.int .i64 ((r6.length : Int) - rr.length - 1)))) := Lib.hid (KeepN.trans hh.1.out hh.2.size (fun i hi hn => Below.heap_setCell _ _ _ _ (by intro e; subst e; exact hn _ _ hcur)))
    have hB9 : Below B w (wy.setCell ⟨g, rr.length * 6 + 5, none⟩ (.int .i64 ((r6.length : Int) - rr.length - 1))) := hh.2.setCell hgB _
    have hlt' : (rr.length : Int) < (r6.length : Int) := by omega
    clear hl5 hl6 HL4 hbx hkx HS hVz HV4 HK4 HT4 b1 b2 hset hx hcur
    go_wp2_with fail
    go_ret
    exact ⟨_, rfl, hset'.out, hB9, hk9.out⟩
end Go.Proofs.YteoepnadjkjlmaaGreat
