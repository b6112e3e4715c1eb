/-
  Rows of slice headers of the call's own; slices.Clone at them; impl.expressions.
-/
import Derived.Test.YtmbdccbgcobflaaSRow
import Derived.Test.YtmbdccbgcobflaaTyRule
import Derived.Test.YtmbdccbgcobflaaToNode
import Derived.Laws.OwnMore
import Derived.Lib.SliceRun
namespace Go.Proofs.Ytmbdccbgcobflaa
open Go.RowKit Go.Sort
set_option linter.unusedVariables false

theorem grown_self (w : World) (row : Option Nat) : w.grownBy w row := ⟨rfl, rfl, rfl, Nat.le_refl _, fun _ _ _ => rfl⟩
/-- append where the source may be nil. -/
theorem wpList_append_any {P : Program} (w : World) {ops : Array Oper} {rest : List Oper} {o : Oper} {a : Act} {Q : Exit → Act → World → Prop} (hgd : o.guard = none) (s x : Operand) (t : TypeId)
    (ho : o.op = .call { callee := .builtin .append, args := #[s, x], argTypes := #[t, t] })
    (base : Nat) (e : TypeId) (i : TypeInfo) (z : Value) (size bytes : Nat) (ht : P.underlying t = some (.slice e)) (hi : P.info? e = some i) (hz : i.zero = some z)
    (hsize : i.size = size) (hby : i.bytes = bytes) (hzs : z.cells.size = size) (hsz : 0 < size)
    (v : Value) (n : Nat) (xs : List Value) (hs : a.eval s = v) (hown : w.ownsRow base e size v n xs)
    (A : Option Addr) (m c : Nat) (news : List Value) (hx : a.eval x = .slice A m c) (hl : news.length = m * size) (hA : A = none → m = 0) (hnews : ∀ ad, A = some ad → ∀ j u, news[j]? = some u → w.cell? (ad.add j) = some u) (h1 : ∀ u ∈ news, u.oneCell' = true)
    (h63 : n + m ≤ maxLen) (hbytes : (n + m) * bytes ≤ 140737488355328) (hbase : base ≤ w.heap.size)
    (h : ∀ v' w', w'.ownsRow base e size v' (n + m) (xs ++ news) → w.grownBy w' v.ownBlock → wpList P ops Q rest (a.put o.dst v') w') : wpList P ops Q (o :: rest) a w := by
  cases A with
  | some ad => exact wpList_append_own w hgd s x t ho base e i z size bytes ht hi hz hsize hby hzs hsz v n xs hs hown ad m c news hx hl (hnews ad rfl) h1 h63 hbytes hbase fun v' w' h2 h3 _ => h v' w' h2 h3
  | none =>
    have hm := hA rfl
    subst hm
    have hn : news = [] := List.eq_nil_of_length_eq_zero (by rw [hl]; simp)
    subst hn
    have hrun : (Builtin.append_ #[t, t] o.type #[v, .slice none 0 c]).run P w = .ok v w := by
      rcases hown.2 with ⟨rfl, rfl⟩ | ⟨g, cap, cur, rfl, _, _, hnc, _⟩
      · simp [Builtin.append_, run_underlying ht, sizeOf, typeInfo, hi, Builtin.lenOf, Builtin.firstCells]
      · simp [Builtin.append_, run_underlying ht, sizeOf, typeInfo, hi, Builtin.lenOf, Builtin.firstCells, hnc, storeCells]
    refine wpList_plain hgd fun K hK => ?_
    unfold Oper.wp
    simp [execOp, ho, resolve, invoke, builtin, hs, hx, hrun, Result.andThen]
    exact hK _ _ (h v w (by simpa using hown) (grown_self w _))

/-- A slice's header that reads as nodes. -/
def HdOk (w : World) (lo B : Nat) (h : Value) (x : List GNode) : Prop := ∃ A c, h = .slice A x.length c ∧ NodesAt w lo B A x
def HdsOk (w : World) (lo B : Nat) (hs : List Value) (xs : List (List GNode)) : Prop := hs.length = xs.length ∧ ∀ (i : Nat) (h : Value) (x : List GNode), hs[i]? = some h → xs[i]? = some x → HdOk w lo B h x
theorem HdOk.below {w w' : World} {lo B B' : Nat} {h : Value} {x : List GNode} (hh : HdOk w lo B h x) (hb : Below B' w w') (hB : B ≤ B') : HdOk w' lo B h x := by
  obtain ⟨A, c, e, hn⟩ := hh
  exact ⟨A, c, e, hn.keep (fun b _ h2 => hb.block b (by omega))⟩
theorem HdsOk.below {w w' : World} {lo B B' : Nat} {hs : List Value} {xs : List (List GNode)} (h : HdsOk w lo B hs xs) (hb : Below B' w w') (hB : B ≤ B') : HdsOk w' lo B hs xs :=
  ⟨h.1, fun i a x h1 h2 => (h.2 i a x h1 h2).below hb hB⟩
theorem HdsOk.append {w : World} {lo B : Nat} {a b : List Value} {xs ys : List (List GNode)} (h : HdsOk w lo B a xs) (k : HdsOk w lo B b ys) : HdsOk w lo B (a ++ b) (xs ++ ys) := by
  refine ⟨by simp [h.1, k.1], fun i u x h1 h2 => ?_⟩
  rw [List.getElem?_append] at h1 h2
  rw [h.1] at h1
  split at h1
  · rename_i hl; rw [if_pos hl] at h2; exact h.2 i u x h1 h2
  · rename_i hl; rw [if_neg hl] at h2; exact k.2 _ u x h1 h2
theorem HdOk.one {w : World} {lo B : Nat} {h : Value} {x : List GNode} (hh : HdOk w lo B h x) : h.oneCell' = true := by obtain ⟨A, c, rfl, _⟩ := hh; rfl
theorem HdsOk.one {w : World} {lo B : Nat} {hs : List Value} {xs : List (List GNode)} (h : HdsOk w lo B hs xs) : ∀ u ∈ hs, u.oneCell' = true := by
  intro u hu
  obtain ⟨i, hi, rfl⟩ := List.getElem_of_mem hu
  have h2 : i < xs.length := by rw [← h.1]; exact hi
  exact (h.2 i _ _ (List.getElem?_eq_getElem hi) (List.getElem?_eq_getElem h2)).one
theorem list_of {α β : Type} : ∀ (xs : List α) (P : Nat → β → α → Prop), (∀ i x, xs[i]? = some x → ∃ h, P i h x) → ∃ hs : List β, hs.length = xs.length ∧ ∀ i h x, hs[i]? = some h → xs[i]? = some x → P i h x
  | [], P, _ => ⟨[], rfl, fun i h x h1 _ => by simp at h1⟩
  | y :: r, P, hp => by
    obtain ⟨h0, hh0⟩ := hp 0 y rfl
    obtain ⟨hs, hl, hr⟩ := list_of r (fun i h x => P (i + 1) h x) (fun i x hx => hp (i + 1) x (by simpa using hx))
    refine ⟨h0 :: hs, by simp [hl], fun i h x h1 h2 => ?_⟩
    cases i with
    | zero => simp at h1 h2; subst h1 h2; exact hh0
    | succ i => exact hr i h x (by simpa using h1) (by simpa using h2)
/-- The headers that a slice of slices holds. -/
theorem heads_of {w : World} {lo B : Nat} {A : Option Addr} {xs : List (List GNode)} (h : NodeSsAt w lo B A xs) : ∃ hs, HdsOk w lo B hs xs ∧ (A = none → xs.length = 0) ∧ ∀ ad, A = some ad → ∀ j u, hs[j]? = some u → w.cell? (ad.add j) = some u := by
  rcases h with rfl | ⟨g, o, rfl, hg0, hg, hc⟩
  · exact ⟨[], ⟨rfl, fun i a x h1 _ => by simp at h1⟩, fun _ => rfl, fun ad _ j u hu => by simp at hu⟩
  · obtain ⟨hs, hl, hr⟩ := list_of xs (fun i h x => w.cell? ⟨g, o + i, none⟩ = some h ∧ HdOk w lo B h x) (fun i x hx => by
      obtain ⟨A', c', ⟨h1, _⟩, h2⟩ := hc i x hx
      exact ⟨_, h1, A', c', rfl, h2⟩)
    refine ⟨hs, ⟨hl, fun i a x h1 h2 => (hr i a x h1 h2).2⟩, (fun e => by cases e), fun ad e j u hu => ?_⟩
    cases e
    have hj : j < xs.length := by rw [← hl]; exact (List.getElem?_eq_some_iff.1 hu).1
    have := (hr j u _ hu (List.getElem?_eq_getElem hj)).1
    unfold Addr.add
    split
    · rename_i h; subst h; exact this
    · exact this
/-- A row of headers of the call's own; the nodes lie below N. -/
def ERow (B N lo : Nat) (w : World) (v : Value) (xs : List (List GNode)) : Prop := ∃ hs, w.ownsRow B 46 1 v xs.length hs ∧ HdsOk w lo N hs xs
theorem ownsRow_base {B B' : Nat} {w : World} {t : TypeId} {s : Nat} {v : Value} {n : Nat} {xs : List Value} (h : w.ownsRow B t s v n xs) (hB : B' ≤ B) : w.ownsRow B' t s v n xs := by
  refine ⟨h.1, ?_⟩
  rcases h.2 with h' | ⟨g, cap, cur, e, hg, hr⟩
  · exact .inl h'
  · exact .inr ⟨g, cap, cur, e, by omega, hr⟩
theorem ERow.base {B B' N lo : Nat} {w : World} {v : Value} {xs : List (List GNode)} (h : ERow B N lo w v xs) (hB : B' ≤ B) : ERow B' N lo w v xs := by
  obtain ⟨hs, h1, h2⟩ := h
  exact ⟨hs, ownsRow_base h1 hB, h2⟩
theorem ERow.slice {B N lo : Nat} {w : World} {v : Value} {xs : List (List GNode)} (h : ERow B N lo w v xs) : ∃ A c, v = .slice A xs.length c := by
  obtain ⟨hs, ho, _⟩ := h
  rcases ho.2 with ⟨rfl, h0⟩ | ⟨g, cap, cur, rfl, hg, hh, hc1, hc2, hc3, hc4⟩
  · exact ⟨none, 0, by rw [h0]⟩
  · exact ⟨_, cap, rfl⟩
theorem erow_app {B N lo : Nat} {w w' : World} {v' : Value} {hs news : List Value} {xs ys : List (List GNode)} (ho : w'.ownsRow B 46 1 v' (xs.length + ys.length) (hs ++ news)) (h1 : HdsOk w lo N hs xs) (h2 : HdsOk w lo N news ys) (hb : Below B w w') (hN : N ≤ B) : ERow B N lo w' v' (xs ++ ys) :=
  ⟨_, by rw [List.length_append]; exact ho, (h1.below hb hN).append (h2.below hb hN)⟩

set_option maxRecDepth 100000 in
set_option maxHeartbeats 1600000 in
theorem clone_heads {lo N : Nat} (A : Option Addr) (c : Nat) (xs : List (List GNode)) (w : World) (hl : xs.length ≤ 1048576) (hr : NodeSsAt w lo N A xs) (hN : N ≤ w.heap.size) :
    Calls Try.prog 35 #[.slice A xs.length c] w fun e w' => ∃ v, e = .returned v ∧ ERow w.heap.size N lo w' v xs ∧ Below w.heap.size w w' := by
  obtain ⟨i0, hi, hz0, hz1, hz2⟩ := info_parts infoNodeS
  obtain ⟨hs, hh, hA, hc⟩ := heads_of hr
  have q : ∀ (w : World) (a : Option Addr) (n c n' c' : Nat), (binOp .eql 31 (.slice a n c) (.slice none n' c')).run Try.prog w = .ok (.bool a.isNone) w := fun w a n c n' c' => Lib.run_eql_slice_nil w _ _ a n c n' c' Try.underlying31
  cases A with
  | none =>
    have hx : xs = [] := List.eq_nil_of_length_eq_zero (hA rfl)
    subst hx
    go_enter Try.func35, Try.ntmps35
    go_wp2_with fail
    go_ret
    exact ⟨_, rfl, ⟨[], World.ownsRow_nil _ _ _ _, rfl, fun i a x h1 _ => by simp at h1⟩, Below.refl _ _⟩
  | some ad =>
    have HC := Lib.hid (hc ad rfl)
    have HH := Lib.hid hh
    clear hc hh hr
    go_enter Try.func35, Try.ntmps35
    go_wp2_with (first | (at_builtin; refine wpList_append_own _ rfl (.tmp 5) (.tmp 6) _ rfl w.heap.size 46 i0 _ 1 24 Try.underlying31 hi hz0 hz1 hz2 rfl (by decide) _ _ _ rfl (World.ownsRow_made w #[] 0 (Nat.le_refl _) (Nat.zero_le _) (by simp)) ad xs.length c hs rfl (by rw [HH.out.1]; omega) (fun j u hu => Lib.cell?_alloc_some _ (HC.out j u hu)) HH.out.one (by unfold maxLen; omega) (by omega) (by simp) ?_; intro v2 w4 ho2 hg2 _; refine Hid.out ?_))
    refine Lib.hid ?_
    have hB0 : Below w.heap.size w (w.alloc (.cells #[] 46)) := (Below.refl _ w).alloc (Nat.le_refl _) _
    have hB4 := hB0.grown hg2 (by simp) (fun k hk => (World.ownsRow.lt (World.ownsRow_made (base := w.heap.size) (e := 46) (size := 1) w #[] 0 (Nat.le_refl _) (Nat.zero_le _) (by simp)) k hk).1)
    have hE := Lib.hid (show ERow w.heap.size N lo w4 v2 xs from ⟨hs, by simpa using ho2, HH.out.below hB4 hN⟩)
    clear ho2 hg2
    go_wp2_with fail
    go_ret
    exact ⟨_, rfl, hE.out, hB4⟩
def exprsB (l : GLit) : List (List GNode) := l.atom.args ++ [l.left, l.right]
def exprsR (x : GRule) : List (List GNode) := x.head.args ++ x.body.flatMap exprsB
theorem exprsB_snoc (es : List GLit) (k : Nat) (h : k < es.length) : (es.take (k + 1)).flatMap exprsB = (es.take k).flatMap exprsB ++ exprsB es[k] := by
  rw [List.take_succ_eq_append_getElem h, List.flatMap_append]; simp
theorem exprsB_length (xs : List GLit) : (xs.flatMap exprsB).length ≤ sumC costLit xs + 2 * xs.length := by
  unfold sumC
  induction xs with
  | nil => simp
  | cons x r ih =>
    simp only [List.flatMap_cons, List.length_append, List.map_cons, List.sum_cons, List.length_cons]
    have h4 : (exprsB x).length ≤ costLit x + 2 := by
      unfold exprsB costLit costAtom costNodeSs
      simp only [List.length_append, List.length_cons, List.length_nil]
      omega
    omega
theorem heads_two {w : World} {lo B : Nat} {A1 A2 : Option Addr} {c1 c2 : Nat} {x y : List GNode} (h1 : NodesAt w lo B A1 x) (h2 : NodesAt w lo B A2 y) : HdsOk w lo B [.slice A1 x.length c1, .slice A2 y.length c2] [x, y] := by
  refine ⟨rfl, fun i h z e1 e2 => ?_⟩
  match i, e1, e2 with
  | 0, e1, e2 => simp at e1 e2; subst e1 e2; exact ⟨_, _, rfl, h1⟩
  | 1, e1, e2 => simp at e1 e2; subst e1 e2; exact ⟨_, _, rfl, h2⟩
def ExprsPost (w : World) (N lo : Nat) (xs : List (List GNode)) (e : Ending) (w' : World) : Prop := ∃ v, e = .returned v ∧ ERow w.heap.size N lo w' v xs ∧ Below w.heap.size w w'
set_option maxRecDepth 100000 in
set_option maxHeartbeats 3200000 in
theorem impl_exprs {lo N : Nat} (x : GRule) (A1 : Option Addr) (c1 : Nat) (A2 : Option Addr) (c2 : Nat) (A3 : Option Addr) (c3 : Nat) (w : World) (hk : costRule x ≤ 1048576) (s1 : NodeSsAt w lo N A1 x.head.args) (s3 : LitsAt w lo N A3 x.body) (hN : N ≤ w.heap.size) :
    Calls Try.prog 21 #[.agg #[.string x.head.name, .slice A1 x.head.args.length c1, .slice A2 x.aggs.length c2, .slice A3 x.body.length c3]] w (ExprsPost w N lo (exprsR x)) := by
  have hB0 : Below w.heap.size w (w.alloc (.cells #[.string x.head.name, .slice A1 x.head.args.length c1, .slice A2 x.aggs.length c2, .slice A3 x.body.length c3] 36)) := (Below.refl _ _).alloc (Nat.le_refl _) _
  have hP := Lib.hid (Whole.new w 36 [.string x.head.name, .slice A1 x.head.args.length c1, .slice A2 x.aggs.length c2, .slice A3 x.body.length c3])
  unfold costRule at hk
  have hkh : costAtom x.head ≤ 1048576 := by omega
  have hbl : x.body.length ≤ 1048576 := by unfold costLits at hk; omega
  have HK := Lib.hid hk
  have HS3 := Lib.hid s3
  have HS1 := Lib.hid s1
  clear hk s3 s1
  obtain ⟨i0, hi, hz0, hz1, hz2⟩ := info_parts infoNodeS
  go_enter Try.func21, Try.ntmps21
  go_wp2_with fail
  refine (clone_heads (N := N) A1 c1 x.head.args _ (by unfold costAtom costNodeSs at hkh; omega) (HS1.out.keep (fun b _ h => hB0.block b (by omega))) (Nat.le_trans hN hB0.size)).mono ?_
  rintro e w2 ⟨v2, rfl, hE2, hb2⟩
  have hB2 := below_next hB0 hb2 rfl rfl
  have hP2 := hP.out.below hb2 hP.out.lt
  have p3 : w2.cell? ⟨w.heap.size, 3, none⟩ = some (.slice A3 x.body.length c3) := hP2.cell 3
  have HE2 := Lib.hid (hE2.base hB0.size)
  clear hE2 hP2
  go_wp2_with fail
  go_loopw [3, 13] (fun out i w' => ∃ (k : Nat) (L : List (List GNode)), k ≤ x.body.length ∧ i = .int .i64 k ∧ Hid (L = x.head.args ++ (x.body.take k).flatMap exprsB) ∧ Hid (ERow w.heap.size N lo w' out L) ∧ Below w.heap.size w w') (fun _ i _ => x.body.length - (intOf i).toNat)
  case atStart => exact ⟨0, _, Nat.zero_le _, rfl, Lib.hid (by simp), HE2, hB2⟩
  case round =>
    obtain ⟨k, L, hk, rfl, hL, hS, hB⟩ := hrel
    by_cases hlt : k < x.body.length
    · obtain ⟨g, o, rfl, hg0, hg, h0, h1, ⟨B2, d2, h2y, t2⟩, h3, ⟨B4, d4, ⟨h4y, q4⟩, t4⟩, ⟨B5, d5, ⟨h5y, q5⟩, t5⟩⟩ := (HS3.out.keep (fun b _ h => hB.block b (by omega))).at_ hlt
      have hi0 : (0 : Int) ≤ (k : Int) := by omega
      have hi1 : (k : Int) < (x.body.length : Int) := by omega
      have hst := Lib.hid (show L ++ x.body[k].atom.args ++ [x.body[k].left, x.body[k].right] = x.head.args ++ (x.body.take (k + 1)).flatMap exprsB by rw [exprsB_snoc x.body k hlt, hL.out, exprsB]; simp)
      have hbd : L.length + x.body[k].atom.args.length + 2 ≤ 4000000 := by
        have h1 := HK.out
        have h2 := congrArg List.length hL.out
        rw [List.length_append] at h2
        have h4 := exprsB_length (x.body.take k)
        have h5 := sumC_take costLit x.body k hlt
        have h6 := sumC_le costLit x.body (k + 1)
        have h7 : x.body[k].atom.args.length ≤ costLit x.body[k] := by unfold costLit costAtom costNodeSs; omega
        have h8 : x.head.args.length ≤ costAtom x.head := by unfold costAtom costNodeSs; omega
        have h12 : costLits x.body = x.body.length + sumC costLit x.body := rfl
        have h13 : (x.body.take k).length ≤ x.body.length := by simp; omega
        omega
      obtain ⟨hs, ho, hh⟩ := hS.out
      obtain ⟨ns, hn, hA, hc⟩ := heads_of t2
      have HO := Lib.hid ho
      have HH := Lib.hid hh
      have HN := Lib.hid hn
      have HC := Lib.hid hc
      have HA := Lib.hid hA
      have HT := Lib.hid (heads_two (c1 := d4) (c2 := d5) t4 t5)
      have hlb : w.heap.size ≤ wr.heap.size := hB.size
      clear ho hh hn hc hA hL t4 t5
      go_wp2_with (first | (at_builtin; refine wpList_append_any _ rfl (.tmp 17) (.tmp 20) _ rfl w.heap.size 46 i0 _ 1 24 Try.underlying31 hi hz0 hz1 hz2 rfl (by decide) _ _ _ rfl (HO.out.alloc _) B2 x.body[k].atom.args.length d2 ns rfl (by rw [HN.out.1]; omega) HA.out (fun ad e j u hu => Lib.cell?_alloc_some _ (HC.out ad e j u hu)) HN.out.one (by unfold maxLen; omega) (by omega) (by simp; omega) ?_; intro v3 w3 ho3 hg3; refine Hid.out ?_))
      refine Lib.hid ?_
      have hW : Whole (wr.alloc (.cells #[.int .i64 x.body[k].k, .string x.body[k].atom.name, .slice B2 x.body[k].atom.args.length d2, .string x.body[k].op, .slice B4 x.body[k].left.length d4, .slice B5 x.body[k].right.length d5] 48)) wr.heap.size 48 [.int .i64 x.body[k].k, .string x.body[k].atom.name, .slice B2 x.body[k].atom.args.length d2, .string x.body[k].op, .slice B4 x.body[k].left.length d4, .slice B5 x.body[k].right.length d5] := Whole.new wr _ _
      have hlt3 := World.ownsRow.lt HO.out
      have hW3 : Whole w3 wr.heap.size 48 [.int .i64 x.body[k].k, .string x.body[k].atom.name, .slice B2 x.body[k].atom.args.length d2, .string x.body[k].op, .slice B4 x.body[k].left.length d4, .slice B5 x.body[k].right.length d5] := (hg3.block wr.heap.size (by simp) (fun e => by have := (hlt3 _ e.symm).2; omega)).trans hW
      have b4 : w3.cell? ⟨wr.heap.size, 4, none⟩ = some (.slice B4 x.body[k].left.length d4) := hW3.cell 4
      have b5 : w3.cell? ⟨wr.heap.size, 5, none⟩ = some (.slice B5 x.body[k].right.length d5) := hW3.cell 5
      have hbb : Below w.heap.size (wr.alloc (.cells #[.int .i64 x.body[k].k, .string x.body[k].atom.name, .slice B2 x.body[k].atom.args.length d2, .string x.body[k].op, .slice B4 x.body[k].left.length d4, .slice B5 x.body[k].right.length d5] 48)) w3 := (Below.refl _ _).grown hg3 (by simp; omega) (fun k hk => (hlt3 k hk).1)
      have hba : Below w.heap.size wr (wr.alloc (.cells #[.int .i64 x.body[k].k, .string x.body[k].atom.name, .slice B2 x.body[k].atom.args.length d2, .string x.body[k].op, .slice B4 x.body[k].left.length d4, .slice B5 x.body[k].right.length d5] 48)) := (Below.refl _ _).alloc hlb _
      have hE3 := erow_app ho3 (HH.out.below hba hN) (HN.out.below hba hN) hbb hN
      have hB3 := hB.trans (hba.trans hbb)
      have hT3 := Lib.hid (HT.out.below (hba.trans hbb) hN)
      obtain ⟨A6, c6, rfl⟩ := hE3.slice
      obtain ⟨hs3, ho4, hh4⟩ := hE3
      have HO4 := Lib.hid ho4
      have HH4 := Lib.hid hh4
      have hs3z := hB3.size
      clear ho4 hh4 hbb hba hW hW3 ho3 hg3 hlt3 h0 h1 h2y h3 h4y h5y HO HH HN HC HA HT
      go_wp2_with (first | (at_builtin; refine wpList_append_any _ rfl (.tmp 22) (.tmp 27) _ rfl w.heap.size 46 i0 _ 1 24 Try.underlying31 hi hz0 hz1 hz2 rfl (by decide) _ _ _ rfl (HO4.out.alloc _) (some ⟨w3.heap.size, 0, none⟩) 2 2 [.slice B4 x.body[k].left.length d4, .slice B5 x.body[k].right.length d5] rfl rfl (fun e => by cases e) (fun ad e j u hu => by cases e; match j, hu with | 0, hu => (simp at hu; subst hu; simp [Addr.add]) | 1, hu => (simp at hu; subst hu; simp [Addr.add])) hT3.out.one (by unfold maxLen; simp; omega) (by simp; omega) (by simp; omega) ?_; intro v5 w5 ho5 hg5; refine Hid.out ?_))
      refine Lib.hid ?_
      have hlt5 := World.ownsRow.lt HO4.out
      have hba : Below w.heap.size w3 (w3.alloc (.cells #[.slice B4 x.body[k].left.length d4, .slice B5 x.body[k].right.length d5] 46)) := (Below.refl _ _).alloc hs3z _
      have hbb : Below w.heap.size (w3.alloc (.cells #[.slice B4 x.body[k].left.length d4, .slice B5 x.body[k].right.length d5] 46)) w5 := (Below.refl _ _).grown hg5 (by simp; omega) (fun k hk => (hlt5 k hk).1)
      have hE5 := erow_app (ys := [x.body[k].left, x.body[k].right]) ho5 (HH4.out.below hba hN) (hT3.out.below hba hN) hbb hN
      have hB5 := hB3.trans (hba.trans hbb)
      have HE5 := Lib.hid hE5
      clear ho5 hg5 hlt5 hba hbb hE5 b4 b5
      go_wp2_with fail
      go_roundw
      case rel => exact ⟨k + 1, _, by omega, by go_num, hst, HE5, hB5⟩
      case measure => simp [intOf]; omega
    · have hi1 : ¬ (k : Int) < (x.body.length : Int) := by omega
      have HX := Lib.hid (show L = exprsR x by have h := hL.out; rwa [List.take_of_length_le (by omega)] at h)
      go_wp2_with fail
      go_ret
      exact ⟨_, rfl, by rw [← HX.out]; exact hS.out, hB⟩
end Go.Proofs.Ytmbdccbgcobflaa
