/-
  For every rule (laws.Rule), laws.FnExactVarsOf returns true and leaves its argument as it was. No condition.
-/
import Derived.Test.YtmbdccbgcobflaaVarsOf
import Derived.Test.YtmbdccbgcobflaaHeldS
import Derived.Test.YtmbdccbgcobflaaSzRule
import Derived.Test.YtmbdccbgcobflaaToRule
import Derived.Test.YtmbdccbgcobflaaEqRule
import Derived.Test.YtmbdccbgcobflaaMkRule
import Derived.Test.YtmbdccbgcobflaaOpenR
import Derived.Test.YtmbdccbgcobflaaRows
import Derived.Deep.RegionHeld3
namespace Go.Proofs.Ytmbdccbgcobflaa.varsOf
open Go.ChangeShapes Go.WideShapes Go.ChangeAt Go.RowKit Go.Joins
set_option linter.unusedVariables false

/-- A list of texts, not nil, in a block below lo. -/
def SLb (w : World) (lo : Nat) (v : Value) (l : List ByteArray) : Prop := ∃ g o c, v = .slice (some ⟨g, o, none⟩) l.length c ∧ g < lo ∧ ∀ i x, l[i]? = some x → w.cell? ⟨g, o + i, none⟩ = some (.string x)
theorem SLb.keep {w w' : World} {lo : Nat} {v : Value} {l : List ByteArray} (h : SLb w lo v l) (hb : ∀ b, b < lo → w'.heap[b]? = w.heap[b]?) : SLb w' lo v l := by
  obtain ⟨g, o, c, h1, h2, h3⟩ := h
  exact ⟨g, o, c, h1, h2, fun i x hx => (World.cell?_of_block (w := w) (w' := w') (hb g h2)).trans (h3 i x hx)⟩
theorem SLb.strs {w : World} {lo : Nat} {v : Value} {l : List ByteArray} (h : SLb w lo v l) (hl : lo ≤ w.heap.size) : ∃ A c, v = .slice A l.length c ∧ StrsAt w 0 w.heap.size A l := by
  obtain ⟨g, o, c, h1, h2, h3⟩ := h
  exact ⟨_, c, h1, .inr ⟨g, o, rfl, Nat.zero_le _, by omega, fun i x hx => h3 i x hx⟩⟩
structure RS (w : World) (x : GRule) (lo B Bz : Nat) (V : List ByteArray) (v0 v6 : Value) (E1 E2 E3 : Option Addr) (w' : World) : Prop where
  n1 : NodeSsAt w' lo B E1 x.head.args
  n2 : StrsAt w' lo B E2 x.aggs
  n3 : LitsAt w' lo B E3 x.body
  uf : UF w' lo B
  hB : B ≤ w'.heap.size
  row : SRow Bz w' v6 V
  sl : SLb w' lo v0 V
  low : Below w.heap.size w w'
theorem RS.next {w : World} {x : GRule} {lo B Bz : Nat} {V : List ByteArray} {v0 v6 : Value} {E1 E2 E3 : Option Addr} {w1 w2 : World} (h : RS w x lo B Bz V v0 v6 E1 E2 E3 w1) (hlB : lo ≤ B) (hb : Below w1.heap.size w1 w2) : RS w x lo B Bz V v0 v6 E1 E2 E3 w2 :=
  have hk : ∀ b, b < B → w2.heap[b]? = w1.heap[b]? := fun b h' => hb.block b (Nat.lt_of_lt_of_le h' h.hB)
  ⟨h.n1.keep (fun b _ h' => hk b h'), h.n2.keep (fun b _ h' => hk b h'), h.n3.keep (fun b _ h' => hk b h'), fun b h1 h2 o => (World.frozen?_of_block (hk b h2)).trans (h.uf b h1 h2 o), Nat.le_trans h.hB hb.size, h.row.to_ hb, h.sl.keep (fun b h' => hk b (by omega)), h.low.trans (hb.mono h.low.size)⟩
def LK (w : World) (x : GRule) (px lo B Bz : Nat) (V : List ByteArray) (v0 v6 : Value) (A1 A2 A3 E1 E2 E3 : Option Addr) (c1 c2 c3 e1 e2 e3 : Nat) (w' : World) : Prop :=
  w'.cell? ⟨w.heap.size, 0, none⟩ = some (.string x.head.name) ∧ w'.cell? ⟨w.heap.size, 1, none⟩ = some (.slice A1 x.head.args.length c1) ∧ w'.cell? ⟨w.heap.size, 2, none⟩ = some (.slice A2 x.aggs.length c2) ∧ w'.cell? ⟨w.heap.size, 3, none⟩ = some (.slice A3 x.body.length c3) ∧ w'.cell? ⟨px, 0, none⟩ = some (.string x.head.name) ∧ w'.cell? ⟨px, 1, none⟩ = some (.slice E1 x.head.args.length e1) ∧ w'.cell? ⟨px, 2, none⟩ = some (.slice E2 x.aggs.length e2) ∧ w'.cell? ⟨px, 3, none⟩ = some (.slice E3 x.body.length e3) ∧ Hid (lo ≤ B) ∧ Hid (RS w x lo B Bz V v0 v6 E1 E2 E3 w')
theorem LK.next {w : World} {x : GRule} {px lo B Bz : Nat} {V : List ByteArray} {v0 v6 : Value} {A1 A2 A3 E1 E2 E3 : Option Addr} {c1 c2 c3 e1 e2 e3 : Nat} {w1 w2 : World} (h : LK w x px lo B Bz V v0 v6 A1 A2 A3 E1 E2 E3 c1 c2 c3 e1 e2 e3 w1) (hb : Below w1.heap.size w1 w2) : LK w x px lo B Bz V v0 v6 A1 A2 A3 E1 E2 E3 c1 c2 c3 e1 e2 e3 w2 := by
  obtain ⟨h0, h1, h2, h3, h4, h5, h6, h7, h8, h9⟩ := h
  have key : ∀ {p : Addr} {v : Value}, w1.cell? p = some v → w2.cell? p = some v := fun {p v} hc => (hb.cell (p := p) (World.block_lt_of_cell? w1 p hc)).trans hc
  exact ⟨key h0, key h1, key h2, key h3, key h4, key h5, key h6, key h7, h8, Lib.hid (h9.out.next h8.out hb)⟩
theorem kk_below {w w' : World} {n lo B : Nat} (h : KK w w' lo B) (hn : n ≤ lo) (hs : lo ≤ w.heap.size) : Below n w w' := ⟨h.os, h.tape, h.output, h.size, fun b hb => h.out b (by omega) (.inl (by omega))⟩
theorem cost_app (a b : List ByteArray) : costStrs (a ++ b) = costStrs a + costStrs b := by
  unfold costStrs sumC; simp only [List.length_append, List.map_append, List.sum_append]; omega
theorem cost_ins (l : List ByteArray) (s : ByteArray) : costStrs (insM l s) ≤ costStrs l + costStrs [s] := by
  unfold insM
  split
  · omega
  · conv => rhs; rw [← List.take_append_drop (posM l s) l]
    rw [show l.take (posM l s) ++ (s :: l.drop (posM l s)) = l.take (posM l s) ++ ([s] ++ l.drop (posM l s)) by simp, cost_app, cost_app, cost_app]
    omega
theorem cost_addAll (ns : List ByteArray) : ∀ l, costStrs (addAll l ns) ≤ costStrs l + costStrs ns := by
  induction ns with
  | nil => intro l; show costStrs l ≤ _; omega
  | cons x r ih =>
    intro l
    have h1 := ih (insM l x)
    have h2 := cost_ins l x
    have h3 := cost_app [x] r
    rw [List.singleton_append] at h3
    show costStrs (addAll (insM l x) r) ≤ _
    omega
theorem cost_varsL (es : List GNode) : costStrs (varsL es) ≤ costNodes es := by
  induction es with
  | nil => simp [varsL, costStrs, sumC]
  | cons n r ih =>
    have h1 : varsL (n :: r) = varN n ++ varsL r := by simp [varsL]
    have h2 : costNodes (n :: r) = 1 + costNode n + costNodes r := by unfold costNodes sumC; simp; omega
    have h3 : costStrs (varN n) ≤ 1 + costNode n := by
      unfold varN
      split
      · unfold costStrs sumC costNode; simp [costStr]
      · simp [costStrs, sumC]
    rw [h1, cost_app]; omega
theorem cost_varsA (args : List (List GNode)) : costStrs (varsA args) ≤ costNodeSs args := by
  induction args with
  | nil => simp [varsA, costStrs, sumC]
  | cons n r ih =>
    have h1 : varsA (n :: r) = varsL n ++ varsA r := by simp [varsA]
    have h2 : costNodeSs (n :: r) = 1 + costNodeS n + costNodeSs r := by unfold costNodeSs sumC; simp; omega
    have h3 := cost_varsL n
    have h4 : costNodes n ≤ costNodeS n := by unfold costNodeS; omega
    rw [h1, cost_app]; omega
theorem cost_varsB (b : List GLit) : costStrs (b.flatMap varsB) ≤ costLits b := by
  induction b with
  | nil => simp [costStrs, sumC]
  | cons n r ih =>
    have h1 : (n :: r).flatMap varsB = varsB n ++ r.flatMap varsB := by simp
    have h2 : costLits (n :: r) = 1 + costLit n + costLits r := by unfold costLits sumC; simp; omega
    have h3 := cost_varsA n.atom.args
    have h4 := cost_varsL n.left
    have h5 := cost_varsL n.right
    have h6 : costStrs (varsB n) ≤ costLit n := by unfold varsB costLit costAtom; rw [cost_app, cost_app]; omega
    rw [h1, cost_app]; omega
theorem cost_varsR (x : GRule) : costStrs (addAll [] (varsR x)) ≤ costRule x := by
  have h1 := cost_addAll (varsR x) []
  have h2 := cost_varsA x.head.args
  have h3 := cost_varsB x.body
  have h4 : costStrs ([] : List ByteArray) = 0 := rfl
  have h5 : costStrs (varsR x) = costStrs (varsA x.head.args) + costStrs (x.body.flatMap varsB) := cost_app _ _
  unfold costRule costAtom
  omega
theorem two_eq {Bz lo : Nat} {V : List ByteArray} {G0 R6 : Option Addr} {c0 l6 : Nat} {w' : World} (h : SRow Bz w' (.slice R6 V.length l6) V) (k : SLb w' lo (.slice G0 V.length c0) V) (hlo : lo ≤ w'.heap.size) (hV : costStrs V ≤ 1048576) :
    Calls Try.prog 8 #[.slice R6 V.length l6, .slice G0 V.length c0] w' (EqYes w') := by
  obtain ⟨A, c, e, _, hA⟩ := h.strs
  obtain ⟨D, d, e', hD⟩ := k.strs hlo
  cases e
  cases e'
  exact eq_Strs R6 G0 l6 c0 V w' hV hA hD
theorem row_kk {Bz lo px : Nat} {V : List ByteArray} {v : Value} {w w' : World} (h : SRow Bz w v V) (k : KK w w' lo px) (hz : px < Bz) : SRow Bz w' v V := by
  refine ⟨h.1, ?_⟩
  rcases h.2 with h' | ⟨g, cap, cur, e, hg, hc, hr⟩
  · exact .inl h'
  · exact .inr ⟨g, cap, cur, e, hg, (k.out g (Array.getElem?_eq_some_iff.1 hc).1 (.inr (by omega))).trans hc, hr⟩
theorem own_big {Bz : Nat} {V : List ByteArray} {v : Value} {w : World} (h : SRow Bz w v V) : ∀ k, v.ownBlock = some k → Bz ≤ k := fun k hk => (World.ownsRow.lt h k hk).1
set_option maxRecDepth 100000 in
set_option maxHeartbeats 4000000 in
theorem walk (x : GRule) (A1 : Option Addr) (c1 : Nat) (A2 : Option Addr) (c2 : Nat) (A3 : Option Addr) (c3 : Nat) (w : World) (hf : fitRule x) (s1 : NodeSsAt w 0 w.heap.size A1 x.head.args) (s2 : StrsAt w 0 w.heap.size A2 x.aggs) (s3 : LitsAt w 0 w.heap.size A3 x.body) :
    Calls Try.prog 3 #[.agg #[.string x.head.name, .slice A1 x.head.args.length c1, .slice A2 x.aggs.length c2, .slice A3 x.body.length c3]] w fun e w' => e = .returned (.bool true) ∧ Below w.heap.size w w' := by
  have hB0 : Below w.heap.size w (w.alloc (.cells #[.string x.head.name, .slice A1 x.head.args.length c1, .slice A2 x.aggs.length c2, .slice A3 x.body.length c3] 28)) := (Below.refl _ _).alloc (Nat.le_refl _) _
  have hP := Lib.hid (Whole.new w 28 [.string x.head.name, .slice A1 x.head.args.length c1, .slice A2 x.aggs.length c2, .slice A3 x.body.length c3])
  have HS1 := Lib.hid s1
  have HS2' := Lib.hid s2
  have HS3 := Lib.hid s3
  clear s1 s2 s3
  go_enter Try.func3, Try.ntmps3
  go_wp2_with fail
  refine (sz_Rule x A1 c1 A2 c2 A3 c3 _ _ hf (HS1.out.to_ hB0) (HS2'.out.to_ hB0) (HS3.out.to_ hB0) (by omega) (by omega)).mono ?_
  rintro e w1 ⟨rfl, hb1⟩
  have hB1 := below_next hB0 hb1 rfl rfl
  have P1 := hP.out.below hb1 hP.out.lt
  have p0 : w1.cell? ⟨w.heap.size, 0, none⟩ = some (.string x.head.name) := P1.cell 0
  have p1 : w1.cell? ⟨w.heap.size, 1, none⟩ = some (.slice A1 x.head.args.length c1) := P1.cell 1
  have p2 : w1.cell? ⟨w.heap.size, 2, none⟩ = some (.slice A2 x.aggs.length c2) := P1.cell 2
  have p3 : w1.cell? ⟨w.heap.size, 3, none⟩ = some (.slice A3 x.body.length c3) := P1.cell 3
  have hP1 := Lib.hid P1
  clear P1 hb1
  go_wp2_with fail
  · go_ret
    exact ⟨rfl, hB1⟩
  have hp1 : 0 ≤ szC (costRule x) 1048576 := by assumption
  obtain ⟨hc1, hc2⟩ := szC_pos hp1
  have hk : costRule x ≤ 1048576 := by omega
  clear hc1 hc2
  refine (to_Rule x A1 c1 A2 c2 A3 c3 _ hk (HS1.out.to_ hB1) (HS2'.out.to_ hB1) (HS3.out.to_ hB1)).mono ?_
  rintro e w2 ⟨D1, d1, D2, d2, D3, d3, rfl, hD1, hD2, hD3, _, hb2⟩
  have hB2 := below_next hB1 hb2 rfl rfl
  have P2 := hP1.out.below hb2 hP1.out.lt
  clear p0 p1 p2 p3
  have hP2 := Lib.hid P2
  clear P2 hb2
  go_wp2_with fail
  refine (spec_varsOf x D1 d1 D2 d2 D3 d3 _ hk hD1 hD3).mono ?_
  rintro e w3 ⟨v0, rfl, hV0, hb3⟩
  have hB3 := below_next hB2 hb3 rfl rfl
  have P3 := hP2.out.below hb3 hP2.out.lt
  have p0 : w3.cell? ⟨w.heap.size, 0, none⟩ = some (.string x.head.name) := P3.cell 0
  have p1 : w3.cell? ⟨w.heap.size, 1, none⟩ = some (.slice A1 x.head.args.length c1) := P3.cell 1
  have p2 : w3.cell? ⟨w.heap.size, 2, none⟩ = some (.slice A2 x.aggs.length c2) := P3.cell 2
  have p3 : w3.cell? ⟨w.heap.size, 3, none⟩ = some (.slice A3 x.body.length c3) := P3.cell 3
  have hP3 := Lib.hid P3
  have HV0 := Lib.hid (show SLb w3 w3.heap.size v0 (addAll [] (varsR x)) by obtain ⟨g, o, c, h1, h2, h3, h4⟩ := hV0; exact ⟨g, o, c, h1, h3, h4⟩)
  clear P3 hb3 hD1 hD2 hD3 hV0
  go_wp2_with fail
  refine (to_Rule x A1 c1 A2 c2 A3 c3 _ hk (HS1.out.to_ hB3) (HS2'.out.to_ hB3) (HS3.out.to_ hB3)).mono ?_
  rintro e w4 ⟨E1, e1, E2, e2, E3, e3, rfl, hE1, hE2, hE3, hU, hb4⟩
  have hB4 := below_next hB3 hb4 rfl rfl
  have P4 := hP3.out.below hb4 hP3.out.lt
  have hs4 : w.heap.size ≤ w4.heap.size := hB4.size
  have hw4 : w3.heap.size ≤ w4.heap.size := hb4.size
  clear p0 p1 p2 p3
  have hP4 := Lib.hid P4
  have hSL4 := Lib.hid (HV0.out.keep (fun b h => hb4.block b h))
  clear P4 hb4
  go_wp2_with fail
  have hb5 : Below w4.heap.size w4 (w4.alloc (.cells #[.string x.head.name, .slice E1 x.head.args.length e1, .slice E2 x.aggs.length e2, .slice E3 x.body.length e3] 36)) := (Below.refl _ _).alloc (Nat.le_refl _) _
  have hB5 := hB4.trans (hb5.mono hs4)
  have hX := Lib.hid (Whole.new w4 36 [.string x.head.name, .slice E1 x.head.args.length e1, .slice E2 x.aggs.length e2, .slice E3 x.body.length e3])
  refine (impl_varsOf x E1 e1 E2 e2 E3 e3 _ hk (hE1.to_ hb5) (hE3.to_ hb5)).mono ?_
  rintro e w6 ⟨v6, rfl, hR6, hn6, hb6⟩
  have hB6 := below_next hB5 hb6 rfl rfl
  have P6 := (hP4.out.below hb5 hP4.out.lt).below hb6 (hP4.out.below hb5 hP4.out.lt).lt
  have X6 := hX.out.below hb6 hX.out.lt
  have hb46 := below_next hb5 hb6 rfl rfl
  obtain ⟨V, hV⟩ : ∃ V, addAll [] (varsR x) = V := ⟨_, rfl⟩
  have hVc : costStrs V ≤ 1048576 := by rw [← hV]; exact Nat.le_trans (cost_varsR x) hk
  have hVl : V.length ≤ 1048576 := by unfold costStrs at hVc; omega
  rw [hV] at hR6 hSL4
  have HRS : RS w x w3.heap.size w4.heap.size (w4.heap.size + 1) V v0 v6 E1 E2 E3 w6 :=
    ⟨hE1.keep (fun b _ h => hb46.block b h), hE2.keep (fun b _ h => hb46.block b h), hE3.keep (fun b _ h => hb46.block b h), fun b h1 h2 o => (World.frozen?_of_block (hb46.block b h2)).trans (hU b h1 h2 o), hb46.size, by simpa using hR6, hSL4.out.keep (fun b h => hb46.block b (by omega)), hB6⟩
  obtain ⟨px, hpx⟩ : ∃ n, w4.heap.size = n := ⟨_, rfl⟩
  obtain ⟨lo, hlo⟩ : ∃ n, w3.heap.size = n := ⟨_, rfl⟩
  have hwlo : w.heap.size < lo := by rw [← hlo]; exact hP3.out.lt
  have hLK : LK w x px lo px (px + 1) V v0 v6 A1 A2 A3 E1 E2 E3 c1 c2 c3 e1 e2 e3 w6 := by
    subst hpx hlo
    exact ⟨P6.cell 0, P6.cell 1, P6.cell 2, P6.cell 3, X6.cell 0, X6.cell 1, X6.cell 2, X6.cell 3, Lib.hid hw4, Lib.hid HRS⟩
  rw [hpx]
  clear P6 X6 hP1 hP2 hP3 hP4 hX hb5 hb6 hB1 hB2 hB3 hB4 hB5 hs4 hw4 hB0 hP hpx hlo hb46 HRS hE1 hE2 hE3 hU hR6 hSL4 HV0 hB6
  have HV := Lib.hid hV
  clear hV
  obtain ⟨R6, l6, rfl⟩ : ∃ A c, v6 = .slice A V.length c := by obtain ⟨_, _, _, _, _, _, _, _, _, h⟩ := hLK; obtain ⟨A, c, e, _⟩ := h.out.row.strs; exact ⟨A, c, e⟩
  obtain ⟨G0, c0, rfl⟩ : ∃ A c, v0 = .slice A V.length c := by obtain ⟨_, _, _, _, _, _, _, _, _, h⟩ := hLK; obtain ⟨g, o, c, e, _⟩ := h.out.sl; exact ⟨_, c, e⟩
  have hlB : lo ≤ px := by obtain ⟨_, _, _, _, _, _, _, _, h, _⟩ := hLK; exact h.out
  have HVC := Lib.hid hVc
  have HLK := Lib.hid hLK
  have HRS6 := Lib.hid hLK.2.2.2.2.2.2.2.2.2.out
  clear hLK
  go_wp2_with fail
  refine (two_eq HRS6.out.row HRS6.out.sl (Nat.le_trans hlB HRS6.out.hB) HVC.out).mono ?_
  rintro e w7 ⟨rfl, hb7⟩
  have HS := HLK.out.next hb7
  have HS2 := HS.next ((Below.refl _ _).drew)
  clear hb7 HLK HRS6
  go_wp2_with fail
  go_region_held3 (fun w' => w'.cell? ⟨w.heap.size, 0, none⟩ = some (.string x.head.name) ∧ w'.cell? ⟨w.heap.size, 1, none⟩ = some (.slice A1 x.head.args.length c1) ∧ w'.cell? ⟨w.heap.size, 2, none⟩ = some (.slice A2 x.aggs.length c2) ∧ w'.cell? ⟨w.heap.size, 3, none⟩ = some (.slice A3 x.body.length c3) ∧ w'.cell? ⟨px, 0, none⟩ = some (.string x.head.name) ∧ w'.cell? ⟨px, 1, none⟩ = some (.slice E1 x.head.args.length e1) ∧ w'.cell? ⟨px, 2, none⟩ = some (.slice E2 x.aggs.length e2) ∧ w'.cell? ⟨px, 3, none⟩ = some (.slice E3 x.body.length e3) ∧ Hid (lo ≤ px) ∧ Hid (RS w x lo px (px + 1) V (.slice G0 V.length c0) (.slice R6 V.length l6) E1 E2 E3 w'))
    (first | exact HS2 | exact HS
           | (exact LK.next (w := w) (x := x) (px := px) (lo := lo) (B := px) (Bz := px + 1) (V := V) (v0 := .slice G0 V.length c0) (v6 := .slice R6 V.length l6) (by go_split_ands; exact ⟨by assumption, by assumption, by assumption, by assumption, by assumption, by assumption, by assumption, by assumption, by assumption, by assumption⟩) hbx))
    (first
      | (go_at_call 6; refine (to_Rule x A1 c1 A2 c2 A3 c3 _ hk (HS1.out.to_ (show Hid (RS w x lo px (px + 1) V (.slice G0 V.length c0) (.slice R6 V.length l6) E1 E2 E3 _) by go_split_ands; assumption).out.low) (HS2'.out.to_ (show Hid (RS w x lo px (px + 1) V (.slice G0 V.length c0) (.slice R6 V.length l6) E1 E2 E3 _) by go_split_ands; assumption).out.low) (HS3.out.to_ (show Hid (RS w x lo px (px + 1) V (.slice G0 V.length c0) (.slice R6 V.length l6) E1 E2 E3 _) by go_split_ands; assumption).out.low)).mono ?_; rintro e wx ⟨F1, f1, F2, f2, F3, f3, rfl, hF1, hF2, hF3, _, hbx⟩)
      | (go_at_call 9; have hrs := (show Hid (RS w x lo px (px + 1) V (.slice G0 V.length c0) (.slice R6 V.length l6) E1 E2 E3 _) by go_split_ands; assumption).out; refine (eq_Rule (lo := lo) x E1 F1 e1 f1 E2 F2 e2 f2 E3 F3 e3 f3 _ hk (hrs.n1.mono (Nat.le_refl _) hrs.hB) hF1 (hrs.n2.mono (Nat.le_refl _) hrs.hB) hF2 (hrs.n3.mono (Nat.le_refl _) hrs.hB) hF3).mono ?_; rintro e wy ⟨rfl, hbx⟩))
  have hLy : LK w x px lo px (px + 1) V (.slice G0 V.length c0) (.slice R6 V.length l6) A1 A2 A3 E1 E2 E3 c1 c2 c3 e1 e2 e3 wy := LK.next (LK.next HS2 (by assumption)) hbx
  obtain ⟨p0, p1, p2, p3, y0, y1, y2, y3, _, hry⟩ := hLy
  have HRY := Lib.hid hry.out
  have HPY := Lib.hid (And.intro p0 (And.intro p1 (And.intro p2 p3)))
  clear HS HS2 hF1 hF2 hF3 hbx p0 p1 p2 p3 hry
  go_wp2_with fail
  refine (mark_Rule (lo := lo) (B := px) x E1 e1 E2 e2 E3 e3 _ _ HRY.out.n1.sh HRY.out.n2.sh HRY.out.n3.sh HRY.out.uf HRY.out.hB (by omega) (by have := msRule_le x; omega) hk).mono ?_
  rintro e w9 ⟨K, rfl, hK1, _, hKK⟩
  have hlow : lo ≤ wy.heap.size := Nat.le_trans hlB HRY.out.hB
  have hb9 := kk_below hKK (Nat.le_refl lo) hlow
  have hB9 : Below w.heap.size w w9 := HRY.out.low.trans (hb9.mono (Nat.le_of_lt hwlo))
  have hR9 := Lib.hid (row_kk HRY.out.row hKK (Nat.lt_succ_self _))
  have hS9 := Lib.hid (HRY.out.sl.keep (fun b h => hb9.block b h))
  have hlo9 : lo ≤ w9.heap.size := Nat.le_trans hlow hb9.size
  have hP9 := Lib.hid (show w9.cell? ⟨w.heap.size, 0, none⟩ = some (.string x.head.name) ∧ w9.cell? ⟨w.heap.size, 1, none⟩ = some (.slice A1 x.head.args.length c1) ∧ w9.cell? ⟨w.heap.size, 2, none⟩ = some (.slice A2 x.aggs.length c2) ∧ w9.cell? ⟨w.heap.size, 3, none⟩ = some (.slice A3 x.body.length c3) from
    ⟨(hb9.cell (p := ⟨w.heap.size, 0, none⟩) hwlo).trans HPY.out.1, (hb9.cell (p := ⟨w.heap.size, 1, none⟩) hwlo).trans HPY.out.2.1, (hb9.cell (p := ⟨w.heap.size, 2, none⟩) hwlo).trans HPY.out.2.2.1, (hb9.cell (p := ⟨w.heap.size, 3, none⟩) hwlo).trans HPY.out.2.2.2⟩)
  have hk0 : ¬ (K < 0) := by omega
  have hk1 : decide (K < 0) = false := by simpa using hk0
  clear hKK hb9 y0 y1 y2 y3 HRY HPY hlow
  go_wp2_with fail
  refine (two_eq hR9.out hS9.out hlo9 HVC.out).mono ?_
  rintro e w10 ⟨rfl, hb10⟩
  have hB10 := below_next hB9 hb10 rfl rfl
  have hR10 := hR9.out.to_ hb10
  have hlo10 : lo ≤ w10.heap.size := Nat.le_trans hlo9 hb10.size
  have MK := Lib.hid (mark_names R6 l6 V.length 1 V w10 hR10 rfl (by omega) (by omega) (by omega))
  have HOWN := Lib.hid (own_big hR10)
  clear hR10
  go_wp2_with fail
  refine MK.out.mono ?_
  rintro e w11 ⟨rfl, hR11, hg11⟩
  have hb11 : Below lo w10 w11 := (Below.refl _ _).grown hg11 hlo10 (fun k hk => by have := HOWN.out k hk; omega)
  have hB11 : Below w.heap.size w w11 := hB10.trans (hb11.mono (Nat.le_of_lt hwlo))
  have hb911 : Below lo w9 w11 := (hb10.mono hlo9).trans hb11
  have HR11 := Lib.hid hR11
  have hS11 := Lib.hid (hS9.out.keep (fun b h => hb911.block b h))
  have hlo11 : lo ≤ w11.heap.size := Nat.le_trans hlo9 hb911.size
  have hP11 := Lib.hid (show w11.cell? ⟨w.heap.size, 0, none⟩ = some (.string x.head.name) ∧ w11.cell? ⟨w.heap.size, 1, none⟩ = some (.slice A1 x.head.args.length c1) ∧ w11.cell? ⟨w.heap.size, 2, none⟩ = some (.slice A2 x.aggs.length c2) ∧ w11.cell? ⟨w.heap.size, 3, none⟩ = some (.slice A3 x.body.length c3) from
    ⟨(hb911.cell (p := ⟨w.heap.size, 0, none⟩) hwlo).trans hP9.out.1, (hb911.cell (p := ⟨w.heap.size, 1, none⟩) hwlo).trans hP9.out.2.1, (hb911.cell (p := ⟨w.heap.size, 2, none⟩) hwlo).trans hP9.out.2.2.1, (hb911.cell (p := ⟨w.heap.size, 3, none⟩) hwlo).trans hP9.out.2.2.2⟩)
  have HD := Lib.hid (fun W (h : SRow (px + 1) W (.slice R6 V.length l6) (markN 1 V.length)) => held_names R6 l6 V.length 1 W h (by omega) (by omega) (by omega))
  have hk2 : 0 ≤ ((1 + V.length : Nat) : Int) := by omega
  have hk3 : ¬ (((1 + V.length : Nat) : Int) < 0) := by omega
  have hk4 : decide (((1 + V.length : Nat) : Int) < 0) = false := by simpa using hk3
  clear hR11 hg11 hb11 hb911 hb10 MK HOWN hR9 hS9 hP9
  generalize hQ : ((1 + V.length : Nat) : Int) = Q at *
  go_wp2_with fail
  refine (HD.out _ HR11.out).mono ?_
  rintro e w12 ⟨rfl, hb12⟩
  have hB12 := below_next hB11 hb12 rfl rfl
  have key : ∀ {p : Addr} {v : Value}, w11.cell? p = some v → w12.cell? p = some v := fun {p v} hc => (hb12.cell (p := p) (World.block_lt_of_cell? w11 p hc)).trans hc
  have p0 := key hP11.out.1
  have p1 := key hP11.out.2.1
  have p2 := key hP11.out.2.2.1
  have p3 := key hP11.out.2.2.2
  clear key
  go_wp2_with fail
  refine (to_Rule x A1 c1 A2 c2 A3 c3 _ hk (HS1.out.to_ hB12) (HS2'.out.to_ hB12) (HS3.out.to_ hB12)).mono ?_
  rintro e w13 ⟨F1, f1, F2, f2, F3, f3, rfl, hF1, hF2, hF3, _, hb13⟩
  have hB13 := below_next hB12 hb13 rfl rfl
  have hb1113 := below_next hb12 hb13 rfl rfl
  clear p0 p1 p2 p3
  go_wp2_with fail
  refine (impl_varsOf x F1 f1 F2 f2 F3 f3 _ hk hF1 hF3).mono ?_
  rintro e w14 ⟨v14, rfl, hR14, _, hb14⟩
  have hB14 := below_next hB13 hb14 rfl rfl
  have hb1114 := below_next hb1113 hb14 rfl rfl
  rw [HV.out] at hR14
  obtain ⟨R14, l14, rfl⟩ : ∃ A c, v14 = .slice A V.length c := by obtain ⟨A, c, e, _⟩ := hR14.strs; exact ⟨A, c, e⟩
  have HR14 := Lib.hid hR14
  have hS14 := Lib.hid (hS11.out.keep (fun b h => hb1114.block b (by omega)))
  have hlo14 : lo ≤ w14.heap.size := Nat.le_trans hlo11 hb1114.size
  clear hR14 hF1 hF2 hF3
  go_wp2_with fail
  refine (two_eq HR14.out hS14.out hlo14 HVC.out).mono ?_
  rintro e w15 ⟨rfl, hb15⟩
  have hB15 := below_next hB14 hb15 rfl rfl
  have hb1115 := below_next hb1114 hb15 rfl rfl
  go_wp2_with fail
  refine (HD.out _ (HR11.out.to_ hb1115)).mono ?_
  rintro e w16 ⟨rfl, hb16⟩
  have hB16 := below_next hB15 hb16 rfl rfl
  go_wp2_with fail
  go_ret
  exact ⟨rfl, hB16⟩
set_option maxRecDepth 100000 in
theorem lifted (os : Os) (started : os.Started) (H : Type) (enc : TypeId × Value → H) :
    ReturnsInHanded {} Try.checked os 3 .any (Rows.fnExactVarsOfSpec.pre6 enc Try.prog Try.f3 Rows.fnExactVarsOfRow.domain false) (Rows.fnExactVarsOfSpec.post enc Try.prog Try.f3 false true false false) := by
  refine returnsInHanded_of_change (C := Try.checked) own started (by kernel_rfl) Try.func3
    (ChangeSpec.witness6 (enc := enc) (C := Try.checked) false ⟨#[], #[.agg #[.string ByteArray.empty, .slice none 0 0, .slice none 0 0, .slice none 0 0]], []⟩ 8 (by kernel_rfl) (by kernel_rfl) (by kernel_rfl) (by kernel_rfl)) ?_
  intro W base args ds gs before hval0 hW hcnd _
  have hval : ∀ (j : Nat) t v, Try.f3.params[j]? = some t → args[j]? = some v → Value.okWide Try.prog W .any base t v := hval0
  have hW' := hW
  obtain ⟨p, q, hA0, hV, rfl, hfz, hnd⟩ := hW
  have hA : DataW.TrodAll enc Try.prog W 0 (fun _ => true) true Try.f3.params.toList args.toList ds p := hA0
  rw [Try.params3] at hA hval
  obtain ⟨v0, vs0, d0, ds0, p0, q0, hargs, rfl, rfl, h0, r0⟩ := trodAll_cons hA
  obtain ⟨rfl, rfl, rfl⟩ := trodAll_nil r0
  obtain rfl : args = #[v0] := by cases args; simp_all
  obtain ⟨rfl, rfl⟩ := trodVars_none hV
  have z0 := h0
  have lt0 : ∀ x ∈ p0, x.block < W.heap.size := by obtain ⟨m, hm⟩ := z0; exact DataW.trod_lt m _ _ _ hm
  obtain ⟨x0, a0_1, c0_1, a0_2, c0_2, a0_3, c0_3, rfl, fit0, s0_1, s0_2, s0_3⟩ := open_Rule_arg (hval 0 28 v0 rfl rfl) h0
  clear hA0 hval0
  refine (walk x0 a0_1 c0_1 a0_2 c0_2 a0_3 c0_3 W fit0 s0_1 s0_2 s0_3).mono fun e W' ⟨he, bel⟩ => ?_
  subst he
  exact ⟨_, rfl, _, _, _, [], _, [], hW', trodAll_mk1 (shut_bool Try.underlying4 _), (trodAll_cons_mk (Below.trod laidOut (by kernel_rfl) (of_decide_eq_true (by kernel_rfl)) z0 bel lt0) trodAll_mk0), rfl, bel.frame _, fun h => by cases h⟩

theorem over : Rows.fnExactVarsOfRow.holds Try.pinned (OpenSpec.ofChange Rows.fnExactVarsOfSpec) :=
  OpenClaim.holds_of_wide 3 Try.f3 rfl rfl rfl rfl rfl rfl rfl ⟨rfl, rfl, rfl, rfl, rfl⟩ rfl rfl rfl rfl rfl (by kernel_rfl) Try.func3 (by kernel_rfl)
    (of_decide_eq_true (by kernel_rfl)) (by unfold Func.isWrapper; first | (rw [if_pos (by decide +kernel)]; kernel_rfl) | (rw [if_neg (by decide +kernel)]; exact ⟨rfl, rfl⟩))
    (fun os started H enc _ => lifted os started H enc)

theorem proved : Rows.FnExactVarsOfSaid := over
end Go.Proofs.Ytmbdccbgcobflaa.varsOf
