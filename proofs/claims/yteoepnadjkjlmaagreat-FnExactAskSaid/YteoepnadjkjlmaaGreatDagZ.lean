/-
  For spec.l5With: steps of appends, blocks known whole behind others. A region that draws its order, walked by an invariant over what has come up: one proof for all orders.
-/
import Derived.Test.YteoepnadjkjlmaaGreatVIZ
import Derived.Test.YteoepnadjkjlmaaGreatRowStZ
import Derived.Test.YteoepnadjkjlmaaGreatMarkZ
import Derived.Test.YteoepnadjkjlmaaGreatToTabZ
import Derived.Test.YteoepnadjkjlmaaGreatRowOkSZ
import Derived.Deep.RegionHeld3
import Derived.Deep.RegionLaw
import Derived.OrdersHeld
import Derived.RegionTactic
namespace Go.Proofs.YteoepnadjkjlmaaGreat
open Go.RowKit Go.Sort
set_option linter.unusedVariables false

theorem infoTxt : (Tryz.prog.info? 9).map (fun i => (i.zero, i.size, i.bytes)) = some (some (.string ByteArray.empty), 1, 16) := by kernel_rfl
theorem step_sapp {ops : Array Oper} {o : Oper} {a : Act} {W : World} {K : Act → World → Prop} {Q : Exit → Act → World → Prop} {E : Prop}
    (hg : o.guard = none) (s x : Operand) (hop : o.op = Op.call { callee := Callee.builtin Builtin.append, args := #[s, x], argTypes := #[53, 53] })
    (w : World) (v : Value) (l : List ByteArray) (hs : a.eval s = v) (hI : SRow w.heap.size W v l) (hB : Below w.heap.size w W)
    (A : Option Addr) (m c : Nat) (ns : List ByteArray) (hx : a.eval x = .slice A m c) (hm : ns.length = m) (hA : A = none → m = 0) (hn : ∀ ad, A = some ad → ∀ j y, ns[j]? = some y → W.cell? (ad.add j) = some (.string y)) (hb : l.length + m ≤ 4194304)
    (hK : ∀ v' W', SRow w.heap.size W' v' (l ++ ns) → W.grownBy W' v.ownBlock → KeepT 9 W W' → Below w.heap.size w W' → W.heap.size ≤ W'.heap.size → K (a.put o.dst v') W') :
    if Region.wanted o (yielded ops a.tmps) = true then Oper.wp Tryz.prog o a W K Q else E := by
  have hw : Region.wanted o (yielded ops a.tmps) = true := by simp [Region.wanted, hg]
  rw [if_pos hw]
  obtain ⟨i0, hi, hz0, hz1, hz2⟩ := info_parts infoTxt
  refine wp_append_any W s x 53 hop w.heap.size 9 i0 _ 1 16 Tryz.underlying53 hi hz0 hz1 hz2 rfl (by decide) v l.length (strL l) hs hI A m c (strL ns) hx (by rw [strL_length, hm]) hA (fun ad e j u hu => ?_) (strL_one _) (by unfold maxLen; omega) (by omega) hB.size (fun v' W' h1 h2 h3 => hK v' W' ?_ h2 (KeepT.grown hI h2) (hB.grown h2 hB.size (fun k hk => (World.ownsRow.lt hI k hk).1)) h2.size)
  · simp only [strL, List.getElem?_map, Option.map_eq_some_iff] at hu
    obtain ⟨y, hy, rfl⟩ := hu
    exact hn ad e j y hy
  · show W'.ownsRow _ _ _ _ _ _
    rw [List.length_append, strL_append, hm]
    exact h1
theorem step_wv {ops : Array Oper} {o : Oper} {a : Act} {W : World} {K : Act → World → Prop} {Q : Exit → Act → World → Prop} {E : Prop}
    (hg : o.guard = none) (s x : Operand) (hop : o.op = Op.call { callee := Callee.builtin Builtin.append, args := #[s, x], argTypes := #[52, 52] })
    (w : World) (v : Value) (l : List GV) (hs : a.eval s = v) (hI : VRow w.heap.size W v l) (hB : Below w.heap.size w W)
    (A : Option Addr) (m c : Nat) (ns : List GV) (hx : a.eval x = .slice A m c) (hm : ns.length = m) (hA : A = none → m = 0) (hn : ∀ ad, A = some ad → ∀ j u, (flat ns)[j]? = some u → W.cell? (ad.add j) = some u) (hb : l.length + m ≤ 4194304)
    (hK : ∀ v' W', VRow w.heap.size W' v' (l ++ ns) → W.grownBy W' v.ownBlock → KeepT 79 W W' → Below w.heap.size w W' → W.heap.size ≤ W'.heap.size → K (a.put o.dst v') W') :
    if Region.wanted o (yielded ops a.tmps) = true then Oper.wp Tryz.prog o a W K Q else E := by
  have hw : Region.wanted o (yielded ops a.tmps) = true := by simp [Region.wanted, hg]
  rw [if_pos hw]
  obtain ⟨i0, hi, hz0, hz1, hz2⟩ := info_parts infoValue
  refine wp_append_any W s x 52 hop w.heap.size 79 i0 _ 3 32 Tryz.underlying52 hi hz0 hz1 hz2 rfl (by decide) v l.length (flat l) hs hI A m c (flat ns) hx (by rw [flat_length, hm]) hA hn (flat_one _) (by unfold maxLen; omega) (by omega) hB.size (fun v' W' h1 h2 h3 => hK v' W' ?_ h2 (KeepT.grown hI h2) (hB.grown h2 hB.size (fun k hk => (World.ownsRow.lt hI k hk).1)) h2.size)
  show W'.ownsRow _ _ _ _ _ _
  rw [List.length_append, flat_append, hm]
  exact h1
theorem whole_new' {W : World} {g : Nat} {t : TypeId} {l : List Value} (h : g = W.heap.size) : Whole (W.alloc (.cells l.toArray t)) g t l := by subst h; exact Whole.new W t l
theorem whole_alloc {W : World} {g : Nat} {t : TypeId} {l : List Value} {o : Obj} (h : Whole W g t l) : Whole (W.alloc o) g t l := h.below ((Below.refl _ _).alloc (Nat.le_refl _) o) h.lt
theorem whole_grown {W W' : World} {b : Option Nat} (hg : W.grownBy W' b) {g : Nat} {t : TypeId} {l : List Value} (hne : some g ≠ b) (h : Whole W g t l) : Whole W' g t l := (hg.block g h.lt hne).trans h
theorem whole_keep {W W' : World} {t' : TypeId} (hk : KeepT t' W W') {g : Nat} {t : TypeId} {l : List Value} (hne : t ≠ t') (h : Whole W g t l) : Whole W' g t l := (hk g h.lt (fun cur fr e => by rw [h] at e; injection e with e; injection e with _ e; exact hne e)).trans h
theorem own_new {W : World} {B g s : Nat} {t : TypeId} (h : Whole W g t []) (hg : B ≤ g) : W.ownsRow B t s (.slice (some ⟨g, 0, none⟩) 0 0) 0 [] := ⟨by simp, .inr ⟨g, 0, #[], rfl, hg, h, Nat.le_refl _, Nat.zero_le _, by simp, by simp⟩⟩
theorem own_keep {W W' : World} {B n s : Nat} {t t' : TypeId} {v : Value} {xs : List Value} (hk : KeepT t' W W') (hne : t ≠ t') (h : W.ownsRow B t s v n xs) : W'.ownsRow B t s v n xs := by
  refine ⟨h.1, ?_⟩
  rcases h.2 with h' | ⟨g, cap, cur, e, hg, hh, hr⟩
  · exact .inl h'
  · refine .inr ⟨g, cap, cur, e, hg, (hk g (Array.getElem?_eq_some_iff.1 hh).1 (fun cur fr e => ?_)).trans hh, hr⟩
    rw [hh] at e; injection e with e; injection e with _ e; exact hne e
theorem one_str {W : World} {g : Nat} {t : TypeId} {s : ByteArray} (h : Whole W g t [.string s]) : ∀ ad, (some ⟨g, 0, none⟩ : Option Addr) = some ad → ∀ j y, [s][j]? = some y → W.cell? (ad.add j) = some (.string y) := by
  intro ad e j y hy
  cases e
  match j, hy with
  | 0, hy => simp at hy; subst hy; simpa [Addr.add] using h.cell 0
theorem one_val {W : World} {g : Nat} {t : TypeId} {v : GV} (h : Whole W g t [.int .i64 v.k, .int .i64 v.n, .string v.t]) : ∀ ad, (some ⟨g, 0, none⟩ : Option Addr) = some ad → ∀ j u, (flat [v])[j]? = some u → W.cell? (ad.add j) = some u := by
  intro ad e j u hu
  cases e
  rw [Addr.add_lit, h.cell, Nat.zero_add]
  exact hu
theorem strs_src {w : World} {lo : Nat} {A : Option Addr} {xs : List ByteArray} (h : StrsAt w lo w.heap.size A xs) : (A = none → xs.length = 0) ∧ ∀ W, Below w.heap.size w W → ∀ ad, A = some ad → ∀ j y, xs[j]? = some y → W.cell? (ad.add j) = some (.string y) := by
  rcases h with rfl | ⟨g, o, rfl, h1, h2, hc⟩
  · exact ⟨fun _ => rfl, fun W _ ad _ j y hy => by simp at hy⟩
  · refine ⟨fun e => (by cases e), fun W hb ad e j y hy => ?_⟩
    cases e
    rw [Addr.add_lit]
    exact (hb.cell (p := ⟨g, o + j, none⟩) h2).trans (hc j y hy)
theorem vals_src {w : World} {lo : Nat} {A : Option Addr} {xs : List GV} (h : ValuesAt w lo w.heap.size A xs) : (A = none → xs.length = 0) ∧ ∀ W, Below w.heap.size w W → ∀ ad, A = some ad → ∀ j u, (flat xs)[j]? = some u → W.cell? (ad.add j) = some u := by
  refine ⟨(row_src h.row).1, fun W hb => (row_src (h.row.below hb (Nat.le_refl _))).2⟩
theorem new3k (w : World) (a z y : List Value) (ta tz ty : TypeId) :
    Whole (((w.alloc (.cells a.toArray ta)).alloc (.cells z.toArray tz)).alloc (.cells y.toArray ty)) w.heap.size ta a ∧
    Whole (((w.alloc (.cells a.toArray ta)).alloc (.cells z.toArray tz)).alloc (.cells y.toArray ty)) (w.heap.size + 1) tz z ∧ Whole (((w.alloc (.cells a.toArray ta)).alloc (.cells z.toArray tz)).alloc (.cells y.toArray ty)) (w.heap.size + 1 + 1) ty y ∧
    Below w.heap.size w (((w.alloc (.cells a.toArray ta)).alloc (.cells z.toArray tz)).alloc (.cells y.toArray ty)) ∧ (((w.alloc (.cells a.toArray ta)).alloc (.cells z.toArray tz)).alloc (.cells y.toArray ty)).heap.size = w.heap.size + 3 := by
  refine ⟨whole_alloc (whole_alloc (whole_new' rfl)), whole_alloc (whole_new' (by simp)), whole_new' (by simp), (((Below.refl _ _).alloc (Nat.le_refl _) _).alloc (by simp) _).alloc (by simp; omega) _, by simp⟩
/-- What an environment's step leaves. -/
def WithPost (w : World) (ns : List ByteArray) (vs : List GV) (e : Ending) (w' : World) : Prop := ∃ B1 d1 B2 d2, e = .returned (.agg #[.slice B1 ns.length d1, .slice B2 vs.length d2]) ∧ StrsAt w' w.heap.size w'.heap.size B1 ns ∧ ValuesAt w' w.heap.size w'.heap.size B2 vs ∧ Below w.heap.size w w'
theorem vrow_valsB {B : Nat} {w : World} {v : Value} {r : List GV} (h : VRow B w v r) : ∃ A c, v = .slice A r.length c ∧ ValuesAt w B w.heap.size A r := by
  obtain ⟨A, c, e, hr⟩ := h.row
  refine ⟨A, c, e, ?_⟩
  rcases hr with h0 | ⟨g, o, hA, hg, hc⟩
  · exact .inl h0
  · refine .inr ⟨g, o, hA, ?_, hg, fun i x hx => hc i x hx⟩
    rcases h.2 with ⟨e2, h0⟩ | ⟨g', cap, cur, e2, hg', _⟩
    · rw [e, hA] at e2; cases e2
    · rw [e, hA] at e2
      injection e2 with e2
      injection e2 with e2
      injection e2 with e2
      omega
theorem srow_alloc {B : Nat} {W : World} {v : Value} {l : List ByteArray} {o : Obj} (h : SRow B W v l) : SRow B (W.alloc o) v l := World.ownsRow.alloc h o
theorem vrow_alloc {B : Nat} {W : World} {v : Value} {l : List GV} {o : Obj} (h : VRow B W v l) : VRow B (W.alloc o) v l := World.ownsRow.alloc h o
theorem srow_keep {B : Nat} {W W' : World} {v : Value} {l : List ByteArray} (hk : KeepT 79 W W') (h : SRow B W v l) : SRow B W' v l := own_keep hk (by decide) h
theorem set2_far {W : World} {n b o : Nat} {x y u : Value} (h : W.cell? ⟨b, o, none⟩ = some u) (hne : n ≠ b) : ((W.setCell ⟨n, 0, none⟩ x).setCell ⟨n, 1, none⟩ y).cell? ⟨b, o, none⟩ = some u := by
  rw [World.cell?_setCell_far _ _ _ _ hne, World.cell?_setCell_far _ _ _ _ hne]; exact h
/-- What lies behind the four appends, and how the answer's cells take it. -/
theorem with_done {w w0 W : World} {n : Nat} {t : TypeId} {v2 v4 : Value} {ns : List ByteArray} {vs : List GV} (hBw : Below w.heap.size w w0) (hR : Whole w0 n t [.slice none 0 0, .slice none 0 0] ∧ w.heap.size ≤ n) (hB : Below w0.heap.size w0 W) (h2 : SRow w0.heap.size W v2 ns) (h4 : VRow w0.heap.size W v4 vs) :
    ∃ D1 d1 D2 d2, v2 = .slice D1 ns.length d1 ∧ v4 = .slice D2 vs.length d2 ∧ W.cell? ⟨n, 0, none⟩ = some (.slice none 0 0) ∧ W.cell? ⟨n, 1, none⟩ = some (.slice none 0 0) ∧ W.frozen? ⟨n, 0, none⟩ = false ∧ W.frozen? ⟨n, 1, none⟩ = false ∧
      Hid (∀ r, r = (W.setCell ⟨n, 0, none⟩ (.slice D1 ns.length d1)).setCell ⟨n, 1, none⟩ (.slice D2 vs.length d2) → r.cell? ⟨n, 0, none⟩ = some (.slice D1 ns.length d1) ∧ r.cell? ⟨n, 1, none⟩ = some (.slice D2 vs.length d2) ∧ WithPost w ns vs (.returned (.agg #[.slice D1 ns.length d1, .slice D2 vs.length d2])) r) := by
  obtain ⟨D1, d1, rfl, _, hs⟩ := h2.strs
  obtain ⟨D2, d2, rfl, hv⟩ := vrow_valsB h4
  have hW := hR.1.below hB hR.1.lt
  refine ⟨D1, d1, D2, d2, rfl, rfl, hW.cell 0, hW.cell 1, hW.frozen 0, hW.frozen 1, Lib.hid ?_⟩
  intro r hr
  have hX := (hW.set_ 0 (.slice D1 ns.length d1)).set_ 1 (.slice D2 vs.length d2)
  rw [← hr] at hX
  have hn : n < w0.heap.size := hR.1.lt
  have hgr : W.grownBy r (some n) := by rw [hr]; exact grown_set (grown_set (grown_refl W n))
  have hBr : Below w.heap.size w r := ((hBw.trans (hB.mono hBw.size)).grown hgr (Nat.le_trans hBw.size hB.size) (fun k hk => by cases hk; exact hR.2))
  refine ⟨hX.cell 0, hX.cell 1, D1, d1, D2, d2, rfl, ?_, ?_, hBr⟩
  · rcases hs with h0 | ⟨g, o, hA, h1, h3, hc⟩
    · exact .inl h0
    · exact .inr ⟨g, o, hA, Nat.le_trans hBw.size h1, Nat.lt_of_lt_of_le h3 hgr.size, fun i x hx => (World.cell?_of_block (w := W) (w' := r) (a := ⟨g, o + i, none⟩) (hgr.block g h3 (by intro e; cases e; omega))).trans (hc i x hx)⟩
  · have hv2 := hv
    rcases hv2 with h0 | ⟨g, o, hA, h1, h3, hc⟩
    · exact .inl h0
    · exact .inr ⟨g, o, hA, Nat.le_trans hBw.size h1, Nat.lt_of_lt_of_le h3 hgr.size, fun i x hx => VAt.blk (hc i x hx) (hgr.block g h3 (by intro e; cases e; omega))⟩
end Go.Proofs.YteoepnadjkjlmaaGreat
namespace Go.Proofs.YteoepnadjkjlmaaGreat
set_option linter.unusedVariables false

section
variable {P : Program} {ops : Array Oper} {Q : Exit → Act → World → Prop} {md : Region.Mode} {S : World → Prop}
theorem wpOp_of {i : Nat} {o : Oper} {K : Act → World → Prop} {a : Act} {w : World} (ho : ops[i]? = some o) (h : if Region.wanted o (yielded ops a.tmps) = true then Oper.wp P o a w K Q else K (a.put o.dst undef) w) : wpOp P ops Q i K a w :=
  wpOp_step ho fun K' hK => by
    split
    · rename_i hw; rw [if_pos hw] at h; exact Oper.wp_mono hK h
    · rename_i hw; rw [if_neg hw] at h; exact hK _ _ h
/-- σ: what has come up; L: its marks; I: what is known then. -/
theorem dag {σ : Type} (L : σ → Array Bool) (μ : σ → Nat) (I : σ → Act → World → Prop)
    (hstep : ∀ s a w, I s a w → ∀ i ∈ Region.ready md ops (L s), ∃ s', L s' = (L s).setIfInBounds i true ∧ μ s' < μ s ∧ wpOp P ops Q i (fun a' w' => S w' ∧ I s' a' w') a w)
    (hend : ∀ s a w, I s a w → Region.ready md ops (L s) = [] → Q .normal a w)
    (h0 : ∀ s, μ s = 0 → Region.ready md ops (L s) = []) :
    ∀ (fuel : Nat) (s : σ) (a : Act) (w : World), I s a w → μ s ≤ fuel → wpAnyH P md ops Q S fuel (L s) a w := by
  intro fuel
  induction fuel with
  | zero => intro s a w hI hm; exact ⟨h0 s (by omega), hend s a w hI (h0 s (by omega))⟩
  | succ n ih =>
    intro s a w hI hm
    refine ⟨fun hr => hend s a w hI hr, fun i hi => ?_⟩
    obtain ⟨s', e, hl, hw⟩ := hstep s a w hI i hi
    rw [← e]
    exact wpOp_mono (fun a' w' h => ⟨h.1, ih s' a' w' h.2 (by omega)⟩) hw
end
theorem both {p : Bool → Bool} (h : (p false && p true) = true) : ∀ b, p b = true := by
  rw [Bool.and_eq_true] at h
  intro b; cases b
  · exact h.1
  · exact h.2
end Go.Proofs.YteoepnadjkjlmaaGreat
