/-
  Lists of differences of the call's own, while they are built.
-/
import Derived.Test.YtggkggaihfcjmaaTyDiffZ
import Derived.Laws.AppendOwn
import Derived.Laws.OwnMore
namespace Go.Proofs.Ytggkggaihfcjmaa
open Go.RowKit Go.Sort
set_option linter.unusedVariables false

/-- Blocks whose kind is not t are as before. -/
def KeepT (t : TypeId) (w w' : World) : Prop := ∀ i, i < w.heap.size → (∀ cur fr, w.heap[i]? ≠ some (.cells cur t fr)) → w'.heap[i]? = w.heap[i]?
theorem KeepT.refl (t : TypeId) (w : World) : KeepT t w w := fun _ _ _ => rfl
theorem KeepT.trans {t : TypeId} {a b c : World} (h : KeepT t a b) (hs : a.heap.size ≤ b.heap.size) (k : KeepT t b c) : KeepT t a c := fun i hi hn => (k i (by omega) (fun cur fr => by rw [h i hi hn]; exact hn cur fr)).trans (h i hi hn)
theorem KeepT.below {t : TypeId} {w w' : World} (h : Below w.heap.size w w') : KeepT t w w' := fun i hi _ => h.block i hi
theorem KeepT.grown {t : TypeId} {B s n : Nat} {w w' : World} {v : Value} {xs : List Value} (hr : w.ownsRow B t s v n xs) (hg : w.grownBy w' v.ownBlock) : KeepT t w w' := by
  intro i hi hn
  refine hg.block i hi ?_
  intro he
  rcases hr.2 with ⟨rfl, _⟩ | ⟨g, cap, cur, rfl, hg, hh, _⟩
  · simp [Value.ownBlock] at he
  · simp [Value.ownBlock] at he; subst he; exact hn _ _ hh
theorem grown_self (w : World) (row : Option Nat) : w.grownBy w row := ⟨rfl, rfl, rfl, Nat.le_refl _, fun _ _ _ => rfl⟩
/-- append where the source may be nil. -/
theorem wp_append_any {P : Program} (w : World) {o : Oper} {a : Act} {K : Act → World → Prop} {Q : Exit → Act → World → Prop} (s x : Operand) (t : TypeId)
    (ho : o.op = .call { callee := .builtin .append, args := #[s, x], argTypes := #[t, t] })
    (base : Nat) (e : TypeId) (i : TypeInfo) (z : Value) (size bytes : Nat) (ht : P.underlying t = some (.slice e)) (hi : P.info? e = some i) (hz : i.zero = some z)
    (hsize : i.size = size) (hby : i.bytes = bytes) (hzs : z.cells.size = size) (hsz : 0 < size)
    (v : Value) (n : Nat) (xs : List Value) (hs : a.eval s = v) (hown : w.ownsRow base e size v n xs)
    (A : Option Addr) (m c : Nat) (news : List Value) (hx : a.eval x = .slice A m c) (hl : news.length = m * size) (hA : A = none → m = 0) (hnews : ∀ ad, A = some ad → ∀ j u, news[j]? = some u → w.cell? (ad.add j) = some u) (h1 : ∀ u ∈ news, u.oneCell' = true)
    (h63 : n + m ≤ maxLen) (hbytes : (n + m) * bytes ≤ 140737488355328) (hbase : base ≤ w.heap.size)
    (h : ∀ v' w', w'.ownsRow base e size v' (n + m) (xs ++ news) → w.grownBy w' v.ownBlock → (v ≠ .slice none 0 0 → v' ≠ .slice none 0 0) → K (a.put o.dst v') w') : Oper.wp P o a w K Q := by
  cases A with
  | some ad => exact wp_append_own w s x t ho base e i z size bytes ht hi hz hsize hby hzs hsz v n xs hs hown ad m c news hx hl (hnews ad rfl) h1 h63 hbytes hbase fun v' w' h2 h3 h4 => h v' w' h2 h3 (fun hv e' => hv (h4.1 e').1)
  | none =>
    have hm := hA rfl
    subst hm
    have hn : news = [] := List.eq_nil_of_length_eq_zero (by rw [hl]; simp)
    subst hn
    have hrun : (Builtin.append_ #[t, t] o.type #[v, .slice none 0 c]).run P w = .ok v w := by
      rcases hown.2 with ⟨rfl, rfl⟩ | ⟨g, cap, cur, rfl, _, _, hnc, _⟩
      · simp [Builtin.append_, run_underlying ht, sizeOf, typeInfo, hi, Builtin.lenOf, Builtin.firstCells]
      · simp [Builtin.append_, run_underlying ht, sizeOf, typeInfo, hi, Builtin.lenOf, Builtin.firstCells, hnc, storeCells]
    unfold Oper.wp
    simp [execOp, ho, resolve, invoke, builtin, hs, hx, hrun, Result.andThen]
    exact h v w (by simpa using hown) (grown_self w _) id

/-- A row that stays: below N, or in a block of values. -/
def RowSt (w : World) (N : Nat) (A : Option Addr) (xs : List GV) : Prop := xs = [] ∨ ∃ g o, A = some ⟨g, o, none⟩ ∧ g < w.heap.size ∧ (g < N ∨ ∃ cur fr, w.heap[g]? = some (.cells cur 52 fr)) ∧ ∀ i x, xs[i]? = some x → VAt w g (o + i * 3) x
theorem VAt.blk {w w' : World} {g o : Nat} {v : GV} (h : VAt w g o v) (hb : w'.heap[g]? = w.heap[g]?) : VAt w' g o v :=
  ⟨(World.cell?_of_block (w := w) (w' := w') (a := ⟨g, o, none⟩) hb).trans h.1, (World.cell?_of_block (w := w) (w' := w') (a := ⟨g, o + 1, none⟩) hb).trans h.2.1, (World.cell?_of_block (w := w) (w' := w') (a := ⟨g, o + 2, none⟩) hb).trans h.2.2⟩
theorem RowSt.keep {w w' : World} {N : Nat} {A : Option Addr} {xs : List GV} (h : RowSt w N A xs) (hb : Below N w w') (hk : KeepT 55 w w') : RowSt w' N A xs := by
  rcases h with h | ⟨g, o, hA, hg, hs, hc⟩
  · exact .inl h
  · have he : w'.heap[g]? = w.heap[g]? := by
      rcases hs with h' | ⟨cur, fr, h'⟩
      · exact hb.block g h'
      · exact hk g hg (fun cur' fr' e => by rw [h'] at e; cases e)
    refine .inr ⟨g, o, hA, Nat.lt_of_lt_of_le hg hb.size, ?_, fun i x hx => (hc i x hx).blk he⟩
    rcases hs with h' | ⟨cur, fr, h'⟩
    · exact .inl h'
    · exact .inr ⟨cur, fr, he.trans h'⟩
theorem RowSt.values {w : World} {N : Nat} {A : Option Addr} {xs : List GV} (h : RowSt w N A xs) : ValuesAt w 0 w.heap.size A xs := by
  rcases h with h | ⟨g, o, hA, hg, hs, hc⟩
  · exact .inl h
  · exact .inr ⟨g, o, hA, Nat.zero_le _, hg, fun i x hx => hc i x hx⟩
theorem ValuesAt.st {w : World} {lo N : Nat} {A : Option Addr} {xs : List GV} (h : ValuesAt w lo N A xs) (hN : N ≤ w.heap.size) : RowSt w N A xs := by
  rcases h with h | ⟨g, o, hA, h1, h2, hc⟩
  · exact .inl h
  · exact .inr ⟨g, o, hA, by omega, .inl h2, fun i x hx => hc i x hx⟩
/-- A head and its difference. -/
abbrev DH := (Option Addr × Nat) × GDiff
def dhL (p : DH) : List Value := [.slice p.1.1 p.2.row.length p.1.2, .int .i64 p.2.count]
def flatH : List DH → List Value
  | [] => []
  | p :: r => dhL p ++ flatH r
theorem flatH_append (a b : List DH) : flatH (a ++ b) = flatH a ++ flatH b := by
  induction a with
  | nil => rfl
  | cons x a ih => simp [flatH, ih]
theorem flatH_length (a : List DH) : (flatH a).length = a.length * 2 := by
  induction a with
  | nil => rfl
  | cons x a ih => simp [flatH, dhL, ih]; omega
theorem flatH_at : ∀ (a : List DH) (i : Nat) (p : DH), a[i]? = some p → (flatH a)[i * 2]? = some (.slice p.1.1 p.2.row.length p.1.2) ∧ (flatH a)[i * 2 + 1]? = some (.int .i64 p.2.count)
  | [], i, p, h => by simp at h
  | x :: a, 0, p, h => by simp at h; subst h; simp [flatH, dhL]
  | x :: a, i + 1, p, h => by
    have := flatH_at a i p (by simpa using h)
    rw [show (i + 1) * 2 = i * 2 + 2 by omega]
    simpa [flatH, dhL] using this
def DHok (w : World) (N : Nat) (p : DH) : Prop := RowSt w N p.1.1 p.2.row ∧ CapOk p.2.row.length p.1.2
/-- A list of differences that a call builds: w0 is the world at its beginning. -/
structure DAcc (w0 w : World) (v : Value) (zs : List GDiff) : Prop where
  own : ∃ ps : List DH, ps.map (·.2) = zs ∧ w.ownsRow w0.heap.size 55 2 v zs.length (flatH ps) ∧ ∀ p ∈ ps, DHok w w0.heap.size p
  ne : v ≠ .slice none 0 0
  low : Below w0.heap.size w0 w
theorem DAcc.start {w0 w : World} {n : Nat} (h : Below w0.heap.size w0 w) (hn : w.heap.size = n) : DAcc w0 (w.alloc (.cells #[] 55)) (.slice (some ⟨n, 0, none⟩) 0 0) [] := by
  subst hn; exact ⟨⟨[], rfl, World.ownsRow_made w #[] 0 h.size (Nat.zero_le _) rfl, fun p hp => by simp at hp⟩, by simp, h.alloc h.size _⟩
theorem DAcc.slice {w0 w : World} {v : Value} {zs : List GDiff} (h : DAcc w0 w v zs) : ∃ A c, v = .slice A zs.length c ∧ CapOk zs.length c := by
  obtain ⟨ps, e, ho, _⟩ := h.own
  rcases ho.2 with ⟨rfl, h0⟩ | ⟨g, cap, cur, rfl, hg, hh, hc1, hc2, hc3, hc4⟩
  · exact absurd rfl h.ne
  · exact ⟨_, cap, rfl, hc1, hc2⟩
theorem DAcc.below {w0 w w' : World} {v : Value} {zs : List GDiff} (h : DAcc w0 w v zs) (hb : Below w.heap.size w w') : DAcc w0 w' v zs := by
  obtain ⟨ps, e, ho, hp⟩ := h.own
  refine ⟨⟨ps, e, ⟨ho.1, ?_⟩, fun p hm => ⟨(hp p hm).1.keep (hb.mono h.low.size) (KeepT.below hb), (hp p hm).2⟩⟩, h.ne, h.low.trans (hb.mono h.low.size)⟩
  rcases ho.2 with h' | ⟨g, cap, cur, e', hg, hc, hr⟩
  · exact .inl h'
  · exact .inr ⟨g, cap, cur, e', hg, (hb.block g (Array.getElem?_eq_some_iff.1 hc).1).trans hc, hr⟩
theorem DAcc.app {w0 w w' : World} {v v' : Value} {zs : List GDiff} {p : DH} (h : DAcc w0 w v zs) (hp : DHok w w0.heap.size p) (ho : ∀ ps : List DH, ps.map (·.2) = zs → w.ownsRow w0.heap.size 55 2 v zs.length (flatH ps) → w'.ownsRow w0.heap.size 55 2 v' (zs.length + 1) (flatH ps ++ dhL p)) (hg : w.grownBy w' v.ownBlock) (hv : v ≠ .slice none 0 0 → v' ≠ .slice none 0 0) : DAcc w0 w' v' (zs ++ [p.2]) := by
  obtain ⟨ps, e, how, hq⟩ := h.own
  have hb : Below w0.heap.size w w' := (Below.refl _ _).grown hg h.low.size (fun k hk => (World.ownsRow.lt how k hk).1)
  have hk := KeepT.grown how hg
  refine ⟨⟨ps ++ [p], by simp [e], ?_, fun q hm => ?_⟩, hv h.ne, h.low.trans hb⟩
  · rw [flatH_append, List.length_append]
    simpa [flatH] using ho ps e how
  · rw [List.mem_append, List.mem_singleton] at hm
    rcases hm with hm | rfl
    · exact ⟨(hq q hm).1.keep hb hk, (hq q hm).2⟩
    · exact ⟨hp.1.keep hb hk, hp.2⟩
theorem DAcc.diffs {w0 w : World} {v : Value} {zs : List GDiff} (h : DAcc w0 w v zs) : ∃ A c, v = .slice A zs.length c ∧ CapOk zs.length c ∧ DiffsAt w 0 w.heap.size A zs := by
  obtain ⟨ps, e, ho, hp⟩ := h.own
  rcases ho.2 with ⟨rfl, h0⟩ | ⟨g, cap, cur, rfl, hg, hh, hc1, hc2, hc3, hc4⟩
  · exact absurd rfl h.ne
  · refine ⟨_, cap, rfl, ⟨hc1, hc2⟩, .inr ⟨g, 0, rfl, Nat.zero_le _, (Array.getElem?_eq_some_iff.1 hh).1, fun i z hz => ?_⟩⟩
    have hi : i < zs.length := (List.getElem?_eq_some_iff.1 hz).1
    rw [← e, List.getElem?_map, Option.map_eq_some_iff] at hz
    obtain ⟨p, hpi, rfl⟩ := hz
    obtain ⟨f0, f1⟩ := flatH_at ps i p hpi
    have hm := hp p (List.mem_of_getElem? hpi)
    have key : ∀ j, j < zs.length * 2 → w.cell? ⟨g, j, none⟩ = (flatH ps)[j]? := fun j hj => by
      have h1 : w.cell? ⟨g, j, none⟩ = cur.toList[j]? := by simp [World.cell?, hh]
      rw [h1, ← hc4, List.getElem?_take_of_lt hj]
    rw [Nat.zero_add]
    exact ⟨⟨p.1.1, p.1.2, ⟨(key _ (by omega)).trans f0, hm.2⟩, hm.1.values⟩, (key _ (by omega)).trans f1⟩
theorem dhL_one (p : DH) : ∀ u ∈ dhL p, u.oneCell' = true := by
  intro u hu; simp [dhL] at hu; rcases hu with rfl | rfl <;> rfl
theorem dhL_cells (w : World) (p : DH) (t : TypeId) : ∀ j u, (dhL p)[j]? = some u → (w.alloc (.cells #[.slice p.1.1 p.2.row.length p.1.2, .int .i64 p.2.count] t)).cell? ((⟨w.heap.size, 0, none⟩ : Addr).add j) = some u := by
  intro j u hj
  match j, hj with
  | 0, hj => simp [dhL] at hj; subst hj; simp [Addr.add]
  | 1, hj => simp [dhL] at hj; subst hj; simp [Addr.add]
/-- What a function that answers a list of differences leaves. -/
def DPost (w : World) (zs : List GDiff) (e : Ending) (w' : World) : Prop := ∃ A c, e = .returned (.slice A zs.length c) ∧ CapOk zs.length c ∧ DiffsAt w' 0 w'.heap.size A zs ∧ Below w.heap.size w w'
theorem DAcc.post {w0 w : World} {v : Value} {zs : List GDiff} (h : DAcc w0 w v zs) : DPost w0 zs (.returned v) w := by
  obtain ⟨A, c, e, hc, hd⟩ := h.diffs
  exact ⟨A, c, by rw [e], hc, hd, h.low⟩
end Go.Proofs.Ytggkggaihfcjmaa
