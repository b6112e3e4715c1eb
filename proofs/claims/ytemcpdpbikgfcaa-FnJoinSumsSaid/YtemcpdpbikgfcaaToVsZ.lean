/-
  Rows that stay, and append where the source may be nil. Lists of differences of the call's own, while they are built. laws.toValue. laws.toValueS.
-/
import Derived.Test.YtemcpdpbikgfcaaTyDiffZ
import Derived.Test.YtemcpdpbikgfcaaMemBZ
import Derived.Laws.AppendOwn
import Derived.Laws.OwnMore
namespace Go.Proofs.Ytemcpdpbikgfcaa
open Go.RowKit Go.Sort
set_option linter.unusedVariables false

/-- Blocks whose kind is not t are as before. -/
def KeepT (t : TypeId) (w w' : World) : Prop := ∀ i, i < w.heap.size → (∀ cur fr, w.heap[i]? ≠ some (.cells cur t fr)) → w'.heap[i]? = w.heap[i]?
theorem KeepT.refl (t : TypeId) (w : World) : KeepT t w w := fun _ _ _ => rfl
theorem KeepT.trans {t : TypeId} {a b c : World} (h : KeepT t a b) (hs : a.heap.size ≤ b.heap.size) (k : KeepT t b c) : KeepT t a c := fun i hi hn => (k i (by omega) (fun cur fr => by rw [h i hi hn]; exact hn cur fr)).trans (h i hi hn)
theorem KeepT.below {t : TypeId} {w w' : World} (h : Below w.heap.size w w') : KeepT t w w' := fun i hi _ => h.block i hi
theorem KeepT.grown {t : TypeId} {B s n : Nat} {w w' : World} {v : Value} {xs : List Value} (hr : w.ownsRow B t s v n xs) (hg : w.grownBy w' v.ownBlock) : KeepT t w w' := by
  intro i hi hn
  refine hg.block i hi ?_
  intro he
  rcases hr.2 with ⟨rfl, _⟩ | ⟨g, cap, cur, rfl, hg, hh, _⟩
  · simp [Value.ownBlock] at he
  · simp [Value.ownBlock] at he; subst he; exact hn _ _ hh
theorem grown_self (w : World) (row : Option Nat) : w.grownBy w row := ⟨rfl, rfl, rfl, Nat.le_refl _, fun _ _ _ => rfl⟩
/-- append where the source may be nil. -/
theorem wp_append_any {P : Program} (w : World) {o : Oper} {a : Act} {K : Act → World → Prop} {Q : Exit → Act → World → Prop} (s x : Operand) (t : TypeId)
    (ho : o.op = .call { callee := .builtin .append, args := #[s, x], argTypes := #[t, t] })
    (base : Nat) (e : TypeId) (i : TypeInfo) (z : Value) (size bytes : Nat) (ht : P.underlying t = some (.slice e)) (hi : P.info? e = some i) (hz : i.zero = some z)
    (hsize : i.size = size) (hby : i.bytes = bytes) (hzs : z.cells.size = size) (hsz : 0 < size)
    (v : Value) (n : Nat) (xs : List Value) (hs : a.eval s = v) (hown : w.ownsRow base e size v n xs)
    (A : Option Addr) (m c : Nat) (news : List Value) (hx : a.eval x = .slice A m c) (hl : news.length = m * size) (hA : A = none → m = 0) (hnews : ∀ ad, A = some ad → ∀ j u, news[j]? = some u → w.cell? (ad.add j) = some u) (h1 : ∀ u ∈ news, u.oneCell' = true)
    (h63 : n + m ≤ maxLen) (hbytes : (n + m) * bytes ≤ 140737488355328) (hbase : base ≤ w.heap.size)
    (h : ∀ v' w', w'.ownsRow base e size v' (n + m) (xs ++ news) → w.grownBy w' v.ownBlock → (v ≠ .slice none 0 0 → v' ≠ .slice none 0 0) → K (a.put o.dst v') w') : Oper.wp P o a w K Q := by
  cases A with
  | some ad => exact wp_append_own w s x t ho base e i z size bytes ht hi hz hsize hby hzs hsz v n xs hs hown ad m c news hx hl (hnews ad rfl) h1 h63 hbytes hbase fun v' w' h2 h3 h4 => h v' w' h2 h3 (fun hv e' => hv (h4.1 e').1)
  | none =>
    have hm := hA rfl
    subst hm
    have hn : news = [] := List.eq_nil_of_length_eq_zero (by rw [hl]; simp)
    subst hn
    have hrun : (Builtin.append_ #[t, t] o.type #[v, .slice none 0 c]).run P w = .ok v w := by
      rcases hown.2 with ⟨rfl, rfl⟩ | ⟨g, cap, cur, rfl, _, _, hnc, _⟩
      · simp [Builtin.append_, run_underlying ht, sizeOf, typeInfo, hi, Builtin.lenOf, Builtin.firstCells]
      · simp [Builtin.append_, run_underlying ht, sizeOf, typeInfo, hi, Builtin.lenOf, Builtin.firstCells, hnc, storeCells]
    unfold Oper.wp
    simp [execOp, ho, resolve, invoke, builtin, hs, hx, hrun, Result.andThen]
    exact h v w (by simpa using hown) (grown_self w _) id

/-- A row that stays: below N, or in a block of values. -/
def RowSt (w : World) (N : Nat) (A : Option Addr) (xs : List GV) : Prop := xs = [] ∨ ∃ g o, A = some ⟨g, o, none⟩ ∧ g < w.heap.size ∧ (g < N ∨ ∃ cur fr, w.heap[g]? = some (.cells cur 52 fr)) ∧ ∀ i x, xs[i]? = some x → VAt w g (o + i * 3) x
theorem VAt.blk {w w' : World} {g o : Nat} {v : GV} (h : VAt w g o v) (hb : w'.heap[g]? = w.heap[g]?) : VAt w' g o v :=
  ⟨(World.cell?_of_block (w := w) (w' := w') (a := ⟨g, o, none⟩) hb).trans h.1, (World.cell?_of_block (w := w) (w' := w') (a := ⟨g, o + 1, none⟩) hb).trans h.2.1, (World.cell?_of_block (w := w) (w' := w') (a := ⟨g, o + 2, none⟩) hb).trans h.2.2⟩
theorem RowSt.values {w : World} {N : Nat} {A : Option Addr} {xs : List GV} (h : RowSt w N A xs) : ValuesAt w 0 w.heap.size A xs := by
  rcases h with h | ⟨g, o, hA, hg, hs, hc⟩
  · exact .inl h
  · exact .inr ⟨g, o, hA, Nat.zero_le _, hg, fun i x hx => hc i x hx⟩
theorem ValuesAt.st {w : World} {lo N : Nat} {A : Option Addr} {xs : List GV} (h : ValuesAt w lo N A xs) (hN : N ≤ w.heap.size) : RowSt w N A xs := by
  rcases h with h | ⟨g, o, hA, h1, h2, hc⟩
  · exact .inl h
  · exact .inr ⟨g, o, hA, by omega, .inl h2, fun i x hx => hc i x hx⟩
theorem ValuesAt.row {w : World} {lo B : Nat} {A : Option Addr} {xs : List GV} (h : ValuesAt w lo B A xs) : RowAt w B A xs := by
  rcases h with h | ⟨g, o, hA, h1, h2, hc⟩
  · exact .inl h
  · exact .inr ⟨g, o, hA, h2, fun i v hv => hc i v hv⟩
end Go.Proofs.Ytemcpdpbikgfcaa
namespace Go.Proofs.Ytemcpdpbikgfcaa
open Go.RowKit Go.Sort
set_option linter.unusedVariables false

theorem RowSt.keep {w w' : World} {N : Nat} {A : Option Addr} {xs : List GV} (h : RowSt w N A xs) (hb : Below N w w') (hk : KeepT 55 w w') : RowSt w' N A xs := by
  rcases h with h | ⟨g, o, hA, hg, hs, hc⟩
  · exact .inl h
  · have he : w'.heap[g]? = w.heap[g]? := by
      rcases hs with h' | ⟨cur, fr, h'⟩
      · exact hb.block g h'
      · exact hk g hg (fun cur' fr' e => by rw [h'] at e; cases e)
    refine .inr ⟨g, o, hA, Nat.lt_of_lt_of_le hg hb.size, ?_, fun i x hx => (hc i x hx).blk he⟩
    rcases hs with h' | ⟨cur, fr, h'⟩
    · exact .inl h'
    · exact .inr ⟨cur, fr, he.trans h'⟩
/-- A head and its difference. -/
abbrev DH := (Option Addr × Nat) × GDiff
def dhL (p : DH) : List Value := [.slice p.1.1 p.2.row.length p.1.2, .int .i64 p.2.count]
def flatH : List DH → List Value
  | [] => []
  | p :: r => dhL p ++ flatH r
theorem flatH_append (a b : List DH) : flatH (a ++ b) = flatH a ++ flatH b := by
  induction a with
  | nil => rfl
  | cons x a ih => simp [flatH, ih]
theorem flatH_length (a : List DH) : (flatH a).length = a.length * 2 := by
  induction a with
  | nil => rfl
  | cons x a ih => simp [flatH, dhL, ih]; omega
theorem flatH_at : ∀ (a : List DH) (i : Nat) (p : DH), a[i]? = some p → (flatH a)[i * 2]? = some (.slice p.1.1 p.2.row.length p.1.2) ∧ (flatH a)[i * 2 + 1]? = some (.int .i64 p.2.count)
  | [], i, p, h => by simp at h
  | x :: a, 0, p, h => by simp at h; subst h; simp [flatH, dhL]
  | x :: a, i + 1, p, h => by
    have := flatH_at a i p (by simpa using h)
    rw [show (i + 1) * 2 = i * 2 + 2 by omega]
    simpa [flatH, dhL] using this
def DHok (w : World) (N : Nat) (p : DH) : Prop := RowSt w N p.1.1 p.2.row ∧ CapOk p.2.row.length p.1.2
/-- A list of differences that a call builds: w0 is the world at its beginning. -/
structure DAcc (w0 w : World) (v : Value) (zs : List GDiff) : Prop where
  own : ∃ ps : List DH, ps.map (·.2) = zs ∧ w.ownsRow w0.heap.size 55 2 v zs.length (flatH ps) ∧ ∀ p ∈ ps, DHok w w0.heap.size p
  ne : v ≠ .slice none 0 0
  low : Below w0.heap.size w0 w
theorem DAcc.start {w0 w : World} {n : Nat} (h : Below w0.heap.size w0 w) (hn : w.heap.size = n) : DAcc w0 (w.alloc (.cells #[] 55)) (.slice (some ⟨n, 0, none⟩) 0 0) [] := by
  subst hn; exact ⟨⟨[], rfl, World.ownsRow_made w #[] 0 h.size (Nat.zero_le _) rfl, fun p hp => by simp at hp⟩, by simp, h.alloc h.size _⟩
theorem DAcc.slice {w0 w : World} {v : Value} {zs : List GDiff} (h : DAcc w0 w v zs) : ∃ A c, v = .slice A zs.length c ∧ CapOk zs.length c := by
  obtain ⟨ps, e, ho, _⟩ := h.own
  rcases ho.2 with ⟨rfl, h0⟩ | ⟨g, cap, cur, rfl, hg, hh, hc1, hc2, hc3, hc4⟩
  · exact absurd rfl h.ne
  · exact ⟨_, cap, rfl, hc1, hc2⟩
theorem DAcc.below {w0 w w' : World} {v : Value} {zs : List GDiff} (h : DAcc w0 w v zs) (hb : Below w.heap.size w w') : DAcc w0 w' v zs := by
  obtain ⟨ps, e, ho, hp⟩ := h.own
  refine ⟨⟨ps, e, ⟨ho.1, ?_⟩, fun p hm => ⟨(hp p hm).1.keep (hb.mono h.low.size) (KeepT.below hb), (hp p hm).2⟩⟩, h.ne, h.low.trans (hb.mono h.low.size)⟩
  rcases ho.2 with h' | ⟨g, cap, cur, e', hg, hc, hr⟩
  · exact .inl h'
  · exact .inr ⟨g, cap, cur, e', hg, (hb.block g (Array.getElem?_eq_some_iff.1 hc).1).trans hc, hr⟩
theorem DAcc.app {w0 w w' : World} {v v' : Value} {zs : List GDiff} {p : DH} (h : DAcc w0 w v zs) (hp : DHok w w0.heap.size p) (ho : ∀ ps : List DH, ps.map (·.2) = zs → w.ownsRow w0.heap.size 55 2 v zs.length (flatH ps) → w'.ownsRow w0.heap.size 55 2 v' (zs.length + 1) (flatH ps ++ dhL p)) (hg : w.grownBy w' v.ownBlock) (hv : v ≠ .slice none 0 0 → v' ≠ .slice none 0 0) : DAcc w0 w' v' (zs ++ [p.2]) := by
  obtain ⟨ps, e, how, hq⟩ := h.own
  have hb : Below w0.heap.size w w' := (Below.refl _ _).grown hg h.low.size (fun k hk => (World.ownsRow.lt how k hk).1)
  have hk := KeepT.grown how hg
  refine ⟨⟨ps ++ [p], by simp [e], ?_, fun q hm => ?_⟩, hv h.ne, h.low.trans hb⟩
  · rw [flatH_append, List.length_append]
    simpa [flatH] using ho ps e how
  · rw [List.mem_append, List.mem_singleton] at hm
    rcases hm with hm | rfl
    · exact ⟨(hq q hm).1.keep hb hk, (hq q hm).2⟩
    · exact ⟨hp.1.keep hb hk, hp.2⟩
theorem DAcc.diffs {w0 w : World} {v : Value} {zs : List GDiff} (h : DAcc w0 w v zs) : ∃ A c, v = .slice A zs.length c ∧ CapOk zs.length c ∧ DiffsAt w 0 w.heap.size A zs := by
  obtain ⟨ps, e, ho, hp⟩ := h.own
  rcases ho.2 with ⟨rfl, h0⟩ | ⟨g, cap, cur, rfl, hg, hh, hc1, hc2, hc3, hc4⟩
  · exact absurd rfl h.ne
  · refine ⟨_, cap, rfl, ⟨hc1, hc2⟩, .inr ⟨g, 0, rfl, Nat.zero_le _, (Array.getElem?_eq_some_iff.1 hh).1, fun i z hz => ?_⟩⟩
    have hi : i < zs.length := (List.getElem?_eq_some_iff.1 hz).1
    rw [← e, List.getElem?_map, Option.map_eq_some_iff] at hz
    obtain ⟨p, hpi, rfl⟩ := hz
    obtain ⟨f0, f1⟩ := flatH_at ps i p hpi
    have hm := hp p (List.mem_of_getElem? hpi)
    have key : ∀ j, j < zs.length * 2 → w.cell? ⟨g, j, none⟩ = (flatH ps)[j]? := fun j hj => by
      have h1 : w.cell? ⟨g, j, none⟩ = cur.toList[j]? := by simp [World.cell?, hh]
      rw [h1, ← hc4, List.getElem?_take_of_lt hj]
    rw [Nat.zero_add]
    exact ⟨⟨p.1.1, p.1.2, ⟨(key _ (by omega)).trans f0, hm.2⟩, hm.1.values⟩, (key _ (by omega)).trans f1⟩
theorem dhL_one (p : DH) : ∀ u ∈ dhL p, u.oneCell' = true := by
  intro u hu; simp [dhL] at hu; rcases hu with rfl | rfl <;> rfl
theorem dhL_cells (w : World) (p : DH) (t : TypeId) : ∀ j u, (dhL p)[j]? = some u → (w.alloc (.cells #[.slice p.1.1 p.2.row.length p.1.2, .int .i64 p.2.count] t)).cell? ((⟨w.heap.size, 0, none⟩ : Addr).add j) = some u := by
  intro j u hj
  match j, hj with
  | 0, hj => simp [dhL] at hj; subst hj; simp [Addr.add]
  | 1, hj => simp [dhL] at hj; subst hj; simp [Addr.add]
/-- What a function that answers a list of differences leaves. -/
def DPost (w : World) (zs : List GDiff) (e : Ending) (w' : World) : Prop := ∃ A c, e = .returned (.slice A zs.length c) ∧ CapOk zs.length c ∧ DiffsAt w' 0 w'.heap.size A zs ∧ Below w.heap.size w w'
theorem DAcc.post {w0 w : World} {v : Value} {zs : List GDiff} (h : DAcc w0 w v zs) : DPost w0 zs (.returned v) w := by
  obtain ⟨A, c, e, hc, hd⟩ := h.diffs
  exact ⟨A, c, by rw [e], hc, hd, h.low⟩
end Go.Proofs.Ytemcpdpbikgfcaa
namespace Go.Proofs.Ytemcpdpbikgfcaa
open Go.RowKit Go.Sort
set_option linter.unusedVariables false

def ToValue (w : World) (x : GV) (e : Ending) (w' : World) : Prop := e = .returned (.agg #[.int .i64 x.k, .int .i64 x.n, .string x.t]) ∧ UF w' w.heap.size w'.heap.size ∧ Below w.heap.size w w'
set_option maxRecDepth 100000 in
set_option maxHeartbeats 3200000 in
theorem to_Value (x : GV) (w : World) :
    Calls Try.prog 83 #[.agg #[.int .i64 x.k, .int .i64 x.n, .string x.t]] w (ToValue w x) := by
  go_enter Try.func83, Try.ntmps83
  go_wp2
  refine bodyPost_ret (v := .agg #[.int .i64 x.k, .int .i64 x.n, .string x.t]) (by simp [results, Try.results83, go_sem]) rfl ⟨rfl, ?_, ?_⟩
  · exact (((UF.start w).alloc _ _).alloc _ _).alloc _ _
  · exact (((Below.refl _ _).alloc (Nat.le_refl _) _).alloc (by simp) _).alloc (by simp; omega) _

end Go.Proofs.Ytemcpdpbikgfcaa
namespace Go.Proofs.Ytemcpdpbikgfcaa
open Go.RowKit Go.Sort
set_option linter.unusedVariables false

theorem infoValue : (Try.prog.info? 52).map (fun i => (i.zero, i.size, i.bytes)) = some (some (.agg #[.int .i64 0, .int .i64 0, .string ByteArray.empty]), 3, 32) := by kernel_rfl
/-- What laws.toValueS leaves. -/
def ToValues (w : World) (xs : List (GV)) (e : Ending) (w' : World) : Prop := ∃ (A : Option Addr) (c : Nat), e = .returned (.slice A xs.length c) ∧ (CapOk xs.length c ∧ ValuesAt w' w.heap.size w'.heap.size A xs) ∧ UF w' w.heap.size w'.heap.size ∧ Below w.heap.size w w'
def ToValuesSt (w : World) (xs : List (GV)) (i : Nat) (w' : World) : Prop := ∃ l : List Value, l.length = xs.length * 3 ∧ Whole w' w.heap.size 52 l ∧ ∀ j x, j < i → xs[j]? = some x → ValueAt w' (w.heap.size + 1) w'.heap.size w.heap.size (0 + j * 3) x
theorem toValues_step {w w1 w2 : World} {xs : List (GV)} {i : Nat} (h : ToValuesSt w xs i w1) (hi : i < xs.length) (hb : Below w1.heap.size w1 w2) :
    (∀ j, j < 3 → ∃ u, w2.cell? ⟨w.heap.size, i * 3 + j, none⟩ = some u) ∧ (∀ j, w2.frozen? ⟨w.heap.size, j, none⟩ = false) ∧ ToValuesSt w xs (i + 1) (setW w2 w.heap.size (i * 3) [.int .i64 xs[i].k, .int .i64 xs[i].n, .string xs[i].t]) := by
  obtain ⟨l, hl, hW, hA⟩ := h
  have hW2 := hW.below hb hW.lt
  have hg := hW.lt
  have hsz := setW_size [.int .i64 xs[i].k, .int .i64 xs[i].n, .string xs[i].t] w2 w.heap.size (i * 3)
  have hz := hb.size
  refine ⟨fun j hj => ⟨l[i * 3 + j]'(by omega), by rw [hW2.cell, List.getElem?_eq_getElem (by omega)]⟩, fun j => hW2.frozen j, setL l (i * 3) [.int .i64 xs[i].k, .int .i64 xs[i].n, .string xs[i].t], by rw [setL_len]; exact hl, setW_whole _ _ hW2, fun j x hj hx => ?_⟩
  have hW3 := setW_whole [.int .i64 xs[i].k, .int .i64 xs[i].n, .string xs[i].t] (i * 3) hW2
  by_cases e : j = i
  · subst e
    rw [List.getElem?_eq_getElem hi] at hx; injection hx with hx; subst hx
    have hin : ∀ q u, ([.int .i64 xs[j].k, .int .i64 xs[j].n, .string xs[j].t] : List Value)[q]? = some u → (setW w2 w.heap.size (j * 3) [.int .i64 xs[j].k, .int .i64 xs[j].n, .string xs[j].t]).cell? ⟨w.heap.size, 0 + j * 3 + q, none⟩ = some u := fun q u hq => by
      rw [hW3.cell, Nat.zero_add]; exact setL_in _ _ _ _ _ (by simp; omega) hq
    exact ⟨hin 0 _ rfl, hin 1 _ rfl, hin 2 _ rfl⟩
  · refine ((hA j x (by omega) hx).mono (Nat.le_refl _) (Nat.le_refl _)).same (fun q hq => ?_) (fun b h1 h2 => ?_) |>.mono (Nat.le_refl _) (by omega)
    · rw [hW3.cell, hW.cell]; exact setL_out _ _ _ _ (by simp; omega)
    · rw [setW_block _ _ _ _ b (by omega)]; exact hb.block b h2
set_option maxRecDepth 100000 in
set_option maxHeartbeats 1600000 in
theorem to_Values {lo : Nat} (A : Option Addr) (c : Nat) (xs : List (GV)) (w : World) (hk : costValues xs ≤ 1048576) (hr : ValuesAt w lo w.heap.size A xs) :
    Calls Try.prog 57 #[.slice A xs.length c] w (ToValues w xs) := by
  obtain ⟨i0, hi0, hz0, hz1, hz2⟩ := info_parts infoValue
  have hl : xs.length ≤ 1048576 := by unfold costValues at hk; omega
  have hmk := fun W => run_make (P := Try.prog) W 53 52 i0 _ Try.underlying53 hi0 hz0 .i64 .i64 xs.length xs.length (by omega) (by omega) (by rw [hz2]; omega) (by omega)
  have HK := Lib.hid hk
  have HR := Lib.hid hr
  clear hk hr
  have HS0 := Lib.hid (show ToValuesSt w xs 0 (w.alloc (.cells (madeCells #[.int .i64 0, .int .i64 0, .string ByteArray.empty] (xs.length * 3)) 52)) from ⟨(madeCells #[.int .i64 0, .int .i64 0, .string ByteArray.empty] (xs.length * 3)).toList, by simp [size_madeCells], by have h := Whole.new w 52 (madeCells #[.int .i64 0, .int .i64 0, .string ByteArray.empty] (xs.length * 3)).toList; rw [Array.toArray_toList] at h; exact h, fun j x hj => by omega⟩)
  go_enter Try.func57, Try.ntmps57
  go_wp2_with fail
  clear hmk
  go_loopw [4] (fun i w' => ∃ k : Nat, k ≤ xs.length ∧ i = .int .i64 k ∧ Hid (ToValuesSt w xs k w') ∧ w.heap.size < w'.heap.size ∧ Hid (UF w' w.heap.size w'.heap.size) ∧ Below w.heap.size w w') (fun i _ => xs.length - (intOf i).toNat)
  case atStart => exact ⟨0, Nat.zero_le _, rfl, HS0, by simp, Lib.hid ((UF.start w).alloc _ _), (Below.refl _ _).alloc (Nat.le_refl _) _⟩
  case round =>
    obtain ⟨k, hk, rfl, hS, hwz, hUF, hB⟩ := hrel
    by_cases hlt : k < xs.length
    · obtain ⟨g, o, rfl, hg0, hg, he⟩ := (HR.out.to_ hB).at_ hlt
      have hi0 : (0 : Int) ≤ (k : Int) := by omega
      have hi1 : (k : Int) < (xs.length : Int) := by omega
      have hck : costValue xs[k] ≤ 1048576 := by have h1 := HK.out; have h2 := sumC_mem costValue xs _ (List.getElem_mem hlt); unfold costValues at h1; omega
      obtain ⟨h0, h1, h2⟩ := he
      go_wp2_with fail
      refine (to_Value xs[k] _).mono ?_
      rintro e w2 ⟨rfl, uf2, hb2⟩
      clear h0 h1 h2
      obtain ⟨hc, hf, hst⟩ := toValues_step hS.out hlt hb2
      obtain ⟨u0, q0⟩ := hc 0 (by omega)
      have r0 := hf (k * 3)
      obtain ⟨u1, q1⟩ := hc 1 (by omega)
      have r1 := hf (k * 3 + 1)
      obtain ⟨u2, q2⟩ := hc 2 (by omega)
      have r2 := hf (k * 3 + 2)
      rw [Nat.add_zero] at q0
      have HST := Lib.hid hst
      have hB2 := below_next hB hb2 rfl rfl
      have hz2' := hb2.size
      have hB3 := setW_below [.int .i64 xs[k].k, .int .i64 xs[k].n, .string xs[k].t] w.heap.size (k * 3) hB2 (Nat.le_refl _)
      have hz3 : w.heap.size < (setW w2 w.heap.size (k * 3) [.int .i64 xs[k].k, .int .i64 xs[k].n, .string xs[k].t]).heap.size := by rw [setW_size]; omega
      have hU3 := Lib.hid (show UF (setW w2 w.heap.size (k * 3) [.int .i64 xs[k].k, .int .i64 xs[k].n, .string xs[k].t]) w.heap.size (setW w2 w.heap.size (k * 3) [.int .i64 xs[k].k, .int .i64 xs[k].n, .string xs[k].t]).heap.size by rw [setW_size]; exact UF.setW _ _ _ (hUF.out.next hb2 uf2))
      clear hc hf hst hb2 uf2
      go_wp2_with fail
      go_roundw
      case rel => exact ⟨k + 1, by omega, by go_num, HST, hz3, hU3, hB3⟩
      case measure => simp [intOf]; omega
    · have hi1 : ¬ (k : Int) < (xs.length : Int) := by omega
      go_wp2_with fail
      go_ret
      obtain ⟨l, h1, h2, h3⟩ := hS.out
      exact ⟨some ⟨w.heap.size, 0, none⟩, xs.length, rfl, ⟨⟨Nat.le_refl _, by omega⟩, .inr ⟨w.heap.size, 0, rfl, Nat.le_refl _, hwz, fun j x hx => (h3 j x (by have := (List.getElem?_eq_some_iff.1 hx).1; omega) hx).mono (by omega) (Nat.le_refl _)⟩⟩, hUF.out, hB⟩

end Go.Proofs.Ytemcpdpbikgfcaa
