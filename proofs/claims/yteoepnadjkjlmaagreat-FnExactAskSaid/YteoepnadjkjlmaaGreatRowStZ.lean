/-
  Values in memory. Rows that stay, and append where the source may be nil.
-/
import Derived.Test.YteoepnadjkjlmaaGreatTyZ
import Derived.Test.YteoepnadjkjlmaaGreatRowOkSZ
import Derived.Laws.AppendOwn
import Derived.Laws.OwnMore
namespace Go.Proofs.YteoepnadjkjlmaaGreat
open Go.RowKit Go.Sort
set_option linter.unusedVariables false

def ValueAt (w : World) (lo B g o : Nat) (x : GV) : Prop := w.cell? ⟨g, o, none⟩ = some (.int .i64 x.k) ∧ w.cell? ⟨g, o + 1, none⟩ = some (.int .i64 x.n) ∧ w.cell? ⟨g, o + 2, none⟩ = some (.string x.t)
theorem ValueAt.same {w w' : World} {lo B g o : Nat} {x : GV} (h : ValueAt w lo B g o x) (hc : ∀ j, j < 3 → w'.cell? ⟨g, o + j, none⟩ = w.cell? ⟨g, o + j, none⟩) (hs : ∀ b, lo ≤ b → b < B → w'.heap[b]? = w.heap[b]?) : ValueAt w' lo B g o x := by
  obtain ⟨h0, h1, h2⟩ := h
  exact ⟨(hc 0 (by omega)).trans h0, (hc 1 (by omega)).trans h1, (hc 2 (by omega)).trans h2⟩
theorem ValueAt.mono {w : World} {lo lo' B B' g o : Nat} {x : GV} (h : ValueAt w lo B g o x) (hlo : lo' ≤ lo) (hB : B ≤ B') : ValueAt w lo' B' g o x := by
  obtain ⟨h0, h1, h2⟩ := h
  exact ⟨h0, h1, h2⟩
def ValuesAt (w : World) (lo B : Nat) (A : Option Addr) (xs : List (GV)) : Prop := xs = [] ∨ ∃ g o, A = some ⟨g, o, none⟩ ∧ lo ≤ g ∧ g < B ∧ ∀ i x, xs[i]? = some x → ValueAt w lo B g (o + i * 3) x
theorem ValuesAt.keep {w w' : World} {lo B : Nat} {A : Option Addr} {xs : List (GV)} (h : ValuesAt w lo B A xs) (hs : ∀ b, lo ≤ b → b < B → w'.heap[b]? = w.heap[b]?) : ValuesAt w' lo B A xs := by
  rcases h with h | ⟨g, o, hA, h1, h2, hc⟩
  · exact .inl h
  · exact .inr ⟨g, o, hA, h1, h2, fun i x hx => (hc i x hx).same (fun j _ => World.cell?_of_block (w := w) (w' := w') (hs g h1 h2)) hs⟩
theorem ValuesAt.mono {w : World} {lo lo' B B' : Nat} {A : Option Addr} {xs : List (GV)} (h : ValuesAt w lo B A xs) (hlo : lo' ≤ lo) (hB : B ≤ B') : ValuesAt w lo' B' A xs := by
  rcases h with h | ⟨g, o, hA, h1, h2, hc⟩
  · exact .inl h
  · exact .inr ⟨g, o, hA, by omega, by omega, fun i x hx => (hc i x hx).mono hlo hB⟩
theorem ValuesAt.to_ {w w' : World} {lo : Nat} {A : Option Addr} {xs : List (GV)} (h : ValuesAt w lo w.heap.size A xs) (hb : Below w.heap.size w w') : ValuesAt w' lo w'.heap.size A xs := (h.keep (fun b _ hb' => hb.block b hb')).mono (Nat.le_refl _) hb.size
theorem ValuesAt.at_ {w : World} {lo B : Nat} {A : Option Addr} {xs : List (GV)} (h : ValuesAt w lo B A xs) {i : Nat} (hi : i < xs.length) : ∃ g o, A = some ⟨g, o, none⟩ ∧ lo ≤ g ∧ g < B ∧ ValueAt w lo B g (o + i * 3) xs[i] := by
  rcases h with h | ⟨g, o, hA, h1, h2, hc⟩
  · subst h; simp at hi
  · exact ⟨g, o, hA, h1, h2, hc i _ (List.getElem?_eq_getElem hi)⟩
def fitValue (x : GV) : Prop := (Lit.int .i64 x.k).wf = true ∧ (Lit.int .i64 x.n).wf = true ∧ x.t.size ≤ maxLen
def costValue (x : GV) : Nat := x.t.size
def fitValues (xs : List (GV)) : Prop := xs.length ≤ maxLen ∧ ∀ x ∈ xs, fitValue x
def costValues (xs : List (GV)) : Nat := xs.length + sumC costValue xs

end Go.Proofs.YteoepnadjkjlmaaGreat
namespace Go.Proofs.YteoepnadjkjlmaaGreat
open Go.RowKit Go.Sort
set_option linter.unusedVariables false

/-- Blocks whose kind is not t are as before. -/
def KeepT (t : TypeId) (w w' : World) : Prop := ∀ i, i < w.heap.size → (∀ cur fr, w.heap[i]? ≠ some (.cells cur t fr)) → w'.heap[i]? = w.heap[i]?
theorem KeepT.refl (t : TypeId) (w : World) : KeepT t w w := fun _ _ _ => rfl
theorem KeepT.trans {t : TypeId} {a b c : World} (h : KeepT t a b) (hs : a.heap.size ≤ b.heap.size) (k : KeepT t b c) : KeepT t a c := fun i hi hn => (k i (by omega) (fun cur fr => by rw [h i hi hn]; exact hn cur fr)).trans (h i hi hn)
theorem KeepT.below {t : TypeId} {w w' : World} (h : Below w.heap.size w w') : KeepT t w w' := fun i hi _ => h.block i hi
theorem KeepT.grown {t : TypeId} {B s n : Nat} {w w' : World} {v : Value} {xs : List Value} (hr : w.ownsRow B t s v n xs) (hg : w.grownBy w' v.ownBlock) : KeepT t w w' := by
  intro i hi hn
  refine hg.block i hi ?_
  intro he
  rcases hr.2 with ⟨rfl, _⟩ | ⟨g, cap, cur, rfl, hg, hh, _⟩
  · simp [Value.ownBlock] at he
  · simp [Value.ownBlock] at he; subst he; exact hn _ _ hh
theorem grown_self (w : World) (row : Option Nat) : w.grownBy w row := ⟨rfl, rfl, rfl, Nat.le_refl _, fun _ _ _ => rfl⟩
/-- append where the source may be nil. -/
theorem wp_append_any {P : Program} (w : World) {o : Oper} {a : Act} {K : Act → World → Prop} {Q : Exit → Act → World → Prop} (s x : Operand) (t : TypeId)
    (ho : o.op = .call { callee := .builtin .append, args := #[s, x], argTypes := #[t, t] })
    (base : Nat) (e : TypeId) (i : TypeInfo) (z : Value) (size bytes : Nat) (ht : P.underlying t = some (.slice e)) (hi : P.info? e = some i) (hz : i.zero = some z)
    (hsize : i.size = size) (hby : i.bytes = bytes) (hzs : z.cells.size = size) (hsz : 0 < size)
    (v : Value) (n : Nat) (xs : List Value) (hs : a.eval s = v) (hown : w.ownsRow base e size v n xs)
    (A : Option Addr) (m c : Nat) (news : List Value) (hx : a.eval x = .slice A m c) (hl : news.length = m * size) (hA : A = none → m = 0) (hnews : ∀ ad, A = some ad → ∀ j u, news[j]? = some u → w.cell? (ad.add j) = some u) (h1 : ∀ u ∈ news, u.oneCell' = true)
    (h63 : n + m ≤ maxLen) (hbytes : (n + m) * bytes ≤ 140737488355328) (hbase : base ≤ w.heap.size)
    (h : ∀ v' w', w'.ownsRow base e size v' (n + m) (xs ++ news) → w.grownBy w' v.ownBlock → (v ≠ .slice none 0 0 → v' ≠ .slice none 0 0) → K (a.put o.dst v') w') : Oper.wp P o a w K Q := by
  cases A with
  | some ad => exact wp_append_own w s x t ho base e i z size bytes ht hi hz hsize hby hzs hsz v n xs hs hown ad m c news hx hl (hnews ad rfl) h1 h63 hbytes hbase fun v' w' h2 h3 h4 => h v' w' h2 h3 (fun hv e' => hv (h4.1 e').1)
  | none =>
    have hm := hA rfl
    subst hm
    have hn : news = [] := List.eq_nil_of_length_eq_zero (by rw [hl]; simp)
    subst hn
    have hrun : (Builtin.append_ #[t, t] o.type #[v, .slice none 0 c]).run P w = .ok v w := by
      rcases hown.2 with ⟨rfl, rfl⟩ | ⟨g, cap, cur, rfl, _, _, hnc, _⟩
      · simp [Builtin.append_, run_underlying ht, sizeOf, typeInfo, hi, Builtin.lenOf, Builtin.firstCells]
      · simp [Builtin.append_, run_underlying ht, sizeOf, typeInfo, hi, Builtin.lenOf, Builtin.firstCells, hnc, storeCells]
    unfold Oper.wp
    simp [execOp, ho, resolve, invoke, builtin, hs, hx, hrun, Result.andThen]
    exact h v w (by simpa using hown) (grown_self w _) id

/-- A row that stays: below N, or in a block of values. -/
def RowSt (w : World) (N : Nat) (A : Option Addr) (xs : List GV) : Prop := xs = [] ∨ ∃ g o, A = some ⟨g, o, none⟩ ∧ g < w.heap.size ∧ (g < N ∨ ∃ cur fr, w.heap[g]? = some (.cells cur 79 fr)) ∧ ∀ i x, xs[i]? = some x → VAt w g (o + i * 3) x
theorem VAt.blk {w w' : World} {g o : Nat} {v : GV} (h : VAt w g o v) (hb : w'.heap[g]? = w.heap[g]?) : VAt w' g o v :=
  ⟨(World.cell?_of_block (w := w) (w' := w') (a := ⟨g, o, none⟩) hb).trans h.1, (World.cell?_of_block (w := w) (w' := w') (a := ⟨g, o + 1, none⟩) hb).trans h.2.1, (World.cell?_of_block (w := w) (w' := w') (a := ⟨g, o + 2, none⟩) hb).trans h.2.2⟩
theorem RowSt.values {w : World} {N : Nat} {A : Option Addr} {xs : List GV} (h : RowSt w N A xs) : ValuesAt w 0 w.heap.size A xs := by
  rcases h with h | ⟨g, o, hA, hg, hs, hc⟩
  · exact .inl h
  · exact .inr ⟨g, o, hA, Nat.zero_le _, hg, fun i x hx => hc i x hx⟩
theorem ValuesAt.st {w : World} {lo N : Nat} {A : Option Addr} {xs : List GV} (h : ValuesAt w lo N A xs) (hN : N ≤ w.heap.size) : RowSt w N A xs := by
  rcases h with h | ⟨g, o, hA, h1, h2, hc⟩
  · exact .inl h
  · exact .inr ⟨g, o, hA, by omega, .inl h2, fun i x hx => hc i x hx⟩
theorem ValuesAt.row {w : World} {lo B : Nat} {A : Option Addr} {xs : List GV} (h : ValuesAt w lo B A xs) : RowAt w B A xs := by
  rcases h with h | ⟨g, o, hA, h1, h2, hc⟩
  · exact .inl h
  · exact .inr ⟨g, o, hA, h2, fun i v hv => hc i v hv⟩
end Go.Proofs.YteoepnadjkjlmaaGreat
