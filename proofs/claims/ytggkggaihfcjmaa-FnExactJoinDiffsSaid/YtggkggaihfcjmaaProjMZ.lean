/-
  Integers in memory. The projection of a list of differences: mathematics.
-/
import Derived.Test.YtggkggaihfcjmaaTyZ
import Derived.Test.YtggkggaihfcjmaaWideS
namespace Go.Proofs.Ytggkggaihfcjmaa
open Go.RowKit Go.Sort
set_option linter.unusedVariables false

def IntAt (w : World) (lo B g o : Nat) (x : Int) : Prop := w.cell? ⟨g, o, none⟩ = some (.int .i64 x)
theorem IntAt.same {w w' : World} {lo B g o : Nat} {x : Int} (h : IntAt w lo B g o x) (hc : ∀ j, j < 1 → w'.cell? ⟨g, o + j, none⟩ = w.cell? ⟨g, o + j, none⟩) (hs : ∀ b, lo ≤ b → b < B → w'.heap[b]? = w.heap[b]?) : IntAt w' lo B g o x := by
  have h0 := h
  exact (hc 0 (by omega)).trans h0
theorem IntAt.mono {w : World} {lo lo' B B' g o : Nat} {x : Int} (h : IntAt w lo B g o x) (hlo : lo' ≤ lo) (hB : B ≤ B') : IntAt w lo' B' g o x := by
  have h0 := h
  exact h0
def IntsAt (w : World) (lo B : Nat) (A : Option Addr) (xs : List (Int)) : Prop := xs = [] ∨ ∃ g o, A = some ⟨g, o, none⟩ ∧ lo ≤ g ∧ g < B ∧ ∀ i x, xs[i]? = some x → IntAt w lo B g (o + i) x
theorem IntsAt.keep {w w' : World} {lo B : Nat} {A : Option Addr} {xs : List (Int)} (h : IntsAt w lo B A xs) (hs : ∀ b, lo ≤ b → b < B → w'.heap[b]? = w.heap[b]?) : IntsAt w' lo B A xs := by
  rcases h with h | ⟨g, o, hA, h1, h2, hc⟩
  · exact .inl h
  · exact .inr ⟨g, o, hA, h1, h2, fun i x hx => (hc i x hx).same (fun j _ => World.cell?_of_block (w := w) (w' := w') (hs g h1 h2)) hs⟩
theorem IntsAt.mono {w : World} {lo lo' B B' : Nat} {A : Option Addr} {xs : List (Int)} (h : IntsAt w lo B A xs) (hlo : lo' ≤ lo) (hB : B ≤ B') : IntsAt w lo' B' A xs := by
  rcases h with h | ⟨g, o, hA, h1, h2, hc⟩
  · exact .inl h
  · exact .inr ⟨g, o, hA, by omega, by omega, fun i x hx => (hc i x hx).mono hlo hB⟩
theorem IntsAt.to_ {w w' : World} {lo : Nat} {A : Option Addr} {xs : List (Int)} (h : IntsAt w lo w.heap.size A xs) (hb : Below w.heap.size w w') : IntsAt w' lo w'.heap.size A xs := (h.keep (fun b _ hb' => hb.block b hb')).mono (Nat.le_refl _) hb.size
theorem IntsAt.at_ {w : World} {lo B : Nat} {A : Option Addr} {xs : List (Int)} (h : IntsAt w lo B A xs) {i : Nat} (hi : i < xs.length) : ∃ g o, A = some ⟨g, o, none⟩ ∧ lo ≤ g ∧ g < B ∧ IntAt w lo B g (o + i) xs[i] := by
  rcases h with h | ⟨g, o, hA, h1, h2, hc⟩
  · subst h; simp at hi
  · exact ⟨g, o, hA, h1, h2, hc i _ (List.getElem?_eq_getElem hi)⟩
def fitInt (x : Int) : Prop := (Lit.int .i64 x).wf = true
def fitInts (xs : List (Int)) : Prop := xs.length ≤ maxLen ∧ ∀ x ∈ xs, fitInt x
def costInts (xs : List (Int)) : Nat := xs.length

end Go.Proofs.Ytggkggaihfcjmaa
namespace Go.Proofs.Ytggkggaihfcjmaa
open Go.RowKit
set_option linter.unusedVariables false

def pV (r : List GV) (c : Int) : GV := (r[c.toNat]?).getD ⟨0, 0, ByteArray.empty⟩
def pRow (cols : List Int) (r : List GV) : List GV := cols.map (pV r)
def pick (cols : List Int) (z : GDiff) : GDiff := ⟨pRow cols z.row, z.count⟩
def inCol (n : Nat) (c : Int) : Bool := decide (0 ≤ c) && decide (c < (n : Int))
/-- What the projection asks of its arguments. -/
def projB (zs : List GDiff) (cols : List Int) : Bool := diffOkB zs && decide (cols.length ≤ 8) && (zs.isEmpty || cols.all (inCol (widD zs)))
def projD (zs : List GDiff) (cols : List Int) : List GDiff := if projB zs cols = true then orD (sumD (zs.map (pick cols))) else []
theorem projD_no {zs : List GDiff} {cols : List Int} (h : projB zs cols = false) : projD zs cols = [] := by unfold projD; rw [if_neg (by rw [h]; decide)]
theorem pV_at {r : List GV} {c : Int} {i : Nat} (hc : c = (i : Int)) (h : i < r.length) : pV r c = r[i] := by
  subst hc; unfold pV; simp [List.getElem?_eq_getElem h]
theorem inCol_nat {n : Nat} {c : Int} (h : inCol n c = true) : ∃ i : Nat, c = (i : Int) ∧ i < n := by
  unfold inCol at h
  simp only [Bool.and_eq_true, decide_eq_true_eq] at h
  exact ⟨c.toNat, by omega, by omega⟩
theorem proj_bad {zs : List GDiff} {cols : List Int} {i k : Nat} (h : diffOkB zs = true) (hi : i < zs.length) (hk : k < cols.length) (hc : inCol zs[i].row.length cols[k] = false) : projB zs cols = false := by
  unfold projB
  have hw := ((diffOk_all h).2 zs[i] (List.getElem_mem hi)).1
  have h1 : zs.isEmpty = false := by cases zs with | nil => simp at hi | cons _ _ => rfl
  have h2 : cols.all (inCol (widD zs)) = false := by
    rw [List.all_eq_false]
    exact ⟨cols[k], List.getElem_mem hk, by rw [← hw, hc]; decide⟩
  rw [h1, h2]; simp
theorem proj_good {zs : List GDiff} {cols : List Int} (h : diffOkB zs = true) (h8 : cols.length ≤ 8) (hc : zs = [] ∨ ∀ c ∈ cols, inCol (widD zs) c = true) : projB zs cols = true := by
  unfold projB
  rw [h]
  rcases hc with rfl | hc
  · simp [h8]
  · have : cols.all (inCol (widD zs)) = true := List.all_eq_true.2 hc
    rw [this]; simp [h8]
theorem proj_parts {zs : List GDiff} {cols : List Int} (h : projB zs cols = true) : diffOkB zs = true ∧ cols.length ≤ 8 ∧ ∀ z ∈ zs, ∀ c ∈ cols, inCol z.row.length c = true := by
  unfold projB at h
  simp only [Bool.and_eq_true, Bool.or_eq_true, decide_eq_true_eq, List.all_eq_true] at h
  refine ⟨h.1.1, h.1.2, fun z hz c hc => ?_⟩
  rcases h.2 with h2 | h2
  · rw [List.isEmpty_iff] at h2; rw [h2] at hz; simp at hz
  · rw [((diffOk_all h.1.1).2 z hz).1]; exact h2 c hc
theorem pRow_snoc (cols : List Int) (r : List GV) (k : Nat) (h : k < cols.length) : pRow (cols.take (k + 1)) r = pRow (cols.take k) r ++ [pV r cols[k]] := by
  unfold pRow; rw [List.take_succ_eq_append_getElem h, List.map_append]; rfl
theorem pRow_ok {cols : List Int} {r : List GV} {P : GV → Prop} (hr : ∀ v ∈ r, P v) (hc : ∀ c ∈ cols, inCol r.length c = true) : ∀ v ∈ pRow cols r, P v := by
  intro v hv
  obtain ⟨c, hm, rfl⟩ := List.mem_map.1 hv
  obtain ⟨i, rfl, hi⟩ := inCol_nat (hc c hm)
  rw [pV_at rfl hi]
  exact hr _ (List.getElem_mem hi)
theorem okRow_vals {r : List GV} (h : rowOkB r = true) : ∀ v ∈ r, okG v = true := by
  unfold rowOkB at h
  simp only [Bool.and_eq_true, decide_eq_true_eq, List.all_eq_true] at h
  exact h.1
theorem pick_rowOk {zs : List GDiff} {cols : List Int} (h : projB zs cols = true) {z : GDiff} (hz : z ∈ zs) : goodRow cols.length (pRow cols z.row) = true := by
  obtain ⟨h1, h2, h3⟩ := proj_parts h
  have hg := ((diffOk_asc h1).2.2 z hz).1
  unfold goodRow at hg ⊢
  simp only [Bool.and_eq_true, decide_eq_true_eq] at hg ⊢
  refine ⟨?_, by simp [pRow]⟩
  unfold rowOkB
  simp only [Bool.and_eq_true, decide_eq_true_eq, List.all_eq_true]
  exact ⟨pRow_ok (okRow_vals hg.1) (h3 z hz), by simp [pRow]; exact h2⟩
theorem picks_good {zs : List GDiff} {cols : List Int} (h : projB zs cols = true) : ∀ z ∈ zs.map (pick cols), goodRow cols.length z.row = true ∧ -1000000 ≤ z.count ∧ z.count ≤ 1000000 ∧ z.count ≠ 0 := by
  intro y hy
  obtain ⟨z, hz, rfl⟩ := List.mem_map.1 hy
  have hok := (proj_parts h).1
  exact ⟨pick_rowOk h hz, ((diffOk_all hok).2 z hz).2.2.2.1, ((diffOk_all hok).2 z hz).2.2.2.2, (diffOk_asc hok).2.1 z hz⟩
theorem goodRow_rowOk {n : Nat} {r : List GV} (h : goodRow n r = true) : rowOkB r = true := by
  unfold goodRow at h
  simp only [Bool.and_eq_true] at h
  exact h.1
end Go.Proofs.Ytggkggaihfcjmaa
