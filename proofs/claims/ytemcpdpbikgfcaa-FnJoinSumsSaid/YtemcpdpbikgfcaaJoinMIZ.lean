/-
  Integers in memory. The projection of a list of differences: mathematics. The join of two lists of differences: what the pairs are.
-/
import Derived.Test.YtemcpdpbikgfcaaTyDiffZ
import Derived.Test.YtemcpdpbikgfcaaWideSZ
import Derived.Test.YtemcpdpbikgfcaaCoef
namespace Go.Proofs.Ytemcpdpbikgfcaa
open Go.RowKit Go.Sort
set_option linter.unusedVariables false

def IntAt (w : World) (lo B g o : Nat) (x : Int) : Prop := w.cell? ⟨g, o, none⟩ = some (.int .i64 x)
theorem IntAt.same {w w' : World} {lo B g o : Nat} {x : Int} (h : IntAt w lo B g o x) (hc : ∀ j, j < 1 → w'.cell? ⟨g, o + j, none⟩ = w.cell? ⟨g, o + j, none⟩) (hs : ∀ b, lo ≤ b → b < B → w'.heap[b]? = w.heap[b]?) : IntAt w' lo B g o x := by
  have h0 := h
  exact (hc 0 (by omega)).trans h0
theorem IntAt.mono {w : World} {lo lo' B B' g o : Nat} {x : Int} (h : IntAt w lo B g o x) (hlo : lo' ≤ lo) (hB : B ≤ B') : IntAt w lo' B' g o x := by
  have h0 := h
  exact h0
def IntsAt (w : World) (lo B : Nat) (A : Option Addr) (xs : List (Int)) : Prop := xs = [] ∨ ∃ g o, A = some ⟨g, o, none⟩ ∧ lo ≤ g ∧ g < B ∧ ∀ i x, xs[i]? = some x → IntAt w lo B g (o + i) x
theorem IntsAt.keep {w w' : World} {lo B : Nat} {A : Option Addr} {xs : List (Int)} (h : IntsAt w lo B A xs) (hs : ∀ b, lo ≤ b → b < B → w'.heap[b]? = w.heap[b]?) : IntsAt w' lo B A xs := by
  rcases h with h | ⟨g, o, hA, h1, h2, hc⟩
  · exact .inl h
  · exact .inr ⟨g, o, hA, h1, h2, fun i x hx => (hc i x hx).same (fun j _ => World.cell?_of_block (w := w) (w' := w') (hs g h1 h2)) hs⟩
theorem IntsAt.mono {w : World} {lo lo' B B' : Nat} {A : Option Addr} {xs : List (Int)} (h : IntsAt w lo B A xs) (hlo : lo' ≤ lo) (hB : B ≤ B') : IntsAt w lo' B' A xs := by
  rcases h with h | ⟨g, o, hA, h1, h2, hc⟩
  · exact .inl h
  · exact .inr ⟨g, o, hA, by omega, by omega, fun i x hx => (hc i x hx).mono hlo hB⟩
theorem IntsAt.to_ {w w' : World} {lo : Nat} {A : Option Addr} {xs : List (Int)} (h : IntsAt w lo w.heap.size A xs) (hb : Below w.heap.size w w') : IntsAt w' lo w'.heap.size A xs := (h.keep (fun b _ hb' => hb.block b hb')).mono (Nat.le_refl _) hb.size
theorem IntsAt.at_ {w : World} {lo B : Nat} {A : Option Addr} {xs : List (Int)} (h : IntsAt w lo B A xs) {i : Nat} (hi : i < xs.length) : ∃ g o, A = some ⟨g, o, none⟩ ∧ lo ≤ g ∧ g < B ∧ IntAt w lo B g (o + i) xs[i] := by
  rcases h with h | ⟨g, o, hA, h1, h2, hc⟩
  · subst h; simp at hi
  · exact ⟨g, o, hA, h1, h2, hc i _ (List.getElem?_eq_getElem hi)⟩
def fitInt (x : Int) : Prop := (Lit.int .i64 x).wf = true
def fitInts (xs : List (Int)) : Prop := xs.length ≤ maxLen ∧ ∀ x ∈ xs, fitInt x
def costInts (xs : List (Int)) : Nat := xs.length

end Go.Proofs.Ytemcpdpbikgfcaa
namespace Go.Proofs.Ytemcpdpbikgfcaa
open Go.RowKit
set_option linter.unusedVariables false

def pV (r : List GV) (c : Int) : GV := (r[c.toNat]?).getD ⟨0, 0, ByteArray.empty⟩
def pRow (cols : List Int) (r : List GV) : List GV := cols.map (pV r)
def pick (cols : List Int) (z : GDiff) : GDiff := ⟨pRow cols z.row, z.count⟩
def inCol (n : Nat) (c : Int) : Bool := decide (0 ≤ c) && decide (c < (n : Int))
/-- What the projection asks of its arguments. -/
def projB (zs : List GDiff) (cols : List Int) : Bool := diffOkB zs && decide (cols.length ≤ 8) && (zs.isEmpty || cols.all (inCol (widD zs)))
def projD (zs : List GDiff) (cols : List Int) : List GDiff := if projB zs cols = true then orD (sumD (zs.map (pick cols))) else []
theorem projD_no {zs : List GDiff} {cols : List Int} (h : projB zs cols = false) : projD zs cols = [] := by unfold projD; rw [if_neg (by rw [h]; decide)]
theorem pV_at {r : List GV} {c : Int} {i : Nat} (hc : c = (i : Int)) (h : i < r.length) : pV r c = r[i] := by
  subst hc; unfold pV; simp [List.getElem?_eq_getElem h]
theorem inCol_nat {n : Nat} {c : Int} (h : inCol n c = true) : ∃ i : Nat, c = (i : Int) ∧ i < n := by
  unfold inCol at h
  simp only [Bool.and_eq_true, decide_eq_true_eq] at h
  exact ⟨c.toNat, by omega, by omega⟩
theorem proj_bad {zs : List GDiff} {cols : List Int} {i k : Nat} (h : diffOkB zs = true) (hi : i < zs.length) (hk : k < cols.length) (hc : inCol zs[i].row.length cols[k] = false) : projB zs cols = false := by
  unfold projB
  have hw := ((diffOk_all h).2 zs[i] (List.getElem_mem hi)).1
  have h1 : zs.isEmpty = false := by cases zs with | nil => simp at hi | cons _ _ => rfl
  have h2 : cols.all (inCol (widD zs)) = false := by
    rw [List.all_eq_false]
    exact ⟨cols[k], List.getElem_mem hk, by rw [← hw, hc]; decide⟩
  rw [h1, h2]; simp
theorem proj_good {zs : List GDiff} {cols : List Int} (h : diffOkB zs = true) (h8 : cols.length ≤ 8) (hc : zs = [] ∨ ∀ c ∈ cols, inCol (widD zs) c = true) : projB zs cols = true := by
  unfold projB
  rw [h]
  rcases hc with rfl | hc
  · simp [h8]
  · have : cols.all (inCol (widD zs)) = true := List.all_eq_true.2 hc
    rw [this]; simp [h8]
theorem proj_parts {zs : List GDiff} {cols : List Int} (h : projB zs cols = true) : diffOkB zs = true ∧ cols.length ≤ 8 ∧ ∀ z ∈ zs, ∀ c ∈ cols, inCol z.row.length c = true := by
  unfold projB at h
  simp only [Bool.and_eq_true, Bool.or_eq_true, decide_eq_true_eq, List.all_eq_true] at h
  refine ⟨h.1.1, h.1.2, fun z hz c hc => ?_⟩
  rcases h.2 with h2 | h2
  · rw [List.isEmpty_iff] at h2; rw [h2] at hz; simp at hz
  · rw [((diffOk_all h.1.1).2 z hz).1]; exact h2 c hc
theorem pRow_snoc (cols : List Int) (r : List GV) (k : Nat) (h : k < cols.length) : pRow (cols.take (k + 1)) r = pRow (cols.take k) r ++ [pV r cols[k]] := by
  unfold pRow; rw [List.take_succ_eq_append_getElem h, List.map_append]; rfl
theorem pRow_ok {cols : List Int} {r : List GV} {P : GV → Prop} (hr : ∀ v ∈ r, P v) (hc : ∀ c ∈ cols, inCol r.length c = true) : ∀ v ∈ pRow cols r, P v := by
  intro v hv
  obtain ⟨c, hm, rfl⟩ := List.mem_map.1 hv
  obtain ⟨i, rfl, hi⟩ := inCol_nat (hc c hm)
  rw [pV_at rfl hi]
  exact hr _ (List.getElem_mem hi)
theorem okRow_vals {r : List GV} (h : rowOkB r = true) : ∀ v ∈ r, okG v = true := by
  unfold rowOkB at h
  simp only [Bool.and_eq_true, decide_eq_true_eq, List.all_eq_true] at h
  exact h.1
theorem pick_rowOk {zs : List GDiff} {cols : List Int} (h : projB zs cols = true) {z : GDiff} (hz : z ∈ zs) : goodRow cols.length (pRow cols z.row) = true := by
  obtain ⟨h1, h2, h3⟩ := proj_parts h
  have hg := ((diffOk_asc h1).2.2 z hz).1
  unfold goodRow at hg ⊢
  simp only [Bool.and_eq_true, decide_eq_true_eq] at hg ⊢
  refine ⟨?_, by simp [pRow]⟩
  unfold rowOkB
  simp only [Bool.and_eq_true, decide_eq_true_eq, List.all_eq_true]
  exact ⟨pRow_ok (okRow_vals hg.1) (h3 z hz), by simp [pRow]; exact h2⟩
theorem picks_good {zs : List GDiff} {cols : List Int} (h : projB zs cols = true) : ∀ z ∈ zs.map (pick cols), goodRow cols.length z.row = true ∧ -1000000 ≤ z.count ∧ z.count ≤ 1000000 ∧ z.count ≠ 0 := by
  intro y hy
  obtain ⟨z, hz, rfl⟩ := List.mem_map.1 hy
  have hok := (proj_parts h).1
  exact ⟨pick_rowOk h hz, ((diffOk_all hok).2 z hz).2.2.2.1, ((diffOk_all hok).2 z hz).2.2.2.2, (diffOk_asc hok).2.1 z hz⟩
theorem goodRow_rowOk {n : Nat} {r : List GV} (h : goodRow n r = true) : rowOkB r = true := by
  unfold goodRow at h
  simp only [Bool.and_eq_true] at h
  exact h.1
end Go.Proofs.Ytemcpdpbikgfcaa
namespace Go.Proofs.Ytemcpdpbikgfcaa
open Go.RowKit Go.Sort
set_option linter.unusedVariables false

theorem join_bigI {a b : List GDiff} {n k : Nat} (h : 3000 < (pairsD n (a.take k) b).length) : joinD a b (n : Int) = [] := by
  unfold joinD
  rw [if_neg]
  rintro ⟨_, h2⟩
  have := pairsD_take n a b k
  simp only [Int.toNat_natCast] at h2
  omega
theorem mul_rangeI {x y : Int} (hx : -1000000 ≤ x ∧ x ≤ 1000000) (hy : -1000000 ≤ y ∧ y ≤ 1000000) : -1000000000000 ≤ x * y ∧ x * y ≤ 1000000000000 := by
  have h := Int.natAbs_mul x y
  have h1 : x.natAbs ≤ 1000000 := by omega
  have h2 : y.natAbs ≤ 1000000 := by omega
  have h3 := Nat.mul_le_mul h1 h2
  rw [← h] at h3
  omega
theorem pairs_smallI {a b : List GDiff} {n : Nat} (h1 : diffOkB a = true) (h2 : diffOkB b = true) (h8 : widD a + widD b ≤ 8 + n) (hn : n ≤ widD b) :
    cntLe 1000000000000 (pairsD n a b) ∧ (∀ z ∈ pairsD n a b, goodRow (widD a + widD b - n) z.row = true) ∧ nzD (pairsD n a b) := by
  have key : ∀ z ∈ pairsD n a b, (-1000000000000 ≤ z.count ∧ z.count ≤ 1000000000000) ∧ goodRow (widD a + widD b - n) z.row = true ∧ z.count ≠ 0 := by
    intro z hz
    obtain ⟨x, hx, y, hy, rfl⟩ := pairsD_mem hz
    have ax := (diffOk_all h1).2 x hx
    have ay := (diffOk_all h2).2 y hy
    have bx := diffOk_asc h1
    have by_ := diffOk_asc h2
    refine ⟨mul_rangeI ax.2.2.2 ay.2.2.2, ?_, Int.mul_ne_zero (bx.2.1 x hx) (by_.2.1 y hy)⟩
    have gx := (bx.2.2 x hx).1
    have gy := (by_.2.2 y hy).1
    unfold goodRow at gx gy ⊢
    simp only [Bool.and_eq_true, decide_eq_true_eq] at gx gy ⊢
    have px := okRow_vals gx.1
    have py := okRow_vals gy.1
    refine ⟨?_, by rw [List.length_append, List.length_drop, ax.1, ay.1]; omega⟩
    unfold rowOkB
    simp only [Bool.and_eq_true, decide_eq_true_eq, List.all_eq_true]
    refine ⟨fun v hv => ?_, by rw [List.length_append, List.length_drop, ax.1, ay.1]; omega⟩
    rcases List.mem_append.1 hv with hv | hv
    · exact px v hv
    · exact py v (List.mem_of_mem_drop hv)
  exact ⟨fun z hz => (key z hz).1, fun z hz => (key z hz).2.1, fun z hz => (key z hz).2.2⟩
theorem pairs_nil (n : Nat) (a : List GDiff) : pairsD n a [] = [] := by
  unfold pairsD rowJ
  induction a with
  | nil => rfl
  | cons x a ih => rw [List.flatMap_cons, ih]; rfl
/-- Where the widths allow a join, it is the sum of the pairs, if they are not too many. -/
theorem joinD_eq {a b : List GDiff} {n : Nat} (h1 : diffOkB a = true) (h2 : diffOkB b = true) (h4 : n ≤ widD a) (h5 : n ≤ widD b) (h6 : widD a + widD b ≤ 8 + n) (h3 : (pairsD n a b).length ≤ 3000) : joinD a b (n : Int) = orD (sumD (pairsD n a b)) := by
  have hnil : orD (sumD []) = [] := by rw [sumD_small (by simp)]; decide
  by_cases ha0 : a.length = 0
  · obtain rfl := List.eq_nil_of_length_eq_zero ha0
    have : pairsD n [] b = [] := rfl
    rw [this, hnil]
    unfold joinD joinB
    rw [if_neg (by simp)]
  · by_cases hb0 : b.length = 0
    · obtain rfl := List.eq_nil_of_length_eq_zero hb0
      rw [pairs_nil, hnil]
      unfold joinD joinB
      rw [if_neg (by simp)]
    · have hjb : joinB a b (n : Int) = true := by
        unfold joinB
        have e1 : a.isEmpty = false := by cases a with | nil => simp at ha0 | cons _ _ => rfl
        have e2 : b.isEmpty = false := by cases b with | nil => simp at hb0 | cons _ _ => rfl
        rw [h1, h2, e1, e2]
        simp; omega
      unfold joinD
      simp only [Int.toNat_natCast]
      rw [if_pos ⟨hjb, h3⟩]
end Go.Proofs.Ytemcpdpbikgfcaa
