/-
  A multiset ranged over: what has come so far; what the sorted list is. Tables in memory: a slice of slices of values.
-/
import Derived.Test.YtggkggaihfcjmaaStepMZ
import Derived.Test.YtggkggaihfcjmaaSortD
import Derived.Test.YtggkggaihfcjmaaRowIZ
import Derived.Sort.OwnSorted
import Derived.Maps.RangeWalk
import Derived.Test.YtggkggaihfcjmaaMakeZ
import Derived.Test.YtggkggaihfcjmaaCmpZ
namespace Go.Proofs.Ytggkggaihfcjmaa
open Go.RowKit Go.Sort
set_option linter.unusedVariables false

/-- What has come of a multiset while it is ranged over. -/
structure Got (D : DataW Unit) (zs : List GDiff) (left : Lit → Bool) (ps : List DH) : Prop where
  row : ∀ p ∈ ps, rowOkB p.2.row = true ∧ coef zs p.2.row = p.2.count ∧ p.2.count ≠ 0 ∧ cntB p.2.count = true
  nodup : (ps.map fun p => p.2.row).Nodup
  out : ∀ p ∈ ps, left (klOf p.2.row) = false
  all : ∀ r, rowOkB r = true → coef zs r ≠ 0 → left (klOf r) = true ∨ r ∈ ps.map fun p => p.2.row
  sub : ∀ l, left l = true → Maps.has D l = true
theorem Got.start {D : DataW Unit} {zs : List GDiff} (h : MsD D zs) : Got D zs (Maps.has D) [] :=
  ⟨fun p hp => by simp at hp, by simp, fun p hp => by simp at hp, fun r hr h0 => .inl (by rw [h.has r hr]; simpa using h0), fun l hl => hl⟩
theorem Got.step {D : DataW Unit} {zs : List GDiff} {left : Lit → Bool} {ps : List DH} {p : DH} (h : Got D zs left ps) (hl : left (klOf p.2.row) = true) (hr : rowOkB p.2.row = true) (hc : coef zs p.2.row = p.2.count) (h0 : p.2.count ≠ 0) (hb : cntB p.2.count = true) : Got D zs (fun z => left z && !z.sameKey (klOf p.2.row)) (ps ++ [p]) := by
  have hs : (klOf p.2.row).sameKey (klOf p.2.row) = true := by unfold klOf; simp [Lit.sameKey]
  have hn : p.2.row ∉ ps.map fun p => p.2.row := by
    intro hm
    obtain ⟨q, hq, e⟩ := List.mem_map.1 hm
    have := h.out q hq
    rw [e, hl] at this
    cases this
  refine ⟨fun q hq => ?_, ?_, fun q hq => ?_, fun r hr' h0' => ?_, fun l hl' => ?_⟩
  · rw [List.mem_append, List.mem_singleton] at hq
    rcases hq with hq | rfl
    · exact h.row q hq
    · exact ⟨hr, hc, h0, hb⟩
  · rw [List.map_append, List.nodup_append]
    refine ⟨h.nodup, by simp, fun a ha b hb e => ?_⟩
    simp at hb
    subst hb
    exact hn (e ▸ ha)
  · rw [List.mem_append, List.mem_singleton] at hq
    rcases hq with hq | rfl
    · simp [h.out q hq]
    · simp [hs]
  · by_cases e : r = p.2.row
    · right; rw [e]; simp
    · rcases h.all r hr' h0' with h1 | h1
      · left
        rw [h1, Maps.sameKey_ne (fun e' => e (kl_inj hr' hr e'))]; rfl
      · right; rw [List.map_append, List.mem_append]; exact .inl h1
  · simp only [Bool.and_eq_true] at hl'
    exact h.sub l hl'.1
theorem Got.canon {D : DataW Unit} {zs : List GDiff} {left : Lit → Bool} {ps qs : List DH} (h : Got D zs left ps) (hl : ∀ l, left l = false) (hz : ∀ z ∈ zs, rowOkB z.row = true) (hp : qs.Perm ps) (hs : qs.Pairwise (fun a b => cmpR a.2.row b.2.row ≤ 0)) : Canon (qs.map (·.2)) zs := by
  have hn : (qs.map fun p => p.2.row).Nodup := (hp.map _).nodup_iff.2 h.nodup
  have ha : AscD (qs.map (·.2)) := by
    unfold AscD
    rw [List.pairwise_map]
    have hn' : qs.Pairwise (fun a b => a.2.row ≠ b.2.row) := by rw [List.Nodup, List.pairwise_map] at hn; exact hn
    refine (List.pairwise_and_iff.2 ⟨hs, hn'⟩).imp ?_
    intro a b ⟨h1, h2⟩
    have : cmpR a.2.row b.2.row ≠ 0 := fun e => h2 ((good_cmpR.eq _ _).1 e)
    omega
  have hnz : nzD (qs.map (·.2)) := by
    intro z hz
    obtain ⟨q, hq, rfl⟩ := List.mem_map.1 hz
    exact (h.row q (hp.mem_iff.1 hq)).2.2.1
  refine ⟨ha, hnz, fun r => ?_⟩
  rcases Decidable.em (coef zs r = 0) with h0 | h0
  · rw [h0]
    refine coef_none (fun z hz e => ?_)
    obtain ⟨q, hq, rfl⟩ := List.mem_map.1 hz
    have h1 := h.row q (hp.mem_iff.1 hq)
    rw [e, h0] at h1
    exact h1.2.2.1 h1.2.1.symm
  · obtain ⟨z, hzm, e⟩ := coef_ne h0
    have hr : rowOkB r = true := e ▸ hz z hzm
    rcases h.all r hr h0 with h1 | h1
    · rw [hl] at h1; cases h1
    · obtain ⟨p, hpm, e'⟩ := List.mem_map.1 h1
      have h2 := coef_mem ha p.2 (List.mem_map.2 ⟨p, hp.mem_iff.2 hpm, rfl⟩)
      have e2 : p.2.row = r := e'
      rw [e2] at h2
      rw [h2, ← (h.row p hpm).2.1, e2]
theorem ms_rows {D : DataW Unit} {zs : List GDiff} (h : MsD D zs) (ht : ∃ es, D = .map es ∧ es.Pairwise (fun p q => p.1 ≠ q.1) ∧ ∀ p ∈ es, WideAt.IsKeyLit p.1) : ∃ rs : List (List GV), rs.Nodup ∧ rs.length = Maps.size D ∧ ∀ r ∈ rs, coef zs r ≠ 0 := by
  obtain ⟨es, rfl, hp, hk⟩ := ht
  have key : ∀ l : List (Lit × DataW Unit), (∀ p ∈ l, ∃ r, rowOkB r = true ∧ p.1 = klOf r ∧ coef zs r ≠ 0) → ∃ rs : List (List GV), rs.map klOf = l.map (·.1) ∧ ∀ r ∈ rs, coef zs r ≠ 0 := by
    intro l
    induction l with
    | nil => intro _; exact ⟨[], rfl, fun r hr => by simp at hr⟩
    | cons p l ih =>
      intro hl
      obtain ⟨r, hr, e, h0⟩ := hl p List.mem_cons_self
      obtain ⟨rs, e', h'⟩ := ih (fun q hq => hl q (List.mem_cons_of_mem _ hq))
      refine ⟨r :: rs, by simp [e, e'], fun x hx => ?_⟩
      rcases List.mem_cons.1 hx with rfl | hx
      · exact h0
      · exact h' x hx
  obtain ⟨rs, e, h0⟩ := key es (fun p hpm => by
    have hh : Maps.has (.map es) p.1 = true := by
      rw [Maps.has_eq, List.any_eq_true]
      exact ⟨p, hpm, WideAt.sameKey_self (hk p hpm)⟩
    obtain ⟨r, hr, er⟩ := h.key p.1 hh
    refine ⟨r, hr, er, ?_⟩
    rw [er, h.has r hr] at hh
    simpa using hh)
  have hlen : rs.length = es.length := by have := congrArg List.length e; simpa using this
  refine ⟨rs, ?_, hlen, h0⟩
  have h1 : (rs.map klOf).Pairwise (· ≠ ·) := by rw [e, List.pairwise_map]; exact hp
  rw [List.pairwise_map] at h1
  exact h1.imp (fun h e => h (by rw [e]))
end Go.Proofs.Ytggkggaihfcjmaa
namespace Go.Proofs.Ytggkggaihfcjmaa
open Go.RowKit
set_option linter.unusedVariables false

/-- A slice of rows below block B reads as the list rows. -/
def TabAt (w : World) (B : Nat) (A : Option Addr) (rows : List (List GV)) : Prop :=
  rows = [] ∨ ∃ g o, A = some ⟨g, o, none⟩ ∧ g < B ∧ ∀ i r, rows[i]? = some r → ∃ A' c', w.cell? ⟨g, o + i, none⟩ = some (.slice A' r.length c') ∧ RowAt w B A' r

theorem TabAt.below {w w' : World} {B B' : Nat} {A : Option Addr} {rows : List (List GV)} (h : TabAt w B A rows) (hb : Below B' w w') (hB : B ≤ B') : TabAt w' B A rows := by
  rcases h with h | ⟨g, o, hA, hg, hc⟩
  · exact .inl h
  · refine .inr ⟨g, o, hA, hg, fun i r hr => ?_⟩
    obtain ⟨A', c', h1, h2⟩ := hc i r hr
    exact ⟨A', c', (hb.cell (p := ⟨g, o + i, none⟩) (by show g < B'; omega)).trans h1, h2.below hb hB⟩
theorem TabAt.mono {w : World} {B B' : Nat} {A : Option Addr} {rows : List (List GV)} (h : TabAt w B A rows) (hB : B ≤ B') : TabAt w B' A rows := by
  rcases h with h | ⟨g, o, hA, hg, hc⟩
  · exact .inl h
  · refine .inr ⟨g, o, hA, by omega, fun i r hr => ?_⟩
    obtain ⟨A', c', h1, h2⟩ := hc i r hr
    exact ⟨A', c', h1, h2.mono hB⟩
theorem TabAt.to_ {w w' : World} {A : Option Addr} {rows : List (List GV)} (h : TabAt w w.heap.size A rows) (hb : Below w.heap.size w w') : TabAt w' w'.heap.size A rows := (h.below hb (Nat.le_refl _)).mono hb.size
theorem TabAt.at_ {w : World} {B : Nat} {A : Option Addr} {rows : List (List GV)} (h : TabAt w B A rows) {i : Nat} (hi : i < rows.length) :
    ∃ g o A' c', A = some ⟨g, o, none⟩ ∧ g < B ∧ w.cell? ⟨g, o + i, none⟩ = some (.slice A' rows[i].length c') ∧ RowAt w B A' rows[i] := by
  rcases h with h | ⟨g, o, hA, hg, hc⟩
  · subst h; simp at hi
  · obtain ⟨A', c', h1, h2⟩ := hc i _ (List.getElem?_eq_getElem hi)
    exact ⟨g, o, A', c', hA, hg, h1, h2⟩

def costS (rows : List (List GV)) : Nat := (rows.map cost).sum
def costT (rows : List (List GV)) : Nat := rows.length + costS rows
theorem costS_take (rows : List (List GV)) (i : Nat) (h : i < rows.length) : costS (rows.take (i + 1)) = costS (rows.take i) + cost rows[i] := by
  unfold costS
  rw [List.take_succ_eq_append_getElem h, List.map_append, List.sum_append]
  simp only [List.map_cons, List.map_nil, List.sum_cons, List.sum_nil, Nat.add_zero]
theorem costS_take_le (rows : List (List GV)) (i : Nat) : costS (rows.take i) ≤ costS rows := by
  unfold costS
  conv => rhs; rw [← List.take_append_drop i rows]
  rw [List.map_append, List.sum_append]
  omega
theorem cost_le_costT (rows : List (List GV)) (r : List GV) (h : r ∈ rows) : cost r ≤ costT rows := by
  obtain ⟨i, hi, rfl⟩ := List.getElem_of_mem h
  have h1 := costS_take rows i hi
  have h2 := costS_take_le rows (i + 1)
  unfold costT
  omega
theorem len_le_costT (rows : List (List GV)) : rows.length ≤ costT rows := by unfold costT; omega

theorem infoVs : (Try.prog.info? 53).map (fun i => (i.zero, i.size, i.bytes)) = some (some (.slice none 0 0), 1, 24) := by kernel_rfl
end Go.Proofs.Ytggkggaihfcjmaa
