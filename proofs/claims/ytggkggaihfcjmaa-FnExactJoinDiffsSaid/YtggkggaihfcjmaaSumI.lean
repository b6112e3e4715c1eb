/-
  impl.sumOf and impl.AddDiffs.
-/
import Derived.Test.YtggkggaihfcjmaaDiffsI
import Derived.Test.YtggkggaihfcjmaaAddI
import Derived.Test.YtggkggaihfcjmaaConcatDZ
import Derived.Test.YtggkggaihfcjmaaOrderZ
import Derived.Deep.DeepMust
namespace Go.Proofs.Ytggkggaihfcjmaa
open Go.RowKit Go.Sort
set_option linter.unusedVariables false

theorem bad_big {L zs : List GDiff} (h : Canon L zs) {rs : List (List GV)} (hn : rs.Nodup) (hr : ∀ r ∈ rs, coef zs r ≠ 0) (hl : 3000 < rs.length) : diffOkB L = false := by
  have := canon_big h hn hr
  unfold diffOkB
  rw [show decide (L.length ≤ 3000) = false by simp; omega]
  rfl
theorem bad_cnt {L zs : List GDiff} (h : Canon L zs) {r : List GV} (hr : coef zs r ≠ 0) (hc : cntB (coef zs r) = false) : diffOkB L = false := by
  rw [← Bool.not_eq_true]
  intro hk
  obtain ⟨z, hz, e⟩ := coef_ne (by rw [h.sum]; exact hr)
  have h1 := ((diffOk_asc hk).2.2 z hz).2
  rw [← coef_mem h.asc z hz, e, h.sum, hc] at h1
  cases h1
theorem coef_le {M : Int} (h0 : 0 ≤ M) (r : List GV) : ∀ zs : List GDiff, cntLe M zs → -(zs.length * M) ≤ coef zs r ∧ coef zs r ≤ zs.length * M
  | [], _ => by simp [coef]
  | z :: zs, h => by
    have ih := coef_le h0 r zs (fun x hx => h x (List.mem_cons_of_mem _ hx))
    have hz := h z List.mem_cons_self
    rw [coef_cons, List.length_cons]
    have e : ((zs.length + 1 : Nat) : Int) * M = zs.length * M + M := by rw [Int.natCast_add, Int.add_mul]; simp
    rw [e]
    by_cases hc : cmpR z.row r = 0
    · rw [if_pos hc]; omega
    · rw [if_neg hc]; omega
theorem DiffsAt.heads {w : World} {lo B : Nat} {A : Option Addr} {zs : List GDiff} (h : DiffsAt w lo B A zs) (hB : B ≤ w.heap.size) : ∃ hs : List DH, hs.map (·.2) = zs ∧ SrcAt w A (flatH hs) ∧ ∀ p ∈ hs, RowAt w w.heap.size p.1.1 p.2.row ∧ CapOk p.2.row.length p.1.2 := by
  rcases h with rfl | ⟨g, o, rfl, h1, h2, hc⟩
  · exact ⟨[], rfl, ⟨fun _ => rfl, fun ad _ j u hu => by simp [flatH] at hu⟩, fun p hp => by simp at hp⟩
  · have key : ∀ n, n ≤ zs.length → ∃ hs : List DH, hs.map (·.2) = zs.take n ∧ (∀ j u, (flatH hs)[j]? = some u → w.cell? ⟨g, o + j, none⟩ = some u) ∧ ∀ p ∈ hs, RowAt w w.heap.size p.1.1 p.2.row ∧ CapOk p.2.row.length p.1.2 := by
      intro n
      induction n with
      | zero => intro _; exact ⟨[], rfl, fun j u hu => by simp [flatH] at hu, fun p hp => by simp at hp⟩
      | succ n ih =>
        intro hn
        obtain ⟨hs, e, hcs, hp⟩ := ih (by omega)
        obtain ⟨⟨A', c', ⟨hcell, hcap⟩, hrow⟩, hcnt⟩ := hc n _ (List.getElem?_eq_getElem (show n < zs.length by omega))
        have hlen : hs.length = n := by have := congrArg List.length e; simpa [Nat.min_eq_left (show n ≤ zs.length by omega)] using this
        refine ⟨hs ++ [((A', c'), zs[n])], by rw [List.map_append, e, List.take_succ_eq_append_getElem (by omega)]; rfl, fun j u hu => ?_, fun p hm => ?_⟩
        · rw [flatH_append] at hu
          rcases Nat.lt_or_ge j (flatH hs).length with hj | hj
          · rw [List.getElem?_append_left hj] at hu; exact hcs j u hu
          · rw [List.getElem?_append_right hj, flatH_length, hlen] at hu
            rw [flatH_length, hlen] at hj
            have h3 : j - n * 2 = 0 ∨ j - n * 2 = 1 := by
              have h4 := (List.getElem?_eq_some_iff.1 hu).1
              simp [flatH, dhL] at h4
              omega
            rcases h3 with h3 | h3
            · rw [h3] at hu
              simp [flatH, dhL] at hu
              subst hu
              rw [show o + j = o + n * 2 by omega]; exact hcell
            · rw [h3] at hu
              simp [flatH, dhL] at hu
              subst hu
              rw [show o + j = o + n * 2 + 1 by omega]; exact hcnt
        · rw [List.mem_append, List.mem_singleton] at hm
          rcases hm with hm | rfl
          · exact hp p hm
          · exact ⟨hrow.row.mono hB, hcap⟩
    obtain ⟨hs, e, hcs, hp⟩ := key zs.length (Nat.le_refl _)
    rw [List.take_length] at e
    refine ⟨hs, e, ⟨fun e => by (cases e), fun ad e' j u hu => ?_⟩, hp⟩
    injection e' with e'
    subst e'
    have ha : (⟨g, o, none⟩ : Addr).add j = ⟨g, o + j, none⟩ := by unfold Addr.add; split <;> simp_all
    rw [ha]
    exact hcs j u hu
theorem flatH_ones (a : List DH) : ∀ u ∈ flatH a, u.oneCell' = true := by
  induction a with
  | nil => intro u hu; simp [flatH] at hu
  | cons p a ih =>
    intro u hu
    simp only [flatH, List.mem_append] at hu
    rcases hu with hu | hu
    · exact dhL_one p u hu
    · exact ih u hu
/-- A list of the call's own, read: element i's head, count and row. -/
structure HeadsAt (w : World) (A : Option Addr) (hs : List DH) : Prop where
  at_ : ∀ i p, hs[i]? = some p → ∃ g o, A = some ⟨g, o, none⟩ ∧ w.cell? ⟨g, o + i * 2, none⟩ = some (.slice p.1.1 p.2.row.length p.1.2) ∧ w.cell? ⟨g, o + i * 2 + 1, none⟩ = some (.int .i64 p.2.count) ∧ RowAt w w.heap.size p.1.1 p.2.row
theorem heads_own {w0 w : World} {v : Value} {hs : List DH} (ho : w.ownsRow w0.heap.size 55 2 v hs.length (flatH hs)) (hr : ∀ p ∈ hs, RowAt w w.heap.size p.1.1 p.2.row) : ∃ A c, v = .slice A hs.length c ∧ HeadsAt w A hs := by
  rcases ho.2 with ⟨rfl, h0⟩ | ⟨g, cap, cur, rfl, hg, hh, hc1, hc2, hc3, hc4⟩
  · have : hs = [] := List.eq_nil_of_length_eq_zero h0
    subst this
    exact ⟨none, 0, rfl, ⟨fun i p hp => by simp at hp⟩⟩
  · refine ⟨_, cap, rfl, ⟨fun i p hp => ⟨g, 0, rfl, ?_, ?_, hr p (List.mem_of_getElem? hp)⟩⟩⟩
    all_goals
      have hi : i < hs.length := (List.getElem?_eq_some_iff.1 hp).1
      obtain ⟨f0, f1⟩ := flatH_at hs i p hp
      have key : ∀ j, j < hs.length * 2 → w.cell? ⟨g, j, none⟩ = (flatH hs)[j]? := fun j hj => by
        have h1 : w.cell? ⟨g, j, none⟩ = cur.toList[j]? := by simp [World.cell?, hh]
        rw [h1, ← hc4, List.getElem?_take_of_lt hj]
      rw [Nat.zero_add]
    · exact (key _ (by omega)).trans f0
    · exact (key _ (by omega)).trans f1
theorem cell_grown {w w' : World} {b : Nat} {p : Addr} {u : Value} {es : Array MapEntry} {cl : Nat} (hm : w.heap[b]? = some (.map es cl)) (hg : w.grownBy w' (some b)) (h : w.cell? p = some u) : w'.cell? p = some u ∧ p.block < w.heap.size ∧ w'.heap[p.block]? = w.heap[p.block]? := by
  have hlt := World.block_lt_of_cell? _ p h
  have hb : w'.heap[p.block]? = w.heap[p.block]? := hg.block p.block hlt (fun e => by
    injection e with e
    rw [← e] at hm
    simp [World.cell?, hm] at h)
  exact ⟨(World.cell?_of_block (w := w) (w' := w') (a := p) hb).trans h, hlt, hb⟩
theorem RowAt.grown {w w' : World} {b : Nat} {A : Option Addr} {vs : List GV} {es : Array MapEntry} {cl : Nat} (hm : w.heap[b]? = some (.map es cl)) (hg : w.grownBy w' (some b)) (h : RowAt w w.heap.size A vs) : RowAt w' w'.heap.size A vs := by
  rcases h with h | ⟨g, o, rfl, hlt, hc⟩
  · exact .inl h
  · exact .inr ⟨g, o, rfl, Nat.lt_of_lt_of_le hlt hg.size, fun i v hv => ⟨(cell_grown hm hg (hc i v hv).1).1, (cell_grown hm hg (hc i v hv).2.1).1, (cell_grown hm hg (hc i v hv).2.2).1⟩⟩
theorem HeadsAt.grown {w w' : World} {b : Nat} {A : Option Addr} {hs : List DH} {es : Array MapEntry} {cl : Nat} (hm : w.heap[b]? = some (.map es cl)) (hg : w.grownBy w' (some b)) (h : HeadsAt w A hs) : HeadsAt w' A hs :=
  ⟨fun i p hp => by
    obtain ⟨g, o, e, h0, h1, hr⟩ := h.at_ i p hp
    exact ⟨g, o, e, (cell_grown hm hg h0).1, (cell_grown hm hg h1).1, hr.grown hm hg⟩⟩
theorem Ms.map {w : World} {b n : Nat} {zs : List GDiff} (h : Ms w b n zs) : ∃ es cl, w.heap[b]? = some (.map es cl) := by
  obtain ⟨D, ⟨es, cl, hb, _⟩, _⟩ := h; exact ⟨es, cl, hb⟩
end Go.Proofs.Ytggkggaihfcjmaa
