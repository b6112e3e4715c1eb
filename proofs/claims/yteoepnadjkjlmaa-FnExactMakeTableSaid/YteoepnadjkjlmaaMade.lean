/-
  impl.MakeTable's answer beside the other words for tables.
-/
import Derived.Test.YteoepnadjkjlmaaMakeT
import Derived.Test.YteoepnadjkjlmaaSpecMakeT
import Derived.Test.YteoepnadjkjlmaaMarkT
namespace Go.Proofs.Yteoepnadjkjlmaa
open Go.RowKit
set_option linter.unusedVariables false

theorem heads_zip : ∀ (gs : List Nat) (rows : List Row), heads gs rows = (gs.zip rows).map headV
  | [], _ => by simp [heads]
  | _ :: _, [] => by simp [heads]
  | g :: gs, r :: rows => by simp [heads, heads_zip gs rows, headV]
theorem own_out {w : World} {lo g : Nat} {gs : List Nat} {rows : List Row} (h : TabOwn w lo g gs rows) : TabG w (some ⟨g, 0, none⟩) (gs.zip rows) := by
  refine .inr ⟨g, [], rfl, ?_, ?_, ?_⟩
  · rw [List.append_nil, ← heads_zip]; exact h.2.1
  · intro p hp
    obtain ⟨i, hi, e⟩ := List.getElem_of_mem hp
    have h1 : i < gs.length := by simp at hi; omega
    have h2 : i < rows.length := by simp at hi; omega
    rw [← e, List.getElem_zip]
    exact h.1.2 i _ _ (List.getElem?_eq_getElem h1) (List.getElem?_eq_getElem h2)
  · intro p hp
    exact (h.2.2.2.1 p.1 (List.of_mem_zip hp).1).2
theorem zip_fst {gs : List Nat} {rows : List Row} (h : gs.length = rows.length) : (gs.zip rows).map (·.1) = gs := by
  rw [List.map_fst_zip]; omega
theorem zip_snd {gs : List Nat} {rows : List Row} (h : gs.length = rows.length) : (gs.zip rows).map (·.2) = rows := by
  rw [List.map_snd_zip]; omega
theorem sumP_rows (ps : List PR) : sumP ps ≤ costT (ps.map (·.2)) := by
  unfold sumP costT costS
  induction ps with
  | nil => simp
  | cons p ps ih =>
    simp only [List.map_cons, List.sum_cons, List.length_cons] at ih ⊢
    have := len_cost p.2
    omega
theorem sumP_few (ps : List PR) (h : ∀ p ∈ ps, p.2.length ≤ 8) : sumP ps ≤ 8 * ps.length := by
  unfold sumP
  induction ps with
  | nil => simp
  | cons p ps ih =>
    simp only [List.map_cons, List.sum_cons, List.length_cons]
    have h1 := ih fun q hq => h q (List.mem_cons_of_mem _ hq)
    have h2 := h p List.mem_cons_self
    omega
theorem grownS_below {w w' : World} {S : List Nat} {B : Nat} (h : GrownS w w' S) (hS : ∀ x ∈ S, B ≤ x) (hB : B ≤ w.heap.size) : Below B w w' :=
  ⟨h.os, h.tape, h.output, h.size, fun k hk => h.block k (by omega) (fun e => by have := hS k e; omega)⟩
theorem tabG_kept {w w' : World} {A : Option Addr} {ps : List PR} {S : List Nat} {B : Nat} (h : TabG w A ps) (hg : GrownS w w' S) (hS : ∀ x ∈ S, x < B) (hA : ∀ g, A = some ⟨g, 0, none⟩ → B ≤ g) (hp : ∀ p ∈ ps, B ≤ p.1) : TabG w' A ps := by
  rcases h with h | ⟨g, l, hA', h1, h2, h3⟩
  · exact .inl h
  · refine .inr ⟨g, l, hA', ?_, fun p hp' => ?_, h3⟩
    · exact (hg.block g h1.lt (fun e => by have := hS g e; have := hA g hA'; omega)).trans h1
    · exact (hg.block p.1 (h2 p hp').lt (fun e => by have := hS p.1 e; have := hp p hp'; omega)).trans (h2 p hp')
/-- impl.MakeTable's answer, the nil one too. -/
def Made (w : World) (rows : List Row) (v : Value) (w' : World) : Prop :=
  ∃ (A : Option Addr) (c : Nat) (qs : List PR), v = .slice A qs.length c ∧ TabG w' A qs ∧ TabIs rows (qs.map (·.2)) ∧ (qs.map (·.1)).Nodup ∧ (∀ p ∈ qs, w.heap.size ≤ p.1) ∧ (∀ g, A = some ⟨g, 0, none⟩ → w.heap.size ≤ g) ∧ qs.length ≤ 3000 ∧ sumP qs ≤ 24000
theorem made_of {w w' : World} {rows : List Row} {v : Value} (h : MakeAns w rows v w') : Made w rows v w' := by
  rcases h with ⟨h1, rfl⟩ | ⟨h1, g, cap, qs, l, rfl, h2, h3, h4, h5, h6, h7, h8⟩
  · exact ⟨none, 0, [], rfl, .inl rfl, .inl ⟨h1, rfl⟩, by simp, by simp, by simp, by simp, by simp [sumP]⟩
  · have hr := rows_ok_row h1
    have hq : qs.length ≤ 3000 := by have := hr.1; omega
    have hs := sumP_few qs fun p hp => (hr.2 p.2 ((h4 p.2).1 (List.mem_map_of_mem hp))).1
    exact ⟨_, cap, qs, rfl, .inr ⟨g, l, rfl, h2⟩, .inr ⟨h1, h3, h4⟩, h7, h6, fun g' e => by injection e with e; injection e with e1 e2; omega, hq, by omega⟩
end Go.Proofs.Yteoepnadjkjlmaa
