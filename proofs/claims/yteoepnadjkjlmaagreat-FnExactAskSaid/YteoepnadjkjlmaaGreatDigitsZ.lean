/-
  Contracts of laws.eqValue and laws.eqValueS at equal values. Tables in memory: a slice of slices of values. A table whose rows are blocks of their own. Decimal digits.
-/
import Derived.Test.YteoepnadjkjlmaaGreatMakeZ
import Derived.Deep.RegionHeld3
import Derived.Test.YteoepnadjkjlmaaGreatMemZ
import Derived.Lib.ItoaLen
namespace Go.Proofs.YteoepnadjkjlmaaGreat
open Go.RowKit
set_option linter.unusedVariables false

set_option maxHeartbeats 400000 in
theorem eq_value (v : GV) (w : World) :
    Calls Tryz.prog 59 #[.agg #[.int .i64 v.k, .int .i64 v.n, .string v.t], .agg #[.int .i64 v.k, .int .i64 v.n, .string v.t]] w fun e w' => e = .returned (.bool true) ∧ Below w.heap.size w w' := by
  go_enter Tryz.func59, Tryz.ntmps59
  go_wp2
  go_ret
  exact ⟨rfl, ((Below.refl _ _).alloc (Nat.le_refl _) _).alloc (by simp) _⟩

set_option maxHeartbeats 800000 in
theorem eq_values (A A' : Option Addr) (c c' : Nat) (vs : List GV) (w : World) (hr : RowAt w w.heap.size A vs) (hr' : RowAt w w.heap.size A' vs) (hl : vs.length ≤ 1048576) :
    Calls Tryz.prog 33 #[.slice A vs.length c, .slice A' vs.length c'] w fun e w' => e = .returned (.bool true) ∧ Below w.heap.size w w' := by
  go_enter Tryz.func33, Tryz.ntmps33
  go_wp2
  go_loopw [5] (fun i w' => ∃ k : Nat, k ≤ vs.length ∧ i = .int .i64 k ∧ Below w.heap.size w w') (fun i _ => vs.length - (intOf i).toNat)
  case atStart => exact ⟨0, Nat.zero_le _, rfl, Below.refl _ _⟩
  case round =>
    obtain ⟨k, hk, rfl, hB⟩ := hrel
    by_cases hlt : k < vs.length
    · obtain ⟨g, o, rfl, hg, c0, c1, c2⟩ := (hr.below hB (Nat.le_refl _)).at_ hlt
      obtain ⟨g', o', rfl, hg', d0, d1, d2⟩ := (hr'.below hB (Nat.le_refl _)).at_ hlt
      have hi0 : (0 : Int) ≤ (k : Int) := Int.natCast_nonneg _
      have hi1 : (k : Int) < (vs.length : Int) := by omega
      go_wp2_with fail
      go_region_held3 (fun w' => w'.cell? ⟨g, o + k * 3, none⟩ = some (.int .i64 vs[k].k) ∧ w'.cell? ⟨g, o + k * 3 + 1, none⟩ = some (.int .i64 vs[k].n) ∧ w'.cell? ⟨g, o + k * 3 + 2, none⟩ = some (.string vs[k].t) ∧
          w'.cell? ⟨g', o' + k * 3, none⟩ = some (.int .i64 vs[k].k) ∧ w'.cell? ⟨g', o' + k * 3 + 1, none⟩ = some (.int .i64 vs[k].n) ∧ w'.cell? ⟨g', o' + k * 3 + 2, none⟩ = some (.string vs[k].t) ∧ w.heap.size ≤ w'.heap.size ∧ Below w.heap.size w w')
        (first | (go_split_ands; exact ⟨by assumption, by assumption, by assumption, by assumption, by assumption, by assumption, hB.size, hB.drew⟩)
               | (go_split_ands; refine ⟨?_, ?_, ?_, ?_, ?_, ?_, ?_, ?_⟩; all_goals first | (have := hbx.size; omega) | (rw [hcx _ _ (by omega)]; assumption) | exact below_next (by assumption) hbx rfl rfl))
        (first
          | (go_at_call 59; refine (eq_value vs[k] _).mono ?_; rintro e wx ⟨rfl, hbx⟩; obtain ⟨hcx, hfx⟩ := bcell hbx))
      have hB2 : Below w.heap.size w wx := by go_split_ands; assumption
      clear hcx hfx hbx c0 c1 c2 d0 d1 d2
      go_wp2_with fail
      go_roundw
      case rel => exact ⟨k + 1, by omega, by go_num, hB2⟩
      case measure => simp [intOf]; omega
    · go_wp2_with fail
      go_ret
      exact ⟨rfl, hB⟩
end Go.Proofs.YteoepnadjkjlmaaGreat
namespace Go.Proofs.YteoepnadjkjlmaaGreat
open Go.RowKit
set_option linter.unusedVariables false

/-- A slice of rows below block B reads as the list rows. -/
def TabAt (w : World) (B : Nat) (A : Option Addr) (rows : List (List GV)) : Prop :=
  rows = [] ∨ ∃ g o, A = some ⟨g, o, none⟩ ∧ g < B ∧ ∀ i r, rows[i]? = some r → ∃ A' c', w.cell? ⟨g, o + i, none⟩ = some (.slice A' r.length c') ∧ RowAt w B A' r

theorem TabAt.below {w w' : World} {B B' : Nat} {A : Option Addr} {rows : List (List GV)} (h : TabAt w B A rows) (hb : Below B' w w') (hB : B ≤ B') : TabAt w' B A rows := by
  rcases h with h | ⟨g, o, hA, hg, hc⟩
  · exact .inl h
  · refine .inr ⟨g, o, hA, hg, fun i r hr => ?_⟩
    obtain ⟨A', c', h1, h2⟩ := hc i r hr
    exact ⟨A', c', (hb.cell (p := ⟨g, o + i, none⟩) (by show g < B'; omega)).trans h1, h2.below hb hB⟩
theorem TabAt.mono {w : World} {B B' : Nat} {A : Option Addr} {rows : List (List GV)} (h : TabAt w B A rows) (hB : B ≤ B') : TabAt w B' A rows := by
  rcases h with h | ⟨g, o, hA, hg, hc⟩
  · exact .inl h
  · refine .inr ⟨g, o, hA, by omega, fun i r hr => ?_⟩
    obtain ⟨A', c', h1, h2⟩ := hc i r hr
    exact ⟨A', c', h1, h2.mono hB⟩
theorem TabAt.to_ {w w' : World} {A : Option Addr} {rows : List (List GV)} (h : TabAt w w.heap.size A rows) (hb : Below w.heap.size w w') : TabAt w' w'.heap.size A rows := (h.below hb (Nat.le_refl _)).mono hb.size
theorem TabAt.at_ {w : World} {B : Nat} {A : Option Addr} {rows : List (List GV)} (h : TabAt w B A rows) {i : Nat} (hi : i < rows.length) :
    ∃ g o A' c', A = some ⟨g, o, none⟩ ∧ g < B ∧ w.cell? ⟨g, o + i, none⟩ = some (.slice A' rows[i].length c') ∧ RowAt w B A' rows[i] := by
  rcases h with h | ⟨g, o, hA, hg, hc⟩
  · subst h; simp at hi
  · obtain ⟨A', c', h1, h2⟩ := hc i _ (List.getElem?_eq_getElem hi)
    exact ⟨g, o, A', c', hA, hg, h1, h2⟩

def costS (rows : List (List GV)) : Nat := (rows.map cost).sum
def costT (rows : List (List GV)) : Nat := rows.length + costS rows
theorem costS_take (rows : List (List GV)) (i : Nat) (h : i < rows.length) : costS (rows.take (i + 1)) = costS (rows.take i) + cost rows[i] := by
  unfold costS
  rw [List.take_succ_eq_append_getElem h, List.map_append, List.sum_append]
  simp only [List.map_cons, List.map_nil, List.sum_cons, List.sum_nil, Nat.add_zero]
theorem costS_take_le (rows : List (List GV)) (i : Nat) : costS (rows.take i) ≤ costS rows := by
  unfold costS
  conv => rhs; rw [← List.take_append_drop i rows]
  rw [List.map_append, List.sum_append]
  omega
theorem cost_le_costT (rows : List (List GV)) (r : List GV) (h : r ∈ rows) : cost r ≤ costT rows := by
  obtain ⟨i, hi, rfl⟩ := List.getElem_of_mem h
  have h1 := costS_take rows i hi
  have h2 := costS_take_le rows (i + 1)
  unfold costT
  omega
theorem len_le_costT (rows : List (List GV)) : rows.length ≤ costT rows := by unfold costT; omega

theorem infoVs : (Tryz.prog.info? 52).map (fun i => (i.zero, i.size, i.bytes)) = some (some (.slice none 0 0), 1, 24) := by kernel_rfl
end Go.Proofs.YteoepnadjkjlmaaGreat
namespace Go.Proofs.YteoepnadjkjlmaaGreat
open Go.RowKit Go.Sort
set_option linter.unusedVariables false

def headV (p : PR) : Value := .slice (some ⟨p.1, 0, none⟩) p.2.length p.2.length
def Own (w : World) (ps : List PR) : Prop := ∀ p ∈ ps, Whole w p.1 79 (flat p.2)
/-- A table: its outer block's cells begin with the heads of ps; l lies behind. -/
def OutAt (w : World) (g : Nat) (ps : List PR) (l : List Value) : Prop := Whole w g 52 (ps.map headV ++ l) ∧ Own w ps ∧ ∀ p ∈ ps, p.1 ≠ g
theorem Own.row {w : World} {ps : List PR} (h : Own w ps) {p : PR} (hp : p ∈ ps) : RowAt w w.heap.size (some ⟨p.1, 0, none⟩) p.2 := (h p hp).row (h p hp).lt
theorem OutAt.tab {w : World} {g : Nat} {ps : List PR} {l : List Value} (h : OutAt w g ps l) : TabAt w w.heap.size (some ⟨g, 0, none⟩) (ps.map (·.2)) := by
  refine .inr ⟨g, 0, rfl, h.1.lt, fun i r hr => ?_⟩
  rw [List.getElem?_map, Option.map_eq_some_iff] at hr
  obtain ⟨p, hp, rfl⟩ := hr
  have hi : i < ps.length := (List.getElem?_eq_some_iff.1 hp).1
  refine ⟨some ⟨p.1, 0, none⟩, p.2.length, ?_, h.2.1.row (List.mem_of_getElem? hp)⟩
  rw [h.1.cell, Nat.zero_add, List.getElem?_append_left (by simpa using hi), List.getElem?_map, hp]
  rfl
theorem OutAt.below {w w' : World} {g : Nat} {ps : List PR} {l : List Value} (h : OutAt w g ps l) (hb : Below w.heap.size w w') : OutAt w' g ps l :=
  ⟨h.1.below hb h.1.lt, fun p hp => (h.2.1 p hp).below hb (h.2.1 p hp).lt, h.2.2⟩

end Go.Proofs.YteoepnadjkjlmaaGreat
namespace Go.Proofs.YteoepnadjkjlmaaGreat
open Go.RowKit
set_option linter.unusedVariables false

theorem digits_step (m : Nat) (h : 9 < m) : Lib.decDigits m = Lib.decDigits (m / 10) ++ [UInt8.ofNat (48 + m % 10)] := by
  rw [Lib.decDigits, dif_neg (by omega)]
theorem digits_small (m : Nat) (h : m ≤ 9) : Lib.decDigits m = [UInt8.ofNat (48 + m)] := by
  rw [Lib.decDigits, dif_pos (by omega)]
theorem digits_pos (m : Nat) : 1 ≤ (Lib.decDigits m).length := by
  by_cases h : 9 < m
  · rw [digits_step m h]; simp
  · rw [digits_small m (by omega)]; simp
theorem digits_len (n : Nat) (h : n ≤ 1000000000) : (Lib.decDigits n).length ≤ 21 := by
  have h := Lib.itoa_length_le (n : Int) (by omega) (by omega)
  unfold Lib.itoa at h
  rw [if_neg (by omega)] at h
  simpa using h
theorem digits_rest {m n : Nat} {l : List UInt8} (h : Lib.decDigits m ++ l = Lib.decDigits n) (hn : n ≤ 1000000000) : l.length ≤ 20 := by
  have h1 := digits_pos m
  have h2 := digits_len n hn
  rw [← h, List.length_append] at h2
  omega
theorem ofNat_add (m : Nat) : UInt8.ofNat (48 + m) = 48 + UInt8.ofNat m := by simp
theorem str_cons (c : UInt8) (l : List UInt8) : (⟨#[c]⟩ ++ ⟨l.toArray⟩ : ByteArray) = ⟨(c :: l).toArray⟩ := by
  apply ByteArray.ext
  simp [ByteArray.data_append]
theorem conv_one (d : Nat) (hd : d < 256) (w : World) :
    (convert 94 9 (.slice (some ⟨w.heap.size, 0, none⟩) 1 1)).run Tryz.prog (w.alloc (.cells #[.int .u8 (d : Int)] 5)) = .ok (.string ⟨#[UInt8.ofNat d]⟩) (w.alloc (.cells #[.int .u8 (d : Int)] 5)) := by
  have h := run_convert_bytes_back (P := Tryz.prog) (w.alloc (.cells #[.int .u8 (d : Int)] 5)) 94 9 5 ⟨w.heap.size, 0, none⟩ 1 [UInt8.ofNat d] Tryz.underlying94 Tryz.underlying5 Tryz.underlying9 (fun j hj => by
    obtain rfl : j = 0 := by simpa using hj
    have e : (⟨w.heap.size, 0, none⟩ : Addr).add 0 = ⟨w.heap.size, 0, none⟩ := rfl
    rw [e]
    have hu : (UInt8.ofNat d).toNat = d := by simp; omega
    simp only [List.getElem_cons_zero, hu]
    go_simp)
  exact h
end Go.Proofs.YteoepnadjkjlmaaGreat
