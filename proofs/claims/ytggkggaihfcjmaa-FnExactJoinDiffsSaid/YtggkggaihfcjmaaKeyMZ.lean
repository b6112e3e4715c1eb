/-
  spec.JoinDiffs, whatever its arguments. Rows as keys of a map: the key's law, what a row's key reads as.
-/
import Derived.Test.YtggkggaihfcjmaaJoinS
import Derived.Test.YtggkggaihfcjmaaTyZ
import Derived.Maps.OwnSet
import Derived.DeepKeys4
namespace Go.Proofs.Ytggkggaihfcjmaa
open Go.RowKit Go.Sort
set_option linter.unusedVariables false

theorem joinB_parts {a b : List GDiff} {on : Int} (h : joinB a b on = true) : diffOkB a = true ∧ diffOkB b = true ∧ 0 ≤ on ∧ 0 < a.length ∧ 0 < b.length ∧ on ≤ (widD a : Int) ∧ on ≤ (widD b : Int) ∧ (widD a : Int) + widD b - on ≤ 8 := by
  unfold joinB at h
  simp only [Bool.and_eq_true, decide_eq_true_eq, Bool.not_eq_true', List.isEmpty_eq_false_iff] at h
  obtain ⟨⟨⟨⟨⟨⟨⟨g1, g2⟩, g3⟩, g7⟩, g8⟩, g4⟩, g5⟩, g6⟩ := h
  exact ⟨g1, g2, g3, List.length_pos_iff.2 g7, List.length_pos_iff.2 g8, g4, g5, g6⟩
theorem spec_joinDiffs {lo lo' : Nat} (A B : Option Addr) (c d : Nat) (a b : List GDiff) (on : Int) (w : World) (ha : DiffsAt w lo w.heap.size A a) (hb : DiffsAt w lo' w.heap.size B b) (hla : a.length ≤ 1048576) (hlb : b.length ≤ 1048576)
    (hra : ∀ z ∈ a, z.row.length ≤ 1048576 ∧ ∀ v ∈ z.row, v.t.size ≤ maxLen) (hrb : ∀ z ∈ b, z.row.length ≤ 1048576 ∧ ∀ v ∈ z.row, v.t.size ≤ maxLen) (hon : (Lit.int .i64 on).wf = true) :
    Calls Try.prog 26 #[.slice A a.length c, .slice B b.length d, .int .i64 on] w (DPost w (joinD a b on)) := by
  have hon' : -9223372036854775808 ≤ on ∧ on ≤ 9223372036854775807 := by
    have : IntKind.i64.min ≤ on ∧ on ≤ IntKind.i64.max := by simpa [Lit.wf] using hon
    exact this
  by_cases hj : joinB a b on = true
  · obtain ⟨h1, h2, h3, ha0, hb0, h4, h5, h6⟩ := joinB_parts hj
    obtain ⟨n, rfl⟩ : ∃ n : Nat, on = (n : Int) := ⟨on.toNat, by omega⟩
    exact spec_join_yes A B c d a b n w ha hb hla hlb hra hrb h1 h2 ha0 hb0 (by omega) (by omega) (by omega)
  · have hj0 : joinB a b on = false := by simpa using hj
    rw [joinD_none hj0]
    by_cases h1 : diffOkB a = true
    · by_cases h2 : diffOkB b = true
      · by_cases h3 : 0 ≤ on
        · by_cases ha0 : a.length = 0
          · by_cases hb0 : b.length = 0
            · exact join_n5 A B c d a b on w ha hb hla hlb hra hrb hon' h1 h2 h3 ha0 hb0
            · by_cases h5 : (widD b : Int) < on
              · exact join_n6 A B c d a b on w ha hb hla hlb hra hrb hon' h1 h2 h3 ha0 (by omega) h5
              · exact join_n7 A B c d a b on w ha hb hla hlb hra hrb hon' h1 h2 h3 ha0 (by omega) (by omega)
          · by_cases h4 : (widD a : Int) < on
            · exact join_n4 A B c d a b on w ha hb hla hlb hra hrb hon' h1 h2 h3 (by omega) h4
            · by_cases hb0 : b.length = 0
              · exact join_n8 A B c d a b on w ha hb hla hlb hra hrb hon' h1 h2 h3 (by omega) (by omega) hb0
              · by_cases h5 : (widD b : Int) < on
                · exact join_n9 A B c d a b on w ha hb hla hlb hra hrb hon' h1 h2 h3 (by omega) (by omega) (by omega) h5
                · have ha1 : 0 < a.length := by omega
                  have hb1 : 0 < b.length := by omega
                  have hwa := (diffOk_all h1).2 a[0] (List.getElem_mem ha1)
                  have hwb := (diffOk_all h2).2 b[0] (List.getElem_mem hb1)
                  refine join_n10 A B c d a b on w ha hb hla hlb hra hrb hon' h1 h2 h3 ha1 (by omega) hb1 (by omega) (by omega) (by omega) ?_
                  rcases Decidable.em (8 < (widD a : Int) + widD b - on) with h6 | h6
                  · exact h6
                  · exfalso
                    apply hj
                    unfold joinB
                    have e1 : a.isEmpty = false := by cases a with | nil => simp at ha1 | cons _ _ => rfl
                    have e2 : b.isEmpty = false := by cases b with | nil => simp at hb1 | cons _ _ => rfl
                    rw [h1, h2, e1, e2]
                    simp; omega
        · exact join_n3 A B c d a b on w ha hb hla hlb hra hrb hon' h1 h2 (by omega)
      · exact join_n2 A B c d a b on w ha hb hla hlb hra hrb hon' h1 (by simpa using h2)
    · exact join_n1 A B c d a b on w ha hb hla hlb hra hrb hon' (by simpa using h1)
theorem joinD_ok (a b : List GDiff) (on : Int) : joinD a b on = [] ∨ diffOkB (joinD a b on) = true := by
  unfold joinD
  by_cases h : joinB a b on = true ∧ (pairsD on.toNat a b).length ≤ 3000
  · rw [if_pos h]
    unfold orD
    by_cases h' : diffOkB (sumD (pairsD on.toNat a b)) = true
    · rw [if_pos h']; exact .inr h'
    · rw [if_neg h']; exact .inl rfl
  · rw [if_neg h]; exact .inl rfl
end Go.Proofs.Ytggkggaihfcjmaa
namespace Go.Proofs.Ytggkggaihfcjmaa
open Go.RowKit
set_option linter.unusedVariables false

def zGV : GV := ⟨0, 0, ByteArray.empty⟩
/-- A row behind which zero values stand, eight in all. -/
def pad (r : List GV) : List GV := r ++ List.replicate (8 - r.length) zGV
theorem pad_length {r : List GV} (h : r.length ≤ 8) : (pad r).length = 8 := by simp [pad]; omega
theorem pad_mem {r : List GV} {v : GV} (h : v ∈ pad r) : v ∈ r ∨ v = zGV := by
  unfold pad at h
  rw [List.mem_append] at h
  exact h.imp id (fun h => (List.mem_replicate.1 h).2)
def keyV (r : List GV) : Value := .agg (flat (pad r)).toArray
theorem laidOutP : laidOutB Try.prog = true := by kernel_rfl
theorem keyRow : (83 : TypeId) < Try.prog.types.size := of_decide_eq_true (by kernel_rfl)
theorem keyDeep : Try.prog.keyTypeAt 4 83 = true := by kernel_rfl
theorem keyCells : Try.prog.cellsOf 83 = 24 := by kernel_rfl
theorem valCells : Try.prog.cellsOf 52 = 3 := by kernel_rfl
theorem keyArr : Try.prog.underlying 83 = some (.array 8 52) := by kernel_rfl
theorem keyTy : Try.prog.keyType 83 = true := by kernel_rfl
theorem keyK : Maps.Keyed Try.prog 83 := Maps.Keyed.of_law (deep_law_laid laidOutP (m := 4) (by omega) keyRow keyDeep (by rw [keyArr]))
theorem lits_int {d : Nat} {n : Int} (h : (Lit.int .i64 n).wf = true) : Try.prog.keyLits (d + 1) 2 [.int .i64 n] = some [.int .i64 n] := by
  unfold Program.keyLits
  rw [Try.underlying2]
  simp [h]
theorem lits_str {d : Nat} {t : ByteArray} (h : t.size ≤ maxLen) : Try.prog.keyLits (d + 1) 9 [.string t] = some [.string t.data.toList] := by
  unfold Program.keyLits
  rw [Try.underlying9]
  simp [h]
theorem val_lits {d : Nat} {v : GV} (h : v.fit) : Try.prog.keyLits (d + 2) 52 [.int .i64 v.k, .int .i64 v.n, .string v.t] = some [.int .i64 v.k, .int .i64 v.n, .string v.t.data.toList] := by
  obtain ⟨h1, h2, h3⟩ := h
  have c1 : Try.prog.cellsOf 2 = 1 := by kernel_rfl
  have c2 : Try.prog.cellsOf 9 = 1 := by kernel_rfl
  unfold Program.keyLits
  rw [Try.underlying52]
  simp [valCells, c1, c2, lits_int h1, lits_int h2, lits_str h3]
theorem zGV_fit : zGV.fit := ⟨by decide, by decide, by decide⟩
theorem eight {α : Type} {l : List α} (h : l.length = 8) : ∃ a b c d e f g i, l = [a, b, c, d, e, f, g, i] := by
  match l, h with
  | [a, b, c, d, e, f, g, i], _ => exact ⟨a, b, c, d, e, f, g, i, rfl⟩
def litsOf : List GV → List Lit
  | [] => []
  | v :: vs => .int .i64 v.k :: .int .i64 v.n :: .string v.t.data.toList :: litsOf vs
/-- What a row's key reads as. -/
def klOf (r : List GV) : Lit := .string (keyBytes (litsOf (pad r)))
theorem typesBig : 2 ≤ Try.prog.types.size := of_decide_eq_true (by kernel_rfl)
theorem key_is {r : List GV} (hl : r.length ≤ 8) (hf : ∀ v ∈ r, v.fit) : keyOf Try.prog 83 (keyV r) = some (klOf r) := by
  have hf' : ∀ v ∈ pad r, v.fit := fun v hv => by
    rcases pad_mem hv with h | rfl
    · exact hf v h
    · exact zGV_fit
  obtain ⟨a, b, c, d, e, f, g, i, hp⟩ := eight (pad_length hl)
  unfold keyV klOf
  rw [hp] at hf' ⊢
  have ht : Try.prog.types.size + 1 = (Try.prog.types.size - 2 + 2) + 1 := by have := typesBig; omega
  have fm : (Value.agg (flat [a, b, c, d, e, f, g, i]).toArray).formed Try.prog 83 = true := by
    simp [Value.formed, keyCells, flat]
  unfold keyOf
  rw [keyArr]
  simp only [keyTy, fm, Bool.and_self, if_true]
  rw [ht]
  unfold Program.keyLits
  rw [keyArr]
  simp [Value.cells, keyCells, valCells, flat, litsOf, List.range, List.range.loop, val_lits (hf' a (by simp)), val_lits (hf' b (by simp)), val_lits (hf' c (by simp)), val_lits (hf' d (by simp)), val_lits (hf' e (by simp)), val_lits (hf' f (by simp)), val_lits (hf' g (by simp)), val_lits (hf' i (by simp))]
theorem flat_inj : ∀ a b : List GV, flat a = flat b → a = b
  | [], [], _ => rfl
  | [], _ :: _, h => by simp [flat] at h
  | _ :: _, [], h => by simp [flat] at h
  | x :: a, y :: b, h => by
    simp only [flat, List.cons.injEq, Value.int.injEq, Value.string.injEq, true_and] at h
    obtain ⟨h1, h2, h3, h4⟩ := h
    rw [flat_inj a b h4]
    cases x; cases y; simp_all
end Go.Proofs.Ytggkggaihfcjmaa
