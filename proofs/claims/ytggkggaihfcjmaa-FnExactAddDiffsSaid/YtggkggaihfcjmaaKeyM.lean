/-
  Rows as keys of a map: the key's law, what a row's key reads as.
-/
import Derived.Test.YtggkggaihfcjmaaVRow
import Derived.Maps.OwnSet
import Derived.DeepKeys4
namespace Go.Proofs.Ytggkggaihfcjmaa
open Go.RowKit
set_option linter.unusedVariables false

def zGV : GV := ⟨0, 0, ByteArray.empty⟩
/-- A row behind which zero values stand, eight in all. -/
def pad (r : List GV) : List GV := r ++ List.replicate (8 - r.length) zGV
theorem pad_length {r : List GV} (h : r.length ≤ 8) : (pad r).length = 8 := by simp [pad]; omega
theorem pad_mem {r : List GV} {v : GV} (h : v ∈ pad r) : v ∈ r ∨ v = zGV := by
  unfold pad at h
  rw [List.mem_append] at h
  exact h.imp id (fun h => (List.mem_replicate.1 h).2)
def keyV (r : List GV) : Value := .agg (flat (pad r)).toArray
theorem laidOutP : laidOutB Try.prog = true := by kernel_rfl
theorem keyRow : (83 : TypeId) < Try.prog.types.size := of_decide_eq_true (by kernel_rfl)
theorem keyDeep : Try.prog.keyTypeAt 4 83 = true := by kernel_rfl
theorem keyCells : Try.prog.cellsOf 83 = 24 := by kernel_rfl
theorem valCells : Try.prog.cellsOf 52 = 3 := by kernel_rfl
theorem keyArr : Try.prog.underlying 83 = some (.array 8 52) := by kernel_rfl
theorem keyTy : Try.prog.keyType 83 = true := by kernel_rfl
theorem keyK : Maps.Keyed Try.prog 83 := Maps.Keyed.of_law (deep_law_laid laidOutP (m := 4) (by omega) keyRow keyDeep (by rw [keyArr]))
theorem lits_int {d : Nat} {n : Int} (h : (Lit.int .i64 n).wf = true) : Try.prog.keyLits (d + 1) 2 [.int .i64 n] = some [.int .i64 n] := by
  unfold Program.keyLits
  rw [Try.underlying2]
  simp [h]
theorem lits_str {d : Nat} {t : ByteArray} (h : t.size ≤ maxLen) : Try.prog.keyLits (d + 1) 9 [.string t] = some [.string t.data.toList] := by
  unfold Program.keyLits
  rw [Try.underlying9]
  simp [h]
theorem val_lits {d : Nat} {v : GV} (h : v.fit) : Try.prog.keyLits (d + 2) 52 [.int .i64 v.k, .int .i64 v.n, .string v.t] = some [.int .i64 v.k, .int .i64 v.n, .string v.t.data.toList] := by
  obtain ⟨h1, h2, h3⟩ := h
  have c1 : Try.prog.cellsOf 2 = 1 := by kernel_rfl
  have c2 : Try.prog.cellsOf 9 = 1 := by kernel_rfl
  unfold Program.keyLits
  rw [Try.underlying52]
  simp [valCells, c1, c2, lits_int h1, lits_int h2, lits_str h3]
theorem zGV_fit : zGV.fit := ⟨by decide, by decide, by decide⟩
theorem eight {α : Type} {l : List α} (h : l.length = 8) : ∃ a b c d e f g i, l = [a, b, c, d, e, f, g, i] := by
  match l, h with
  | [a, b, c, d, e, f, g, i], _ => exact ⟨a, b, c, d, e, f, g, i, rfl⟩
def litsOf : List GV → List Lit
  | [] => []
  | v :: vs => .int .i64 v.k :: .int .i64 v.n :: .string v.t.data.toList :: litsOf vs
/-- What a row's key reads as. -/
def klOf (r : List GV) : Lit := .string (keyBytes (litsOf (pad r)))
theorem typesBig : 2 ≤ Try.prog.types.size := of_decide_eq_true (by kernel_rfl)
theorem key_is {r : List GV} (hl : r.length ≤ 8) (hf : ∀ v ∈ r, v.fit) : keyOf Try.prog 83 (keyV r) = some (klOf r) := by
  have hf' : ∀ v ∈ pad r, v.fit := fun v hv => by
    rcases pad_mem hv with h | rfl
    · exact hf v h
    · exact zGV_fit
  obtain ⟨a, b, c, d, e, f, g, i, hp⟩ := eight (pad_length hl)
  unfold keyV klOf
  rw [hp] at hf' ⊢
  have ht : Try.prog.types.size + 1 = (Try.prog.types.size - 2 + 2) + 1 := by have := typesBig; omega
  have fm : (Value.agg (flat [a, b, c, d, e, f, g, i]).toArray).formed Try.prog 83 = true := by
    simp [Value.formed, keyCells, flat]
  unfold keyOf
  rw [keyArr]
  simp only [keyTy, fm, Bool.and_self, if_true]
  rw [ht]
  unfold Program.keyLits
  rw [keyArr]
  simp [Value.cells, keyCells, valCells, flat, litsOf, List.range, List.range.loop, val_lits (hf' a (by simp)), val_lits (hf' b (by simp)), val_lits (hf' c (by simp)), val_lits (hf' d (by simp)), val_lits (hf' e (by simp)), val_lits (hf' f (by simp)), val_lits (hf' g (by simp)), val_lits (hf' i (by simp))]
theorem flat_inj : ∀ a b : List GV, flat a = flat b → a = b
  | [], [], _ => rfl
  | [], _ :: _, h => by simp [flat] at h
  | _ :: _, [], h => by simp [flat] at h
  | x :: a, y :: b, h => by
    simp only [flat, List.cons.injEq, Value.int.injEq, Value.string.injEq, true_and] at h
    obtain ⟨h1, h2, h3, h4⟩ := h
    rw [flat_inj a b h4]
    cases x; cases y; simp_all
end Go.Proofs.Ytggkggaihfcjmaa
