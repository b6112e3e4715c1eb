/-
  A table whose rows are blocks of their own. Decimal digits.
-/
import Derived.Test.YtpipikjkhmhmhaaTabMath
import Derived.Test.YtpipikjkhmhmhaaTabMZ
import Derived.Test.YtpipikjkhmhmhaaMakeZ
import Derived.Lib.ItoaLen
namespace Go.Proofs.Ytpipikjkhmhmhaa
open Go.RowKit Go.Sort
set_option linter.unusedVariables false

def headV (p : PR) : Value := .slice (some ⟨p.1, 0, none⟩) p.2.length p.2.length
def Own (w : World) (ps : List PR) : Prop := ∀ p ∈ ps, Whole w p.1 28 (flat p.2)
/-- A table: its outer block's cells begin with the heads of ps; l lies behind. -/
def OutAt (w : World) (g : Nat) (ps : List PR) (l : List Value) : Prop := Whole w g 29 (ps.map headV ++ l) ∧ Own w ps ∧ ∀ p ∈ ps, p.1 ≠ g
theorem Own.row {w : World} {ps : List PR} (h : Own w ps) {p : PR} (hp : p ∈ ps) : RowAt w w.heap.size (some ⟨p.1, 0, none⟩) p.2 := (h p hp).row (h p hp).lt
theorem OutAt.tab {w : World} {g : Nat} {ps : List PR} {l : List Value} (h : OutAt w g ps l) : TabAt w w.heap.size (some ⟨g, 0, none⟩) (ps.map (·.2)) := by
  refine .inr ⟨g, 0, rfl, h.1.lt, fun i r hr => ?_⟩
  rw [List.getElem?_map, Option.map_eq_some_iff] at hr
  obtain ⟨p, hp, rfl⟩ := hr
  have hi : i < ps.length := (List.getElem?_eq_some_iff.1 hp).1
  refine ⟨some ⟨p.1, 0, none⟩, p.2.length, ?_, h.2.1.row (List.mem_of_getElem? hp)⟩
  rw [h.1.cell, Nat.zero_add, List.getElem?_append_left (by simpa using hi), List.getElem?_map, hp]
  rfl
theorem OutAt.below {w w' : World} {g : Nat} {ps : List PR} {l : List Value} (h : OutAt w g ps l) (hb : Below w.heap.size w w') : OutAt w' g ps l :=
  ⟨h.1.below hb h.1.lt, fun p hp => (h.2.1 p hp).below hb (h.2.1 p hp).lt, h.2.2⟩

end Go.Proofs.Ytpipikjkhmhmhaa
namespace Go.Proofs.Ytpipikjkhmhmhaa
open Go.RowKit
set_option linter.unusedVariables false

theorem digits_step (m : Nat) (h : 9 < m) : Lib.decDigits m = Lib.decDigits (m / 10) ++ [UInt8.ofNat (48 + m % 10)] := by
  rw [Lib.decDigits, dif_neg (by omega)]
theorem digits_small (m : Nat) (h : m ≤ 9) : Lib.decDigits m = [UInt8.ofNat (48 + m)] := by
  rw [Lib.decDigits, dif_pos (by omega)]
theorem digits_pos (m : Nat) : 1 ≤ (Lib.decDigits m).length := by
  by_cases h : 9 < m
  · rw [digits_step m h]; simp
  · rw [digits_small m (by omega)]; simp
theorem digits_len (n : Nat) (h : n ≤ 1000000000) : (Lib.decDigits n).length ≤ 21 := by
  have h := Lib.itoa_length_le (n : Int) (by omega) (by omega)
  unfold Lib.itoa at h
  rw [if_neg (by omega)] at h
  simpa using h
theorem digits_rest {m n : Nat} {l : List UInt8} (h : Lib.decDigits m ++ l = Lib.decDigits n) (hn : n ≤ 1000000000) : l.length ≤ 20 := by
  have h1 := digits_pos m
  have h2 := digits_len n hn
  rw [← h, List.length_append] at h2
  omega
theorem ofNat_add (m : Nat) : UInt8.ofNat (48 + m) = 48 + UInt8.ofNat m := by simp
theorem str_cons (c : UInt8) (l : List UInt8) : (⟨#[c]⟩ ++ ⟨l.toArray⟩ : ByteArray) = ⟨(c :: l).toArray⟩ := by
  apply ByteArray.ext
  simp [ByteArray.data_append]
theorem conv_one (d : Nat) (hd : d < 256) (w : World) :
    (convert 22 9 (.slice (some ⟨w.heap.size, 0, none⟩) 1 1)).run Try.prog (w.alloc (.cells #[.int .u8 (d : Int)] 5)) = .ok (.string ⟨#[UInt8.ofNat d]⟩) (w.alloc (.cells #[.int .u8 (d : Int)] 5)) := by
  have h := run_convert_bytes_back (P := Try.prog) (w.alloc (.cells #[.int .u8 (d : Int)] 5)) 22 9 5 ⟨w.heap.size, 0, none⟩ 1 [UInt8.ofNat d] Try.underlying22 Try.underlying5 Try.underlying9 (fun j hj => by
    obtain rfl : j = 0 := by simpa using hj
    have e : (⟨w.heap.size, 0, none⟩ : Addr).add 0 = ⟨w.heap.size, 0, none⟩ := rfl
    rw [e]
    have hu : (UInt8.ofNat d).toNat = d := by simp; omega
    simp only [List.getElem_cons_zero, hu]
    go_simp)
  exact h
end Go.Proofs.Ytpipikjkhmhmhaa
