/-
  impl.shownText: add and text.
-/
import Derived.Test.YtakidcehebpmkaaDoorRowOk
import Derived.Test.YtakidcehebpmkaaDoorMake
import Derived.Lib.BufferWrite
import Derived.Lib.UnsafeStr
import Derived.Laws.CopyOwn
import Derived.Deep.RegionHeld3
import Derived.Deep.RegionLaw
namespace Go.Proofs.YtakidcehebpmkaaDoor
open Go.RowKit
set_option linter.unusedVariables false

/-- The block b is a shownText that holds the bytes l. -/
def Shown (w : World) (b : Nat) (l : List UInt8) : Prop :=
  ∃ rest : List Value, l.length + rest.length = 992 ∧ Whole w b 55 (Lib.byteCells l ++ rest ++ [.int .i64 l.length])

def zeroRest : List Value := List.replicate 992 (Value.int .u8 0)
theorem zero_shown : Tryd.zeroCells55 = (zeroRest ++ [Value.int .i64 0]).toArray := by kernel_rfl
theorem zeroRest_len : zeroRest.length = 992 := List.length_replicate
theorem shown_new (w : World) : Shown (w.alloc (.cells Tryd.zeroCells55 55)) w.heap.size [] := by
  refine ⟨zeroRest, by rw [zeroRest_len]; rfl, ?_⟩
  rw [zero_shown]
  exact Whole.new w _ (zeroRest ++ [Value.int .i64 0])
theorem Shown.below {w w' : World} {B b : Nat} {l : List UInt8} (h : Shown w b l) (hb : Below B w w') (hB : b < B) : Shown w' b l := by
  obtain ⟨rest, hl, hw⟩ := h
  exact ⟨rest, hl, hw.below hb hB⟩
theorem Shown.lt {w : World} {b : Nat} {l : List UInt8} (h : Shown w b l) : b < w.heap.size := by
  obtain ⟨rest, hl, hw⟩ := h
  exact hw.lt

/-- copy of a text, in a region that draws its order. -/
theorem step_copy_run {P : Program} {ops : Array Oper} {o : Oper} {a : Act} {w w1 : World} {K : Act → World → Prop} {Q : Exit → Act → World → Prop} {E : Prop} (hgd : o.guard = none) (d s : Operand) (dT sT : TypeId)
    (ho : o.op = .call { callee := .builtin .copy, args := #[d, s], argTypes := #[dT, sT] }) (v1 v2 : Value) (hd : a.eval d = v1) (hs : a.eval s = v2) (n : Nat)
    (hrun : (Builtin.copy_ #[dT, sT] o.type #[v1, v2]).run P w = .ok (goInt n) w1) (h : K (a.put o.dst (goInt n)) w1) :
    if Region.wanted o (yielded ops a.tmps) = true then Oper.wp P o a w K Q else E := by
  have hw : Region.wanted o (yielded ops a.tmps) = true := by simp [Region.wanted, hgd]
  rw [if_pos hw]
  unfold Oper.wp
  simp [execOp, ho, resolve, invoke, builtin, hd, hs, hrun, Result.andThen]
  exact h

theorem splice_take (l : List UInt8) (rest : List Value) (x : Value) : (Lib.byteCells l ++ rest ++ [x]).take l.length = Lib.byteCells l := by
  rw [List.append_assoc, List.take_append_of_le_length (by rw [Lib.byteCells_length]; exact Nat.le_refl _), List.take_of_length_le (by rw [Lib.byteCells_length]; exact Nat.le_refl _)]
theorem splice_drop (l : List UInt8) (rest : List Value) (x : Value) (n : Nat) (h : n ≤ rest.length) : (Lib.byteCells l ++ rest ++ [x]).drop (l.length + n) = rest.drop n ++ [x] := by
  have e : (Lib.byteCells l ++ rest ++ [x]).drop l.length = rest ++ [x] := by
    rw [List.append_assoc, ← Lib.byteCells_length l, List.drop_left]
  rw [← List.drop_drop, e, List.drop_append_of_le_length h]
theorem set_last (a : List Value) (x y : Value) (n : Nat) (h : a.length = n) : (a ++ [x]).set n y = a ++ [y] := by
  subst h; simp
theorem setRow_far (w : World) (g k : Nat) (cs : Array Value) (h : k ≠ g) : (w.setRow g cs).heap[k]? = w.heap[k]? := by
  unfold World.setRow
  simp only [Array.getElem?_modify]
  rw [if_neg (by omega)]
/-- What add leaves. -/
def AddPost (w : World) (b : Nat) (l : List UInt8) (e : Ending) (w' : World) : Prop := e = .returned (.tuple #[]) ∧ Shown w' b l ∧ w.grownBy w' (some b)

theorem infoB : (Tryd.prog.info? 5).map (·.size) = some 1 := by kernel_rfl

set_option maxHeartbeats 1600000 in
theorem add_text (b : Nat) (l : List UInt8) (s : ByteArray) (w : World) (hb : Shown w b l) (hl : l.length + s.size ≤ 992) (hl2 : l.length < 992) :
    Calls Tryd.prog 46 #[.pointer (some ⟨b, 0, none⟩), .string s] w (AddPost w b (l ++ s.data.toList)) := by
  obtain ⟨rest, hlen, hw⟩ := hb
  have hbl : (Lib.byteCells l).length = l.length := Lib.byteCells_length l
  have hsize : w.cell? ⟨b, 992, none⟩ = some (.int .i64 l.length) := by
    rw [hw.cell, List.getElem?_append_right (by simp [hbl]; omega)]
    simp [hbl, hlen]
  have hfr : w.frozen? ⟨b, 992, none⟩ = false := hw.frozen 992
  obtain ⟨cs, hcs⟩ : ∃ cs : List Value, cs = Lib.byteCells l ++ rest ++ [.int .i64 l.length] := ⟨_, rfl⟩
  rw [← hcs] at hw
  have hcl : cs.length = 993 := by rw [hcs]; simp [hbl]; omega
  obtain ⟨cs2, hcs2⟩ : ∃ cs2 : List Value, cs2 = cs.take l.length ++ Lib.byteCells s.data.toList ++ cs.drop (l.length + s.size) := ⟨_, rfl⟩
  obtain ⟨w1, hw1⟩ : ∃ w1, w1 = w.drew.setRow b cs2.toArray := ⟨_, rfl⟩
  have hrun : ∀ ty, (Builtin.copy_ #[22, 9] ty #[.slice (some ⟨b, l.length, none⟩) (992 - l.length) (992 - l.length), .string s]).run Tryd.prog w.drew = .ok (goInt s.size) w1 := fun ty => by
    rw [hw1, hcs2]
    exact Lib.run_copy_row_string (P := Tryd.prog) w.drew 22 9 ty 5 b l.length (992 - l.length) (992 - l.length) s cs.toArray 55 Tryd.underlying22 infoB hw.drew (by omega) (by simp [hcl]; omega)
  have hW1 : Whole w1 b 55 cs2 := by rw [hw1]; exact setRow_heap w.drew b _ _ _ _ hw.drew
  have HS := Lib.hid (show cs2[992]? = some (Value.int .i64 l.length) by
    rw [hcs2, List.getElem?_append_right (by simp [Lib.byteCells_length]; omega), List.getElem?_drop]
    have e : l.length + s.size + (992 - (cs.take l.length ++ Lib.byteCells s.data.toList).length) = 992 := by simp [Lib.byteCells_length]; omega
    rw [e, ← hw.cell]; exact hsize)
  have HR := Lib.hid hrun
  have HC := Lib.hid hcs
  have HC2 := Lib.hid hcs2
  have HW1 := Lib.hid hW1
  have HL := Lib.hid hcl
  have HE := Lib.hid hw1
  have HLN := Lib.hid hlen
  clear hrun hcs hcs2 hw1 hW1 hcl hlen hbl
  have HF := Lib.hid (show AddPost w b (l ++ s.data.toList) (.returned (.tuple #[])) (w1.setCell ⟨b, 992, none⟩ (.int .i64 ((l.length : Int) + (s.size : Int)))) by
    have hsz : s.data.toList.length = s.size := by rw [Array.length_toList]; rfl
    have hrl := HLN.out
    refine ⟨rfl, ⟨rest.drop s.size, by simp only [List.length_append, List.length_drop, hsz]; omega, ?_⟩, ?_⟩
    · have h := HW1.out.set_ 992 (.int .i64 ((l.length : Int) + (s.size : Int)))
      rw [HC2.out, HC.out, splice_take, splice_drop _ _ _ _ (by omega), ← List.append_assoc, set_last _ _ _ _ (by simp only [List.length_append, List.length_drop, Lib.byteCells_length, hsz]; omega)] at h
      rw [Lib.byteCells_append, List.length_append, hsz, Int.natCast_add]
      exact h
    · rw [HE.out]
      refine ⟨rfl, rfl, rfl, by simp [World.setCell], fun k hk hne => ?_⟩
      have hkb : k ≠ b := fun e => hne (by rw [e])
      rw [Below.heap_setCell _ _ _ _ (by exact hkb), setRow_far _ _ _ _ hkb]
      rfl)
  have hi0 : (0 : Int) ≤ (l.length : Int) := by omega
  have hi1 : (l.length : Int) ≤ 992 := by omega
  go_enter Tryd.func46, Tryd.ntmps46
  go_wp2_with fail
  have hne : ¬ 992 = l.length := by omega
  have hne2 : ¬ l.length = 992 := by omega
  have hc1 : w1.cell? ⟨b, 992, none⟩ = some (.int .i64 l.length) := by rw [HW1.out.cell]; exact HS.out
  have hf1 : w1.frozen? ⟨b, 992, none⟩ = false := HW1.out.frozen 992
  have e1 : IntKind.i64.wrap ((l.length : Int) + (s.size : Int)) = (l.length : Int) + (s.size : Int) := by rw [IntKind.wrap_i64]; omega
  go_region_law (first
      | (refine step_copy_run (w1 := w1) (by rfl) _ _ _ _ (by rfl) (.slice (some ⟨b, l.length, none⟩) (992 - l.length) (992 - l.length)) (.string s) (by rfl) (by rfl) s.size (HR.out _) ?_))
  all_goals go_end0
  all_goals exact HF.out
end Go.Proofs.YtakidcehebpmkaaDoor
