/-
  spec.l2Parts.
-/
import Derived.Test.YteoepnadjkjlmaaGreatReckMZ
namespace Go.Proofs.YteoepnadjkjlmaaGreat
open Go.RowKit Go.Sort
set_option linter.unusedVariables false

theorem NodesAt.sub {w : World} {lo B g o : Nat} {xs : List GNode} (h : NodesAt w lo B (some ⟨g, o, none⟩) xs) (i m : Nat) : NodesAt w lo B (some ⟨g, o + i * 6, none⟩) ((xs.drop i).take m) := by
  rcases h with h | ⟨g', o', he, h1, h2, h3⟩
  · exact .inl (by rw [h]; simp)
  · cases he
    refine .inr ⟨g, o + i * 6, rfl, h1, h2, fun j y hy => ?_⟩
    rw [List.getElem?_take] at hy
    split at hy
    · rw [List.getElem?_drop] at hy
      have := h3 (i + j) y hy
      rwa [show o + (i + j) * 6 = o + i * 6 + j * 6 by rw [Nat.add_mul]; omega] at this
    · cases hy
def PartsPost (lo : Nat) (w : World) (L R : List GNode) (e : Ending) (w' : World) : Prop := ∃ (A1 A2 : Option Addr) (c1 c2 : Nat), e = .returned (.tuple #[.slice A1 L.length c1, .slice A2 R.length c2]) ∧ CapOk L.length c1 ∧ CapOk R.length c2 ∧ NodesAt w' lo w'.heap.size A1 L ∧ NodesAt w' lo w'.heap.size A2 R ∧ Below w.heap.size w w'
set_option maxRecDepth 100000 in
set_option maxHeartbeats 1600000 in
theorem spec_parts {lo : Nat} (es : List GNode) (s g o c : Nat) (w : World) (f : GNode) (h1 : es[1]? = some f) (hs : f.size = (s : Int)) (hs1 : s + 3 ≤ es.length) (hl : es.length ≤ 1000) (hc : es.length ≤ c) (hc2 : c ≤ 9223372036854775807) (hr : NodesAt w lo w.heap.size (some ⟨g, o, none⟩) es) :
    Calls Tryz.prog 69 #[.slice (some ⟨g, o, none⟩) es.length c] w (PartsPost lo w ((es.drop 1).take (s + 1)) (es.drop (s + 2))) := by
  have hS1 := hr.sub 1 (s + 1)
  have hS2 := hr.sub (s + 2) es.length
  have hc5 : w.cell? ⟨g, o + 6 + 5, none⟩ = some (.int .i64 (s : Int)) := by
    rcases hr with h | ⟨g', o', he, q1, q2, h3⟩
    · rw [h] at h1; cases h1
    · cases he
      have := (h3 1 f h1).2.2.2.2.2
      rw [hs] at this
      simpa using this
  have hlen : (1 : Int) < (es.length : Int) := by omega
  have e1 : IntKind.i64.wrap (2 + (s : Int)) = ((s + 2 : Nat) : Int) := by rw [IntKind.wrap_i64]; omega
  have b1 : ((s + 2 : Nat) : Int) ≤ (c : Int) := by omega
  have b2 : ((s + 2 : Nat) : Int) ≤ (es.length : Int) := by omega
  go_enter Tryz.func69, Tryz.ntmps69
  go_wp2_with fail
  go_region
  have hLl : ((es.drop 1).take (s + 1)).length = s + 2 - 1 := by rw [List.length_take, List.length_drop]; omega
  have hRl : (es.drop (s + 2)).length = es.length - (s + 2) := List.length_drop
  have hB : Below w.heap.size w w.drew := (Below.refl _ _).drew
  rw [List.take_of_length_le (by rw [hRl]; omega)] at hS2
  have HF : Hid (PartsPost lo w ((es.drop 1).take (s + 1)) (es.drop (s + 2)) (.returned (.tuple #[.slice (some ⟨g, o + 6, none⟩) (s + 2 - 1) (c - 1), .slice (some ⟨g, o + (s + 2) * 6, none⟩) (es.length - (s + 2)) (c - (s + 2))])) w.drew) := Lib.hid ⟨_, _, c - 1, c - (s + 2), by rw [hLl, hRl], ⟨by rw [hLl]; omega, by omega⟩, ⟨by rw [hRl]; omega, by omega⟩, hS1.to_ hB, hS2.to_ hB, hB⟩
  clear hLl hRl hS1 hS2 hB hr hc5
  go_wp2_with fail
  go_ret2
  exact HF.out
end Go.Proofs.YteoepnadjkjlmaaGreat
