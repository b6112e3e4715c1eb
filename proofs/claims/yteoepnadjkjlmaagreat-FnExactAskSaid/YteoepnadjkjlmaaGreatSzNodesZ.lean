/-
  Texts in memory. Nodes in memory. How the laws measure nodes. How the laws measure lists of expressions.
-/
import Derived.Test.YteoepnadjkjlmaaGreatTyZ
import Derived.Test.YteoepnadjkjlmaaGreatRowStZ
import Derived.Test.YteoepnadjkjlmaaGreatSzValZ
namespace Go.Proofs.YteoepnadjkjlmaaGreat
open Go.RowKit Go.Sort
set_option linter.unusedVariables false

def StrAt (w : World) (lo B g o : Nat) (x : ByteArray) : Prop := w.cell? ⟨g, o, none⟩ = some (.string x)
theorem StrAt.same {w w' : World} {lo B g o : Nat} {x : ByteArray} (h : StrAt w lo B g o x) (hc : ∀ j, j < 1 → w'.cell? ⟨g, o + j, none⟩ = w.cell? ⟨g, o + j, none⟩) (hs : ∀ b, lo ≤ b → b < B → w'.heap[b]? = w.heap[b]?) : StrAt w' lo B g o x := by
  have h0 := h
  exact (hc 0 (by omega)).trans h0
theorem StrAt.mono {w : World} {lo lo' B B' g o : Nat} {x : ByteArray} (h : StrAt w lo B g o x) (hlo : lo' ≤ lo) (hB : B ≤ B') : StrAt w lo' B' g o x := by
  have h0 := h
  exact h0
def StrsAt (w : World) (lo B : Nat) (A : Option Addr) (xs : List (ByteArray)) : Prop := xs = [] ∨ ∃ g o, A = some ⟨g, o, none⟩ ∧ lo ≤ g ∧ g < B ∧ ∀ i x, xs[i]? = some x → StrAt w lo B g (o + i) x
theorem StrsAt.keep {w w' : World} {lo B : Nat} {A : Option Addr} {xs : List (ByteArray)} (h : StrsAt w lo B A xs) (hs : ∀ b, lo ≤ b → b < B → w'.heap[b]? = w.heap[b]?) : StrsAt w' lo B A xs := by
  rcases h with h | ⟨g, o, hA, h1, h2, hc⟩
  · exact .inl h
  · exact .inr ⟨g, o, hA, h1, h2, fun i x hx => (hc i x hx).same (fun j _ => World.cell?_of_block (w := w) (w' := w') (hs g h1 h2)) hs⟩
theorem StrsAt.mono {w : World} {lo lo' B B' : Nat} {A : Option Addr} {xs : List (ByteArray)} (h : StrsAt w lo B A xs) (hlo : lo' ≤ lo) (hB : B ≤ B') : StrsAt w lo' B' A xs := by
  rcases h with h | ⟨g, o, hA, h1, h2, hc⟩
  · exact .inl h
  · exact .inr ⟨g, o, hA, by omega, by omega, fun i x hx => (hc i x hx).mono hlo hB⟩
theorem StrsAt.to_ {w w' : World} {lo : Nat} {A : Option Addr} {xs : List (ByteArray)} (h : StrsAt w lo w.heap.size A xs) (hb : Below w.heap.size w w') : StrsAt w' lo w'.heap.size A xs := (h.keep (fun b _ hb' => hb.block b hb')).mono (Nat.le_refl _) hb.size
theorem StrsAt.at_ {w : World} {lo B : Nat} {A : Option Addr} {xs : List (ByteArray)} (h : StrsAt w lo B A xs) {i : Nat} (hi : i < xs.length) : ∃ g o, A = some ⟨g, o, none⟩ ∧ lo ≤ g ∧ g < B ∧ StrAt w lo B g (o + i) xs[i] := by
  rcases h with h | ⟨g, o, hA, h1, h2, hc⟩
  · subst h; simp at hi
  · exact ⟨g, o, hA, h1, h2, hc i _ (List.getElem?_eq_getElem hi)⟩
def fitStr (x : ByteArray) : Prop := x.size ≤ maxLen
def costStr (x : ByteArray) : Nat := x.size
def fitStrs (xs : List (ByteArray)) : Prop := xs.length ≤ maxLen ∧ ∀ x ∈ xs, fitStr x
def costStrs (xs : List (ByteArray)) : Nat := xs.length + sumC costStr xs

end Go.Proofs.YteoepnadjkjlmaaGreat
namespace Go.Proofs.YteoepnadjkjlmaaGreat
open Go.RowKit Go.Sort
set_option linter.unusedVariables false

structure GNode where
  k : Int
  name : ByteArray
  v : GV
  size : Int
def NodeAt (w : World) (lo B g o : Nat) (x : GNode) : Prop := w.cell? ⟨g, o, none⟩ = some (.int .i64 x.k) ∧ w.cell? ⟨g, o + 1, none⟩ = some (.string x.name) ∧ w.cell? ⟨g, o + 2, none⟩ = some (.int .i64 x.v.k) ∧ w.cell? ⟨g, o + 3, none⟩ = some (.int .i64 x.v.n) ∧ w.cell? ⟨g, o + 4, none⟩ = some (.string x.v.t) ∧ w.cell? ⟨g, o + 5, none⟩ = some (.int .i64 x.size)
theorem NodeAt.same {w w' : World} {lo B g o : Nat} {x : GNode} (h : NodeAt w lo B g o x) (hc : ∀ j, j < 6 → w'.cell? ⟨g, o + j, none⟩ = w.cell? ⟨g, o + j, none⟩) (hs : ∀ b, lo ≤ b → b < B → w'.heap[b]? = w.heap[b]?) : NodeAt w' lo B g o x := by
  obtain ⟨h0, h1, h2, h3, h4, h5⟩ := h
  exact ⟨(hc 0 (by omega)).trans h0, (hc 1 (by omega)).trans h1, (hc 2 (by omega)).trans h2, (hc 3 (by omega)).trans h3, (hc 4 (by omega)).trans h4, (hc 5 (by omega)).trans h5⟩
theorem NodeAt.mono {w : World} {lo lo' B B' g o : Nat} {x : GNode} (h : NodeAt w lo B g o x) (hlo : lo' ≤ lo) (hB : B ≤ B') : NodeAt w lo' B' g o x := by
  obtain ⟨h0, h1, h2, h3, h4, h5⟩ := h
  exact ⟨h0, h1, h2, h3, h4, h5⟩
def NodesAt (w : World) (lo B : Nat) (A : Option Addr) (xs : List (GNode)) : Prop := xs = [] ∨ ∃ g o, A = some ⟨g, o, none⟩ ∧ lo ≤ g ∧ g < B ∧ ∀ i x, xs[i]? = some x → NodeAt w lo B g (o + i * 6) x
theorem NodesAt.keep {w w' : World} {lo B : Nat} {A : Option Addr} {xs : List (GNode)} (h : NodesAt w lo B A xs) (hs : ∀ b, lo ≤ b → b < B → w'.heap[b]? = w.heap[b]?) : NodesAt w' lo B A xs := by
  rcases h with h | ⟨g, o, hA, h1, h2, hc⟩
  · exact .inl h
  · exact .inr ⟨g, o, hA, h1, h2, fun i x hx => (hc i x hx).same (fun j _ => World.cell?_of_block (w := w) (w' := w') (hs g h1 h2)) hs⟩
theorem NodesAt.mono {w : World} {lo lo' B B' : Nat} {A : Option Addr} {xs : List (GNode)} (h : NodesAt w lo B A xs) (hlo : lo' ≤ lo) (hB : B ≤ B') : NodesAt w lo' B' A xs := by
  rcases h with h | ⟨g, o, hA, h1, h2, hc⟩
  · exact .inl h
  · exact .inr ⟨g, o, hA, by omega, by omega, fun i x hx => (hc i x hx).mono hlo hB⟩
theorem NodesAt.to_ {w w' : World} {lo : Nat} {A : Option Addr} {xs : List (GNode)} (h : NodesAt w lo w.heap.size A xs) (hb : Below w.heap.size w w') : NodesAt w' lo w'.heap.size A xs := (h.keep (fun b _ hb' => hb.block b hb')).mono (Nat.le_refl _) hb.size
theorem NodesAt.at_ {w : World} {lo B : Nat} {A : Option Addr} {xs : List (GNode)} (h : NodesAt w lo B A xs) {i : Nat} (hi : i < xs.length) : ∃ g o, A = some ⟨g, o, none⟩ ∧ lo ≤ g ∧ g < B ∧ NodeAt w lo B g (o + i * 6) xs[i] := by
  rcases h with h | ⟨g, o, hA, h1, h2, hc⟩
  · subst h; simp at hi
  · exact ⟨g, o, hA, h1, h2, hc i _ (List.getElem?_eq_getElem hi)⟩
def fitNode (x : GNode) : Prop := (Lit.int .i64 x.k).wf = true ∧ x.name.size ≤ maxLen ∧ (Lit.int .i64 x.v.k).wf = true ∧ (Lit.int .i64 x.v.n).wf = true ∧ x.v.t.size ≤ maxLen ∧ (Lit.int .i64 x.size).wf = true
def costNode (x : GNode) : Nat := x.name.size + costValue x.v
def fitNodes (xs : List (GNode)) : Prop := xs.length ≤ maxLen ∧ ∀ x ∈ xs, fitNode x
def costNodes (xs : List (GNode)) : Nat := xs.length + sumC costNode xs

def NodeSAt (w : World) (lo B g o : Nat) (x : List GNode) : Prop := ∃ A c, (w.cell? ⟨g, o, none⟩ = some (.slice A x.length c) ∧ CapOk x.length c) ∧ NodesAt w lo B A x
theorem NodeSAt.same {w w' : World} {lo B g o : Nat} {x : List GNode} (h : NodeSAt w lo B g o x) (hc : ∀ j, j < 1 → w'.cell? ⟨g, o + j, none⟩ = w.cell? ⟨g, o + j, none⟩) (hs : ∀ b, lo ≤ b → b < B → w'.heap[b]? = w.heap[b]?) : NodeSAt w' lo B g o x := by
  have h0 := h
  exact (by obtain ⟨A, c, a1, a2⟩ := h0; exact ⟨A, c, ⟨(hc 0 (by omega)).trans a1.1, a1.2⟩, a2.keep hs⟩)
theorem NodeSAt.mono {w : World} {lo lo' B B' g o : Nat} {x : List GNode} (h : NodeSAt w lo B g o x) (hlo : lo' ≤ lo) (hB : B ≤ B') : NodeSAt w lo' B' g o x := by
  have h0 := h
  exact (by obtain ⟨A, c, a1, a2⟩ := h0; exact ⟨A, c, a1, a2.mono hlo hB⟩)
def NodeSsAt (w : World) (lo B : Nat) (A : Option Addr) (xs : List (List GNode)) : Prop := xs = [] ∨ ∃ g o, A = some ⟨g, o, none⟩ ∧ lo ≤ g ∧ g < B ∧ ∀ i x, xs[i]? = some x → NodeSAt w lo B g (o + i) x
theorem NodeSsAt.keep {w w' : World} {lo B : Nat} {A : Option Addr} {xs : List (List GNode)} (h : NodeSsAt w lo B A xs) (hs : ∀ b, lo ≤ b → b < B → w'.heap[b]? = w.heap[b]?) : NodeSsAt w' lo B A xs := by
  rcases h with h | ⟨g, o, hA, h1, h2, hc⟩
  · exact .inl h
  · exact .inr ⟨g, o, hA, h1, h2, fun i x hx => (hc i x hx).same (fun j _ => World.cell?_of_block (w := w) (w' := w') (hs g h1 h2)) hs⟩
theorem NodeSsAt.mono {w : World} {lo lo' B B' : Nat} {A : Option Addr} {xs : List (List GNode)} (h : NodeSsAt w lo B A xs) (hlo : lo' ≤ lo) (hB : B ≤ B') : NodeSsAt w lo' B' A xs := by
  rcases h with h | ⟨g, o, hA, h1, h2, hc⟩
  · exact .inl h
  · exact .inr ⟨g, o, hA, by omega, by omega, fun i x hx => (hc i x hx).mono hlo hB⟩
theorem NodeSsAt.to_ {w w' : World} {lo : Nat} {A : Option Addr} {xs : List (List GNode)} (h : NodeSsAt w lo w.heap.size A xs) (hb : Below w.heap.size w w') : NodeSsAt w' lo w'.heap.size A xs := (h.keep (fun b _ hb' => hb.block b hb')).mono (Nat.le_refl _) hb.size
theorem NodeSsAt.at_ {w : World} {lo B : Nat} {A : Option Addr} {xs : List (List GNode)} (h : NodeSsAt w lo B A xs) {i : Nat} (hi : i < xs.length) : ∃ g o, A = some ⟨g, o, none⟩ ∧ lo ≤ g ∧ g < B ∧ NodeSAt w lo B g (o + i) xs[i] := by
  rcases h with h | ⟨g, o, hA, h1, h2, hc⟩
  · subst h; simp at hi
  · exact ⟨g, o, hA, h1, h2, hc i _ (List.getElem?_eq_getElem hi)⟩
def fitNodeS (x : List GNode) : Prop := fitNodes x
def costNodeS (x : List GNode) : Nat := costNodes x
def fitNodeSs (xs : List (List GNode)) : Prop := xs.length ≤ maxLen ∧ ∀ x ∈ xs, fitNodeS x
def costNodeSs (xs : List (List GNode)) : Nat := xs.length + sumC costNodeS xs

end Go.Proofs.YteoepnadjkjlmaaGreat
namespace Go.Proofs.YteoepnadjkjlmaaGreat
open Go.RowKit Go.Sort
set_option linter.unusedVariables false

set_option maxHeartbeats 1600000 in
theorem sz_Node (x : GNode) (left : Int) (w : World) (hf : fitNode x) (h0 : 0 ≤ left) (h1 : left ≤ 1048576) :
    Calls Tryz.prog 63 #[.agg #[.int .i64 x.k, .string x.name, .int .i64 x.v.k, .int .i64 x.v.n, .string x.v.t, .int .i64 x.size], .int .i64 left] w fun e w' => e = .returned (.int .i64 (szC (costNode x) left)) ∧ Below w.heap.size w w' := by
  have F := Lib.hid hf
  clear hf
  have m1 : x.name.size ≤ 9223372036854775807 := by have h := F.out.2.1; unfold maxLen at h; exact h
  have m4 : x.v.t.size ≤ 9223372036854775807 := by have h := F.out.2.2.2.2.1; unfold maxLen at h; exact h
  have hct := Lib.hid (show costNode x = x.name.size + costValue x.v from rfl)
  have hB0 : Below w.heap.size w (w.alloc (.cells #[.int .i64 x.k, .string x.name, .int .i64 x.v.k, .int .i64 x.v.n, .string x.v.t, .int .i64 x.size] 101)) := (Below.refl _ _).alloc (Nat.le_refl _) _
  have hP := Lib.hid (Whole.new w 101 [.int .i64 x.k, .string x.name, .int .i64 x.v.k, .int .i64 x.v.n, .string x.v.t, .int .i64 x.size])
  by_cases hn0 : left - (x.name.size : Nat) < 0
  · have H := Lib.hid (show szC (costNode x) left = -1 by rw [hct.out]; unfold szC; rw [if_pos (by omega)])
    go_enter Tryz.func63, Tryz.ntmps63
    go_wp2_with fail
    go_ret
    exact ⟨ret_int (by rw [H.out]), hB0⟩
  go_enter Tryz.func63, Tryz.ntmps63
  go_wp2_with fail
  refine (sz_Value x.v _ _ ⟨F.out.2.2.1, F.out.2.2.2.1, F.out.2.2.2.2.1⟩ (by omega) (by omega)).mono ?_
  rintro e w1 ⟨rfl, hb1⟩
  have hB1' := below_next hB0 hb1 rfl rfl
  by_cases hn1 : left - (x.name.size : Nat) - (costValue x.v : Nat) < 0
  · have hs : szC (costValue x.v) (left - (x.name.size : Nat)) = -1 := by unfold szC; rw [if_pos hn1]
    have H := Lib.hid (show szC (costNode x) left = -1 by rw [hct.out]; unfold szC; rw [if_pos (by omega)])
    rw [hs]
    clear hs
    go_wp2_with fail
    go_ret
    exact ⟨ret_int (by rw [H.out]), hB1'⟩
  have hs1 : szC (costValue x.v) (left - (x.name.size : Nat)) = left - (x.name.size : Nat) - (costValue x.v : Nat) := by unfold szC; rw [if_neg hn1]
  rw [hs1]
  clear hs1
  have H := Lib.hid (show szC (costNode x) left = left - (x.name.size : Nat) - (costValue x.v : Nat) by rw [hct.out]; unfold szC; rw [if_neg (by omega)] <;> omega)
  go_wp2_with fail
  go_ret
  exact ⟨ret_int (by rw [H.out]), hB1'⟩

set_option maxHeartbeats 1600000 in
theorem sz_Nodes {lo : Nat} (A : Option Addr) (c : Nat) (xs : List (GNode)) (left : Int) (w : World) (hf : fitNodes xs) (hr : NodesAt w lo w.heap.size A xs) (h0 : 0 ≤ left) (h1 : left ≤ 1048576) :
    Calls Tryz.prog 41 #[.slice A xs.length c, .int .i64 left] w fun e w' => e = .returned (.int .i64 (szC (costNodes xs) left)) ∧ Below w.heap.size w w' := by
  have hl : xs.length ≤ 9223372036854775807 := by have h := hf.1; unfold maxLen at h; exact h
  have FX := Lib.hid hf.2
  clear hf
  have hct := Lib.hid (show costNodes xs = xs.length + sumC costNode xs from rfl)
  have HR := Lib.hid hr
  clear hr
  by_cases hlen : left - xs.length < 0
  · have H := Lib.hid (show szC (costNodes xs) left = -1 by rw [hct.out]; unfold szC; rw [if_pos (by omega)])
    go_enter Tryz.func41, Tryz.ntmps41
    go_wp2_with fail
    go_ret
    exact ⟨ret_int (by rw [H.out]), Below.refl _ _⟩
  go_enter Tryz.func41, Tryz.ntmps41
  go_wp2_with fail
  go_loopw [1, 5] (fun l i w' => ∃ k : Nat, k ≤ xs.length ∧ i = .int .i64 k ∧ l = .int .i64 (left - xs.length - (sumC costNode (xs.take k) : Nat)) ∧ 0 ≤ left - xs.length - (sumC costNode (xs.take k) : Nat) ∧ Below w.heap.size w w') (fun _ i _ => xs.length - (intOf i).toNat)
  case atStart => exact ⟨0, Nat.zero_le _, rfl, by simp [sumC], by simp [sumC]; omega, Below.refl _ _⟩
  case round =>
    obtain ⟨k, hk, rfl, rfl, hp, hB⟩ := hrel
    by_cases hlt : k < xs.length
    · obtain ⟨g, o, rfl, hg0, hg, he⟩ := (HR.out.to_ hB).at_ hlt
      have hst := Lib.hid (sumC_take costNode xs k hlt)
      have htot := sumC_le costNode xs (k + 1)
      have hm := FX.out _ (List.getElem_mem hlt)
      have hi1 : (k : Int) < (xs.length : Int) := by omega
      have hi0 : (0 : Int) ≤ (k : Int) := by omega
      obtain ⟨h0x, h1x, h2x, h3x, h4x, h5x⟩ := he
      go_wp2_with fail
      refine (sz_Node xs[k] _ _ hm hp (by omega)).mono ?_
      rintro e w2 ⟨rfl, hb2⟩
      have hB2 := below_next hB hb2 rfl rfl
      clear h0x h1x h2x h3x h4x h5x
      by_cases hneg : left - xs.length - (sumC costNode (xs.take k) : Nat) - (costNode xs[k] : Nat) < 0
      · have hs : szC (costNode xs[k]) (left - xs.length - (sumC costNode (xs.take k) : Nat)) = -1 := by unfold szC; rw [if_pos hneg]
        have H := Lib.hid (show szC (costNodes xs) left = -1 by have := hst.out; rw [hct.out]; unfold szC; rw [if_pos (by omega)])
        rw [hs]
        clear hs
        go_wp2_with fail
        go_ret
        exact ⟨ret_int (by rw [H.out]), hB2⟩
      · have hs : szC (costNode xs[k]) (left - xs.length - (sumC costNode (xs.take k) : Nat)) = left - xs.length - (sumC costNode (xs.take (k + 1)) : Nat) := by have := hst.out; unfold szC; rw [if_neg hneg]; omega
        have hp2 : 0 ≤ left - xs.length - (sumC costNode (xs.take (k + 1)) : Nat) := by have := hst.out; omega
        rw [hs]
        clear hs
        go_wp2_with fail
        go_roundw
        case rel => exact ⟨k + 1, by omega, by go_num, rfl, hp2, hB2⟩
        case measure => simp [intOf]; omega
    · have H := Lib.hid (show szC (costNodes xs) left = left - xs.length - (sumC costNode (xs.take k) : Nat) by
        rw [List.take_of_length_le (by omega)] at hp ⊢
        rw [hct.out]; unfold szC; rw [if_neg (by omega)]; omega)
      have hi1 : ¬ (k : Int) < (xs.length : Int) := by omega
      go_wp2_with fail
      go_ret
      exact ⟨ret_int (by rw [H.out]), hB⟩

end Go.Proofs.YteoepnadjkjlmaaGreat
namespace Go.Proofs.YteoepnadjkjlmaaGreat
open Go.RowKit Go.Sort
set_option linter.unusedVariables false

set_option maxHeartbeats 1600000 in
theorem sz_NodeSs {lo : Nat} (A : Option Addr) (c : Nat) (xs : List (List GNode)) (left : Int) (w : World) (hf : fitNodeSs xs) (hr : NodeSsAt w lo w.heap.size A xs) (h0 : 0 ≤ left) (h1 : left ≤ 1048576) :
    Calls Tryz.prog 18 #[.slice A xs.length c, .int .i64 left] w fun e w' => e = .returned (.int .i64 (szC (costNodeSs xs) left)) ∧ Below w.heap.size w w' := by
  have hl : xs.length ≤ 9223372036854775807 := by have h := hf.1; unfold maxLen at h; exact h
  have FX := Lib.hid hf.2
  clear hf
  have hct := Lib.hid (show costNodeSs xs = xs.length + sumC costNodeS xs from rfl)
  have HR := Lib.hid hr
  clear hr
  by_cases hlen : left - xs.length < 0
  · have H := Lib.hid (show szC (costNodeSs xs) left = -1 by rw [hct.out]; unfold szC; rw [if_pos (by omega)])
    go_enter Tryz.func18, Tryz.ntmps18
    go_wp2_with fail
    go_ret
    exact ⟨ret_int (by rw [H.out]), Below.refl _ _⟩
  go_enter Tryz.func18, Tryz.ntmps18
  go_wp2_with fail
  go_loopw [1, 5] (fun l i w' => ∃ k : Nat, k ≤ xs.length ∧ i = .int .i64 k ∧ l = .int .i64 (left - xs.length - (sumC costNodeS (xs.take k) : Nat)) ∧ 0 ≤ left - xs.length - (sumC costNodeS (xs.take k) : Nat) ∧ Below w.heap.size w w') (fun _ i _ => xs.length - (intOf i).toNat)
  case atStart => exact ⟨0, Nat.zero_le _, rfl, by simp [sumC], by simp [sumC]; omega, Below.refl _ _⟩
  case round =>
    obtain ⟨k, hk, rfl, rfl, hp, hB⟩ := hrel
    by_cases hlt : k < xs.length
    · obtain ⟨g, o, rfl, hg0, hg, he⟩ := (HR.out.to_ hB).at_ hlt
      have hst := Lib.hid (sumC_take costNodeS xs k hlt)
      have htot := sumC_le costNodeS xs (k + 1)
      have hm := FX.out _ (List.getElem_mem hlt)
      have hi1 : (k : Int) < (xs.length : Int) := by omega
      have hi0 : (0 : Int) ≤ (k : Int) := by omega
      obtain ⟨A0, c0, ⟨h0y, q0⟩, s0⟩ := he
      go_wp2_with fail
      refine (sz_Nodes A0 c0 xs[k] _ _ hm s0 hp (by omega)).mono ?_
      rintro e w2 ⟨rfl, hb2⟩
      have hB2 := below_next hB hb2 rfl rfl
      clear h0y
      have hce : costNodeS xs[k] = costNodes xs[k] := rfl
      by_cases hneg : left - xs.length - (sumC costNodeS (xs.take k) : Nat) - (costNodes xs[k] : Nat) < 0
      · have hs : szC (costNodes xs[k]) (left - xs.length - (sumC costNodeS (xs.take k) : Nat)) = -1 := by unfold szC; rw [if_pos hneg]
        have H := Lib.hid (show szC (costNodeSs xs) left = -1 by have := hst.out; rw [hct.out]; unfold szC; rw [if_pos (by omega)])
        rw [hs]
        clear hs hce
        go_wp2_with fail
        go_ret
        exact ⟨ret_int (by rw [H.out]), hB2⟩
      · have hs : szC (costNodes xs[k]) (left - xs.length - (sumC costNodeS (xs.take k) : Nat)) = left - xs.length - (sumC costNodeS (xs.take (k + 1)) : Nat) := by have := hst.out; unfold szC; rw [if_neg hneg]; omega
        have hp2 : 0 ≤ left - xs.length - (sumC costNodeS (xs.take (k + 1)) : Nat) := by have := hst.out; omega
        rw [hs]
        clear hs hce
        go_wp2_with fail
        go_roundw
        case rel => exact ⟨k + 1, by omega, by go_num, rfl, hp2, hB2⟩
        case measure => simp [intOf]; omega
    · have H := Lib.hid (show szC (costNodeSs xs) left = left - xs.length - (sumC costNodeS (xs.take k) : Nat) by
        rw [List.take_of_length_le (by omega)] at hp ⊢
        rw [hct.out]; unfold szC; rw [if_neg (by omega)]; omega)
      have hi1 : ¬ (k : Int) < (xs.length : Int) := by omega
      go_wp2_with fail
      go_ret
      exact ⟨ret_int (by rw [H.out]), hB⟩

end Go.Proofs.YteoepnadjkjlmaaGreat
