/-
  laws.markValueSS, laws.heldValueSS over tables whose rows are blocks of their own. A table that an answer owns: laws.markValueSS and laws.heldValueSS on it, and how a call of the program's builds one.
-/
import Derived.Test.YtemcpdpbikgfcaaTabHeadZ
import Derived.Test.YtemcpdpbikgfcaaMarkZ
import Derived.Test.YtemcpdpbikgfcaaDistSZ
namespace Go.Proofs.Ytemcpdpbikgfcaa
open Go.RowKit Go.Sort
set_option linter.unusedVariables false

/-- A table, or the nil one. -/
def TabG (w : World) (A : Option Addr) (ps : List PR) : Prop := ps = [] ∨ ∃ g l, A = some ⟨g, 0, none⟩ ∧ OutAt w g ps l
theorem TabG.below {w w' : World} {A : Option Addr} {ps : List PR} (h : TabG w A ps) (hb : Below w.heap.size w w') : TabG w' A ps := by
  rcases h with h | ⟨g, l, hA, h⟩
  · exact .inl h
  · exact .inr ⟨g, l, hA, h.below hb⟩
theorem TabG.tab {w : World} {A : Option Addr} {ps : List PR} (h : TabG w A ps) : TabAt w w.heap.size A (ps.map (·.2)) := by
  rcases h with rfl | ⟨g, l, rfl, h⟩
  · exact .inl rfl
  · exact h.tab
def sumP (ps : List PR) : Nat := (ps.map fun p => p.2.length).sum
theorem sumP_take (ps : List PR) (i : Nat) (h : i < ps.length) : sumP (ps.take (i + 1)) = sumP (ps.take i) + ps[i].2.length := by
  unfold sumP
  rw [List.take_succ_eq_append_getElem h, List.map_append, List.sum_append]
  simp
theorem sumP_take_le (ps : List PR) (i : Nat) : sumP (ps.take i) ≤ sumP ps := by
  unfold sumP
  conv => rhs; rw [← List.take_append_drop i ps]
  rw [List.map_append, List.sum_append]
  omega
def markP (k : Nat) : List PR → List PR
  | [] => []
  | p :: ps => (p.1, marked k p.2.length) :: markP (k + 3 * p.2.length) ps
theorem markP_len : ∀ (k : Nat) (ps : List PR), (markP k ps).length = ps.length
  | _, [] => rfl
  | k, p :: ps => by simp [markP, markP_len _ ps]
theorem markP_fst : ∀ (k : Nat) (ps : List PR), (markP k ps).map (·.1) = ps.map (·.1)
  | _, [] => rfl
  | k, p :: ps => by simp [markP, markP_fst _ ps]
theorem markP_head : ∀ (k : Nat) (ps : List PR), (markP k ps).map headV = ps.map headV
  | _, [] => rfl
  | k, p :: ps => by simp only [markP, List.map_cons, markP_head _ ps]; simp [headV, marked_len]
theorem markP_at : ∀ (k : Nat) (ps : List PR) (i : Nat) (h : i < ps.length), (markP k ps)[i]'(by rw [markP_len]; exact h) = (ps[i].1, marked (k + 3 * sumP (ps.take i)) ps[i].2.length)
  | k, p :: ps, 0, h => by simp [markP, sumP]
  | k, p :: ps, i + 1, h => by
    simp only [markP, List.getElem_cons_succ, List.take_succ_cons]
    rw [markP_at (k + 3 * p.2.length) ps i (by simpa using h)]
    have : k + 3 * p.2.length + 3 * sumP (ps.take i) = k + 3 * sumP (p :: ps.take i) := by simp [sumP]; omega
    rw [this]
  | k, [], i, h => by simp at h

/-- All blocks but those of S are as they were. -/
structure GrownS (w w' : World) (S : List Nat) : Prop where
  os : w'.os = w.os
  tape : w'.tape = w.tape
  output : w'.output = w.output
  size : w.heap.size ≤ w'.heap.size
  block : ∀ k, k < w.heap.size → k ∉ S → w'.heap[k]? = w.heap[k]?
theorem GrownS.next {w w1 w2 : World} {S : List Nat} {g : Nat} (h : GrownS w w1 S) (k : w1.grownBy w2 (some g)) (hg : g ∈ S) : GrownS w w2 S :=
  ⟨k.os.trans h.os, k.tape.trans h.tape, k.output.trans h.output, Nat.le_trans h.size k.size, fun i hi hne => (k.block i (Nat.lt_of_lt_of_le hi h.size) (fun e => by injection e with e; exact hne (e ▸ hg))).trans (h.block i hi hne)⟩
/-- The state of the marking: the rows before place i are marked. -/
def MarkSt (w : World) (g : Nat) (ps : List PR) (l : List Value) (k i : Nat) (w' : World) : Prop :=
  Whole w' g 53 (ps.map headV ++ l) ∧ (∀ (j : Nat) (hj : j < ps.length), Whole w' ps[j].1 52 (flat (if j < i then marked (k + 3 * sumP (ps.take j)) ps[j].2.length else ps[j].2))) ∧ GrownS w w' (ps.map (·.1))
theorem mark_start {w : World} {g : Nat} {ps : List PR} {l : List Value} (k : Nat) (h : OutAt w g ps l) : MarkSt w g ps l k 0 w :=
  ⟨h.1, fun j hj => by rw [if_neg (by omega)]; exact h.2.1 _ (List.getElem_mem hj), rfl, rfl, rfl, Nat.le_refl _, fun _ _ _ => rfl⟩
theorem mark_next {w w1 w2 : World} {g : Nat} {ps : List PR} {l : List Value} {k i : Nat} (hne : ∀ p ∈ ps, p.1 ≠ g) (hnd : (ps.map (·.1)).Nodup) (h : MarkSt w g ps l k i w1) (hi : i < ps.length) (hw : Whole w2 ps[i].1 52 (flat (marked (k + 3 * sumP (ps.take i)) ps[i].2.length)))
    (hg : w1.grownBy w2 (some ps[i].1)) : MarkSt w g ps l k (i + 1) w2 := by
  have hkeep : ∀ {b : Nat} {t : TypeId} {x : List Value}, Whole w1 b t x → b ≠ ps[i].1 → Whole w2 b t x := fun hb hn => (hg.block _ hb.lt (fun e => hn (by injection e))).trans hb
  refine ⟨hkeep h.1 (fun e => hne _ (List.getElem_mem hi) e.symm), fun j hj => ?_, h.2.2.next hg (List.mem_map_of_mem (List.getElem_mem hi))⟩
  by_cases e : j = i
  · subst e
    rw [if_pos (by omega)]; exact hw
  · have h1 := h.2.1 j hj
    have hb : ps[j].1 ≠ ps[i].1 := by
      intro e2
      have hp := List.pairwise_iff_getElem.1 hnd
      rcases Nat.lt_or_gt_of_ne e with hlt | hgt
      · exact hp j i (by simpa using hj) (by simpa using hi) hlt (by simpa using e2)
      · exact hp i j (by simpa using hi) (by simpa using hj) hgt (by simpa using e2.symm)
    by_cases h4 : j < i
    · rw [if_pos h4] at h1; rw [if_pos (by omega)]; exact hkeep h1 hb
    · rw [if_neg h4] at h1; rw [if_neg (by omega)]; exact hkeep h1 hb
theorem mark_end {w w1 : World} {g : Nat} {ps : List PR} {l : List Value} {k i : Nat} (hne : ∀ p ∈ ps, p.1 ≠ g) (h : MarkSt w g ps l k i w1) (hi : ps.length ≤ i) : OutAt w1 g (markP k ps) l ∧ GrownS w w1 (ps.map (·.1)) := by
  refine ⟨⟨by rw [markP_head]; exact h.1, fun p hp => ?_, fun p hp => ?_⟩, h.2.2⟩
  · obtain ⟨j, hj, rfl⟩ := List.getElem_of_mem hp
    rw [markP_len] at hj
    rw [markP_at k ps j hj]
    have := h.2.1 j hj
    rw [if_pos (by omega)] at this
    exact this
  · have : p.1 ∈ (markP k ps).map (·.1) := List.mem_map_of_mem hp
    rw [markP_fst, List.mem_map] at this
    obtain ⟨q, hq, e⟩ := this
    rw [← e]; exact hne q hq

/-- What laws.markValueSS leaves. -/
def MarkPost (w : World) (A : Option Addr) (ps : List PR) (k : Nat) (e : Ending) (w' : World) : Prop := e = .returned (.int .i64 ((k + 3 * sumP ps : Nat) : Int)) ∧ TabG w' A (markP k ps) ∧ GrownS w w' (ps.map (·.1))

set_option maxRecDepth 100000 in
set_option maxHeartbeats 1600000 in
theorem mark_table (A : Option Addr) (cap k : Nat) (ps : List PR) (w : World) (h : TabG w A ps) (hnd : (ps.map (·.1)).Nodup) (hk : 1 ≤ k) (hk2 : k ≤ 1000) (hn : ps.length ≤ 1048576) (hs : sumP ps ≤ 1048576) :
    Calls Try.prog 23 #[.slice A ps.length cap, .int .i64 k] w (MarkPost w A ps k) := by
  rcases h with rfl | ⟨g, l, rfl, hO⟩
  · go_enter Try.func23, Try.ntmps23
    go_wp2_with fail
    go_loopw [1, 5] (fun kk i w' => kk = .int .i64 k ∧ i = .int .i64 0 ∧ w' = w) (fun _ _ _ => 0)
    case atStart => exact ⟨rfl, rfl, rfl⟩
    case round =>
      obtain ⟨rfl, rfl, rfl⟩ := hrel
      go_wp2_with fail
      go_ret
      exact ⟨by simp [sumP], .inl rfl, rfl, rfl, rfl, Nat.le_refl _, fun _ _ _ => rfl⟩
  · have hne := Lib.hid hO.2.2
    have hS0 := Lib.hid (mark_start k hO)
    have HND := Lib.hid hnd
    have HE : (((k + 3 * sumP (ps.take 0) : Nat) : Int)) = (k : Int) := by simp [sumP]
    clear hO hnd
    go_enter Try.func23, Try.ntmps23
    go_wp2_with fail
    go_loopw [1, 5] (fun kk i w' => ∃ j K : Nat, j ≤ ps.length ∧ Hid (K = k + 3 * sumP (ps.take j)) ∧ K ≤ 4000000 ∧ 1 ≤ K ∧ kk = .int .i64 K ∧ i = .int .i64 j ∧ Hid (MarkSt w g ps l k j w')) (fun _ i _ => ps.length - (intOf i).toNat)
    case atStart => exact ⟨0, k, Nat.zero_le _, Lib.hid (by simp [sumP]), by omega, hk, rfl, rfl, hS0⟩
    case round =>
      obtain ⟨j, K, hj, hK, hK1, hK2, rfl, rfl, hS⟩ := hrel
      by_cases hlt : j < ps.length
      · have hcell : wr.cell? ⟨g, j, none⟩ = some (.slice (some ⟨ps[j].1, 0, none⟩) ps[j].2.length ps[j].2.length) := by
          rw [hS.out.1.cell, List.getElem?_append_left (by simpa using hlt), List.getElem?_map, List.getElem?_eq_getElem hlt]; rfl
        have hw := hS.out.2.1 j hlt
        rw [if_neg (by omega)] at hw
        have hst := sumP_take ps j hlt
        have hle := sumP_take_le ps (j + 1)
        have hKo := hK.out
        have hcon := mark_row ps[j].1 ps[j].2.length ps[j].2.length K (flat ps[j].2) wr hw (by rw [flat_length]; exact Nat.le_refl _) hK2 (by omega) (by omega)
        have HN := Lib.hid (show K + 3 * ps[j].2.length = k + 3 * sumP (ps.take (j + 1)) by omega)
        have hn1 : K + 3 * ps[j].2.length ≤ 4000000 := by omega
        have hi1 : (j : Int) < (ps.length : Int) := by omega
        clear hw hst hle hKo
        go_wp2_with fail
        refine hcon.mono ?_
        rintro e w2 ⟨rfl, hw2, hg2⟩
        rw [List.drop_eq_nil_of_le (by rw [flat_length]; exact Nat.le_refl _), List.append_nil, hK.out] at hw2
        have hS2 := Lib.hid (mark_next hne.out HND.out hS.out hlt hw2 hg2)
        clear hcon hw2 hg2 hcell
        go_wp2_with fail
        go_roundw
        case rel => exact ⟨j + 1, K + 3 * ps[j].2.length, by omega, HN, hn1, by omega, rfl, by go_num, hS2⟩
        case measure => simp [intOf]; omega
      · have hi1 : ¬ (j : Int) < (ps.length : Int) := by omega
        obtain ⟨m1, m2⟩ := mark_end hne.out hS.out (by omega)
        have hKo := hK.out
        rw [List.take_of_length_le (by omega)] at hKo
        have HK := Lib.hid hKo
        clear hKo
        go_wp2_with fail
        go_ret
        exact ⟨by rw [← HK.out]; rfl, .inr ⟨g, l, rfl, m1⟩, m2⟩

end Go.Proofs.Ytemcpdpbikgfcaa
namespace Go.Proofs.Ytemcpdpbikgfcaa
open Go.RowKit Go.Sort
set_option linter.unusedVariables false

/-- A table from block B on. -/
def TGA (B : Nat) (w : World) (A : Option Addr) (ps : List PR) : Prop := ps = [] ∨ ∃ g l, A = some ⟨g, 0, none⟩ ∧ B ≤ g ∧ OutAt w g ps l ∧ (∀ p ∈ ps, B ≤ p.1) ∧ (ps.map (·.1)).Nodup
theorem TGA.below {B : Nat} {w w' : World} {A : Option Addr} {ps : List PR} (h : TGA B w A ps) (hb : Below w.heap.size w w') : TGA B w' A ps := by
  rcases h with h | ⟨g, l, hA, hB, hO, hr, hn⟩
  · exact .inl h
  · exact .inr ⟨g, l, hA, hB, hO.below hb, hr, hn⟩
theorem TGA.keep {B : Nat} {w w' : World} {A : Option Addr} {ps : List PR} (h : TGA B w A ps) (hb : ∀ b, B ≤ b → b < w.heap.size → w'.heap[b]? = w.heap[b]?) : TGA B w' A ps := by
  rcases h with h | ⟨g, l, hA, hB, hO, hr, hn⟩
  · exact .inl h
  · exact .inr ⟨g, l, hA, hB, ⟨(hb g hB hO.1.lt).trans hO.1, fun p hp => (hb p.1 (hr p hp) (hO.2.1 p hp).lt).trans (hO.2.1 p hp), hO.2.2⟩, hr, hn⟩
theorem TGA.tabG {B : Nat} {w : World} {A : Option Addr} {ps : List PR} (h : TGA B w A ps) : TabG w A ps := by
  rcases h with h | ⟨g, l, hA, hB, hO, hr, hn⟩
  · exact .inl h
  · exact .inr ⟨g, l, hA, hO⟩
theorem TGA.tab {B : Nat} {w : World} {A : Option Addr} {ps : List PR} (h : TGA B w A ps) : TabAt w w.heap.size A (ps.map (·.2)) := h.tabG.tab
theorem TGA.nd {B : Nat} {w : World} {A : Option Addr} {ps : List PR} (h : TGA B w A ps) : (ps.map (·.1)).Nodup := by
  rcases h with rfl | ⟨g, l, hA, hB, hO, hr, hn⟩
  · simp
  · exact hn
theorem TGA.big {B : Nat} {w : World} {A : Option Addr} {ps : List PR} (h : TGA B w A ps) : ∀ b ∈ ps.map (·.1), B ≤ b := by
  rcases h with rfl | ⟨g, l, hA, hB, hO, hr, hn⟩
  · simp
  · intro b hb
    rw [List.mem_map] at hb
    obtain ⟨p, hp, rfl⟩ := hb
    exact hr p hp
theorem mark_tab {B : Nat} (A : Option Addr) (cap k : Nat) (ps : List PR) (w : World) (h : TGA B w A ps) (hB : B ≤ w.heap.size) (hk : 1 ≤ k) (hk2 : k ≤ 1000) (hn : ps.length ≤ 1048576) (hs : sumP ps ≤ 1048576) :
    Calls Try.prog 23 #[.slice A ps.length cap, .int .i64 k] w fun e w' => e = .returned (.int .i64 ((k + 3 * sumP ps : Nat) : Int)) ∧ TGA B w' A (markP k ps) ∧ Below B w w' := by
  refine (mark_table A cap k ps w h.tabG h.nd hk hk2 hn hs).mono ?_
  rintro e w' ⟨rfl, hT, hG⟩
  refine ⟨rfl, ?_, ⟨hG.os, hG.tape, hG.output, hG.size, fun b hb => hG.block b (by omega) (fun hm => by have := h.big b hm; omega)⟩⟩
  rcases h with rfl | ⟨g, l, hA, hBg, hO, hr, hnd⟩
  · exact .inl rfl
  · rcases hT with hT | ⟨g', l', hA', hO'⟩
    · exact .inl hT
    · rw [hA] at hA'
      injection hA' with e1
      injection e1 with e2 _ _
      subst e2
      refine .inr ⟨g, l', hA, hBg, hO', fun p hp => ?_, by rw [markP_fst]; exact hnd⟩
      have hm : p.1 ∈ (markP k ps).map (·.1) := List.mem_map.2 ⟨p, hp, rfl⟩
      rw [markP_fst, List.mem_map] at hm
      obtain ⟨q, hq, e⟩ := hm
      rw [← e]
      exact hr q hq
/-- What a function of the program's that answers a table has to leave. -/
def ITPost (w : World) (rows : List (List GV)) (e : Ending) (w' : World) : Prop := ∃ A c ps, e = .returned (.slice A ps.length c) ∧ ps.map (·.2) = rows ∧ TGA w.heap.size w' A ps ∧ Below w.heap.size w w'
theorem itpost_none {w w' : World} (h : Below w.heap.size w w') : ITPost w [] (.returned (.slice none 0 0)) w' := ⟨none, 0, [], rfl, rfl, .inl rfl, h⟩
theorem Whole.keepV {w w' : World} {b : Nat} {l : List Value} (h : Whole w b 52 l) (hk : KeepT 53 w w') : Whole w' b 52 l := by
  refine (hk b h.lt (fun cur fr e => ?_)).trans h
  unfold Whole at h
  rw [h] at e
  cases e
/-- A table that a call builds, each row a block of its own. -/
structure PAcc (w0 w : World) (v : Value) (ps : List PR) : Prop where
  own : w.ownsRow w0.heap.size 53 1 v ps.length (ps.map headV)
  row : ∀ p ∈ ps, w0.heap.size ≤ p.1 ∧ Whole w p.1 52 (flat p.2)
  nd : (ps.map (·.1)).Nodup
  ne : v ≠ .slice none 0 0
  low : Below w0.heap.size w0 w
theorem PAcc.start {w0 w : World} {n : Nat} (h : Below w0.heap.size w0 w) (hn : w.heap.size = n) : PAcc w0 (w.alloc (.cells #[] 53)) (.slice (some ⟨n, 0, none⟩) 0 0) [] := by
  subst hn; exact ⟨World.ownsRow_made w #[] 0 h.size (Nat.zero_le _) rfl, fun p hp => by simp at hp, by simp, by simp, h.alloc h.size _⟩
theorem PAcc.slice {w0 w : World} {v : Value} {ps : List PR} (h : PAcc w0 w v ps) : ∃ A c, v = .slice A ps.length c ∧ CapOk ps.length c := by
  rcases h.own.2 with ⟨rfl, h0⟩ | ⟨g, cap, cur, rfl, hg, hh, hc1, hc2, hc3, hc4⟩
  · exact absurd rfl h.ne
  · exact ⟨_, cap, rfl, hc1, hc2⟩
theorem PAcc.below {w0 w w' : World} {v : Value} {ps : List PR} (h : PAcc w0 w v ps) (hb : Below w.heap.size w w') : PAcc w0 w' v ps := by
  refine ⟨⟨h.own.1, ?_⟩, fun p hm => ⟨(h.row p hm).1, (hb.block p.1 (h.row p hm).2.lt).trans (h.row p hm).2⟩, h.nd, h.ne, h.low.trans (hb.mono h.low.size)⟩
  rcases h.own.2 with h' | ⟨g, cap, cur, e', hg, hc, hr⟩
  · exact .inl h'
  · exact .inr ⟨g, cap, cur, e', hg, (hb.block g (Array.getElem?_eq_some_iff.1 hc).1).trans hc, hr⟩
theorem headV_cells (w : World) (p : PR) (t : TypeId) : ∀ j u, [headV p][j]? = some u → (w.alloc (.cells #[headV p] t)).cell? ((⟨w.heap.size, 0, none⟩ : Addr).add j) = some u := by
  intro j u hj
  match j, hj with
  | 0, hj => simp at hj; subst hj; simp [Addr.add]
theorem wpList_papp {ops : Array Oper} {rest : List Oper} {o : Oper} {a : Act} {Q : Exit → Act → World → Prop} (W : World) (hgd : o.guard = none) (s x : Operand)
    (ho : o.op = .call { callee := .builtin .append, args := #[s, x], argTypes := #[33, 33] })
    (w0 : World) (v : Value) (ps : List PR) (p : PR) (hs : a.eval s = v) (hI : PAcc w0 W v ps) (hp : w0.heap.size ≤ p.1 ∧ Whole W p.1 52 (flat p.2)) (hnw : p.1 ∉ ps.map (·.1)) (hx : a.eval x = .slice (some ⟨W.heap.size, 0, none⟩) 1 1) (hb : ps.length ≤ 4194304)
    (h : ∀ v' w', PAcc w0 w' v' (ps ++ [p]) → wpList Try.prog ops Q rest (a.put o.dst v') w') : wpList Try.prog ops Q (o :: rest) a (W.alloc (.cells #[.slice (some ⟨p.1, 0, none⟩) p.2.length p.2.length] 53)) := by
  obtain ⟨i0, hi, hz0, hz1, hz2⟩ := info_parts infoVs
  have hB : Below W.heap.size W (W.alloc (.cells #[headV p] 53)) := (Below.refl _ _).alloc (Nat.le_refl _) _
  have hI2 := hI.below hB
  have hp2 : Whole (W.alloc (.cells #[headV p] 53)) p.1 52 (flat p.2) := (hB.block p.1 hp.2.lt).trans hp.2
  have how := hI2.own
  refine wpList_append_own _ hgd s x _ ho w0.heap.size 53 i0 _ 1 24 Try.underlying33 hi hz0 hz1 hz2 rfl (by decide) v ps.length (ps.map headV) hs how ⟨W.heap.size, 0, none⟩ 1 1 [headV p] hx rfl (headV_cells W p _) (by intro u hu; simp at hu; subst hu; rfl) (by unfold maxLen; omega) (by omega) hI2.low.size (fun v' w' h1 h2 h3 => h v' w' ?_)
  have hbw : Below w0.heap.size (W.alloc (.cells #[headV p] 53)) w' := (Below.refl _ _).grown h2 hI2.low.size (fun k hk => (World.ownsRow.lt how k hk).1)
  have hk := KeepT.grown how h2
  refine ⟨?_, fun q hm => ?_, ?_, fun e1 => hI2.ne (h3.1 e1).1, hI2.low.trans hbw⟩
  · rw [List.map_append, List.length_append]
    simpa using h1
  · rw [List.mem_append, List.mem_singleton] at hm
    rcases hm with hm | rfl
    · exact ⟨(hI2.row q hm).1, (hI2.row q hm).2.keepV hk⟩
    · exact ⟨hp.1, hp2.keepV hk⟩
  · rw [List.map_append, List.nodup_append]
    refine ⟨hI2.nd, by simp, fun b hb c hc => ?_⟩
    simp at hc
    subst hc
    exact fun e => hnw (e ▸ hb)
theorem PAcc.ga {w0 w : World} {v : Value} {ps : List PR} (h : PAcc w0 w v ps) : ∃ A c, v = .slice A ps.length c ∧ TGA w0.heap.size w A ps := by
  rcases h.own.2 with ⟨rfl, h0⟩ | ⟨g, cap, cur, rfl, hg, hh, hc1, hc2, hc3, hc4⟩
  · exact absurd rfl h.ne
  · refine ⟨_, cap, rfl, .inr ⟨g, cur.toList.drop (ps.length * 1), rfl, hg, ⟨?_, fun p hp => (h.row p hp).2, fun p hp e => ?_⟩, fun p hp => (h.row p hp).1, h.nd⟩⟩
    · unfold Whole
      rw [← hc4, List.take_append_drop]
      exact hh
    · have h1 := (h.row p hp).2
      unfold Whole at h1
      rw [e, hh] at h1
      cases h1
theorem PAcc.post {w0 w : World} {v : Value} {ps : List PR} {rows : List (List GV)} (h : PAcc w0 w v ps) (hz : ps.map (·.2) = rows) : ITPost w0 rows (.returned v) w := by
  obtain ⟨A, c, e, hd⟩ := h.ga
  exact ⟨A, c, ps, by rw [e], hz, hd, h.low⟩
end Go.Proofs.Ytemcpdpbikgfcaa
