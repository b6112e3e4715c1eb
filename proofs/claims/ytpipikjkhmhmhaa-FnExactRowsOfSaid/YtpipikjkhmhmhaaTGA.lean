/-
  A table that an answer owns: laws.markValueSS and laws.heldValueSS on it, and how a call of the program's builds one.
-/
import Derived.Test.YtpipikjkhmhmhaaMarkT
import Derived.Test.YtpipikjkhmhmhaaTRow
namespace Go.Proofs.Ytpipikjkhmhmhaa
open Go.RowKit Go.Sort
set_option linter.unusedVariables false

/-- A table from block B on. -/
def TGA (B : Nat) (w : World) (A : Option Addr) (ps : List PR) : Prop := ps = [] ∨ ∃ g l, A = some ⟨g, 0, none⟩ ∧ B ≤ g ∧ OutAt w g ps l ∧ (∀ p ∈ ps, B ≤ p.1) ∧ (ps.map (·.1)).Nodup
theorem TGA.below {B : Nat} {w w' : World} {A : Option Addr} {ps : List PR} (h : TGA B w A ps) (hb : Below w.heap.size w w') : TGA B w' A ps := by
  rcases h with h | ⟨g, l, hA, hB, hO, hr, hn⟩
  · exact .inl h
  · exact .inr ⟨g, l, hA, hB, hO.below hb, hr, hn⟩
theorem TGA.keep {B : Nat} {w w' : World} {A : Option Addr} {ps : List PR} (h : TGA B w A ps) (hb : ∀ b, B ≤ b → b < w.heap.size → w'.heap[b]? = w.heap[b]?) : TGA B w' A ps := by
  rcases h with h | ⟨g, l, hA, hB, hO, hr, hn⟩
  · exact .inl h
  · exact .inr ⟨g, l, hA, hB, ⟨(hb g hB hO.1.lt).trans hO.1, fun p hp => (hb p.1 (hr p hp) (hO.2.1 p hp).lt).trans (hO.2.1 p hp), hO.2.2⟩, hr, hn⟩
theorem TGA.tabG {B : Nat} {w : World} {A : Option Addr} {ps : List PR} (h : TGA B w A ps) : TabG w A ps := by
  rcases h with h | ⟨g, l, hA, hB, hO, hr, hn⟩
  · exact .inl h
  · exact .inr ⟨g, l, hA, hO⟩
theorem TGA.tab {B : Nat} {w : World} {A : Option Addr} {ps : List PR} (h : TGA B w A ps) : TabAt w w.heap.size A (ps.map (·.2)) := h.tabG.tab
theorem TGA.nd {B : Nat} {w : World} {A : Option Addr} {ps : List PR} (h : TGA B w A ps) : (ps.map (·.1)).Nodup := by
  rcases h with rfl | ⟨g, l, hA, hB, hO, hr, hn⟩
  · simp
  · exact hn
theorem TGA.big {B : Nat} {w : World} {A : Option Addr} {ps : List PR} (h : TGA B w A ps) : ∀ b ∈ ps.map (·.1), B ≤ b := by
  rcases h with rfl | ⟨g, l, hA, hB, hO, hr, hn⟩
  · simp
  · intro b hb
    rw [List.mem_map] at hb
    obtain ⟨p, hp, rfl⟩ := hb
    exact hr p hp
theorem mark_tab {B : Nat} (A : Option Addr) (cap k : Nat) (ps : List PR) (w : World) (h : TGA B w A ps) (hB : B ≤ w.heap.size) (hk : 1 ≤ k) (hk2 : k ≤ 1000) (hn : ps.length ≤ 1048576) (hs : sumP ps ≤ 1048576) :
    Calls Try.prog 25 #[.slice A ps.length cap, .int .i64 k] w fun e w' => e = .returned (.int .i64 ((k + 3 * sumP ps : Nat) : Int)) ∧ TGA B w' A (markP k ps) ∧ Below B w w' := by
  refine (mark_table A cap k ps w h.tabG h.nd hk hk2 hn hs).mono ?_
  rintro e w' ⟨rfl, hT, hG⟩
  refine ⟨rfl, ?_, ⟨hG.os, hG.tape, hG.output, hG.size, fun b hb => hG.block b (by omega) (fun hm => by have := h.big b hm; omega)⟩⟩
  rcases h with rfl | ⟨g, l, hA, hBg, hO, hr, hnd⟩
  · exact .inl rfl
  · rcases hT with hT | ⟨g', l', hA', hO'⟩
    · exact .inl hT
    · rw [hA] at hA'
      injection hA' with e1
      injection e1 with e2 _ _
      subst e2
      refine .inr ⟨g, l', hA, hBg, hO', fun p hp => ?_, by rw [markP_fst]; exact hnd⟩
      have hm : p.1 ∈ (markP k ps).map (·.1) := List.mem_map.2 ⟨p, hp, rfl⟩
      rw [markP_fst, List.mem_map] at hm
      obtain ⟨q, hq, e⟩ := hm
      rw [← e]
      exact hr q hq
/-- What a function of the program's that answers a table has to leave. -/
def ITPost (w : World) (rows : List (List GV)) (e : Ending) (w' : World) : Prop := ∃ A c ps, e = .returned (.slice A ps.length c) ∧ ps.map (·.2) = rows ∧ TGA w.heap.size w' A ps ∧ Below w.heap.size w w'
theorem itpost_none {w w' : World} (h : Below w.heap.size w w') : ITPost w [] (.returned (.slice none 0 0)) w' := ⟨none, 0, [], rfl, rfl, .inl rfl, h⟩
theorem Whole.keepV {w w' : World} {b : Nat} {l : List Value} (h : Whole w b 28 l) (hk : KeepT 29 w w') : Whole w' b 28 l := by
  refine (hk b h.lt (fun cur fr e => ?_)).trans h
  unfold Whole at h
  rw [h] at e
  cases e
/-- A table that a call builds, each row a block of its own. -/
structure PAcc (w0 w : World) (v : Value) (ps : List PR) : Prop where
  own : w.ownsRow w0.heap.size 29 1 v ps.length (ps.map headV)
  row : ∀ p ∈ ps, w0.heap.size ≤ p.1 ∧ Whole w p.1 28 (flat p.2)
  nd : (ps.map (·.1)).Nodup
  ne : v ≠ .slice none 0 0
  low : Below w0.heap.size w0 w
theorem PAcc.start {w0 w : World} {n : Nat} (h : Below w0.heap.size w0 w) (hn : w.heap.size = n) : PAcc w0 (w.alloc (.cells #[] 29)) (.slice (some ⟨n, 0, none⟩) 0 0) [] := by
  subst hn; exact ⟨World.ownsRow_made w #[] 0 h.size (Nat.zero_le _) rfl, fun p hp => by simp at hp, by simp, by simp, h.alloc h.size _⟩
theorem PAcc.slice {w0 w : World} {v : Value} {ps : List PR} (h : PAcc w0 w v ps) : ∃ A c, v = .slice A ps.length c ∧ CapOk ps.length c := by
  rcases h.own.2 with ⟨rfl, h0⟩ | ⟨g, cap, cur, rfl, hg, hh, hc1, hc2, hc3, hc4⟩
  · exact absurd rfl h.ne
  · exact ⟨_, cap, rfl, hc1, hc2⟩
theorem PAcc.below {w0 w w' : World} {v : Value} {ps : List PR} (h : PAcc w0 w v ps) (hb : Below w.heap.size w w') : PAcc w0 w' v ps := by
  refine ⟨⟨h.own.1, ?_⟩, fun p hm => ⟨(h.row p hm).1, (hb.block p.1 (h.row p hm).2.lt).trans (h.row p hm).2⟩, h.nd, h.ne, h.low.trans (hb.mono h.low.size)⟩
  rcases h.own.2 with h' | ⟨g, cap, cur, e', hg, hc, hr⟩
  · exact .inl h'
  · exact .inr ⟨g, cap, cur, e', hg, (hb.block g (Array.getElem?_eq_some_iff.1 hc).1).trans hc, hr⟩
theorem headV_cells (w : World) (p : PR) (t : TypeId) : ∀ j u, [headV p][j]? = some u → (w.alloc (.cells #[headV p] t)).cell? ((⟨w.heap.size, 0, none⟩ : Addr).add j) = some u := by
  intro j u hj
  match j, hj with
  | 0, hj => simp at hj; subst hj; simp [Addr.add]
theorem wpList_papp {ops : Array Oper} {rest : List Oper} {o : Oper} {a : Act} {Q : Exit → Act → World → Prop} (W : World) (hgd : o.guard = none) (s x : Operand)
    (ho : o.op = .call { callee := .builtin .append, args := #[s, x], argTypes := #[46, 46] })
    (w0 : World) (v : Value) (ps : List PR) (p : PR) (hs : a.eval s = v) (hI : PAcc w0 W v ps) (hp : w0.heap.size ≤ p.1 ∧ Whole W p.1 28 (flat p.2)) (hnw : p.1 ∉ ps.map (·.1)) (hx : a.eval x = .slice (some ⟨W.heap.size, 0, none⟩) 1 1) (hb : ps.length ≤ 4194304)
    (h : ∀ v' w', PAcc w0 w' v' (ps ++ [p]) → wpList Try.prog ops Q rest (a.put o.dst v') w') : wpList Try.prog ops Q (o :: rest) a (W.alloc (.cells #[.slice (some ⟨p.1, 0, none⟩) p.2.length p.2.length] 29)) := by
  obtain ⟨i0, hi, hz0, hz1, hz2⟩ := info_parts infoVs
  have hB : Below W.heap.size W (W.alloc (.cells #[headV p] 29)) := (Below.refl _ _).alloc (Nat.le_refl _) _
  have hI2 := hI.below hB
  have hp2 : Whole (W.alloc (.cells #[headV p] 29)) p.1 28 (flat p.2) := (hB.block p.1 hp.2.lt).trans hp.2
  have how := hI2.own
  refine wpList_append_own _ hgd s x _ ho w0.heap.size 29 i0 _ 1 24 Try.underlying46 hi hz0 hz1 hz2 rfl (by decide) v ps.length (ps.map headV) hs how ⟨W.heap.size, 0, none⟩ 1 1 [headV p] hx rfl (headV_cells W p _) (by intro u hu; simp at hu; subst hu; rfl) (by unfold maxLen; omega) (by omega) hI2.low.size (fun v' w' h1 h2 h3 => h v' w' ?_)
  have hbw : Below w0.heap.size (W.alloc (.cells #[headV p] 29)) w' := (Below.refl _ _).grown h2 hI2.low.size (fun k hk => (World.ownsRow.lt how k hk).1)
  have hk := KeepT.grown how h2
  refine ⟨?_, fun q hm => ?_, ?_, fun e1 => hI2.ne (h3.1 e1).1, hI2.low.trans hbw⟩
  · rw [List.map_append, List.length_append]
    simpa using h1
  · rw [List.mem_append, List.mem_singleton] at hm
    rcases hm with hm | rfl
    · exact ⟨(hI2.row q hm).1, (hI2.row q hm).2.keepV hk⟩
    · exact ⟨hp.1, hp2.keepV hk⟩
  · rw [List.map_append, List.nodup_append]
    refine ⟨hI2.nd, by simp, fun b hb c hc => ?_⟩
    simp at hc
    subst hc
    exact fun e => hnw (e ▸ hb)
theorem PAcc.ga {w0 w : World} {v : Value} {ps : List PR} (h : PAcc w0 w v ps) : ∃ A c, v = .slice A ps.length c ∧ TGA w0.heap.size w A ps := by
  rcases h.own.2 with ⟨rfl, h0⟩ | ⟨g, cap, cur, rfl, hg, hh, hc1, hc2, hc3, hc4⟩
  · exact absurd rfl h.ne
  · refine ⟨_, cap, rfl, .inr ⟨g, cur.toList.drop (ps.length * 1), rfl, hg, ⟨?_, fun p hp => (h.row p hp).2, fun p hp e => ?_⟩, fun p hp => (h.row p hp).1, h.nd⟩⟩
    · unfold Whole
      rw [← hc4, List.take_append_drop]
      exact hh
    · have h1 := (h.row p hp).2
      unfold Whole at h1
      rw [e, hh] at h1
      cases h1
theorem PAcc.post {w0 w : World} {v : Value} {ps : List PR} {rows : List (List GV)} (h : PAcc w0 w v ps) (hz : ps.map (·.2) = rows) : ITPost w0 rows (.returned v) w := by
  obtain ⟨A, c, e, hd⟩ := h.ga
  exact ⟨A, c, ps, by rw [e], hz, hd, h.low⟩
end Go.Proofs.Ytpipikjkhmhmhaa
