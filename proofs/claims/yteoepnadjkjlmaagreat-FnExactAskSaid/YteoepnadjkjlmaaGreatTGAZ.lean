/-
  Lists of rows of the call's own, while they are built. A table that an answer owns: laws.markValueSS and laws.heldValueSS on it, and how a call of the program's builds one.
-/
import Derived.Test.YteoepnadjkjlmaaGreatRowStZ
import Derived.Test.YteoepnadjkjlmaaGreatDigitsZ
import Derived.Test.YteoepnadjkjlmaaGreatTyZ
namespace Go.Proofs.YteoepnadjkjlmaaGreat
open Go.RowKit Go.Sort
set_option linter.unusedVariables false

/-- A row's head and the row. -/
abbrev TH := (Option Addr × Nat) × List GV
def thV (p : TH) : Value := .slice p.1.1 p.2.length p.1.2
def THok (w : World) (N : Nat) (p : TH) : Prop := RowSt w N p.1.1 p.2 ∧ CapOk p.2.length p.1.2
theorem RowSt.keepV {w w' : World} {N : Nat} {A : Option Addr} {xs : List GV} (h : RowSt w N A xs) (hb : Below N w w') (hk : KeepT 52 w w') : RowSt w' N A xs := by
  rcases h with h | ⟨g, o, hA, hg, hs, hc⟩
  · exact .inl h
  · have he : w'.heap[g]? = w.heap[g]? := by
      rcases hs with h' | ⟨cur, fr, h'⟩
      · exact hb.block g h'
      · exact hk g hg (fun cur' fr' e => by rw [h'] at e; cases e)
    refine .inr ⟨g, o, hA, Nat.lt_of_lt_of_le hg hb.size, ?_, fun i x hx => (hc i x hx).blk he⟩
    rcases hs with h' | ⟨cur, fr, h'⟩
    · exact .inl h'
    · exact .inr ⟨cur, fr, he.trans h'⟩
/-- A list of rows that a call builds: w0 is the world at its beginning. -/
structure TAcc (w0 w : World) (v : Value) (rows : List (List GV)) : Prop where
  own : ∃ ps : List TH, ps.map (·.2) = rows ∧ w.ownsRow w0.heap.size 52 1 v rows.length (ps.map thV) ∧ ∀ p ∈ ps, THok w w0.heap.size p
  ne : v ≠ .slice none 0 0
  low : Below w0.heap.size w0 w
theorem TAcc.start {w0 w : World} {n : Nat} (h : Below w0.heap.size w0 w) (hn : w.heap.size = n) : TAcc w0 (w.alloc (.cells #[] 52)) (.slice (some ⟨n, 0, none⟩) 0 0) [] := by
  subst hn; exact ⟨⟨[], rfl, World.ownsRow_made w #[] 0 h.size (Nat.zero_le _) rfl, fun p hp => by simp at hp⟩, by simp, h.alloc h.size _⟩
theorem TAcc.made {w0 w : World} {n m : Nat} (h : Below w0.heap.size w0 w) (hn : w.heap.size = n) (hm : m ≤ maxLen) : TAcc w0 (w.alloc (.cells (madeCells #[.slice none 0 0] m) 52)) (.slice (some ⟨n, 0, none⟩) 0 m) [] := by
  subst hn
  refine ⟨⟨[], rfl, ?_, fun p hp => by simp at hp⟩, by simp, h.alloc h.size _⟩
  simpa using World.ownsRow_made (base := w0.heap.size) (e := 52) (size := 1) w (madeCells #[.slice none 0 0] m) m h.size hm (by simp [size_madeCells])
theorem TAcc.slice {w0 w : World} {v : Value} {rows : List (List GV)} (h : TAcc w0 w v rows) : ∃ A c, v = .slice A rows.length c ∧ CapOk rows.length c := by
  obtain ⟨ps, e, ho, _⟩ := h.own
  rcases ho.2 with ⟨rfl, h0⟩ | ⟨g, cap, cur, rfl, hg, hh, hc1, hc2, hc3, hc4⟩
  · exact absurd rfl h.ne
  · exact ⟨_, cap, rfl, hc1, hc2⟩
theorem TAcc.below {w0 w w' : World} {v : Value} {rows : List (List GV)} (h : TAcc w0 w v rows) (hb : Below w.heap.size w w') : TAcc w0 w' v rows := by
  obtain ⟨ps, e, ho, hp⟩ := h.own
  refine ⟨⟨ps, e, ⟨ho.1, ?_⟩, fun p hm => ⟨(hp p hm).1.keepV (hb.mono h.low.size) (KeepT.below hb), (hp p hm).2⟩⟩, h.ne, h.low.trans (hb.mono h.low.size)⟩
  rcases ho.2 with h' | ⟨g, cap, cur, e', hg, hc, hr⟩
  · exact .inl h'
  · exact .inr ⟨g, cap, cur, e', hg, (hb.block g (Array.getElem?_eq_some_iff.1 hc).1).trans hc, hr⟩
theorem TAcc.app {w0 w w' : World} {v v' : Value} {rows : List (List GV)} {p : TH} (h : TAcc w0 w v rows) (hp : THok w w0.heap.size p) (ho : ∀ ps : List TH, ps.map (·.2) = rows → w.ownsRow w0.heap.size 52 1 v rows.length (ps.map thV) → w'.ownsRow w0.heap.size 52 1 v' (rows.length + 1) (ps.map thV ++ [thV p])) (hg : w.grownBy w' v.ownBlock) (hv : v ≠ .slice none 0 0 → v' ≠ .slice none 0 0) : TAcc w0 w' v' (rows ++ [p.2]) := by
  obtain ⟨ps, e, how, hq⟩ := h.own
  have hb : Below w0.heap.size w w' := (Below.refl _ _).grown hg h.low.size (fun k hk => (World.ownsRow.lt how k hk).1)
  have hk := KeepT.grown how hg
  refine ⟨⟨ps ++ [p], by simp [e], ?_, fun q hm => ?_⟩, hv h.ne, h.low.trans hb⟩
  · rw [List.map_append, List.length_append]
    simpa using ho ps e how
  · rw [List.mem_append, List.mem_singleton] at hm
    rcases hm with hm | rfl
    · exact ⟨(hq q hm).1.keepV hb hk, (hq q hm).2⟩
    · exact ⟨hp.1.keepV hb hk, hp.2⟩
theorem RowSt.row {w : World} {N : Nat} {A : Option Addr} {xs : List GV} (h : RowSt w N A xs) : RowAt w w.heap.size A xs := by
  rcases h with h | ⟨g, o, hA, hg, hs, hc⟩
  · exact .inl h
  · exact .inr ⟨g, o, hA, hg, fun i x hx => hc i x hx⟩
theorem TAcc.tab {w0 w : World} {v : Value} {rows : List (List GV)} (h : TAcc w0 w v rows) : ∃ A c, v = .slice A rows.length c ∧ CapOk rows.length c ∧ TabAt w w.heap.size A rows := by
  obtain ⟨ps, e, ho, hp⟩ := h.own
  rcases ho.2 with ⟨rfl, h0⟩ | ⟨g, cap, cur, rfl, hg, hh, hc1, hc2, hc3, hc4⟩
  · exact absurd rfl h.ne
  · refine ⟨_, cap, rfl, ⟨hc1, hc2⟩, .inr ⟨g, 0, rfl, (Array.getElem?_eq_some_iff.1 hh).1, fun i z hz => ?_⟩⟩
    have hi : i < rows.length := (List.getElem?_eq_some_iff.1 hz).1
    rw [← e, List.getElem?_map, Option.map_eq_some_iff] at hz
    obtain ⟨p, hpi, rfl⟩ := hz
    have hm := hp p (List.mem_of_getElem? hpi)
    have key : ∀ j, j < rows.length * 1 → w.cell? ⟨g, j, none⟩ = (ps.map thV)[j]? := fun j hj => by
      have h1 : w.cell? ⟨g, j, none⟩ = cur.toList[j]? := by simp [World.cell?, hh]
      rw [h1, ← hc4, List.getElem?_take_of_lt hj]
    rw [Nat.zero_add]
    refine ⟨p.1.1, p.1.2, (key _ (by omega)).trans ?_, hm.1.row⟩
    rw [List.getElem?_map, hpi]; rfl
theorem thV_cells (w : World) (p : TH) (t : TypeId) : ∀ j u, [thV p][j]? = some u → (w.alloc (.cells #[thV p] t)).cell? ((⟨w.heap.size, 0, none⟩ : Addr).add j) = some u := by
  intro j u hj
  match j, hj with
  | 0, hj => simp at hj; subst hj; simp [Addr.add]
theorem wpList_tapp {ops : Array Oper} {rest : List Oper} {o : Oper} {a : Act} {Q : Exit → Act → World → Prop} (W : World) (hgd : o.guard = none) (s x : Operand)
    (ho : o.op = .call { callee := .builtin .append, args := #[s, x], argTypes := #[28, 28] })
    (w0 : World) (v : Value) (rows : List (List GV)) (p : TH) (hs : a.eval s = v) (hI : TAcc w0 W v rows) (hp : THok W w0.heap.size p) (hx : a.eval x = .slice (some ⟨W.heap.size, 0, none⟩) 1 1) (hb : rows.length ≤ 4194304)
    (h : ∀ v' w', TAcc w0 w' v' (rows ++ [p.2]) → wpList Tryz.prog ops Q rest (a.put o.dst v') w') : wpList Tryz.prog ops Q (o :: rest) a (W.alloc (.cells #[.slice p.1.1 p.2.length p.1.2] 52)) := by
  obtain ⟨i0, hi, hz0, hz1, hz2⟩ := info_parts infoVs
  have hB : Below W.heap.size W (W.alloc (.cells #[thV p] 52)) := (Below.refl _ _).alloc (Nat.le_refl _) _
  have hI2 := hI.below hB
  have hp2 : THok (W.alloc (.cells #[thV p] 52)) w0.heap.size p := ⟨hp.1.keepV (hB.mono hI.low.size) (KeepT.below hB), hp.2⟩
  obtain ⟨ps, e, how, hq⟩ := hI2.own
  refine wpList_append_own _ hgd s x _ ho w0.heap.size 52 i0 _ 1 24 Tryz.underlying28 hi hz0 hz1 hz2 rfl (by decide) v rows.length (ps.map thV) hs how ⟨W.heap.size, 0, none⟩ 1 1 [thV p] hx rfl (thV_cells W p _) (by intro u hu; simp at hu; subst hu; rfl) (by unfold maxLen; omega) (by omega) hI2.low.size (fun v' w' h1 h2 h3 => h v' w' ?_)
  have hbw : Below w0.heap.size (W.alloc (.cells #[thV p] 52)) w' := (Below.refl _ _).grown h2 hI2.low.size (fun k hk => (World.ownsRow.lt how k hk).1)
  have hk := KeepT.grown how h2
  refine ⟨⟨ps ++ [p], by simp [e], ?_, fun q hm => ?_⟩, fun e1 => hI2.ne (h3.1 e1).1, hI2.low.trans hbw⟩
  · rw [List.map_append, List.length_append]
    simpa using h1
  · rw [List.mem_append, List.mem_singleton] at hm
    rcases hm with hm | rfl
    · exact ⟨(hq q hm).1.keepV hbw hk, (hq q hm).2⟩
    · exact ⟨hp2.1.keepV hbw hk, hp2.2⟩
/-- A table whose rows' capacities are known to fit. -/
def TabC (w : World) (B : Nat) (A : Option Addr) (rows : List (List GV)) : Prop :=
  rows = [] ∨ ∃ g o, A = some ⟨g, o, none⟩ ∧ g < B ∧ ∀ i r, rows[i]? = some r → ∃ A' c', w.cell? ⟨g, o + i, none⟩ = some (.slice A' r.length c') ∧ CapOk r.length c' ∧ RowAt w B A' r
theorem TabC.tab {w : World} {B : Nat} {A : Option Addr} {rows : List (List GV)} (h : TabC w B A rows) : TabAt w B A rows := by
  rcases h with h | ⟨g, o, hA, hg, hc⟩
  · exact .inl h
  · refine .inr ⟨g, o, hA, hg, fun i r hr => ?_⟩
    obtain ⟨A', c', h1, _, h2⟩ := hc i r hr
    exact ⟨A', c', h1, h2⟩
theorem TabC.below {w w' : World} {B B' : Nat} {A : Option Addr} {rows : List (List GV)} (h : TabC w B A rows) (hb : Below B' w w') (hB : B ≤ B') : TabC w' B A rows := by
  rcases h with h | ⟨g, o, hA, hg, hc⟩
  · exact .inl h
  · refine .inr ⟨g, o, hA, hg, fun i r hr => ?_⟩
    obtain ⟨A', c', h1, h2, h3⟩ := hc i r hr
    exact ⟨A', c', (hb.cell (p := ⟨g, o + i, none⟩) (Nat.lt_of_lt_of_le hg hB)).trans h1, h2, h3.below hb hB⟩
theorem TabC.mono {w : World} {B B' : Nat} {A : Option Addr} {rows : List (List GV)} (h : TabC w B A rows) (hB : B ≤ B') : TabC w B' A rows := by
  rcases h with h | ⟨g, o, hA, hg, hc⟩
  · exact .inl h
  · refine .inr ⟨g, o, hA, by omega, fun i r hr => ?_⟩
    obtain ⟨A', c', h1, h2, h3⟩ := hc i r hr
    exact ⟨A', c', h1, h2, h3.mono hB⟩
theorem TabC.to_ {w w' : World} {A : Option Addr} {rows : List (List GV)} (h : TabC w w.heap.size A rows) (hb : Below w.heap.size w w') : TabC w' w'.heap.size A rows := (h.below hb (Nat.le_refl _)).mono hb.size
theorem TabC.at_ {w : World} {B : Nat} {A : Option Addr} {rows : List (List GV)} (h : TabC w B A rows) {i : Nat} (hi : i < rows.length) :
    ∃ g o A' c', A = some ⟨g, o, none⟩ ∧ g < B ∧ w.cell? ⟨g, o + i, none⟩ = some (.slice A' rows[i].length c') ∧ CapOk rows[i].length c' ∧ RowAt w B A' rows[i] := by
  rcases h with h | ⟨g, o, hA, hg, hc⟩
  · subst h; simp at hi
  · obtain ⟨A', c', h1, h2, h3⟩ := hc i _ (List.getElem?_eq_getElem hi)
    exact ⟨g, o, A', c', hA, hg, h1, h2, h3⟩
theorem TAcc.tabC {w0 w : World} {v : Value} {rows : List (List GV)} (h : TAcc w0 w v rows) : ∃ A c, v = .slice A rows.length c ∧ CapOk rows.length c ∧ TabC w w.heap.size A rows := by
  obtain ⟨ps, e, ho, hp⟩ := h.own
  rcases ho.2 with ⟨rfl, h0⟩ | ⟨g, cap, cur, rfl, hg, hh, hc1, hc2, hc3, hc4⟩
  · exact absurd rfl h.ne
  · refine ⟨_, cap, rfl, ⟨hc1, hc2⟩, .inr ⟨g, 0, rfl, (Array.getElem?_eq_some_iff.1 hh).1, fun i z hz => ?_⟩⟩
    have hi : i < rows.length := (List.getElem?_eq_some_iff.1 hz).1
    rw [← e, List.getElem?_map, Option.map_eq_some_iff] at hz
    obtain ⟨p, hpi, rfl⟩ := hz
    have hm := hp p (List.mem_of_getElem? hpi)
    have h1 : w.cell? ⟨g, i, none⟩ = cur.toList[i]? := by simp [World.cell?, hh]
    refine ⟨p.1.1, p.1.2, ?_, hm.2, hm.1.row⟩
    rw [Nat.zero_add, h1, ← List.getElem?_take_of_lt (show i < rows.length * 1 by omega), hc4, List.getElem?_map, hpi]
    rfl
def TPostC (w : World) (rows : List (List GV)) (e : Ending) (w' : World) : Prop := ∃ A c, e = .returned (.slice A rows.length c) ∧ CapOk rows.length c ∧ TabC w' w'.heap.size A rows ∧ Below w.heap.size w w'
theorem TAcc.postC {w0 w : World} {v : Value} {rows : List (List GV)} (h : TAcc w0 w v rows) : TPostC w0 rows (.returned v) w := by
  obtain ⟨A, c, e, hc, hd⟩ := h.tabC
  exact ⟨A, c, by rw [e], hc, hd, h.low⟩
/-- What a function that answers a table leaves. -/
def TPost (w : World) (rows : List (List GV)) (e : Ending) (w' : World) : Prop := ∃ A c, e = .returned (.slice A rows.length c) ∧ CapOk rows.length c ∧ TabAt w' w'.heap.size A rows ∧ Below w.heap.size w w'
theorem TPostC.post {w w' : World} {rows : List (List GV)} {e : Ending} (h : TPostC w rows e w') : TPost w rows e w' := by
  obtain ⟨A, c, h1, h2, h3, h4⟩ := h
  exact ⟨A, c, h1, h2, h3.tab, h4⟩
theorem TAcc.post {w0 w : World} {v : Value} {rows : List (List GV)} (h : TAcc w0 w v rows) : TPost w0 rows (.returned v) w := by
  obtain ⟨A, c, e, hc, hd⟩ := h.tab
  exact ⟨A, c, by rw [e], hc, hd, h.low⟩
end Go.Proofs.YteoepnadjkjlmaaGreat
namespace Go.Proofs.YteoepnadjkjlmaaGreat
open Go.RowKit Go.Sort
set_option linter.unusedVariables false

/-- A table from block B on. -/
def TGA (B : Nat) (w : World) (A : Option Addr) (ps : List PR) : Prop := ps = [] ∨ ∃ g l, A = some ⟨g, 0, none⟩ ∧ B ≤ g ∧ OutAt w g ps l ∧ (∀ p ∈ ps, B ≤ p.1) ∧ (ps.map (·.1)).Nodup
theorem TGA.below {B : Nat} {w w' : World} {A : Option Addr} {ps : List PR} (h : TGA B w A ps) (hb : Below w.heap.size w w') : TGA B w' A ps := by
  rcases h with h | ⟨g, l, hA, hB, hO, hr, hn⟩
  · exact .inl h
  · exact .inr ⟨g, l, hA, hB, hO.below hb, hr, hn⟩
theorem TGA.keep {B : Nat} {w w' : World} {A : Option Addr} {ps : List PR} (h : TGA B w A ps) (hb : ∀ b, B ≤ b → b < w.heap.size → w'.heap[b]? = w.heap[b]?) : TGA B w' A ps := by
  rcases h with h | ⟨g, l, hA, hB, hO, hr, hn⟩
  · exact .inl h
  · exact .inr ⟨g, l, hA, hB, ⟨(hb g hB hO.1.lt).trans hO.1, fun p hp => (hb p.1 (hr p hp) (hO.2.1 p hp).lt).trans (hO.2.1 p hp), hO.2.2⟩, hr, hn⟩
theorem TGA.tabG {B : Nat} {w : World} {A : Option Addr} {ps : List PR} (h : TGA B w A ps) : TabG w A ps := by
  rcases h with h | ⟨g, l, hA, hB, hO, hr, hn⟩
  · exact .inl h
  · exact .inr ⟨g, l, hA, hO⟩
theorem TGA.tab {B : Nat} {w : World} {A : Option Addr} {ps : List PR} (h : TGA B w A ps) : TabAt w w.heap.size A (ps.map (·.2)) := h.tabG.tab
theorem TGA.nd {B : Nat} {w : World} {A : Option Addr} {ps : List PR} (h : TGA B w A ps) : (ps.map (·.1)).Nodup := by
  rcases h with rfl | ⟨g, l, hA, hB, hO, hr, hn⟩
  · simp
  · exact hn
theorem TGA.big {B : Nat} {w : World} {A : Option Addr} {ps : List PR} (h : TGA B w A ps) : ∀ b ∈ ps.map (·.1), B ≤ b := by
  rcases h with rfl | ⟨g, l, hA, hB, hO, hr, hn⟩
  · simp
  · intro b hb
    rw [List.mem_map] at hb
    obtain ⟨p, hp, rfl⟩ := hb
    exact hr p hp
theorem mark_tab {B : Nat} (A : Option Addr) (cap k : Nat) (ps : List PR) (w : World) (h : TGA B w A ps) (hB : B ≤ w.heap.size) (hk : 1 ≤ k) (hk2 : k ≤ 1000) (hn : ps.length ≤ 1048576) (hs : sumP ps ≤ 1048576) :
    Calls Tryz.prog 15 #[.slice A ps.length cap, .int .i64 k] w fun e w' => e = .returned (.int .i64 ((k + 3 * sumP ps : Nat) : Int)) ∧ TGA B w' A (markP k ps) ∧ Below B w w' := by
  refine (mark_table A cap k ps w h.tabG h.nd hk hk2 hn hs).mono ?_
  rintro e w' ⟨rfl, hT, hG⟩
  refine ⟨rfl, ?_, ⟨hG.os, hG.tape, hG.output, hG.size, fun b hb => hG.block b (by omega) (fun hm => by have := h.big b hm; omega)⟩⟩
  rcases h with rfl | ⟨g, l, hA, hBg, hO, hr, hnd⟩
  · exact .inl rfl
  · rcases hT with hT | ⟨g', l', hA', hO'⟩
    · exact .inl hT
    · rw [hA] at hA'
      injection hA' with e1
      injection e1 with e2 _ _
      subst e2
      refine .inr ⟨g, l', hA, hBg, hO', fun p hp => ?_, by rw [markP_fst]; exact hnd⟩
      have hm : p.1 ∈ (markP k ps).map (·.1) := List.mem_map.2 ⟨p, hp, rfl⟩
      rw [markP_fst, List.mem_map] at hm
      obtain ⟨q, hq, e⟩ := hm
      rw [← e]
      exact hr q hq
/-- What a function of the program's that answers a table has to leave. -/
def ITPost (w : World) (rows : List (List GV)) (e : Ending) (w' : World) : Prop := ∃ A c ps, e = .returned (.slice A ps.length c) ∧ ps.map (·.2) = rows ∧ TGA w.heap.size w' A ps ∧ Below w.heap.size w w'
theorem itpost_none {w w' : World} (h : Below w.heap.size w w') : ITPost w [] (.returned (.slice none 0 0)) w' := ⟨none, 0, [], rfl, rfl, .inl rfl, h⟩
theorem Whole.keepV {w w' : World} {b : Nat} {l : List Value} (h : Whole w b 79 l) (hk : KeepT 52 w w') : Whole w' b 79 l := by
  refine (hk b h.lt (fun cur fr e => ?_)).trans h
  unfold Whole at h
  rw [h] at e
  cases e
/-- A table that a call builds, each row a block of its own. -/
structure PAcc (w0 w : World) (v : Value) (ps : List PR) : Prop where
  own : w.ownsRow w0.heap.size 52 1 v ps.length (ps.map headV)
  row : ∀ p ∈ ps, w0.heap.size ≤ p.1 ∧ Whole w p.1 79 (flat p.2)
  nd : (ps.map (·.1)).Nodup
  ne : v ≠ .slice none 0 0
  low : Below w0.heap.size w0 w
theorem PAcc.start {w0 w : World} {n : Nat} (h : Below w0.heap.size w0 w) (hn : w.heap.size = n) : PAcc w0 (w.alloc (.cells #[] 52)) (.slice (some ⟨n, 0, none⟩) 0 0) [] := by
  subst hn; exact ⟨World.ownsRow_made w #[] 0 h.size (Nat.zero_le _) rfl, fun p hp => by simp at hp, by simp, by simp, h.alloc h.size _⟩
theorem PAcc.slice {w0 w : World} {v : Value} {ps : List PR} (h : PAcc w0 w v ps) : ∃ A c, v = .slice A ps.length c ∧ CapOk ps.length c := by
  rcases h.own.2 with ⟨rfl, h0⟩ | ⟨g, cap, cur, rfl, hg, hh, hc1, hc2, hc3, hc4⟩
  · exact absurd rfl h.ne
  · exact ⟨_, cap, rfl, hc1, hc2⟩
theorem PAcc.below {w0 w w' : World} {v : Value} {ps : List PR} (h : PAcc w0 w v ps) (hb : Below w.heap.size w w') : PAcc w0 w' v ps := by
  refine ⟨⟨h.own.1, ?_⟩, fun p hm => ⟨(h.row p hm).1, (hb.block p.1 (h.row p hm).2.lt).trans (h.row p hm).2⟩, h.nd, h.ne, h.low.trans (hb.mono h.low.size)⟩
  rcases h.own.2 with h' | ⟨g, cap, cur, e', hg, hc, hr⟩
  · exact .inl h'
  · exact .inr ⟨g, cap, cur, e', hg, (hb.block g (Array.getElem?_eq_some_iff.1 hc).1).trans hc, hr⟩
theorem headV_cells (w : World) (p : PR) (t : TypeId) : ∀ j u, [headV p][j]? = some u → (w.alloc (.cells #[headV p] t)).cell? ((⟨w.heap.size, 0, none⟩ : Addr).add j) = some u := by
  intro j u hj
  match j, hj with
  | 0, hj => simp at hj; subst hj; simp [Addr.add]
theorem wpList_papp {ops : Array Oper} {rest : List Oper} {o : Oper} {a : Act} {Q : Exit → Act → World → Prop} (W : World) (hgd : o.guard = none) (s x : Operand)
    (ho : o.op = .call { callee := .builtin .append, args := #[s, x], argTypes := #[28, 28] })
    (w0 : World) (v : Value) (ps : List PR) (p : PR) (hs : a.eval s = v) (hI : PAcc w0 W v ps) (hp : w0.heap.size ≤ p.1 ∧ Whole W p.1 79 (flat p.2)) (hnw : p.1 ∉ ps.map (·.1)) (hx : a.eval x = .slice (some ⟨W.heap.size, 0, none⟩) 1 1) (hb : ps.length ≤ 4194304)
    (h : ∀ v' w', PAcc w0 w' v' (ps ++ [p]) → wpList Tryz.prog ops Q rest (a.put o.dst v') w') : wpList Tryz.prog ops Q (o :: rest) a (W.alloc (.cells #[.slice (some ⟨p.1, 0, none⟩) p.2.length p.2.length] 52)) := by
  obtain ⟨i0, hi, hz0, hz1, hz2⟩ := info_parts infoVs
  have hB : Below W.heap.size W (W.alloc (.cells #[headV p] 52)) := (Below.refl _ _).alloc (Nat.le_refl _) _
  have hI2 := hI.below hB
  have hp2 : Whole (W.alloc (.cells #[headV p] 52)) p.1 79 (flat p.2) := (hB.block p.1 hp.2.lt).trans hp.2
  have how := hI2.own
  refine wpList_append_own _ hgd s x _ ho w0.heap.size 52 i0 _ 1 24 Tryz.underlying28 hi hz0 hz1 hz2 rfl (by decide) v ps.length (ps.map headV) hs how ⟨W.heap.size, 0, none⟩ 1 1 [headV p] hx rfl (headV_cells W p _) (by intro u hu; simp at hu; subst hu; rfl) (by unfold maxLen; omega) (by omega) hI2.low.size (fun v' w' h1 h2 h3 => h v' w' ?_)
  have hbw : Below w0.heap.size (W.alloc (.cells #[headV p] 52)) w' := (Below.refl _ _).grown h2 hI2.low.size (fun k hk => (World.ownsRow.lt how k hk).1)
  have hk := KeepT.grown how h2
  refine ⟨?_, fun q hm => ?_, ?_, fun e1 => hI2.ne (h3.1 e1).1, hI2.low.trans hbw⟩
  · rw [List.map_append, List.length_append]
    simpa using h1
  · rw [List.mem_append, List.mem_singleton] at hm
    rcases hm with hm | rfl
    · exact ⟨(hI2.row q hm).1, (hI2.row q hm).2.keepV hk⟩
    · exact ⟨hp.1, hp2.keepV hk⟩
  · rw [List.map_append, List.nodup_append]
    refine ⟨hI2.nd, by simp, fun b hb c hc => ?_⟩
    simp at hc
    subst hc
    exact fun e => hnw (e ▸ hb)
theorem PAcc.ga {w0 w : World} {v : Value} {ps : List PR} (h : PAcc w0 w v ps) : ∃ A c, v = .slice A ps.length c ∧ TGA w0.heap.size w A ps := by
  rcases h.own.2 with ⟨rfl, h0⟩ | ⟨g, cap, cur, rfl, hg, hh, hc1, hc2, hc3, hc4⟩
  · exact absurd rfl h.ne
  · refine ⟨_, cap, rfl, .inr ⟨g, cur.toList.drop (ps.length * 1), rfl, hg, ⟨?_, fun p hp => (h.row p hp).2, fun p hp e => ?_⟩, fun p hp => (h.row p hp).1, h.nd⟩⟩
    · unfold Whole
      rw [← hc4, List.take_append_drop]
      exact hh
    · have h1 := (h.row p hp).2
      unfold Whole at h1
      rw [e, hh] at h1
      cases h1
theorem PAcc.post {w0 w : World} {v : Value} {ps : List PR} {rows : List (List GV)} (h : PAcc w0 w v ps) (hz : ps.map (·.2) = rows) : ITPost w0 rows (.returned v) w := by
  obtain ⟨A, c, e, hd⟩ := h.ga
  exact ⟨A, c, ps, by rw [e], hz, hd, h.low⟩
end Go.Proofs.YteoepnadjkjlmaaGreat
