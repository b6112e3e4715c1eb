/-
  The answers to an atom over a database: mathematics. Lists of texts: slices of the call's own, and how a text is put into an ascending list. A new row, while it is built.
-/
import Derived.Test.YteoepnadjkjlmaaGreatDbOkMZ
import Derived.Test.YteoepnadjkjlmaaGreatAtomOkZ
import Derived.Test.YteoepnadjkjlmaaGreatSzNodesZ
import Derived.Laws.AppendOwn
import Derived.Lib.Strings
import Derived.Laws.Cover1
import Derived.Test.YteoepnadjkjlmaaGreatRowStZ
import Derived.Test.YteoepnadjkjlmaaGreatToTabZ
import Derived.Test.YteoepnadjkjlmaaGreatMarkZ
import Derived.Deep.RegionLaw
namespace Go.Proofs.YteoepnadjkjlmaaGreat
open Go.RowKit Go.Sort
set_option linter.unusedVariables false

def askOk (xs : List GRel) (a : GAtom) : Bool := dbOkB xs && (atomB a && a.args.all oneB)
def askR (xs : List GRel) (a : GAtom) : List (List GV) :=
  if askOk xs a = true then (if wid (rowsR xs a.name) = a.args.length then (rowsR xs a.name).filter (ansB (a.args.map leafOf)) else []) else []
theorem askR_no {xs : List GRel} {a : GAtom} (h : askOk xs a = false) : askR xs a = [] := by unfold askR; rw [if_neg (by rw [h]; decide)]
theorem askR_wid {xs : List GRel} {a : GAtom} (h : wid (rowsR xs a.name) ≠ a.args.length) : askR xs a = [] := by
  unfold askR
  by_cases hk : askOk xs a = true
  · rw [if_pos hk, if_neg h]
  · rw [if_neg hk]
theorem askR_yes {xs : List GRel} {a : GAtom} {ts : List Tr} (h : askOk xs a = true) (he : a.args = ts.map treeN) (hf : ∀ t ∈ ts, leafT t = true) (hw : wid (rowsR xs a.name) = a.args.length) : askR xs a = (rowsR xs a.name).filter (ansB ts) := by
  unfold askR
  rw [if_pos h, if_pos hw, he, leafOf_map hf]
theorem dbTo_all {xs : List GRel} : ∀ n, dbTo xs n = true → ∀ k, k < n → relAtB xs k = true
  | 0, _, k, hk => by omega
  | n + 1, h, k, hk => by
    rw [dbTo, Bool.and_eq_true] at h
    by_cases e : k = n
    · subst e; exact h.2
    · exact dbTo_all n h.1 k (by omega)
theorem db_rel {xs : List GRel} (h : dbOkB xs = true) : ∀ x ∈ xs, relB x = true := by
  intro x hx
  obtain ⟨k, hk, rfl⟩ := List.getElem_of_mem hx
  unfold dbOkB at h
  rw [Bool.and_eq_true] at h
  have h1 := dbTo_all _ h.2 k hk
  unfold relAtB at h1
  rw [List.getElem?_eq_getElem hk] at h1
  simp only [Bool.and_eq_true] at h1
  exact h1.1
/-- The rows of a relation of a database: all of one width, their values good. -/
theorem rowsR_ok {xs : List GRel} (h : dbOkB xs = true) (s : ByteArray) : ∀ r ∈ rowsR xs s, r.length = wid (rowsR xs s) ∧ r.length ≤ 8 ∧ ∀ v ∈ r, GoodV v := by
  unfold rowsR
  split
  · rename_i x hx
    have h1 := db_rel h x (List.mem_of_getElem? hx)
    unfold relB tableOkB rowsOkB at h1
    simp only [Bool.and_eq_true, List.all_eq_true] at h1
    intro r hr
    have h2 := h1.2.1.1 r hr
    unfold goodRow rowOkB at h2
    simp only [Bool.and_eq_true, decide_eq_true_eq, List.all_eq_true] at h2
    exact ⟨h2.2, h2.1.2, fun v hv => good_ok (h2.1.1 v hv)⟩
  · simp
/-- An atom that may be asked for. -/
theorem ask_leaves {xs : List GRel} {a : GAtom} (h : askOk xs a = true) : dbOkB xs = true ∧ a.args.length ≤ 8 ∧ ∃ ts : List Tr, a.args = ts.map treeN ∧ (∀ t ∈ ts, Wf t) ∧ ∀ t ∈ ts, leafT t = true := by
  unfold askOk atomB at h
  simp only [Bool.and_eq_true, decide_eq_true_eq, List.all_eq_true] at h
  refine ⟨h.1, h.2.1.1.2, leaves (fun x hx => h.2.1.2 x hx) (fun x hx => ?_)⟩
  have := h.2.2 x hx
  unfold oneB at this
  simpa using this
end Go.Proofs.YteoepnadjkjlmaaGreat
namespace Go.Proofs.YteoepnadjkjlmaaGreat
open Go.RowKit Go.Sort
set_option linter.unusedVariables false

def strL (l : List ByteArray) : List Value := l.map Value.string
theorem strL_length (l : List ByteArray) : (strL l).length = l.length * 1 := by simp [strL]
theorem strL_append (a b : List ByteArray) : strL (a ++ b) = strL a ++ strL b := by simp [strL]
theorem strL_one (l : List ByteArray) : ∀ u ∈ strL l, u.oneCell' = true := by
  intro u hu; simp [strL] at hu; obtain ⟨a, _, rfl⟩ := hu; rfl
/-- A slice of texts of the call's own, from block B on. -/
def SRow (B : Nat) (w : World) (v : Value) (l : List ByteArray) : Prop := w.ownsRow B 9 1 v l.length (strL l)
theorem SRow.strs {B : Nat} {w : World} {v : Value} {l : List ByteArray} (h : SRow B w v l) : ∃ A c, v = .slice A l.length c ∧ CapOk l.length c ∧ StrsAt w B w.heap.size A l := by
  rcases h.2 with ⟨rfl, h0⟩ | ⟨g, cap, cur, rfl, hg, hh, hc1, hc2, hc3, hc4⟩
  · exact ⟨none, 0, by rw [h0], by rw [h0]; exact ⟨Nat.le_refl _, Nat.zero_le _⟩, .inl (List.eq_nil_of_length_eq_zero h0)⟩
  · refine ⟨_, cap, rfl, ⟨hc1, hc2⟩, .inr ⟨g, 0, rfl, hg, ?_, fun i x hx => ?_⟩⟩
    · rcases Nat.lt_or_ge g w.heap.size with h' | h'
      · exact h'
      · rw [Array.getElem?_eq_none h'] at hh; cases hh
    · have hi : i < l.length := (List.getElem?_eq_some_iff.1 hx).1
      have h1 : w.cell? ⟨g, i, none⟩ = cur.toList[i]? := by simp [World.cell?, hh]
      show w.cell? ⟨g, 0 + i, none⟩ = some (.string x)
      rw [Nat.zero_add, h1, ← List.getElem?_take_of_lt (show i < l.length * 1 by omega), hc4]
      simp [strL, hx]
/-- A list of texts that is there, not nil. -/
def SL (w : World) (v : Value) (l : List ByteArray) : Prop := ∃ g o c, v = .slice (some ⟨g, o, none⟩) l.length c ∧ CapOk l.length c ∧ g < w.heap.size ∧ ∀ i x, l[i]? = some x → w.cell? ⟨g, o + i, none⟩ = some (.string x)
theorem SL.to_ {w w' : World} {v : Value} {l : List ByteArray} (h : SL w v l) (hb : Below w.heap.size w w') : SL w' v l := by
  obtain ⟨g, o, c, h1, h2, h3, h4⟩ := h
  exact ⟨g, o, c, h1, h2, Nat.lt_of_lt_of_le h3 hb.size, fun i x hx => (hb.cell (p := ⟨g, o + i, none⟩) h3).trans (h4 i x hx)⟩
theorem SL.strs {w : World} {v : Value} {l : List ByteArray} (h : SL w v l) : ∃ A c, v = .slice A l.length c ∧ StrsAt w 0 w.heap.size A l := by
  obtain ⟨g, o, c, h1, h2, h3, h4⟩ := h
  exact ⟨_, c, h1, .inr ⟨g, o, rfl, Nat.zero_le _, h3, fun i x hx => h4 i x hx⟩⟩
theorem SRow.sl {B : Nat} {w : World} {v : Value} {l : List ByteArray} (h : SRow B w v l) (hn : v ≠ .slice none 0 0) : SL w v l := by
  rcases h.2 with ⟨h0, _⟩ | ⟨g, cap, cur, rfl, hg, hh, hc1, hc2, hc3, hc4⟩
  · exact absurd h0 hn
  · refine ⟨g, 0, cap, rfl, ⟨hc1, hc2⟩, ?_, fun i x hx => ?_⟩
    · rcases Nat.lt_or_ge g w.heap.size with h' | h'
      · exact h'
      · rw [Array.getElem?_eq_none h'] at hh; cases hh
    · have hi : i < l.length := (List.getElem?_eq_some_iff.1 hx).1
      have h1 : w.cell? ⟨g, i, none⟩ = cur.toList[i]? := by simp [World.cell?, hh]
      rw [Nat.zero_add, h1, ← List.getElem?_take_of_lt (show i < l.length * 1 by omega), hc4]
      simp [strL, hx]

def ltB (a b : ByteArray) : Bool := Op.bytesLess a.toList b.toList
def posM : List ByteArray → ByteArray → Nat
  | [], _ => 0
  | x :: r, s => if ltB x s = true then posM r s + 1 else 0
def insM (l : List ByteArray) (s : ByteArray) : List ByteArray := if l[posM l s]? = some s then l else l.take (posM l s) ++ (s :: l.drop (posM l s))
theorem posM_le (s : ByteArray) : ∀ l, posM l s ≤ l.length
  | [] => Nat.le_refl _
  | x :: r => by rw [posM]; have := posM_le s r; split <;> simp <;> omega
theorem posM_step (s : ByteArray) : ∀ (l : List ByteArray) (k : Nat) (h : k < l.length), k ≤ posM l s → (ltB l[k] s = true → k + 1 ≤ posM l s) ∧ (ltB l[k] s = false → posM l s = k)
  | [], k, h, _ => by simp at h
  | x :: r, 0, h, _ => by
    rw [posM]
    constructor
    · intro h'; rw [if_pos (show ltB x s = true from h')]; omega
    · intro h'; rw [if_neg (by rw [show ltB x s = false from h']; decide)]
  | x :: r, k + 1, h, hk => by
    rw [posM] at hk ⊢
    by_cases hx : ltB x s = true
    · rw [if_pos hx] at hk ⊢
      have := posM_step s r k (by simpa using h) (by omega)
      constructor
      · intro h'; have := this.1 h'; omega
      · intro h'; have := this.2 h'; omega
    · rw [if_neg hx] at hk; omega
end Go.Proofs.YteoepnadjkjlmaaGreat
namespace Go.Proofs.YteoepnadjkjlmaaGreat
open Go.RowKit Go.Sort
set_option linter.unusedVariables false

/-- A new row, while it is built: nothing that was there at w has changed. -/
def VI (w W : World) (v : Value) (vs : List GV) : Prop := VRow w.heap.size W v vs ∧ Below w.heap.size w W ∧ v ≠ .slice none 0 0
theorem VI.start {w w' : World} {n : Nat} (h : Below w.heap.size w w') (hn : w'.heap.size = n) : VI w (w'.alloc (.cells #[] 79)) (.slice (some ⟨n, 0, none⟩) 0 0) [] := by
  subst hn; exact ⟨World.ownsRow_made w' #[] 0 h.size (Nat.zero_le _) rfl, h.alloc h.size _, by simp⟩
theorem VI.st {w W : World} {v : Value} {vs : List GV} {N : Nat} (h : VI w W v vs) : ∃ A c, v = .slice A vs.length c ∧ RowSt W N A vs ∧ CapOk vs.length c := by
  rcases h.1.2 with ⟨h0, _⟩ | ⟨g, cap, cur, rfl, hg, hh, hc1, hc2, hc3, hc4⟩
  · exact absurd h0 h.2.2
  · refine ⟨_, cap, rfl, .inr ⟨g, 0, rfl, (Array.getElem?_eq_some_iff.1 hh).1, .inr ⟨_, _, hh⟩, fun i v hv => ?_⟩, hc1, hc2⟩
    obtain ⟨f0, f1, f2⟩ := flat_at vs i v hv
    have hi : i < vs.length := (List.getElem?_eq_some_iff.1 hv).1
    have key : ∀ j, j < vs.length * 3 → W.cell? ⟨g, j, none⟩ = (flat vs)[j]? := fun j hj => by
      have h1 : W.cell? ⟨g, j, none⟩ = cur.toList[j]? := by simp [World.cell?, hh]
      rw [h1, ← hc4, List.getElem?_take_of_lt hj]
    rw [Nat.zero_add]
    exact ⟨(key _ (by omega)).trans f0, (key _ (by omega)).trans f1, (key _ (by omega)).trans f2⟩
/-- The cells of a row, wherever it lies. -/
theorem row_src {w : World} {B : Nat} {A : Option Addr} {vs : List GV} (h : RowAt w B A vs) : (A = none → vs.length = 0) ∧ ∀ ad, A = some ad → ∀ j u, (flat vs)[j]? = some u → w.cell? (ad.add j) = some u := by
  rcases h with rfl | ⟨g, o, rfl, hg, hc⟩
  · exact ⟨fun _ => rfl, fun ad _ j u hu => by simp [flat] at hu⟩
  · refine ⟨(fun e => by cases e), fun ad e j u hu => ?_⟩
    cases e
    obtain ⟨i, v, hv, h'⟩ := flat_get vs j u hu
    obtain ⟨c0, c1, c2⟩ := hc i v hv
    rw [Addr.add_lit]
    rcases h' with ⟨rfl, rfl⟩ | ⟨rfl, rfl⟩ | ⟨rfl, rfl⟩
    · exact c0
    · rw [← Nat.add_assoc]; exact c1
    · rw [← Nat.add_assoc]; exact c2
theorem step_vapp {ops : Array Oper} {o : Oper} {a : Act} {W : World} {K : Act → World → Prop} {Q : Exit → Act → World → Prop} {E : Prop}
    (hg : o.guard = none) (s x : Operand) (hop : o.op = Op.call { callee := Callee.builtin Builtin.append, args := #[s, x], argTypes := #[52, 52] })
    (w : World) (v : Value) (us : List GV) (hs : a.eval s = v) (hI : VI w W v us)
    (A : Option Addr) (c : Nat) (vs : List GV) (hx : a.eval x = .slice A vs.length c) (hr : RowAt w w.heap.size A vs) (hb : us.length + vs.length ≤ 4194304)
    (hK : ∀ v' W', VI w W' v' (us ++ vs) → K (a.put o.dst v') W') :
    if Region.wanted o (yielded ops a.tmps) = true then Oper.wp Tryz.prog o a W K Q else E := by
  have hw : Region.wanted o (yielded ops a.tmps) = true := by simp [Region.wanted, hg]
  rw [if_pos hw]
  obtain ⟨i0, hi, hz0, hz1, hz2⟩ := info_parts infoValue
  obtain ⟨h1, h2⟩ := row_src (hr.to_ hI.2.1)
  refine wp_append_any W s x 52 hop w.heap.size 79 i0 _ 3 32 Tryz.underlying52 hi hz0 hz1 hz2 rfl (by decide) v us.length (flat us) hs hI.1 A vs.length c (flat vs) hx (flat_length vs) h1 h2 (flat_one vs) (by unfold maxLen; omega) (by omega) hI.2.1.size (fun v' W' h3 h4 h5 => hK v' W' ⟨?_, ?_, h5 hI.2.2⟩)
  · show W'.ownsRow _ _ _ _ _ _
    rw [List.length_append, flat_append]
    exact h3
  · exact hI.2.1.grown h4 hI.2.1.size (fun k hk => (World.ownsRow.lt hI.1 k hk).1)
end Go.Proofs.YteoepnadjkjlmaaGreat
