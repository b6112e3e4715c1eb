/-
  Rows as keys of a map: the key's law, what a row's key reads as. 'm[k] += x' on a map of the call's own: the entry, the look-up on either side of it, the store into it.
-/
import Derived.Test.YtemcpdpbikgfcaaVRowZ
import Derived.Maps.OwnSet
import Derived.DeepKeys4
import Derived.WideKeyEntry
namespace Go.Proofs.Ytemcpdpbikgfcaa
open Go.RowKit
set_option linter.unusedVariables false

def zGV : GV := ⟨0, 0, ByteArray.empty⟩
/-- A row behind which zero values stand, eight in all. -/
def pad (r : List GV) : List GV := r ++ List.replicate (8 - r.length) zGV
theorem pad_length {r : List GV} (h : r.length ≤ 8) : (pad r).length = 8 := by simp [pad]; omega
theorem pad_mem {r : List GV} {v : GV} (h : v ∈ pad r) : v ∈ r ∨ v = zGV := by
  unfold pad at h
  rw [List.mem_append] at h
  exact h.imp id (fun h => (List.mem_replicate.1 h).2)
def keyV (r : List GV) : Value := .agg (flat (pad r)).toArray
theorem laidOutP : laidOutB Try.prog = true := by kernel_rfl
theorem keyRow : (83 : TypeId) < Try.prog.types.size := of_decide_eq_true (by kernel_rfl)
theorem keyDeep : Try.prog.keyTypeAt 4 83 = true := by kernel_rfl
theorem keyCells : Try.prog.cellsOf 83 = 24 := by kernel_rfl
theorem valCells : Try.prog.cellsOf 52 = 3 := by kernel_rfl
theorem keyArr : Try.prog.underlying 83 = some (.array 8 52) := by kernel_rfl
theorem keyTy : Try.prog.keyType 83 = true := by kernel_rfl
theorem keyK : Maps.Keyed Try.prog 83 := Maps.Keyed.of_law (deep_law_laid laidOutP (m := 4) (by omega) keyRow keyDeep (by rw [keyArr]))
theorem lits_int {d : Nat} {n : Int} (h : (Lit.int .i64 n).wf = true) : Try.prog.keyLits (d + 1) 2 [.int .i64 n] = some [.int .i64 n] := by
  unfold Program.keyLits
  rw [Try.underlying2]
  simp [h]
theorem lits_str {d : Nat} {t : ByteArray} (h : t.size ≤ maxLen) : Try.prog.keyLits (d + 1) 9 [.string t] = some [.string t.data.toList] := by
  unfold Program.keyLits
  rw [Try.underlying9]
  simp [h]
theorem val_lits {d : Nat} {v : GV} (h : v.fit) : Try.prog.keyLits (d + 2) 52 [.int .i64 v.k, .int .i64 v.n, .string v.t] = some [.int .i64 v.k, .int .i64 v.n, .string v.t.data.toList] := by
  obtain ⟨h1, h2, h3⟩ := h
  have c1 : Try.prog.cellsOf 2 = 1 := by kernel_rfl
  have c2 : Try.prog.cellsOf 9 = 1 := by kernel_rfl
  unfold Program.keyLits
  rw [Try.underlying52]
  simp [valCells, c1, c2, lits_int h1, lits_int h2, lits_str h3]
theorem zGV_fit : zGV.fit := ⟨by decide, by decide, by decide⟩
theorem eight {α : Type} {l : List α} (h : l.length = 8) : ∃ a b c d e f g i, l = [a, b, c, d, e, f, g, i] := by
  match l, h with
  | [a, b, c, d, e, f, g, i], _ => exact ⟨a, b, c, d, e, f, g, i, rfl⟩
def litsOf : List GV → List Lit
  | [] => []
  | v :: vs => .int .i64 v.k :: .int .i64 v.n :: .string v.t.data.toList :: litsOf vs
/-- What a row's key reads as. -/
def klOf (r : List GV) : Lit := .string (keyBytes (litsOf (pad r)))
theorem typesBig : 2 ≤ Try.prog.types.size := of_decide_eq_true (by kernel_rfl)
theorem key_is {r : List GV} (hl : r.length ≤ 8) (hf : ∀ v ∈ r, v.fit) : keyOf Try.prog 83 (keyV r) = some (klOf r) := by
  have hf' : ∀ v ∈ pad r, v.fit := fun v hv => by
    rcases pad_mem hv with h | rfl
    · exact hf v h
    · exact zGV_fit
  obtain ⟨a, b, c, d, e, f, g, i, hp⟩ := eight (pad_length hl)
  unfold keyV klOf
  rw [hp] at hf' ⊢
  have ht : Try.prog.types.size + 1 = (Try.prog.types.size - 2 + 2) + 1 := by have := typesBig; omega
  have fm : (Value.agg (flat [a, b, c, d, e, f, g, i]).toArray).formed Try.prog 83 = true := by
    simp [Value.formed, keyCells, flat]
  unfold keyOf
  rw [keyArr]
  simp only [keyTy, fm, Bool.and_self, if_true]
  rw [ht]
  unfold Program.keyLits
  rw [keyArr]
  simp [Value.cells, keyCells, valCells, flat, litsOf, List.range, List.range.loop, val_lits (hf' a (by simp)), val_lits (hf' b (by simp)), val_lits (hf' c (by simp)), val_lits (hf' d (by simp)), val_lits (hf' e (by simp)), val_lits (hf' f (by simp)), val_lits (hf' g (by simp)), val_lits (hf' i (by simp))]
theorem flat_inj : ∀ a b : List GV, flat a = flat b → a = b
  | [], [], _ => rfl
  | [], _ :: _, h => by simp [flat] at h
  | _ :: _, [], h => by simp [flat] at h
  | x :: a, y :: b, h => by
    simp only [flat, List.cons.injEq, Value.int.injEq, Value.string.injEq, true_and] at h
    obtain ⟨h1, h2, h3, h4⟩ := h
    rw [flat_inj a b h4]
    cases x; cases y; simp_all
end Go.Proofs.Ytemcpdpbikgfcaa
namespace Go.Proofs.Ytemcpdpbikgfcaa
open Go.RowKit Go.WideElems Go.WideShapes Go.ChangeShapes Go.ChangeMaps Go.MapKept
set_option linter.unusedVariables false

theorem setBlock_twice (w : World) (b : Nat) (x y : Obj) : setBlock (setBlock w b x) b y = setBlock w b y := by
  unfold setBlock; simp
theorem setBlock_self {w : World} {b : Nat} {x : Obj} (h : w.heap[b]? = some x) : setBlock w b x = w := by
  unfold setBlock
  cases w with
  | mk heap =>
    simp only at h ⊢
    congr 1
    obtain ⟨hl, e⟩ := Array.getElem?_eq_some_iff.1 h
    apply Array.ext_getElem?
    intro i
    rw [Array.getElem?_setIfInBounds]
    by_cases hi : b = i
    · subst hi; rw [if_pos rfl, if_pos hl, h]
    · rw [if_neg hi]
theorem entry_mid {H : Type} {P : Program} {k e t : TypeId} {W : World} {b n : Nat} {D : DataW H} (K : WideMaps.KeyLaw P k) (ht : P.underlying t = some (.map k e)) (he : P.underlying e = some (.int .i64))
    (hz : ∀ u : World, (zeroValue e).run P u = .ok (.int .i64 0) u) (own : W.ownsMap P k (plainElem P e) b n D) (hn : n < maxLen) {key : Value} {kl : Lit} (hkey : keyOf P k key = some kl) :
    ∃ (s : Int) (st : Nat) (v0 : Value) (W1 : World), D.atKey kl (.lit (.int .i64 0)) = .lit (.int .i64 s) ∧
      (Instr.lookup t (.map (some b)) key false).run P W = .ok (.int .i64 s) W ∧
      (Instr.mapEntry t (.map (some b)) key).run P W = .ok (.tuple #[v0, .int .i64 (st : Int)]) W1 ∧
      (Instr.lookup t (.map (some b)) key false).run P W1 = .ok (.int .i64 s) W1 ∧
      W.grownBy W1 (some b) ∧
      ∀ x : Int, (Lit.int .i64 x).wf = true → ∃ W2, (Instr.entryStore t (.map (some b)) (.int .i64 (st : Int)) (.int .i64 x)).run P W1 = .ok () W2 ∧ W2.ownsMap P k (plainElem P e) b (n + 1) (D.put kl (.lit (.int .i64 x))) ∧ W.grownBy W2 (some b) := by
  have K' := Maps.Keyed.of_law K
  have hw0 : (Lit.int .i64 0).wf = true := by decide
  obtain ⟨s, hl, hat, hws⟩ := own.lookup_int K' ht he (hz W) hkey
  obtain ⟨es, clock, hb, F, hs, hD⟩ := own
  obtain ⟨v0, st, es1, clock1, hrun, hv0, hst⟩ := entry_then_store K ht hz hb F hkey
  have own' : W.ownsMap P k (plainElem P e) b n D := ⟨es, clock, hb, F, hs, hD⟩
  have hg1 : W.grownBy (setBlock W b (.map es1 clock1)) (some b) := ⟨rfl, rfl, rfl, by simp [setBlock], fun i _ hi => heap_setBlock_other hb _ (fun e => hi (by rw [e]))⟩
  refine ⟨s, st, v0, _, hat, hl, hrun, ?_, hg1, fun x hx => ?_⟩
  · -- the look-up behind the entry
    have hE : (setBlock W b (.map es1 clock1) = W) ∨ ∃ w', (Instr.mapUpdate t (.map (some b)) key (.int .i64 0)).run P W = .ok () w' ∧ setBlock W b (.map es1 clock1) = w' ∧ D.atKey kl (.lit (.int .i64 0)) = .lit (.int .i64 0) := by
      rcases K.find W hkey es.toList F.keys with ⟨h1, h2⟩ | ⟨j, e0, h1, h2, h3⟩
      · right
        have r1 : (Instr.mapEntry t (.map (some b)) key).run P W = .ok (.tuple #[.int .i64 0, goInt clock]) (setBlock W b (.map (es.push ⟨key, .int .i64 0, clock⟩) (clock + 1))) := by
          simp [Instr.mapEntry, run_underlying ht, MapKept.run_getObj_map hb, K.check W false hkey, h1, hz, MapKept.run_setObj_map _ hb, Result.andThen, setBlock]
        have r2 : (Instr.mapUpdate t (.map (some b)) key (.int .i64 0)).run P W = .ok () (setBlock W b (.map (es.push ⟨key, .int .i64 0, clock⟩) (clock + 1))) := by
          simp [Instr.mapUpdate, run_underlying ht, MapKept.run_getObj_map hb, K.check W false hkey, h1, MapKept.run_setObj_map _ hb, Result.andThen, setBlock]
        rw [r1] at hrun
        refine ⟨_, r2, (Result.ok.inj hrun).2.symm, ?_⟩
        have hz' := hz W
        rcases Maps.fit_look false K' ht hz' hb F hkey with ⟨_, _, hat'⟩ | ⟨e0, y, hm, hk, _⟩
        · rw [hD]; exact hat' _
        · exact absurd hk (h2 e0 hm)
      · left
        have hj : es[j]? = some e0 := by simpa using h2
        have hsame : es.modify j (fun e => { e with key := key }) = es := by
          apply Array.ext'
          rw [Array.toList_modify, modify_eq_set _ _ _ _ h2]
          have : ({ e0 with key := key } : MapEntry) = e0 := by rw [← h3]
          rw [this]
          exact WideElems.set_self _ _ _ h2
        have r1 : (Instr.mapEntry t (.map (some b)) key).run P W = .ok (.tuple #[e0.val, goInt e0.born]) (setBlock W b (.map es clock)) := by
          simp [Instr.mapEntry, run_underlying ht, MapKept.run_getObj_map hb, K.check W false hkey, h1, hj, h3, K.stays W hkey, hsame, MapKept.run_setObj_map _ hb, Result.andThen, setBlock]
        rw [r1] at hrun
        rw [← (Result.ok.inj hrun).2]
        exact setBlock_self hb
    rcases hE with hE | ⟨w', hu, hE, h0⟩
    · rw [hE]; exact hl
    · rw [hE]
      obtain ⟨w2, hu2, o2, _⟩ := own'.update K' ht hn hkey (plainElem_int he hw0)
      have : w' = w2 := by rw [hu] at hu2; exact (Result.ok.inj hu2).2
      subst this
      obtain ⟨s2, hl2, hat2, _⟩ := o2.lookup_int K' ht he (hz w') hkey
      rw [Maps.atKey_put_same own'.isMap (K'.key hkey)] at hat2
      rw [hat] at h0
      have e1 : s = 0 := by simpa using h0
      have e2 : s2 = 0 := by simpa using hat2.symm
      rw [hl2, e1, e2]
  · obtain ⟨es', clock', he1, hu1⟩ := hst _ (.int .i64 x) (heap_setBlock_same hb _)
    obtain ⟨w2, hu2, o2, hg2⟩ := own'.update K' ht hn hkey (plainElem_int he hx)
    have e2 : w2 = setBlock W b (.map es' clock') := by rw [hu1] at hu2; exact (Result.ok.inj hu2).2.symm
    refine ⟨_, he1, ?_, ?_⟩
    · rw [setBlock_twice, ← e2]; exact o2
    · rw [setBlock_twice, ← e2]; exact hg2
end Go.Proofs.Ytemcpdpbikgfcaa
