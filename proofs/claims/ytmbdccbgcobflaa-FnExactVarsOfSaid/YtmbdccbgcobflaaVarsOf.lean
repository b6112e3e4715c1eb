/-
  impl.VarsOf.
-/
import Derived.Test.YtmbdccbgcobflaaSortN
import Derived.Test.YtmbdccbgcobflaaExprs
namespace Go.Proofs.Ytmbdccbgcobflaa
open Go.RowKit Go.Sort
set_option linter.unusedVariables false

theorem strings_clone (s : ByteArray) (w : World) (hs : s.size ≤ 1048576) :
    Calls Try.prog 22 #[.string s] w fun e w' => e = .returned (.string s) ∧ Below w.heap.size w w' := by
  go_enter Try.func22, Try.ntmps22
  go_wp2_with fail
  refine (Try.stringslite_Clone s _ (by omega)).mono ?_
  rintro e w1 ⟨rfl, hb1⟩
  go_wp2_with fail
  go_ret
  exact ⟨rfl, hb1⟩
/-- Blocks that hold no texts are as before. -/
def KeepS (w w' : World) : Prop := ∀ i, i < w.heap.size → (∀ cur fr, w.heap[i]? ≠ some (.cells cur 9 fr)) → w'.heap[i]? = w.heap[i]?
theorem KeepS.refl (w : World) : KeepS w w := fun _ _ _ => rfl
theorem KeepS.trans {a b c : World} (h : KeepS a b) (hs : a.heap.size ≤ b.heap.size) (k : KeepS b c) : KeepS a c := fun i hi hn => (k i (by omega) (fun cur fr => by rw [h i hi hn]; exact hn cur fr)).trans (h i hi hn)
theorem KeepS.below {w w' : World} (h : Below w.heap.size w w') : KeepS w w' := fun i hi _ => h.block i hi
theorem KeepS.grown {B n : Nat} {w w' : World} {v : Value} {xs : List Value} (hr : w.ownsRow B 9 1 v n xs) (hg : w.grownBy w' v.ownBlock) : KeepS w w' := by
  intro i hi hn
  refine hg.block i hi ?_
  intro he
  rcases hr.2 with ⟨rfl, _⟩ | ⟨g, cap, cur, rfl, hg, hh, _⟩
  · simp [Value.ownBlock] at he
  · simp [Value.ownBlock] at he; subst he; exact hn _ _ hh
theorem ERow.keep {B N lo : Nat} {w w' : World} {v : Value} {xs : List (List GNode)} (h : ERow B N lo w v xs) (hk : KeepS w w') (hb : Below N w w') : ERow B N lo w' v xs := by
  obtain ⟨hs, ho, hh⟩ := h
  refine ⟨hs, ⟨ho.1, ?_⟩, hh.below hb (Nat.le_refl _)⟩
  rcases ho.2 with h' | ⟨g, cap, cur, e, hg, hc, hr⟩
  · exact .inl h'
  · refine .inr ⟨g, cap, cur, e, hg, ?_, hr⟩
    rw [hk g (Array.getElem?_eq_some_iff.1 hc).1 (fun cur' fr e' => by rw [hc] at e'; cases e')]
    exact hc
theorem ERow.at_ {B N lo : Nat} {w : World} {A : Option Addr} {c : Nat} {xs : List (List GNode)} (h : ERow B N lo w (.slice A xs.length c) xs) {i : Nat} (hi : i < xs.length) : ∃ g, A = some ⟨g, 0, none⟩ ∧ ∃ A' c', w.cell? ⟨g, i, none⟩ = some (.slice A' xs[i].length c') ∧ NodesAt w lo N A' xs[i] := by
  obtain ⟨hs, ho, hh⟩ := h
  rcases ho.2 with ⟨_, h0⟩ | ⟨g, cap, cur, e, hg, hc, h1, h2, h3, h4⟩
  · omega
  · cases e
    have hl : i < hs.length := by rw [hh.1]; exact hi
    obtain ⟨A', c', e', hn⟩ := hh.2 i _ _ (List.getElem?_eq_getElem hl) (List.getElem?_eq_getElem hi)
    refine ⟨g, rfl, A', c', ?_, hn⟩
    have : w.cell? ⟨g, i, none⟩ = cur.toList[i]? := by simp [World.cell?, hc]
    rw [this, ← List.getElem?_take_of_lt (show i < xs.length * 1 by omega), h4, List.getElem?_eq_getElem hl, e']
theorem srow_app {B : Nat} {w : World} {v : Value} {l : List ByteArray} {s : ByteArray} (h : w.ownsRow B 9 1 v (l.length + 1) (strL l ++ [.string s])) : SRow B w v (l ++ [s]) := by
  unfold SRow
  rw [strL_append, List.length_append]
  simpa [strL] using h
/-- What is known while the names are gathered: V, the list of expressions, lies there since w2. -/
structure NI (w w2 W : World) (v : Value) (l : List ByteArray) : Prop where
  row : SRow w.heap.size W v l
  ne : v ≠ .slice none 0 0
  low : Below w.heap.size w W
  keep : KeepS w2 W
  size : w2.heap.size ≤ W.heap.size
theorem NI.below {w w2 W W' : World} {v : Value} {l : List ByteArray} (h : NI w w2 W v l) (hb : Below W.heap.size W W') : NI w w2 W' v l :=
  ⟨⟨h.row.1, by
    rcases h.row.2 with h' | ⟨g, cap, cur, e, hg, hc, hr⟩
    · exact .inl h'
    · exact .inr ⟨g, cap, cur, e, hg, (hb.block g (Array.getElem?_eq_some_iff.1 hc).1).trans hc, hr⟩⟩, h.ne, h.low.trans (hb.mono h.low.size), h.keep.trans h.size (KeepS.below hb), Nat.le_trans h.size hb.size⟩
theorem NI.app {w w2 W W' : World} {v v' : Value} {l : List ByteArray} {s : ByteArray} (h : NI w w2 W v l) (ho : W'.ownsRow w.heap.size 9 1 v' (l.length + 1) (strL l ++ [.string s])) (hg : W.grownBy W' v.ownBlock) (hv : v' = .slice none 0 0 ↔ v = .slice none 0 0 ∧ (1 : Nat) = 0) : NI w w2 W' v' (l ++ [s]) :=
  ⟨srow_app ho, fun e => by have := (hv.1 e).2; omega, h.low.grown hg h.low.size (fun k hk => (World.ownsRow.lt h.row k hk).1), h.keep.trans h.size (KeepS.grown h.row hg), Nat.le_trans h.size hg.size⟩
theorem NI.slice {w w2 W : World} {v : Value} {l : List ByteArray} (h : NI w w2 W v l) : ∃ A c, v = .slice A l.length c := by
  obtain ⟨A, c, e, _⟩ := h.row.strs
  exact ⟨A, c, e⟩
theorem varsA_exprs (x : GRule) : varsA (exprsR x) = varsR x := by
  unfold varsA exprsR varsR varsA
  rw [List.flatMap_append]
  congr 1
  induction x.body with
  | nil => rfl
  | cons y r ih =>
    rw [List.flatMap_cons, List.flatMap_append, ih, List.flatMap_cons]
    congr 1
    simp [exprsB, varsB, varsA]
theorem name_cost {es : List GNode} {n : GNode} (h : n ∈ es) : n.name.size ≤ costNodes es := by
  have h1 := sumC_mem costNode es n h
  have h2 : n.name.size ≤ costNode n := by unfold costNode; omega
  unfold costNodes; omega
theorem expr_cost {x : GRule} {es : List GNode} (h : es ∈ exprsR x) : costNodes es ≤ costRule x := by
  have hA : ∀ (args : List (List GNode)), es ∈ args → costNodes es ≤ costNodeSs args := fun args ha => by
    have h1 := sumC_mem costNodeS args es ha
    have h2 : costNodes es ≤ costNodeS es := by unfold costNodeS; omega
    unfold costNodeSs; omega
  unfold exprsR at h
  rw [List.mem_append] at h
  rcases h with h | h
  · have := hA _ h
    unfold costRule costAtom; omega
  · rw [List.mem_flatMap] at h
    obtain ⟨l, hl, he⟩ := h
    have h3 := sumC_mem costLit x.body l hl
    have h4 : costNodes es ≤ costLit l := by
      unfold exprsB at he
      simp only [List.mem_append, List.mem_cons, List.not_mem_nil, or_false] at he
      unfold costLit costAtom
      rcases he with he | rfl | rfl
      · have := hA _ he; omega
      · omega
      · omega
    unfold costRule costLits
    omega
theorem varsR_length (x : GRule) : (varsR x).length ≤ costRule x := by
  unfold varsR
  rw [List.length_append]
  have h1 := varsA_length x.head.args
  have h2 := varsB_length x.body
  unfold costRule costLits costAtom costNodeSs
  omega
theorem varsA_take_le (E : List (List GNode)) (k : Nat) : (varsA (E.take k)).length ≤ (varsA E).length := by
  conv => rhs; rw [← List.take_append_drop k E]
  unfold varsA
  rw [List.flatMap_append, List.length_append]; omega
theorem varsL_take_le (E : List GNode) (k : Nat) : (varsL (E.take k)).length ≤ (varsL E).length := by
  conv => rhs; rw [← List.take_append_drop k E]
  unfold varsL
  rw [List.flatMap_append, List.length_append]; omega

def NamesPost (w : World) (l : List ByteArray) (e : Ending) (w' : World) : Prop := ∃ v, e = .returned v ∧ SRow w.heap.size w' v l ∧ v ≠ .slice none 0 0 ∧ Below w.heap.size w w'
set_option maxRecDepth 100000 in
set_option maxHeartbeats 3200000 in
theorem impl_varsOf {lo : Nat} (x : GRule) (A1 : Option Addr) (c1 : Nat) (A2 : Option Addr) (c2 : Nat) (A3 : Option Addr) (c3 : Nat) (w : World) (hk : costRule x ≤ 1048576) (s1 : NodeSsAt w lo w.heap.size A1 x.head.args) (s3 : LitsAt w lo w.heap.size A3 x.body) :
    Calls Try.prog 7 #[.agg #[.string x.head.name, .slice A1 x.head.args.length c1, .slice A2 x.aggs.length c2, .slice A3 x.body.length c3]] w (NamesPost w (addAll [] (varsR x))) := by
  obtain ⟨i0, hi, hz0, hz1, hz2⟩ := info_parts infoStr
  have HK := Lib.hid hk
  have HVL := Lib.hid (varsR_length x)
  have HSM := Lib.hid (vars_same (varsR x))
  go_enter Try.func7, Try.ntmps7
  go_wp2_with fail
  have hB0 : Below w.heap.size w (w.alloc (.cells #[.string x.head.name, .slice A1 x.head.args.length c1, .slice A2 x.aggs.length c2, .slice A3 x.body.length c3] 36)) := (Below.refl _ _).alloc (Nat.le_refl _) _
  have hB1 : Below w.heap.size w ((w.alloc (.cells #[.string x.head.name, .slice A1 x.head.args.length c1, .slice A2 x.aggs.length c2, .slice A3 x.body.length c3] 36)).alloc (.cells #[] 9)) := hB0.alloc hB0.size _
  have hN1 : SRow w.heap.size ((w.alloc (.cells #[.string x.head.name, .slice A1 x.head.args.length c1, .slice A2 x.aggs.length c2, .slice A3 x.body.length c3] 36)).alloc (.cells #[] 9)) (.slice (some ⟨w.heap.size + 1, 0, none⟩) 0 0) [] := by
    have := World.ownsRow_made (base := w.heap.size) (e := 9) (size := 1) (w.alloc (.cells #[.string x.head.name, .slice A1 x.head.args.length c1, .slice A2 x.aggs.length c2, .slice A3 x.body.length c3] 36)) #[] 0 (by simp) (Nat.zero_le _) rfl
    simpa [SRow, strL] using this
  refine (impl_exprs (N := w.heap.size) x A1 c1 A2 c2 A3 c3 _ hk (s1.keep (fun b _ h => hB1.block b h)) (s3.keep (fun b _ h => hB1.block b h)) hB1.size).mono ?_
  rintro e w2 ⟨v2, rfl, hE2, hb2⟩
  have hB2 := below_next hB1 hb2 rfl rfl
  have hNI := Lib.hid ((show NI w w2 w2 (.slice (some ⟨w.heap.size + 1, 0, none⟩) 0 0) [] from ⟨((show NI w ((w.alloc (.cells #[.string x.head.name, .slice A1 x.head.args.length c1, .slice A2 x.aggs.length c2, .slice A3 x.body.length c3] 36)).alloc (.cells #[] 9)) ((w.alloc (.cells #[.string x.head.name, .slice A1 x.head.args.length c1, .slice A2 x.aggs.length c2, .slice A3 x.body.length c3] 36)).alloc (.cells #[] 9)) (.slice (some ⟨w.heap.size + 1, 0, none⟩) 0 0) [] from ⟨hN1, by simp, hB1, KeepS.refl _, Nat.le_refl _⟩).below hb2).row, by simp, hB2, KeepS.refl _, Nat.le_refl _⟩))
  have hEx := Lib.hid (varsA_exprs x)
  have hcE : ∀ es ∈ exprsR x, costNodes es ≤ 1048576 := fun es he => Nat.le_trans (expr_cost he) hk
  have hE2' := hE2.base hB1.size
  have hlE : (exprsR x).length ≤ 4000000 := by
    have h1 := exprsB_length x.body
    unfold exprsR
    rw [List.length_append]
    have h2 : x.head.args.length ≤ costAtom x.head := by unfold costAtom costNodeSs; omega
    have h3 : costLits x.body = x.body.length + sumC costLit x.body := rfl
    unfold costRule at hk
    omega
  obtain ⟨AE, cE, rfl⟩ := hE2'.slice
  have HE := Lib.hid hE2'
  generalize hEE : exprsR x = E at *
  have HCE := Lib.hid hcE
  clear hE2 hE2' hN1 hb2 hB0 hB1 s1 s3 hk hEE hcE
  go_wp2_with fail
  go_loopw [3, 12] (fun nm i w' => ∃ (k : Nat) (L : List ByteArray), k ≤ E.length ∧ i = .int .i64 k ∧ Hid (L = varsA (E.take k)) ∧ Hid (NI w w2 w' nm L)) (fun _ i _ => E.length - (intOf i).toNat)
  case atStart => exact ⟨0, [], Nat.zero_le _, rfl, Lib.hid rfl, hNI⟩
  case round =>
    obtain ⟨k, L, hk, rfl, hL, hI⟩ := hrel
    by_cases hlt : k < E.length
    · have hi0 : (0 : Int) ≤ (k : Int) := by omega
      have hi1 : (k : Int) < (E.length : Int) := by omega
      have hb2r : Below w.heap.size w2 wr := by
        refine ⟨hI.out.low.os.trans hB2.os.symm, hI.out.low.tape.trans hB2.tape.symm, hI.out.low.output.trans hB2.output.symm, hI.out.size, fun i h => (hI.out.low.block i h).trans (hB2.block i h).symm⟩
      obtain ⟨gE, rfl, A', c', hcell, hnod⟩ := (HE.out.keep hI.out.keep hb2r).at_ hlt
      have hsnA := Lib.hid (varsA_snoc E k hlt)
      have hln : E[k].length ≤ 1048576 := by have := HCE.out _ (List.getElem_mem hlt); unfold costNodes at this; omega
      have HCN := Lib.hid (HCE.out _ (List.getElem_mem hlt))
      have HND := Lib.hid (show NodesAt w lo w.heap.size A' E[k] from hnod.keep (fun b _ h => (hI.out.low.block b h).symm))
      have HCK := Lib.hid (show ∀ n ∈ E[k], n.name.size ≤ 1048576 from fun n hn => Nat.le_trans (name_cost hn) HCN.out)
      have htot := Lib.hid (show (varsA (E.take k)).length + (varsL E[k]).length ≤ 1048576 by
        have h1 := varsA_take_le E (k + 1)
        rw [hsnA.out, List.length_append] at h1
        rw [hEx.out] at h1
        have h2 := HVL.out
        have h3 := HK.out
        omega)
      clear hnod
      go_wp2_with fail
      go_loopw [3, 18] (fun nm i w' => ∃ (j : Nat) (M : List ByteArray), j ≤ E[k].length ∧ i = .int .i64 j ∧ Hid (M = L ++ varsL (E[k].take j)) ∧ Hid (NI w w2 w' nm M)) (fun _ i _ => E[k].length - (intOf i).toNat)
      case atStart => exact ⟨0, L, Nat.zero_le _, rfl, Lib.hid (by simp [varsL]), hI⟩
      case round =>
        clear hcell hb2r
        rename_i wq _ _
        obtain ⟨j, M, hj, rfl, hM, hJ⟩ := hrel
        by_cases hlj : j < E[k].length
        · obtain ⟨g, o, rfl, hg0, hg, h0, h1, _⟩ := (HND.out.keep (fun b _ h => hJ.out.low.block b h)).at_ hlj
          have hj0 : (0 : Int) ≤ (j : Int) := by omega
          have hj1 : (j : Int) < (E[k].length : Int) := by omega
          have hsn := Lib.hid (varsL_snoc E[k] j hlj)
          have hMl : M.length + 1 ≤ 4194304 := by
            have h1 := htot.out
            have h2 := varsL_take_le E[k] j
            have h3 := congrArg List.length hM.out
            have h4 := congrArg List.length hL.out
            rw [List.length_append] at h3
            omega
          by_cases hk1 : E[k][j].k = 1
          · have hkb : (E[k][j].k == 1) = true := beq_iff_eq.2 hk1
            have hst := Lib.hid (show M ++ [E[k][j].name] = L ++ varsL (E[k].take (j + 1)) by rw [hsn.out, hM.out, varN, if_pos hk1, List.append_assoc])
            have hsz := HCK.out _ (List.getElem_mem hlj)
            obtain ⟨A6, c6, rfl⟩ := hJ.out.slice
            clear hk1
            go_wp2_with fail
            refine (strings_clone _ _ hsz).mono ?_
            rintro e w5 ⟨rfl, hb5⟩
            have hJ5 := Lib.hid ((hJ.out.below ((Below.refl _ _).alloc (Nat.le_refl _) _)).below hb5)
            have hs5 := hJ5.out.low.size
            clear h0 h1 hb5
            go_wp2_with (first | (at_builtin; refine wpList_append_own _ rfl (.tmp 25) (.tmp 29) _ rfl w.heap.size 9 i0 _ 1 16 Try.underlying25 hi hz0 hz1 hz2 rfl (by decide) _ _ _ rfl (World.ownsRow.alloc hJ5.out.row _) ⟨w5.heap.size, 0, none⟩ 1 1 [.string E[k][j].name] rfl rfl (by intro i u hu; cases i with | zero => (simp at hu; subst hu; simp [Addr.add]) | succ i => simp at hu) (by intro u hu; simp at hu; subst hu; rfl) (by unfold maxLen; omega) (by omega) (by simp; omega) ?_; intro v6 w6 ho6 hg6 hv6; refine Hid.out ?_))
            refine Lib.hid ?_
            have hJ6 := Lib.hid ((hJ5.out.below ((Below.refl _ _).alloc (Nat.le_refl _) _)).app ho6 hg6 hv6)
            clear ho6 hg6 hv6
            go_wp2_with fail
            go_roundw
            case rel => exact ⟨j + 1, _, by omega, by go_num, hst, hJ6⟩
            case measure => simp [intOf]; omega
          · have hkb : (E[k][j].k == 1) = false := beq_eq_false_iff_ne.2 hk1
            have hst := Lib.hid (show M = L ++ varsL (E[k].take (j + 1)) by rw [hsn.out, hM.out, varN, if_neg hk1, List.append_nil])
            clear hk1
            go_wp2_with fail
            go_roundw
            case rel => exact ⟨j + 1, M, by omega, by go_num, hst, Lib.hid (hJ.out.below ((Below.refl _ _).alloc (Nat.le_refl _) _))⟩
            case measure => simp [intOf]; omega
        · have hj1 : ¬ (j : Int) < (E[k].length : Int) := by omega
          have hnx := Lib.hid (show M = varsA (E.take (k + 1)) by have h := hM.out; rw [List.take_of_length_le (by omega)] at h; rw [h, hL.out, hsnA.out])
          go_wp2_with fail
          go_roundw
          case rel => exact ⟨k + 1, M, by omega, by go_num, hnx, hJ⟩
          case measure => simp [intOf]; omega
    · have hi1 : ¬ (k : Int) < (E.length : Int) := by omega
      have hLE := Lib.hid (show L = varsR x by have h := hL.out; rw [List.take_of_length_le (by omega), hEx.out] at h; exact h)
      have hLl : L.length ≤ 4194304 := by have := HVL.out; have := HK.out; rw [hLE.out]; omega
      obtain ⟨A6, c6, rfl⟩ := hI.out.slice
      go_wp2_with fail
      refine (sort_names _ L _ hI.out.row hI.out.ne hLl).mono ?_
      rintro e w6 ⟨rfl, hS6, hg6⟩
      have hB6 := hI.out.low.grown hg6 hI.out.low.size (fun k hk => (World.ownsRow.lt hI.out.row k hk).1)
      have HS6 := Lib.hid hS6
      clear hg6 hS6
      go_wp2_with fail
      refine (compact_names _ (sortM L) _ HS6.out hI.out.ne (by rw [sortM_len]; omega)).mono ?_
      rintro e w7 ⟨v7, rfl, hS7, hn7, hg7⟩
      have hB7 := hB6.grown hg7 hB6.size (fun k hk => (World.ownsRow.lt HS6.out k hk).1)
      rw [hLE.out, HSM.out] at hS7
      have HS7 := Lib.hid hS7
      clear hg7 hS7
      go_wp2_with fail
      go_ret
      exact ⟨_, rfl, HS7.out, hn7, hB7⟩
end Go.Proofs.Ytmbdccbgcobflaa
