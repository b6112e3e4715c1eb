/-
  spec.l2Add.
-/
import Derived.Test.YtmbdccbgcobflaaSRow
import Derived.Test.YtmbdccbgcobflaaToNode
import Derived.Deep.RegionLaw
namespace Go.Proofs.Ytmbdccbgcobflaa
open Go.RowKit Go.Sort
set_option linter.unusedVariables false

/-- What is known while the new list is built. -/
def AI (w W : World) (v : Value) (l : List ByteArray) : Prop := SRow w.heap.size W v l ∧ Below w.heap.size w W ∧ w.heap.size ≤ W.heap.size ∧ v ≠ .slice none 0 0
theorem AI.start {w w' : World} {n : Nat} (h : Below w.heap.size w w') (hn : w'.heap.size = n) : AI w (w'.alloc (.cells #[] 9)) (.slice (some ⟨n, 0, none⟩) 0 0) [] := by
  subst hn; exact ⟨World.ownsRow_made w' #[] 0 h.size (Nat.zero_le _) rfl, h.alloc h.size _, Nat.le_trans h.size (by simp), by simp⟩
theorem AI.alloc {w W : World} {v : Value} {l : List ByteArray} (h : AI w W v l) (ob : Obj) : AI w (W.alloc ob) v l :=
  ⟨World.ownsRow.alloc h.1 ob, h.2.1.alloc h.2.2.1 ob, Nat.le_trans h.2.2.1 (by simp), h.2.2.2⟩
theorem step_add {ops : Array Oper} {o : Oper} {a : Act} {W : World} {K : Act → World → Prop} {Q : Exit → Act → World → Prop} {E : Prop}
    (hg : o.guard = none) (s x : Operand) (hop : o.op = Op.call { callee := Callee.builtin Builtin.append, args := #[s, x], argTypes := #[25, 25] })
    (w : World) (v : Value) (l : List ByteArray) (hs : a.eval s = v) (hI : AI w W v l)
    (ad : Addr) (m c : Nat) (ns : List ByteArray) (hx : a.eval x = .slice (some ad) m c) (hm : ns.length = m) (hn : ∀ j y, ns[j]? = some y → W.cell? (ad.add j) = some (.string y)) (hb : l.length + m ≤ 4194304)
    (hK : ∀ v' W', AI w W' v' (l ++ ns) → (∀ (p : Addr) y, W.cell? p = some y → some p.block ≠ v.ownBlock → W'.cell? p = some y) → K (a.put o.dst v') W') :
    if Region.wanted o (yielded ops a.tmps) = true then Oper.wp Try.prog o a W K Q else E := by
  have hw : Region.wanted o (yielded ops a.tmps) = true := by simp [Region.wanted, hg]
  rw [if_pos hw]
  obtain ⟨i0, hi, hz0, hz1, hz2⟩ := info_parts infoStr
  refine wp_append_own W s x 25 hop w.heap.size 9 i0 _ 1 16 Try.underlying25 hi hz0 hz1 hz2 rfl (by decide) v l.length (strL l) hs hI.1 ad m c (strL ns) hx (by rw [strL_length, hm]) (fun j u hu => ?_) (strL_one _) (by unfold maxLen; omega) (by omega) hI.2.2.1 (fun v' W' h1 h2 h3 => hK v' W' ⟨?_, ?_, ?_, ?_⟩ (fun p y hp hne => h2.cell hp hne))
  · simp only [strL, List.getElem?_map, Option.map_eq_some_iff] at hu
    obtain ⟨y, hy, rfl⟩ := hu
    exact hn j y hy
  · show W'.ownsRow _ _ _ _ _ _
    rw [List.length_append, strL_append, hm]
    exact h1
  · exact hI.2.1.grown h2 hI.2.2.1 (fun k hk => (World.ownsRow.lt hI.1 k hk).1)
  · exact Nat.le_trans hI.2.2.1 h2.size
  · intro e; exact hI.2.2.2 (h3.1 e).1
theorem step_old {ops : Array Oper} {o : Oper} {a : Act} {W : World} {K : Act → World → Prop} {Q : Exit → Act → World → Prop} {E : Prop}
    (hg : o.guard = none) (s x : Operand) (hop : o.op = Op.call { callee := Callee.builtin Builtin.append, args := #[s, x], argTypes := #[25, 25] })
    (w : World) (v : Value) (l : List ByteArray) (hs : a.eval s = v) (hI : AI w W v l)
    (ad : Addr) (m c : Nat) (ns : List ByteArray) (hx : a.eval x = .slice (some ad) m c) (hm : ns.length = m) (had : ad.block < w.heap.size) (hn : ∀ j y, ns[j]? = some y → w.cell? (ad.add j) = some (.string y)) (hb : l.length + m ≤ 4194304)
    (hK : ∀ v' W', AI w W' v' (l ++ ns) → (∀ (p : Addr) y, W.cell? p = some y → some p.block ≠ v.ownBlock → W'.cell? p = some y) → K (a.put o.dst v') W') :
    if Region.wanted o (yielded ops a.tmps) = true then Oper.wp Try.prog o a W K Q else E :=
  step_add hg s x hop w v l hs hI ad m c ns hx hm (fun j y hy => (hI.2.1.cell (p := ad.add j) (by unfold Addr.add; split <;> exact had)).trans (hn j y hy)) hb hK
theorem step_new {ops : Array Oper} {o : Oper} {a : Act} {W : World} {K : Act → World → Prop} {Q : Exit → Act → World → Prop} {E : Prop}
    (hg : o.guard = none) (s x : Operand) (hop : o.op = Op.call { callee := Callee.builtin Builtin.append, args := #[s, x], argTypes := #[25, 25] })
    (w : World) (v : Value) (l : List ByteArray) (hs : a.eval s = v) (hI : AI w W v l)
    (ad : Addr) (c : Nat) (y : ByteArray) (hx : a.eval x = .slice (some ad) 1 c) (hn : W.cell? ad = some (.string y)) (hb : l.length + 1 ≤ 4194304)
    (hK : ∀ v' W', AI w W' v' (l ++ [y]) → K (a.put o.dst v') W') :
    if Region.wanted o (yielded ops a.tmps) = true then Oper.wp Try.prog o a W K Q else E :=
  step_add hg s x hop w v l hs hI ad 1 c [y] hx rfl (fun j z hz => by
    cases j with
    | zero => simp at hz; subst hz; rw [show ad.add 0 = ad by simp [Addr.add]]; exact hn
    | succ j => simp at hz) hb (fun v' W' h _ => hK v' W' h)
theorem add_first {w : World} {g o k : Nat} {l : List ByteArray} (hr : ∀ i x, l[i]? = some x → w.cell? ⟨g, o + i, none⟩ = some (.string x)) : ∀ j y, (l.take k)[j]? = some y → w.cell? ((⟨g, o, none⟩ : Addr).add j) = some (.string y) := by
  intro j y hy
  rw [List.getElem?_take] at hy
  split at hy
  · have := hr j y hy
    unfold Addr.add
    split
    · rename_i h; subst h; exact this
    · exact this
  · cases hy
theorem add_rest {w : World} {g o c k : Nat} {l : List ByteArray} (hg : g < w.heap.size) (hc : l.length ≤ c) (hk : k ≤ l.length) (hr : ∀ i x, l[i]? = some x → w.cell? ⟨g, o + i, none⟩ = some (.string x)) : ∃ A2 : Addr, (if c = k then some (⟨g, o, none⟩ : Addr) else some ⟨g, o + k, none⟩) = some A2 ∧ A2.block < w.heap.size ∧ ∀ j y, (l.drop k)[j]? = some y → w.cell? (A2.add j) = some (.string y) := by
  by_cases h : c = k
  · refine ⟨⟨g, o, none⟩, by rw [if_pos h], hg, fun j y hy => ?_⟩
    rw [List.drop_of_length_le (by omega)] at hy
    simp at hy
  · refine ⟨⟨g, o + k, none⟩, by rw [if_neg h], hg, fun j y hy => ?_⟩
    rw [List.getElem?_drop] at hy
    have := hr (k + j) y hy
    unfold Addr.add
    split
    · rename_i h; subst h; exact this
    · rw [show o + k + j = o + (k + j) by omega]; exact this
def AddPost (w : World) (l : List ByteArray) (s : ByteArray) (e : Ending) (w' : World) : Prop := ∃ v, e = .returned v ∧ SL w' v (insM l s) ∧ Below w.heap.size w w'
theorem add_done {w W : World} {v : Value} {l : List ByteArray} {s : ByteArray} {k : Nat} (h : AI w W v ([] ++ l.take k ++ [s] ++ l.drop k)) (hp : posM l s = k) (hne : l[k]? ≠ some s) : AddPost w l s (.returned v) W := by
  refine ⟨v, rfl, ?_, h.2.1⟩
  unfold insM
  rw [hp, if_neg hne]
  have := h.1.sl h.2.2.2
  simpa using this
set_option maxRecDepth 100000 in
set_option maxHeartbeats 3200000 in
theorem spec_add (g o c : Nat) (l : List ByteArray) (s : ByteArray) (w : World) (hl : l.length ≤ 1048576) (hc : l.length ≤ c) (hc2 : c ≤ 9223372036854775807) (hg : g < w.heap.size) (hr : ∀ i x, l[i]? = some x → w.cell? ⟨g, o + i, none⟩ = some (.string x)) :
    Calls Try.prog 32 #[.slice (some ⟨g, o, none⟩) l.length c, .string s] w (AddPost w l s) := by
  have HR := Lib.hid hr
  clear hr
  go_enter Try.func32, Try.ntmps32
  go_wp2_with fail
  go_loop [5] (fun i => ∃ k : Nat, k ≤ l.length ∧ i = .int .i64 k ∧ Hid (k ≤ posM l s)) (fun i => l.length - (intOf i).toNat)
  case atStart => exact ⟨0, Nat.zero_le _, rfl, Lib.hid (Nat.zero_le _)⟩
  case round =>
    obtain ⟨k, hk, rfl, hp⟩ := hrel
    by_cases hlt : k < l.length
    · have h0 := HR.out k l[k] (List.getElem?_eq_getElem hlt)
      have hi0 : (0 : Int) ≤ (k : Int) := by omega
      have hi1 : (k : Int) < (l.length : Int) := by omega
      have hst := Lib.hid (posM_step s l k hlt hp.out)
      have HLB : Hid (ltB l[k] s = Op.bytesLess l[k].toList s.toList) := Lib.hid rfl
      obtain ⟨b, hb⟩ : ∃ b, Op.bytesLess l[k].toList s.toList = b := ⟨_, rfl⟩
      have HB := Lib.hid hb
      cases b with
      | true =>
        have HP := Lib.hid (hst.out.1 (HLB.out.trans HB.out))
        go_wp2_with fail
        go_round
        case rel => exact ⟨k + 1, by omega, by go_num, HP⟩
        case measure => simp [intOf]; omega
      | false =>
        have HP := Lib.hid (hst.out.2 (HLB.out.trans HB.out))
        by_cases he : (l[k].toList == s.toList) = true
        · have HI := Lib.hid (show insM l s = l by
            unfold insM
            rw [HP.out, if_pos]
            rw [List.getElem?_eq_getElem hlt]
            exact congrArg some (ByteArray.ext (Array.toList_inj.1 (by rw [← Lib.toList_data, ← Lib.toList_data]; exact beq_iff_eq.1 he))))
          have HS := Lib.hid (show SL w (.slice (some ⟨g, o, none⟩) l.length c) (insM l s) by rw [HI.out]; exact ⟨g, o, c, rfl, ⟨hc, hc2⟩, hg, HR.out⟩)
          go_wp2_with fail
          go_ret
          exact ⟨_, rfl, HS.out, Below.refl _ _⟩
        · rw [Bool.not_eq_true] at he
          go_wp2_with fail
          have HNE := Lib.hid (show l[k]? ≠ some s by
            rw [List.getElem?_eq_getElem hlt]
            intro e
            injection e with e
            rw [e] at he
            simp at he)
          have hkc : (k : Int) ≤ (c : Int) := by omega
          have hkl : (k : Int) ≤ (l.length : Int) := by omega
          have hk0 : (0 : Int) ≤ (k : Int) := by omega
          obtain ⟨A2, hA2, hb2, hn2⟩ := add_rest (w := w) hg hc hk HR.out
          have HN1 := Lib.hid (add_first (k := k) HR.out)
          have HN2 := Lib.hid hn2
          have hl1 : (l.take k).length = k := by rw [List.length_take]; omega
          have HL1 := Lib.hid hl1
          have HL2 := Lib.hid (show (l.drop k).length = l.length - k from List.length_drop)
          clear hn2 hl1
          go_region_law (first
            | (refine step_old rfl (.tmp 33) (.tmp 36) rfl w _ [] rfl (by first | exact AI.start ((Below.refl _ _).drew) rfl | exact (AI.start ((Below.refl _ _).drew) rfl).alloc _ | exact (show AI w ((w.drew.alloc (.cells #[.string s] 9)).alloc (.cells #[] 9)) (.slice (some ⟨w.heap.size + 1, 0, none⟩) 0 0) [] from AI.start (((Below.refl _ _).drew).alloc (Nat.le_refl _) _) (by simp))) ⟨g, o, none⟩ k c (l.take k) rfl HL1.out hg HN1.out (by simp; omega) ?_; intro v1 W1 hI1 hk1)
            | (refine step_new rfl (.tmp 37) (.tmp 39) rfl w _ ([] ++ l.take k) rfl (by first | exact hI1 | exact hI1.alloc _) _ 1 s rfl (by first | (go_simp; done) | exact hk1 _ _ (by go_simp) (by simp [Act.eval, Value.ownBlock])) (by have := HL1.out; simp; omega) ?_; intro v2 W2 hI2)
            | (refine step_old rfl (.tmp 40) (.tmp 43) rfl w _ ([] ++ l.take k ++ [s]) rfl hI2 A2 (l.length - k) (c - k) (l.drop k) rfl HL2.out hb2 HN2.out (by have := HL1.out; simp; omega) ?_; intro v3 W3 hI3 hk3))
          all_goals have HF := Lib.hid (add_done hI3 HP.out HNE.out)
          all_goals clear hI1 hI2 hI3 hk1 hk3 HN1 HN2
          all_goals go_wp2_with fail
          all_goals go_ret
          all_goals exact HF.out
    · have hi1 : ¬ (k : Int) < (l.length : Int) := by omega
      have HP := Lib.hid (show posM l s = k by have := posM_le s l; have := hp.out; omega)
      have HNE := Lib.hid (show l[k]? ≠ some s by rw [List.getElem?_eq_none (by omega)]; simp)
      go_wp2_with fail
      have hkc : (k : Int) ≤ (c : Int) := by omega
      have hkl : (k : Int) ≤ (l.length : Int) := by omega
      have hk0 : (0 : Int) ≤ (k : Int) := by omega
      obtain ⟨A2, hA2, hb2, hn2⟩ := add_rest (w := w) hg hc hk HR.out
      have HN1 := Lib.hid (add_first (k := k) HR.out)
      have HN2 := Lib.hid hn2
      have hl1 : (l.take k).length = k := by rw [List.length_take]; omega
      have HL1 := Lib.hid hl1
      have HL2 := Lib.hid (show (l.drop k).length = l.length - k from List.length_drop)
      clear hn2 hl1
      go_region_law (first
        | (refine step_old rfl (.tmp 33) (.tmp 36) rfl w _ [] rfl (by first | exact AI.start ((Below.refl _ _).drew) rfl | exact (AI.start ((Below.refl _ _).drew) rfl).alloc _ | exact (show AI w ((w.drew.alloc (.cells #[.string s] 9)).alloc (.cells #[] 9)) (.slice (some ⟨w.heap.size + 1, 0, none⟩) 0 0) [] from AI.start (((Below.refl _ _).drew).alloc (Nat.le_refl _) _) (by simp))) ⟨g, o, none⟩ k c (l.take k) rfl HL1.out hg HN1.out (by simp; omega) ?_; intro v1 W1 hI1 hk1)
        | (refine step_new rfl (.tmp 37) (.tmp 39) rfl w _ ([] ++ l.take k) rfl (by first | exact hI1 | exact hI1.alloc _) _ 1 s rfl (by first | (go_simp; done) | exact hk1 _ _ (by go_simp) (by simp [Act.eval, Value.ownBlock])) (by have := HL1.out; simp; omega) ?_; intro v2 W2 hI2)
        | (refine step_old rfl (.tmp 40) (.tmp 43) rfl w _ ([] ++ l.take k ++ [s]) rfl hI2 A2 (l.length - k) (c - k) (l.drop k) rfl HL2.out hb2 HN2.out (by have := HL1.out; simp; omega) ?_; intro v3 W3 hI3 hk3))
      all_goals have HF := Lib.hid (add_done hI3 HP.out HNE.out)
      all_goals clear hI1 hI2 hI3 hk1 hk3 HN1 HN2
      all_goals go_wp2_with fail
      all_goals go_ret
      all_goals exact HF.out
end Go.Proofs.Ytmbdccbgcobflaa
