/-
  impl.exprOk.
-/
import Derived.Test.YtpipikjkhmhmhaaEqualN
namespace Go.Proofs.Ytpipikjkhmhmhaa
open Go.RowKit Go.Sort
set_option linter.unusedVariables false

theorem growM_size (n : Nat) : ∀ (xs : List GNode) (t : Tr) (r : List GNode), growM n xs = some (t, r) → (treeN t).length + r.length = xs.length := by
  induction n with
  | zero => intro xs t r h; simp [growM] at h
  | succ n ih =>
    intro xs t r h
    cases xs with
    | nil => simp [growM] at h
    | cons x rest =>
      unfold growM at h
      split at h
      · split at h
        · cases h; simp [treeN]; omega
        · cases h
      · split at h
        · split at h
          · cases h; simp [treeN]; omega
          · cases h
        · split at h
          · cases h; simp [treeN]; omega
          · split at h
            · split at h
              · cases h
              · rename_i l r1 h1
                split at h
                · cases h
                · rename_i r' r2 h2
                  cases h
                  have e1 := ih _ _ _ h1
                  have e2 := ih _ _ _ h2
                  simp [treeN]
                  omega
            · cases h
def eqNL : List GNode → List GNode → Bool
  | [], [] => true
  | x :: a, y :: b => eqNB x y && eqNL a b
  | _, _ => false
theorem eqNL_iff : ∀ a b : List GNode, eqNL a b = true ↔ a = b
  | [], [] => by simp [eqNL]
  | [], y :: b => by simp [eqNL]
  | x :: a, [] => by simp [eqNL]
  | x :: a, y :: b => by simp [eqNL, eqNB_iff, eqNL_iff a b]
def treeB (es : List GNode) : Bool := match growM (es.length + 1) es with
  | none => false
  | some (t, _) => eqNL (treeN t) es
def exprB (es : List GNode) : Bool := decide (es.length ≤ 100) && treeB es
theorem flatN_at : ∀ (r : List GNode) (i : Nat) (x : GNode), r[i]? = some x → (flatN r)[i * 6]? = some (.int .i64 x.k) ∧ (flatN r)[i * 6 + 1]? = some (.string x.name) ∧ (flatN r)[i * 6 + 2]? = some (.int .i64 x.v.k) ∧ (flatN r)[i * 6 + 3]? = some (.int .i64 x.v.n) ∧ (flatN r)[i * 6 + 4]? = some (.string x.v.t) ∧ (flatN r)[i * 6 + 5]? = some (.int .i64 x.size)
  | [], i, x, h => by simp at h
  | y :: r, 0, x, h => by simp at h; subst h; simp [flatN, nodeL]
  | y :: r, i + 1, x, h => by
    have := flatN_at r i x (by simpa using h)
    rw [show (i + 1) * 6 = i * 6 + 1 + 1 + 1 + 1 + 1 + 1 by omega]
    simpa [flatN, nodeL, Nat.add_assoc] using this
theorem NRow.nodes {B : Nat} {w : World} {A : Option Addr} {n c : Nat} {r : List GNode} (h : NRow B w (.slice A n c) r) : NodesAt w B w.heap.size A r := by
  rcases h.2 with ⟨e, h0⟩ | ⟨g, cap, cur, e, hg, hh, hc1, hc2, hc3, hc4⟩
  · exact .inl (List.eq_nil_of_length_eq_zero h0)
  · cases e
    refine .inr ⟨g, 0, rfl, hg, ?_, fun i x hx => ?_⟩
    · rcases Nat.lt_or_ge g w.heap.size with h' | h'
      · exact h'
      · rw [Array.getElem?_eq_none h'] at hh; cases hh
    · obtain ⟨f0, f1, f2, f3, f4, f5⟩ := flatN_at r i x hx
      have hi : i < r.length := (List.getElem?_eq_some_iff.1 hx).1
      have key : ∀ j, j < r.length * 6 → w.cell? ⟨g, j, none⟩ = (flatN r)[j]? := fun j hj => by
        have h1 : w.cell? ⟨g, j, none⟩ = cur.toList[j]? := by simp [World.cell?, hh]
        rw [h1, ← hc4, List.getElem?_take_of_lt hj]
      rw [Nat.zero_add]
      exact ⟨(key _ (by omega)).trans f0, (key _ (by omega)).trans f1, (key _ (by omega)).trans f2, (key _ (by omega)).trans f3, (key _ (by omega)).trans f4, (key _ (by omega)).trans f5⟩
set_option maxRecDepth 100000 in
set_option maxHeartbeats 1600000 in
theorem ok_expr {lo : Nat} (A : Option Addr) (c : Nat) (es : List GNode) (w : World) (hl : es.length ≤ 1048576) (hc : es.length ≤ c) (hc2 : c ≤ 9223372036854775807) (hf : fitNodes es) (hr : NodesAt w lo w.heap.size A es) :
    Calls Try.prog 76 #[.slice A es.length c] w fun e w' => e = .returned (.bool (exprB es)) ∧ Below w.heap.size w w' := by
  by_cases h100 : (es.length : Int) ≤ 100
  · have hE := Lib.hid (show exprB es = treeB es by unfold exprB; rw [decide_eq_true (by omega)]; rfl)
    go_enter Try.func76, Try.ntmps76
    go_wp2_with fail
    refine (impl_grow (es.length + 1) A c es _ (by omega) (by omega) hc hc2 hf hr).mono ?_
    rintro e w1 ⟨hb1, he⟩
    cases hM : growM (es.length + 1) es with
    | none =>
      rw [hM] at he
      subst he
      have H := Lib.hid (show exprB es = false by rw [hE.out, treeB, hM])
      clear hM
      go_wp2_with fail
      go_ret
      exact ⟨ret_bool (by rw [H.out]), hb1⟩
    | some q =>
      obtain ⟨t, r⟩ := q
      rw [hM] at he
      obtain ⟨A1, c1, rfl, hc1, hc1', hr3⟩ := he
      have hsz := growM_size _ _ _ _ hM
      have H := Lib.hid (show exprB es = eqNL (treeN t) es by rw [hE.out, treeB, hM])
      clear hM
      obtain ⟨T1, x1, hT1⟩ := TV_iface t
      have hfl := impl_flat t (B := w1.heap.size) none 0 [] w1 (Nat.le_refl _) (by simp; omega) (World.ownsRow_nil _ _ _ _)
      rw [hT1] at hfl ⊢
      have HFL := Lib.hid hfl
      clear hfl hT1
      go_wp2_with fail
      refine HFL.out.mono ?_
      rintro e w2 ⟨v2, rfl, hV2, hb2, hk2⟩
      rw [List.nil_append] at hV2
      have hB2 := below_next hb1 hb2 rfl rfl
      obtain ⟨A2, c2, rfl⟩ := hV2.slice
      have hN2 := hV2.nodes
      have hr2 := hr.to_ hB2
      clear hV2 hk2 HFL
      go_wp2_with fail
      refine (equal_nodes A2 A c2 c (treeN t) es _ hN2 hr2 (by omega) (by omega)).mono ?_
      rintro e w3 ⟨b, rfl, hbi, hb3⟩
      have hB3 := below_next hB2 hb3 rfl rfl
      have HB := Lib.hid (show exprB es = b by
        rw [H.out]
        cases b with
        | true => exact (eqNL_iff _ _).2 (hbi.1 rfl)
        | false =>
          cases h : eqNL (treeN t) es with
          | false => rfl
          | true => have := hbi.2 ((eqNL_iff _ _).1 h); cases this)
      clear hbi
      go_wp2_with fail
      go_ret
      exact ⟨ret_bool (by rw [HB.out]), hB3⟩
  · have hd : decide (es.length ≤ 100) = false := by simp; omega
    have H := Lib.hid (show exprB es = false by unfold exprB; rw [hd]; rfl)
    clear hd
    go_enter Try.func76, Try.ntmps76
    go_wp2_with fail
    go_ret
    exact ⟨ret_bool (by rw [H.out]), Below.refl _ _⟩
end Go.Proofs.Ytpipikjkhmhmhaa
