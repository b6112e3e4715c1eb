/-
  A multiset ranged over: what has come so far; what the sorted list is. Contracts of spec.ValueOk and impl.ValueOk: both answer valueOkB; of laws.szValue and laws.toValue. Contracts of spec.l1RowOk and impl.rowOk: both answer rowOkB.
-/
import Derived.Test.YtemcpdpbikgfcaaCmpZ
import Derived.Test.YtemcpdpbikgfcaaRowIZ
import Derived.Sort.OwnSorted
import Derived.Maps.RangeWalk
import Derived.Test.YtemcpdpbikgfcaaTabOkMZ
import Derived.Test.YtemcpdpbikgfcaaMakeZ
namespace Go.Proofs.Ytemcpdpbikgfcaa
open Go.RowKit Go.Sort
set_option linter.unusedVariables false

/-- What has come of a multiset while it is ranged over. -/
structure Got (D : DataW Unit) (zs : List GDiff) (left : Lit → Bool) (ps : List DH) : Prop where
  row : ∀ p ∈ ps, rowOkB p.2.row = true ∧ coef zs p.2.row = p.2.count ∧ p.2.count ≠ 0 ∧ cntB p.2.count = true
  nodup : (ps.map fun p => p.2.row).Nodup
  out : ∀ p ∈ ps, left (klOf p.2.row) = false
  all : ∀ r, rowOkB r = true → coef zs r ≠ 0 → left (klOf r) = true ∨ r ∈ ps.map fun p => p.2.row
  sub : ∀ l, left l = true → Maps.has D l = true
theorem Got.start {D : DataW Unit} {zs : List GDiff} (h : MsD D zs) : Got D zs (Maps.has D) [] :=
  ⟨fun p hp => by simp at hp, by simp, fun p hp => by simp at hp, fun r hr h0 => .inl (by rw [h.has r hr]; simpa using h0), fun l hl => hl⟩
theorem Got.step {D : DataW Unit} {zs : List GDiff} {left : Lit → Bool} {ps : List DH} {p : DH} (h : Got D zs left ps) (hl : left (klOf p.2.row) = true) (hr : rowOkB p.2.row = true) (hc : coef zs p.2.row = p.2.count) (h0 : p.2.count ≠ 0) (hb : cntB p.2.count = true) : Got D zs (fun z => left z && !z.sameKey (klOf p.2.row)) (ps ++ [p]) := by
  have hs : (klOf p.2.row).sameKey (klOf p.2.row) = true := by unfold klOf; simp [Lit.sameKey]
  have hn : p.2.row ∉ ps.map fun p => p.2.row := by
    intro hm
    obtain ⟨q, hq, e⟩ := List.mem_map.1 hm
    have := h.out q hq
    rw [e, hl] at this
    cases this
  refine ⟨fun q hq => ?_, ?_, fun q hq => ?_, fun r hr' h0' => ?_, fun l hl' => ?_⟩
  · rw [List.mem_append, List.mem_singleton] at hq
    rcases hq with hq | rfl
    · exact h.row q hq
    · exact ⟨hr, hc, h0, hb⟩
  · rw [List.map_append, List.nodup_append]
    refine ⟨h.nodup, by simp, fun a ha b hb e => ?_⟩
    simp at hb
    subst hb
    exact hn (e ▸ ha)
  · rw [List.mem_append, List.mem_singleton] at hq
    rcases hq with hq | rfl
    · simp [h.out q hq]
    · simp [hs]
  · by_cases e : r = p.2.row
    · right; rw [e]; simp
    · rcases h.all r hr' h0' with h1 | h1
      · left
        rw [h1, Maps.sameKey_ne (fun e' => e (kl_inj hr' hr e'))]; rfl
      · right; rw [List.map_append, List.mem_append]; exact .inl h1
  · simp only [Bool.and_eq_true] at hl'
    exact h.sub l hl'.1
theorem Got.canon {D : DataW Unit} {zs : List GDiff} {left : Lit → Bool} {ps qs : List DH} (h : Got D zs left ps) (hl : ∀ l, left l = false) (hz : ∀ z ∈ zs, rowOkB z.row = true) (hp : qs.Perm ps) (hs : qs.Pairwise (fun a b => cmpR a.2.row b.2.row ≤ 0)) : Canon (qs.map (·.2)) zs := by
  have hn : (qs.map fun p => p.2.row).Nodup := (hp.map _).nodup_iff.2 h.nodup
  have ha : AscD (qs.map (·.2)) := by
    unfold AscD
    rw [List.pairwise_map]
    have hn' : qs.Pairwise (fun a b => a.2.row ≠ b.2.row) := by rw [List.Nodup, List.pairwise_map] at hn; exact hn
    refine (List.pairwise_and_iff.2 ⟨hs, hn'⟩).imp ?_
    intro a b ⟨h1, h2⟩
    have : cmpR a.2.row b.2.row ≠ 0 := fun e => h2 ((good_cmpR.eq _ _).1 e)
    omega
  have hnz : nzD (qs.map (·.2)) := by
    intro z hz
    obtain ⟨q, hq, rfl⟩ := List.mem_map.1 hz
    exact (h.row q (hp.mem_iff.1 hq)).2.2.1
  refine ⟨ha, hnz, fun r => ?_⟩
  rcases Decidable.em (coef zs r = 0) with h0 | h0
  · rw [h0]
    refine coef_none (fun z hz e => ?_)
    obtain ⟨q, hq, rfl⟩ := List.mem_map.1 hz
    have h1 := h.row q (hp.mem_iff.1 hq)
    rw [e, h0] at h1
    exact h1.2.2.1 h1.2.1.symm
  · obtain ⟨z, hzm, e⟩ := coef_ne h0
    have hr : rowOkB r = true := e ▸ hz z hzm
    rcases h.all r hr h0 with h1 | h1
    · rw [hl] at h1; cases h1
    · obtain ⟨p, hpm, e'⟩ := List.mem_map.1 h1
      have h2 := coef_mem ha p.2 (List.mem_map.2 ⟨p, hp.mem_iff.2 hpm, rfl⟩)
      have e2 : p.2.row = r := e'
      rw [e2] at h2
      rw [h2, ← (h.row p hpm).2.1, e2]
theorem ms_rows {D : DataW Unit} {zs : List GDiff} (h : MsD D zs) (ht : ∃ es, D = .map es ∧ es.Pairwise (fun p q => p.1 ≠ q.1) ∧ ∀ p ∈ es, WideAt.IsKeyLit p.1) : ∃ rs : List (List GV), rs.Nodup ∧ rs.length = Maps.size D ∧ ∀ r ∈ rs, coef zs r ≠ 0 := by
  obtain ⟨es, rfl, hp, hk⟩ := ht
  have key : ∀ l : List (Lit × DataW Unit), (∀ p ∈ l, ∃ r, rowOkB r = true ∧ p.1 = klOf r ∧ coef zs r ≠ 0) → ∃ rs : List (List GV), rs.map klOf = l.map (·.1) ∧ ∀ r ∈ rs, coef zs r ≠ 0 := by
    intro l
    induction l with
    | nil => intro _; exact ⟨[], rfl, fun r hr => by simp at hr⟩
    | cons p l ih =>
      intro hl
      obtain ⟨r, hr, e, h0⟩ := hl p List.mem_cons_self
      obtain ⟨rs, e', h'⟩ := ih (fun q hq => hl q (List.mem_cons_of_mem _ hq))
      refine ⟨r :: rs, by simp [e, e'], fun x hx => ?_⟩
      rcases List.mem_cons.1 hx with rfl | hx
      · exact h0
      · exact h' x hx
  obtain ⟨rs, e, h0⟩ := key es (fun p hpm => by
    have hh : Maps.has (.map es) p.1 = true := by
      rw [Maps.has_eq, List.any_eq_true]
      exact ⟨p, hpm, WideAt.sameKey_self (hk p hpm)⟩
    obtain ⟨r, hr, er⟩ := h.key p.1 hh
    refine ⟨r, hr, er, ?_⟩
    rw [er, h.has r hr] at hh
    simpa using hh)
  have hlen : rs.length = es.length := by have := congrArg List.length e; simpa using this
  refine ⟨rs, ?_, hlen, h0⟩
  have h1 : (rs.map klOf).Pairwise (· ≠ ·) := by rw [e, List.pairwise_map]; exact hp
  rw [List.pairwise_map] at h1
  exact h1.imp (fun h e => h (by rw [e]))
end Go.Proofs.Ytemcpdpbikgfcaa
namespace Go.Proofs.Ytemcpdpbikgfcaa
open Go.RowKit
set_option linter.unusedVariables false

set_option maxHeartbeats 400000 in
theorem impl_value (k n : Int) (t : ByteArray) (w : World) (ht : t.size ≤ maxLen) :
    Calls Try.prog 124 #[.agg #[.int .i64 k, .int .i64 n, .string t]] w fun e w' => e = .returned (.bool (valueOkB k n t)) ∧ Below w.heap.size w w' := by
  go_enter Try.func124, Try.ntmps124
  go_wp2_with (go_at_call 134; refine (impl_text _ _ ht).mono ?_; rintro e w' ⟨rfl, rfl⟩)
  all_goals go_ret
  all_goals refine ⟨ret_bool ?_, (Below.refl _ _).alloc (Nat.le_refl _) _⟩
  all_goals simp_all [valueOkB]
  all_goals omega
end Go.Proofs.Ytemcpdpbikgfcaa
namespace Go.Proofs.Ytemcpdpbikgfcaa
open Go.RowKit
set_option linter.unusedVariables false

set_option maxHeartbeats 800000 in
theorem impl_row (A : Option Addr) (c : Nat) (r : List GV) (w : World) (hr : RowAt w w.heap.size A r) (hl : r.length ≤ 1048576) (hv : ∀ v ∈ r, v.t.size ≤ maxLen) :
    Calls Try.prog 109 #[.slice A r.length c] w fun e w' => e = .returned (.bool (rowOkB r)) ∧ Below w.heap.size w w' := by
  by_cases h8 : (8 : Int) < r.length
  · have H := Lib.hid (show rowOkB r = false by unfold rowOkB; simp; omega)
    go_enter Try.func109, Try.ntmps109
    go_wp2
    go_ret
    exact ⟨ret_bool (by rw [H.out]), Below.refl _ _⟩
  go_enter Try.func109, Try.ntmps109
  go_wp2
  go_loopw [10] (fun i w' => ∃ k : Nat, k ≤ r.length ∧ i = .int .i64 k ∧ Hid ((r.take k).all okG = true) ∧ Below w.heap.size w w') (fun i _ => r.length - (intOf i).toNat)
  case atStart => exact ⟨0, Nat.zero_le _, rfl, Lib.hid rfl, Below.refl _ _⟩
  case round =>
    obtain ⟨k, hk, rfl, hal, hB⟩ := hrel
    by_cases hlt : k < r.length
    · obtain ⟨g, o, rfl, hg, c0, c1, c2⟩ := (hr.to_ hB).at_ hlt
      have hm := hv _ (List.getElem_mem hlt)
      have hsn := Lib.hid (all_take_snoc r k hlt)
      go_wp2_with fail
      refine (impl_value _ _ _ _ hm).mono ?_
      rintro e w2 ⟨rfl, hb2⟩
      have hB2 : Below w.heap.size w w2 := (hB.alloc hB.size _).trans (hb2.mono (by have := hB.size; simp; omega))
      clear c0 c1 c2
      by_cases hok : okG r[k] = true
      · have hb : valueOkB r[k].k r[k].n r[k].t = true := hok
        have H := Lib.hid (show (r.take (k + 1)).all okG = true by rw [hsn.out, hal.out, hok]; rfl)
        clear hok
        go_wp2_with fail
        go_roundw
        case rel => exact ⟨k + 1, by omega, by go_num, H, hB2⟩
        case measure => simp [intOf]; omega
      · have hb : valueOkB r[k].k r[k].n r[k].t = false := by rw [Bool.not_eq_true] at hok; exact hok
        have H := Lib.hid (show rowOkB r = false by unfold rowOkB; rw [all_bad r k hlt hb]; rfl)
        clear hok
        go_wp2_with fail
        go_ret
        exact ⟨ret_bool (by rw [H.out]), hB2⟩
    · have H := Lib.hid (show rowOkB r = true by
        have h := hal.out
        rw [List.take_of_length_le (by omega)] at h
        unfold rowOkB; rw [h]; simp; omega)
      go_wp2_with fail
      go_ret
      exact ⟨ret_bool (by rw [H.out]), hB⟩
end Go.Proofs.Ytemcpdpbikgfcaa
