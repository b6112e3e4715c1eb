/-
  Contracts of spec.l1Copy and spec.MakeTable.
-/
import Derived.Test.YteoepnadjkjlmaaSortS
import Derived.Test.YteoepnadjkjlmaaCopyRow
import Derived.Test.YteoepnadjkjlmaaVRow
import Derived.Test.YteoepnadjkjlmaaTabOkS
namespace Go.Proofs.Yteoepnadjkjlmaa
open Go.RowKit Go.Sort
set_option linter.unusedVariables false

/-- The state of l1Copy's loop: v is the slice so far, us its cells; each is a row of its own. -/
def CopSt (base : Nat) (rows : List Row) (v : Value) (us : List Value) (w : World) : Prop :=
  w.ownsRow base 35 1 v us.length us ∧ ∀ (i : Nat) (u : Value) (r : Row), us[i]? = some u → rows[i]? = some r → (∃ g c, u = .slice (some ⟨g, 0, none⟩) r.length c) ∧ VRow base w u r
theorem own_kept {w w' : World} {base : Nat} {e : TypeId} {size n : Nat} {v : Value} {xs : List Value} (h : w.ownsRow base e size v n xs) (hb : Below w.heap.size w w') : w'.ownsRow base e size v n xs := by
  refine h.kept (row := none) (grown_below hb) ?_
  rcases h.2 with ⟨e, _⟩ | ⟨g, cap, cur, e, _⟩
  · exact .inl (by rw [e]; rfl)
  · exact .inr (by rw [e]; simp [Value.ownBlock])
theorem cop_below {base : Nat} {rows : List Row} {v : Value} {us : List Value} {w w' : World} (h : CopSt base rows v us w) (hb : Below w.heap.size w w') : CopSt base rows v us w' :=
  ⟨own_kept h.1 hb, fun i u r hu hr => ⟨(h.2 i u r hu hr).1, own_kept (h.2 i u r hu hr).2 hb⟩⟩
theorem own_parts {w : World} {base base' : Nat} {e e' : TypeId} {size n size' n' : Nat} {v u : Value} {xs ys : List Value} (h : w.ownsRow base e size v n xs) (k : w.ownsRow base' e' size' u n' ys) (hne : e ≠ e') : u.ownBlock = none ∨ u.ownBlock ≠ v.ownBlock := by
  rcases h.2 with ⟨rfl, _⟩ | ⟨g, cap, cur, rfl, _, hh, _⟩
  · rcases k.2 with ⟨rfl, _⟩ | ⟨g', cap', cur', rfl, _, hh', _⟩
    · exact .inl rfl
    · exact .inr (by simp [Value.ownBlock])
  · rcases k.2 with ⟨rfl, _⟩ | ⟨g', cap', cur', rfl, _, hh', _⟩
    · exact .inl rfl
    · refine .inr ?_
      simp only [Value.ownBlock]
      intro e
      injection e with e
      subst e
      rw [hh] at hh'
      injection hh' with hh'
      injection hh' with _ h3 _
      exact hne h3
theorem cop_next {base : Nat} {rows : List Row} {v v' : Value} {us : List Value} {w w' : World} {g c : Nat} {r : Row} (h : CopSt base rows v us w) (hr : rows[us.length]? = some r) (hv : VRow base w (.slice (some ⟨g, 0, none⟩) r.length c) r)
    (ho : w'.ownsRow base 35 1 v' (us.length + 1) (us ++ [.slice (some ⟨g, 0, none⟩) r.length c])) (hg : w.grownBy w' v.ownBlock) : CopSt base rows v' (us ++ [.slice (some ⟨g, 0, none⟩) r.length c]) w' := by
  have hk : ∀ {u : Value} {x : Row}, VRow base w u x → VRow base w' u x := fun hu => World.ownsRow.kept hu hg (own_parts h.1 hu (by decide))
  refine ⟨by simpa using ho, fun i u x hu hx => ?_⟩
  rcases Nat.lt_or_ge i us.length with hi | hi
  · rw [List.getElem?_append_left hi] at hu
    exact ⟨(h.2 i u x hu hx).1, hk (h.2 i u x hu hx).2⟩
  · have hi' : i = us.length := by
      have := (List.getElem?_eq_some_iff.1 hu).1
      simp at this; omega
    subst hi'
    rw [hr] at hx
    simp at hu hx
    subst hu hx
    exact ⟨⟨g, c, rfl⟩, hk hv⟩
theorem cop_end {base : Nat} {rows : List Row} {v : Value} {us : List Value} {w : World} (h : CopSt base rows v us w) (hl : us.length = rows.length) : ∃ A c, v = .slice A rows.length c ∧ TabAt w w.heap.size A rows := by
  rcases h.1.2 with ⟨e, h0⟩ | ⟨g, cap, cur, e, hg, hh, hc, _, hsz, ht⟩
  · exact ⟨none, 0, by rw [e, ← hl, h0], .inl (List.eq_nil_of_length_eq_zero (by omega))⟩
  · refine ⟨_, cap, by rw [e, hl], .inr ⟨g, 0, rfl, ?_, fun i r hr => ?_⟩⟩
    · rcases Nat.lt_or_ge g w.heap.size with h' | h'
      · exact h'
      · rw [Array.getElem?_eq_none h'] at hh; cases hh
    · have hi : i < us.length := by have := (List.getElem?_eq_some_iff.1 hr).1; omega
      have hu := List.getElem?_eq_getElem hi
      obtain ⟨⟨gr, cr, e1⟩, h2⟩ := h.2 i _ r hu hr
      obtain ⟨A, c, e2, h3⟩ := h2.row
      refine ⟨A, c, ?_, h3⟩
      rw [Nat.zero_add, ← e2, ← hu]
      conv => rhs; rw [← ht]
      rw [List.getElem?_take, if_pos (by omega)]
      simp [World.cell?, hh]

/-- What l1Copy leaves, its rows told. -/
def CopPostF (w : World) (rows : List Row) (e : Ending) (w' : World) : Prop := ∃ v us, e = .returned v ∧ us.length = rows.length ∧ CopSt w.heap.size rows v us w' ∧ Below w.heap.size w w'
/-- What l1Copy leaves. -/
def CopPost (w : World) (rows : List Row) (e : Ending) (w' : World) : Prop := ∃ A c, e = .returned (.slice A rows.length c) ∧ TabAt w' w'.heap.size A rows ∧ Below w.heap.size w w'

set_option maxRecDepth 100000 in
set_option maxHeartbeats 1600000 in
theorem spec_copyF (g o c B : Nat) (rows : List Row) (w : World) (hT : TabB w B g o rows) (hB : B ≤ w.heap.size) (hl : rows.length ≤ 3000) (hlr : ∀ r ∈ rows, r.length ≤ 1048576) :
    Calls Try.prog 22 #[.slice (some ⟨g, o, none⟩) rows.length c] w (CopPostF w rows) := by
  obtain ⟨i0, hi0, hz0, hz1, hz2⟩ := info_parts infoVs
  obtain ⟨i1, hi1, hy0, hy1, hy2⟩ := info_parts infoV
  have hS0 := Lib.hid (show CopSt w.heap.size rows (.slice (some ⟨w.heap.size, 0, none⟩) 0 0) [] (w.alloc (.cells #[] 35)) from
    ⟨World.ownsRow_made (base := w.heap.size) (size := 1) w #[] 0 (Nat.le_refl _) (Nat.zero_le _) rfl, by simp⟩)
  have hB0 : Below w.heap.size w (w.alloc (.cells #[] 35)) := (Below.refl _ _).alloc (Nat.le_refl _) _
  have HT := Lib.hid hT
  have HLR := Lib.hid hlr
  clear hT hlr
  go_enter Try.func22, Try.ntmps22
  go_wp2_with fail
  go_loopw [3, 4] (fun s i w' => ∃ us : List Value, us.length ≤ rows.length ∧ i = .int .i64 us.length ∧ Hid (CopSt w.heap.size rows s us w') ∧ Below w.heap.size w w') (fun _ i _ => rows.length - (intOf i).toNat)
  case atStart => exact ⟨[], Nat.zero_le _, rfl, hS0, hB0⟩
  case round =>
    obtain ⟨us, hus, rfl, hS, hBW⟩ := hrel
    have hwz := hBW.size
    by_cases hlt : us.length < rows.length
    · obtain ⟨A', c', hcell, hrow, hA'⟩ := (HT.out.low hBW HT.out.1 hB).at_ hlt
      have hm := HLR.out _ (List.getElem_mem hlt)
      obtain ⟨ad, rfl⟩ : ∃ ad, A' = some ad := Option.ne_none_iff_exists'.1 hA'
      have hnw := Lib.hid (show ∀ j u, (flat rows[us.length])[j]? = some u → (wr.alloc (.cells #[] 54)).cell? (ad.add j) = some u by
        rcases hrow with h0 | ⟨gr, or_, e, hgr, hcr⟩
        · intro j u hj; rw [h0] at hj; simp [flat] at hj
        · injection e with e; subst e
          exact row_cells fun i v h => (hcr i v h).below ((Below.refl wr.heap.size wr).alloc (Nat.le_refl _) _) (by omega))
      have hV0 := Lib.hid ((vrow_new wr).mono hwz)
      have hi2 : (us.length : Int) < (rows.length : Int) := by omega
      have hgl : g < wr.heap.size := Nat.lt_of_lt_of_le HT.out.1 hwz
      clear hA' hrow
      go_wp2_with (first
        | (at_builtin; refine wpList_append_own _ rfl (.tmp 13) (.tmp 17) _ rfl w.heap.size 54 i1 _ 3 32 Try.underlying35 hi1 hy0 hy1 hy2 rfl (by decide) _ _ _ rfl (show (wr.alloc (.cells #[] 54)).ownsRow w.heap.size 54 3 (.slice (some ⟨wr.heap.size, 0, none⟩) 0 0) 0 [] from hV0.out) ad rows[us.length].length c' (flat rows[us.length]) rfl (flat_length _) hnw.out (flat_one _) (by unfold maxLen; omega) (by omega) (by simp; omega) ?_; intro v2 w4 ho4 hg4 hv4; refine Hid.out ?_))
      refine Lib.hid ?_
      have hb4 : Below wr.heap.size wr w4 := ((Below.refl _ _).alloc (Nat.le_refl _) _).grown hg4 (by simp) (fun k hk => by have h2 : some wr.heap.size = some k := hk; injection h2; omega)
      have hV4 : VRow w.heap.size w4 v2 rows[us.length] := by
        have h := ho4
        rw [Nat.zero_add, List.nil_append] at h
        exact h
      have hn4 : v2 ≠ .slice none 0 0 := fun h => by have h2 := (hv4.1 h).1; exact Value.noConfusion h2 (fun h3 => by cases h3)
      obtain ⟨g2, c2, rfl⟩ : ∃ g2 c2, v2 = .slice (some ⟨g2, 0, none⟩) rows[us.length].length c2 := by
        rcases hV4.2 with ⟨e, _⟩ | ⟨g2, cap, cur, e, _⟩
        · exact absurd e hn4
        · exact ⟨g2, cap, e⟩
      have HV4 := Lib.hid hV4
      have hS4 := Lib.hid (cop_below hS.out hb4)
      have hBW4 := below_next hBW hb4 rfl rfl
      have hz4 := hBW4.size
      clear ho4 hg4 hv4 hn4 hV4 hcell hb4
      go_wp2_with (first
        | (at_builtin; refine wpList_append_own _ rfl (.tmp 12) (.tmp 19) _ rfl w.heap.size 35 i0 _ 1 24 Try.underlying24 hi0 hz0 hz1 hz2 rfl (by decide) _ _ _ rfl (hS4.out.1.alloc _) ⟨w4.heap.size, 0, none⟩ 1 1 [.slice (some ⟨g2, 0, none⟩) rows[us.length].length c2] rfl rfl (news_cell _ _ _) (by simp [Value.oneCell']) (by unfold maxLen; omega) (by omega) (by simp; omega) ?_; intro v5 w6 ho6 hg6 hv6; refine Hid.out ?_))
      refine Lib.hid ?_
      have hS6 := Lib.hid (cop_next (cop_below hS4.out ((Below.refl w4.heap.size w4).alloc (Nat.le_refl _) (.cells #[.slice (some ⟨g2, 0, none⟩) rows[us.length].length c2] 35))) (List.getElem?_eq_getElem hlt) (HV4.out.below ((Below.refl w4.heap.size w4).alloc (Nat.le_refl _) _)) ho6 hg6)
      have hBW6 : Below w.heap.size w w6 := (hBW4.alloc hz4 _).grown hg6 (by simp; omega) (own_ge hS4.out.1)
      clear ho6 hg6 hv6
      go_wp2_with fail
      go_roundw
      case rel => exact ⟨us ++ [.slice (some ⟨g2, 0, none⟩) rows[us.length].length c2], by simp; omega, by simp, hS6, hBW6⟩
      case measure => simp [intOf]; omega
    · have hi2 : ¬ (us.length : Int) < (rows.length : Int) := by omega
      obtain ⟨A, c5, e5, _⟩ := cop_end hS.out (by omega)
      subst e5
      go_wp2_with fail
      go_ret
      exact ⟨_, us, rfl, by omega, hS.out, hBW⟩
theorem spec_copy (g o c B : Nat) (rows : List Row) (w : World) (hT : TabB w B g o rows) (hB : B ≤ w.heap.size) (hl : rows.length ≤ 3000) (hlr : ∀ r ∈ rows, r.length ≤ 1048576) :
    Calls Try.prog 22 #[.slice (some ⟨g, o, none⟩) rows.length c] w (CopPost w rows) :=
  (spec_copyF g o c B rows w hT hB hl hlr).mono fun e w' ⟨v, us, he, hu, hS, hb⟩ => by
    obtain ⟨A, c5, e5, hT5⟩ := cop_end hS hu
    subst e5
    exact ⟨A, c5, he, hT5, hb⟩
end Go.Proofs.Yteoepnadjkjlmaa
