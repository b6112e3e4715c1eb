/-
  Contracts of spec.l1Copy and spec.MakeTable. What draws leave as it was; tables in the making. Contract of spec.MakeTable.
-/
import Derived.Test.YtemcpdpbikgfcaaSortS
import Derived.Test.YtemcpdpbikgfcaaTabOkSZ
import Derived.Test.YtemcpdpbikgfcaaVRowZ
namespace Go.Proofs.Ytemcpdpbikgfcaa
open Go.RowKit Go.Sort
set_option linter.unusedVariables false

/-- The state of l1Copy's loop: v is the slice so far, us its cells; each is a row of its own. -/
def CopSt (base : Nat) (rows : List Row) (v : Value) (us : List Value) (w : World) : Prop :=
  w.ownsRow base 53 1 v us.length us ∧ ∀ (i : Nat) (u : Value) (r : Row), us[i]? = some u → rows[i]? = some r → (∃ g c, u = .slice (some ⟨g, 0, none⟩) r.length c) ∧ VRow base w u r
theorem own_kept {w w' : World} {base : Nat} {e : TypeId} {size n : Nat} {v : Value} {xs : List Value} (h : w.ownsRow base e size v n xs) (hb : Below w.heap.size w w') : w'.ownsRow base e size v n xs := by
  refine h.kept (row := none) (grown_below hb) ?_
  rcases h.2 with ⟨e, _⟩ | ⟨g, cap, cur, e, _⟩
  · exact .inl (by rw [e]; rfl)
  · exact .inr (by rw [e]; simp [Value.ownBlock])
theorem cop_below {base : Nat} {rows : List Row} {v : Value} {us : List Value} {w w' : World} (h : CopSt base rows v us w) (hb : Below w.heap.size w w') : CopSt base rows v us w' :=
  ⟨own_kept h.1 hb, fun i u r hu hr => ⟨(h.2 i u r hu hr).1, own_kept (h.2 i u r hu hr).2 hb⟩⟩
theorem own_parts {w : World} {base base' : Nat} {e e' : TypeId} {size n size' n' : Nat} {v u : Value} {xs ys : List Value} (h : w.ownsRow base e size v n xs) (k : w.ownsRow base' e' size' u n' ys) (hne : e ≠ e') : u.ownBlock = none ∨ u.ownBlock ≠ v.ownBlock := by
  rcases h.2 with ⟨rfl, _⟩ | ⟨g, cap, cur, rfl, _, hh, _⟩
  · rcases k.2 with ⟨rfl, _⟩ | ⟨g', cap', cur', rfl, _, hh', _⟩
    · exact .inl rfl
    · exact .inr (by simp [Value.ownBlock])
  · rcases k.2 with ⟨rfl, _⟩ | ⟨g', cap', cur', rfl, _, hh', _⟩
    · exact .inl rfl
    · refine .inr ?_
      simp only [Value.ownBlock]
      intro e
      injection e with e
      subst e
      rw [hh] at hh'
      injection hh' with hh'
      injection hh' with _ h3 _
      exact hne h3
theorem cop_next {base : Nat} {rows : List Row} {v v' : Value} {us : List Value} {w w' : World} {g c : Nat} {r : Row} (h : CopSt base rows v us w) (hr : rows[us.length]? = some r) (hv : VRow base w (.slice (some ⟨g, 0, none⟩) r.length c) r)
    (ho : w'.ownsRow base 53 1 v' (us.length + 1) (us ++ [.slice (some ⟨g, 0, none⟩) r.length c])) (hg : w.grownBy w' v.ownBlock) : CopSt base rows v' (us ++ [.slice (some ⟨g, 0, none⟩) r.length c]) w' := by
  have hk : ∀ {u : Value} {x : Row}, VRow base w u x → VRow base w' u x := fun hu => World.ownsRow.kept hu hg (own_parts h.1 hu (by decide))
  refine ⟨by simpa using ho, fun i u x hu hx => ?_⟩
  rcases Nat.lt_or_ge i us.length with hi | hi
  · rw [List.getElem?_append_left hi] at hu
    exact ⟨(h.2 i u x hu hx).1, hk (h.2 i u x hu hx).2⟩
  · have hi' : i = us.length := by
      have := (List.getElem?_eq_some_iff.1 hu).1
      simp at this; omega
    subst hi'
    rw [hr] at hx
    simp at hu hx
    subst hu hx
    exact ⟨⟨g, c, rfl⟩, hk hv⟩
theorem cop_end {base : Nat} {rows : List Row} {v : Value} {us : List Value} {w : World} (h : CopSt base rows v us w) (hl : us.length = rows.length) : ∃ A c, v = .slice A rows.length c ∧ TabAt w w.heap.size A rows := by
  rcases h.1.2 with ⟨e, h0⟩ | ⟨g, cap, cur, e, hg, hh, hc, _, hsz, ht⟩
  · exact ⟨none, 0, by rw [e, ← hl, h0], .inl (List.eq_nil_of_length_eq_zero (by omega))⟩
  · refine ⟨_, cap, by rw [e, hl], .inr ⟨g, 0, rfl, ?_, fun i r hr => ?_⟩⟩
    · rcases Nat.lt_or_ge g w.heap.size with h' | h'
      · exact h'
      · rw [Array.getElem?_eq_none h'] at hh; cases hh
    · have hi : i < us.length := by have := (List.getElem?_eq_some_iff.1 hr).1; omega
      have hu := List.getElem?_eq_getElem hi
      obtain ⟨⟨gr, cr, e1⟩, h2⟩ := h.2 i _ r hu hr
      obtain ⟨A, c, e2, h3⟩ := h2.row
      refine ⟨A, c, ?_, h3⟩
      rw [Nat.zero_add, ← e2, ← hu]
      conv => rhs; rw [← ht]
      rw [List.getElem?_take, if_pos (by omega)]
      simp [World.cell?, hh]

/-- What l1Copy leaves, its rows told. -/
def CopPostF (w : World) (rows : List Row) (e : Ending) (w' : World) : Prop := ∃ v us, e = .returned v ∧ us.length = rows.length ∧ CopSt w.heap.size rows v us w' ∧ Below w.heap.size w w'
/-- What l1Copy leaves. -/
def CopPost (w : World) (rows : List Row) (e : Ending) (w' : World) : Prop := ∃ A c, e = .returned (.slice A rows.length c) ∧ TabAt w' w'.heap.size A rows ∧ Below w.heap.size w w'

set_option maxRecDepth 100000 in
set_option maxHeartbeats 1600000 in
theorem spec_copyF (g o c B : Nat) (rows : List Row) (w : World) (hT : TabB w B g o rows) (hB : B ≤ w.heap.size) (hl : rows.length ≤ 3000) (hlr : ∀ r ∈ rows, r.length ≤ 1048576) :
    Calls Try.prog 99 #[.slice (some ⟨g, o, none⟩) rows.length c] w (CopPostF w rows) := by
  obtain ⟨i0, hi0, hz0, hz1, hz2⟩ := info_parts infoVs
  obtain ⟨i1, hi1, hy0, hy1, hy2⟩ := info_parts infoV
  have hS0 := Lib.hid (show CopSt w.heap.size rows (.slice (some ⟨w.heap.size, 0, none⟩) 0 0) [] (w.alloc (.cells #[] 53)) from
    ⟨World.ownsRow_made (base := w.heap.size) (size := 1) w #[] 0 (Nat.le_refl _) (Nat.zero_le _) rfl, by simp⟩)
  have hB0 : Below w.heap.size w (w.alloc (.cells #[] 53)) := (Below.refl _ _).alloc (Nat.le_refl _) _
  have HT := Lib.hid hT
  have HLR := Lib.hid hlr
  clear hT hlr
  go_enter Try.func99, Try.ntmps99
  go_wp2_with fail
  go_loopw [3, 4] (fun s i w' => ∃ us : List Value, us.length ≤ rows.length ∧ i = .int .i64 us.length ∧ Hid (CopSt w.heap.size rows s us w') ∧ Below w.heap.size w w') (fun _ i _ => rows.length - (intOf i).toNat)
  case atStart => exact ⟨[], Nat.zero_le _, rfl, hS0, hB0⟩
  case round =>
    obtain ⟨us, hus, rfl, hS, hBW⟩ := hrel
    have hwz := hBW.size
    by_cases hlt : us.length < rows.length
    · obtain ⟨A', c', hcell, hrow, hA'⟩ := (HT.out.low hBW HT.out.1 hB).at_ hlt
      have hm := HLR.out _ (List.getElem_mem hlt)
      obtain ⟨ad, rfl⟩ : ∃ ad, A' = some ad := Option.ne_none_iff_exists'.1 hA'
      have hnw := Lib.hid (show ∀ j u, (flat rows[us.length])[j]? = some u → (wr.alloc (.cells #[] 52)).cell? (ad.add j) = some u by
        rcases hrow with h0 | ⟨gr, or_, e, hgr, hcr⟩
        · intro j u hj; rw [h0] at hj; simp [flat] at hj
        · injection e with e; subst e
          exact row_cells fun i v h => (hcr i v h).below ((Below.refl wr.heap.size wr).alloc (Nat.le_refl _) _) (by omega))
      have hV0 := Lib.hid ((vrow_new wr).mono hwz)
      have hi2 : (us.length : Int) < (rows.length : Int) := by omega
      have hgl : g < wr.heap.size := Nat.lt_of_lt_of_le HT.out.1 hwz
      clear hA' hrow
      go_wp2_with (first
        | (at_builtin; refine wpList_append_own _ rfl (.tmp 13) (.tmp 17) _ rfl w.heap.size 52 i1 _ 3 32 Try.underlying53 hi1 hy0 hy1 hy2 rfl (by decide) _ _ _ rfl (show (wr.alloc (.cells #[] 52)).ownsRow w.heap.size 52 3 (.slice (some ⟨wr.heap.size, 0, none⟩) 0 0) 0 [] from hV0.out) ad rows[us.length].length c' (flat rows[us.length]) rfl (flat_length _) hnw.out (flat_one _) (by unfold maxLen; omega) (by omega) (by simp; omega) ?_; intro v2 w4 ho4 hg4 hv4; refine Hid.out ?_))
      refine Lib.hid ?_
      have hb4 : Below wr.heap.size wr w4 := ((Below.refl _ _).alloc (Nat.le_refl _) _).grown hg4 (by simp) (fun k hk => by have h2 : some wr.heap.size = some k := hk; injection h2; omega)
      have hV4 : VRow w.heap.size w4 v2 rows[us.length] := by
        have h := ho4
        rw [Nat.zero_add, List.nil_append] at h
        exact h
      have hn4 : v2 ≠ .slice none 0 0 := fun h => by have h2 := (hv4.1 h).1; exact Value.noConfusion h2 (fun h3 => by cases h3)
      obtain ⟨g2, c2, rfl⟩ : ∃ g2 c2, v2 = .slice (some ⟨g2, 0, none⟩) rows[us.length].length c2 := by
        rcases hV4.2 with ⟨e, _⟩ | ⟨g2, cap, cur, e, _⟩
        · exact absurd e hn4
        · exact ⟨g2, cap, e⟩
      have HV4 := Lib.hid hV4
      have hS4 := Lib.hid (cop_below hS.out hb4)
      have hBW4 := below_next hBW hb4 rfl rfl
      have hz4 := hBW4.size
      clear ho4 hg4 hv4 hn4 hV4 hcell hb4
      go_wp2_with (first
        | (at_builtin; refine wpList_append_own _ rfl (.tmp 12) (.tmp 19) _ rfl w.heap.size 53 i0 _ 1 24 Try.underlying33 hi0 hz0 hz1 hz2 rfl (by decide) _ _ _ rfl (hS4.out.1.alloc _) ⟨w4.heap.size, 0, none⟩ 1 1 [.slice (some ⟨g2, 0, none⟩) rows[us.length].length c2] rfl rfl (news_cell _ _ _) (by simp [Value.oneCell']) (by unfold maxLen; omega) (by omega) (by simp; omega) ?_; intro v5 w6 ho6 hg6 hv6; refine Hid.out ?_))
      refine Lib.hid ?_
      have hS6 := Lib.hid (cop_next (cop_below hS4.out ((Below.refl w4.heap.size w4).alloc (Nat.le_refl _) (.cells #[.slice (some ⟨g2, 0, none⟩) rows[us.length].length c2] 53))) (List.getElem?_eq_getElem hlt) (HV4.out.below ((Below.refl w4.heap.size w4).alloc (Nat.le_refl _) _)) ho6 hg6)
      have hBW6 : Below w.heap.size w w6 := (hBW4.alloc hz4 _).grown hg6 (by simp; omega) (own_ge hS4.out.1)
      clear ho6 hg6 hv6
      go_wp2_with fail
      go_roundw
      case rel => exact ⟨us ++ [.slice (some ⟨g2, 0, none⟩) rows[us.length].length c2], by simp; omega, by simp, hS6, hBW6⟩
      case measure => simp [intOf]; omega
    · have hi2 : ¬ (us.length : Int) < (rows.length : Int) := by omega
      obtain ⟨A, c5, e5, _⟩ := cop_end hS.out (by omega)
      subst e5
      go_wp2_with fail
      go_ret
      exact ⟨_, us, rfl, by omega, hS.out, hBW⟩
theorem spec_copy (g o c B : Nat) (rows : List Row) (w : World) (hT : TabB w B g o rows) (hB : B ≤ w.heap.size) (hl : rows.length ≤ 3000) (hlr : ∀ r ∈ rows, r.length ≤ 1048576) :
    Calls Try.prog 99 #[.slice (some ⟨g, o, none⟩) rows.length c] w (CopPost w rows) :=
  (spec_copyF g o c B rows w hT hB hl hlr).mono fun e w' ⟨v, us, he, hu, hS, hb⟩ => by
    obtain ⟨A, c5, e5, hT5⟩ := cop_end hS hu
    subst e5
    exact ⟨A, c5, he, hT5, hb⟩
end Go.Proofs.Ytemcpdpbikgfcaa
namespace Go.Proofs.Ytemcpdpbikgfcaa
open Go.RowKit Go.Sort
set_option linter.unusedVariables false

def St (w : World) (g : Nat) (A : Option Addr) (c : Nat) (xs : List UInt8) : Prop := Cur w g A c xs ∧ BAt w g A xs
theorem St.lt {w : World} {g : Nat} {A : Option Addr} {c : Nat} {xs : List UInt8} (h : St w g A c xs) : g < w.heap.size := h.1.lt
theorem St.alloc {w : World} {g : Nat} {A : Option Addr} {c : Nat} {xs : List UInt8} (h : St w g A c xs) (o : Obj) : St (w.alloc o) g A c xs := by
  have hb : Below w.heap.size w (w.alloc o) := (Below.refl _ _).alloc (Nat.le_refl _) _
  obtain ⟨i, z, hi, hW⟩ := h.1
  exact ⟨⟨i, z, hi, hW.below hb hW.lt⟩, h.2.below hb (Nat.le_of_lt h.lt)⟩
theorem St.below {w w' : World} {g : Nat} {A : Option Addr} {c : Nat} {xs : List UInt8} (h : St w g A c xs) (hb : Below w.heap.size w w') : St w' g A c xs := by
  obtain ⟨i, z, hi, hW⟩ := h.1
  exact ⟨⟨i, z, hi, hW.below hb hW.lt⟩, h.2.below hb (Nat.le_of_lt h.lt)⟩
theorem St.set_ {w : World} {g b i : Nat} {u : Value} {A : Option Addr} {c : Nat} {xs : List UInt8} (h : St w g A c xs) (hb : g < b) : St (w.setCell ⟨b, i, none⟩ u) g A c xs := by
  have hbl : Below b w (w.setCell ⟨b, i, none⟩ u) := (Below.refl _ _).setCell (p := ⟨b, i, none⟩) (Nat.le_refl _) _
  obtain ⟨j, z, hj, hW⟩ := h.1
  exact ⟨⟨j, z, hj, hW.below hbl hb⟩, h.2.below hbl (by omega)⟩
theorem grown_new {w w1 : World} {g b i : Nat} {u : Value} (h : w.grownBy w1 (some g)) (hb : w.heap.size ≤ b) : w.grownBy (w1.setCell ⟨b, i, none⟩ u) (some g) :=
  ⟨h.os, h.tape, h.output, by simpa [World.setCell] using h.size, fun k hk hne => by
    rw [Below.heap_setCell _ _ _ _ (by show k ≠ b; omega)]; exact h.block k hk hne⟩
theorem grown_alloc2 {w w1 : World} {g : Nat} (h : w.grownBy w1 (some g)) (o : Obj) : w.grownBy (w1.alloc o) (some g) := grown_to h (World.grownBy_alloc w1 o _)
/-- A block that is not the cursor's lies on. -/
theorem Whole.drawn {w w' : World} {b g : Nat} {t : TypeId} {l : List Value} (h : Whole w b t l) (hg : w.grownBy w' (some g)) (hne : b ≠ g) : Whole w' b t l :=
  (hg.block b h.lt (fun e => by injection e with e; exact hne e)).trans h

theorem St.low {w w' : World} {g B : Nat} {A : Option Addr} {c : Nat} {xs : List UInt8} (h : St w g A c xs) (hb : Below B w w') (hg : g < B) : St w' g A c xs := by
  obtain ⟨i, z, hi, hW⟩ := h.1
  exact ⟨⟨i, z, hi, hW.below hb hg⟩, h.2.below hb (by omega)⟩
theorem grown_own {w w1 w2 : World} {g : Nat} {row : Option Nat} (h : w.grownBy w1 (some g)) (k : w1.grownBy w2 row) (hr : ∀ b, row = some b → w.heap.size ≤ b) : w.grownBy w2 (some g) :=
  ⟨k.os.trans h.os, k.tape.trans h.tape, k.output.trans h.output, Nat.le_trans h.size k.size, fun i hi hne => (k.block i (Nat.lt_of_lt_of_le hi h.size) (fun e => by have := hr i e.symm; omega)).trans (h.block i hi hne)⟩
theorem VRow.drawn {B g : Nat} {w w' : World} {v : Value} {r : List GV} (h : VRow B w v r) (hg : w.grownBy w' (some g)) (hB : g < B) : VRow B w' v r := by
  refine ⟨h.1, ?_⟩
  rcases h.2 with h' | ⟨b, cap, cur, e, hb, hh, hr⟩
  · exact .inl h'
  · refine .inr ⟨b, cap, cur, e, hb, ?_, hr⟩
    have : b < w.heap.size := by
      rcases Nat.lt_or_ge b w.heap.size with h' | h'
      · exact h'
      · rw [Array.getElem?_eq_none h'] at hh; cases hh
    rw [hg.block b this (fun e => by injection e; omega)]; exact hh
theorem vrow_some {B : Nat} {w : World} {v : Value} {r : List GV} (h : VRow B w v r) (hr : r ≠ []) : ∃ a cap, v = .slice (some ⟨a, 0, none⟩) r.length cap := by
  rcases h.2 with ⟨_, h0⟩ | ⟨g, cap, cur, rfl, _⟩
  · exact absurd (List.eq_nil_of_length_eq_zero h0) hr
  · exact ⟨g, cap, rfl⟩
/-- A table in the making: v is the slice, us its cells, rows what they hold. -/
def TSt (base : Nat) (v : Value) (us : List Value) (rows : List Row) (w : World) : Prop :=
  CopSt base rows v us w ∧ us.length = rows.length ∧ ∀ r ∈ rows, r.length ≤ 20 ∧ ∀ x ∈ r, x.t.size ≤ 100
theorem own_drawn {w w' : World} {base g : Nat} {e : TypeId} {size n : Nat} {v : Value} {xs : List Value} (h : w.ownsRow base e size v n xs) (hg : w.grownBy w' (some g)) (hb : g < base) : w'.ownsRow base e size v n xs := by
  refine h.kept hg ?_
  rcases h.2 with ⟨e, _⟩ | ⟨k, cap, cur, e, hk, _⟩
  · exact .inl (by rw [e]; rfl)
  · exact .inr (by rw [e]; simp only [Value.ownBlock]; intro e2; injection e2; omega)
theorem tst_drawn {w w' : World} {base g : Nat} {v : Value} {us : List Value} {rows : List Row} (h : TSt base v us rows w) (hg : w.grownBy w' (some g)) (hb : g < base) : TSt base v us rows w' :=
  ⟨⟨own_drawn h.1.1 hg hb, fun i u r hu hr => ⟨(h.1.2 i u r hu hr).1, own_drawn (h.1.2 i u r hu hr).2 hg hb⟩⟩, h.2⟩
theorem tst_below {w w' : World} {base : Nat} {v : Value} {us : List Value} {rows : List Row} (h : TSt base v us rows w) (hb : Below w.heap.size w w') : TSt base v us rows w' := ⟨cop_below h.1 hb, h.2⟩
theorem tst_next {base : Nat} {rows : List Row} {v v' : Value} {us : List Value} {w w' : World} {g c : Nat} {r : Row} (h : TSt base v us rows w) (hv : VRow base w (.slice (some ⟨g, 0, none⟩) r.length c) r) (hr1 : r.length ≤ 20) (hr2 : ∀ x ∈ r, x.t.size ≤ 100)
    (ho : w'.ownsRow base 53 1 v' (us.length + 1) (us ++ [.slice (some ⟨g, 0, none⟩) r.length c])) (hg : w.grownBy w' v.ownBlock) : TSt base v' (us ++ [.slice (some ⟨g, 0, none⟩) r.length c]) (rows ++ [r]) w' := by
  refine ⟨cop_next (rows := rows ++ [r]) ⟨h.1.1, fun i u x hu hx => ?_⟩ (by rw [h.2.1]; simp) hv ho hg, by simp [h.2.1], ?_⟩
  · have hi : i < us.length := (List.getElem?_eq_some_iff.1 hu).1
    rw [List.getElem?_append_left (by rw [← h.2.1]; exact hi)] at hx
    exact h.1.2 i u x hu hx
  · intro x hx
    rw [List.mem_append] at hx
    rcases hx with hx | hx
    · exact h.2.2 x hx
    · simp at hx; subst hx; exact ⟨hr1, hr2⟩
end Go.Proofs.Ytemcpdpbikgfcaa
namespace Go.Proofs.Ytemcpdpbikgfcaa
open Go.RowKit Go.Sort
set_option linter.unusedVariables false

/-- The table of the rows; empty where there is none. -/
def TabIs (rows out : List Row) : Prop := (rowsOkB rows = false ∧ out = []) ∨ (rowsOkB rows = true ∧ AscP out ∧ ∀ r, r ∈ out ↔ r ∈ rows)
theorem tab_unique {rows a b : List Row} (h : TabIs rows a) (k : TabIs rows b) : a = b := by
  rcases h with ⟨h1, rfl⟩ | ⟨h1, h2, h3⟩
  · rcases k with ⟨_, rfl⟩ | ⟨k1, _⟩
    · rfl
    · rw [h1] at k1; cases k1
  · rcases k with ⟨k1, _⟩ | ⟨_, k2, k3⟩
    · rw [h1] at k1; cases k1
    · exact asc_unique a b h2 k2 fun r => (h3 r).trans (k3 r).symm
def SpecMade (w : World) (rows : List Row) (e : Ending) (w' : World) : Prop := ∃ (A : Option Addr) (c : Nat) (out : List Row), e = .returned (.slice A out.length c) ∧ TabAt w' w'.heap.size A out ∧ TabIs rows out ∧ out.length ≤ rows.length ∧ Below w.heap.size w w'
/-- The same, its rows told. -/
def SpecMadeF (w : World) (rows : List Row) (e : Ending) (w' : World) : Prop := ∃ (v : Value) (us : List Value) (out : List Row), e = .returned v ∧ us.length = out.length ∧ CopSt w.heap.size out v us w' ∧ TabIs rows out ∧ out.length ≤ rows.length ∧ Below w.heap.size w w'
theorem cop_none {w w' : World} {n : Nat} (hn : w'.heap.size = n) (hb : Below w.heap.size w w') : CopSt w.heap.size [] (.slice (some ⟨n, 0, none⟩) 0 0) [] (w'.alloc (.cells #[] 53)) := by
  subst hn
  exact ⟨World.ownsRow_made (base := w.heap.size) (size := 1) w' #[] 0 hb.size (Nat.zero_le _) rfl, by simp⟩
theorem cop_up {base base' : Nat} {rows : List Row} {v : Value} {us : List Value} {w : World} (h : CopSt base rows v us w) (hb : base' ≤ base) : CopSt base' rows v us w := by
  refine ⟨⟨h.1.1, ?_⟩, fun i u r hu hr => ⟨(h.2 i u r hu hr).1, (h.2 i u r hu hr).2.mono hb⟩⟩
  rcases h.1.2 with h' | ⟨g, cap, cur, e, hg, hr⟩
  · exact .inl h'
  · exact .inr ⟨g, cap, cur, e, Nat.le_trans hb hg, hr⟩
theorem rows_bad {rows : List Row} (h : rows.all (goodRow (wid rows)) = false) : rowsOkB rows = false := by unfold rowsOkB; rw [h]; rfl

set_option maxRecDepth 100000 in
set_option maxHeartbeats 1600000 in
theorem spec_makeF (g o c : Nat) (rows : List Row) (w : World) (hT : TabB w w.heap.size g o rows) (hl : rows.length ≤ c) (hc : c ≤ 9223372036854775807) (hlr : ∀ r ∈ rows, r.length ≤ 1048576 ∧ ∀ v ∈ r, v.t.size ≤ maxLen) :
    Calls Try.prog 107 #[.slice (some ⟨g, o, none⟩) rows.length c] w (SpecMadeF w rows) := by
  have HT := Lib.hid hT
  clear hT
  go_enter Try.func107, Try.ntmps107
  go_wp2
  go_loopw [3] (fun i w' => ∃ k : Nat, k ≤ rows.length ∧ i = .int .i64 k ∧ Hid ((rows.take k).all (goodRow (wid rows)) = true) ∧ Below w.heap.size w w') (fun i _ => rows.length - (intOf i).toNat)
  case atStart => exact ⟨0, Nat.zero_le _, rfl, Lib.hid rfl, Below.refl _ _⟩
  case round =>
    obtain ⟨k, hk, rfl, hal, hB⟩ := hrel
    have hwz := hB.size
    by_cases h8 : rows.length ≤ 3000
    · have h8i : (rows.length : Int) ≤ 3000 := by omega
      by_cases hlt : k < rows.length
      · have hTw := HT.out.low hB HT.out.1 (Nat.le_refl _)
        obtain ⟨A0, c0, hcell0, hrow0⟩ := hTw.at_ (i := 0) (by omega)
        obtain ⟨A', c', hcell, hrow⟩ := hTw.at_ hlt
        simp only [Nat.add_zero] at hcell0
        have hm := hlr _ (List.getElem_mem hlt)
        have hw0 := Lib.hid (wid_eq (rows := rows) (by omega))
        have hsn := Lib.hid (allr_snoc (wid rows) rows k hlt)
        have hi0 : (0 : Int) < (rows.length : Int) := by omega
        have hi2 : (0 : Int) ≤ (k : Int) := by omega
        have hi3 : (k : Int) < (rows.length : Int) := by omega
        have q0 := cell_regrown hcell0
        have q1 := cell_regrown hcell
        clear hTw hcell hcell0
        by_cases hok : rowOkB rows[k] = true
        · by_cases hln : rows[k].length = rows[0].length
          · have hb : ((rows[k].length : Int) != (rows[0].length : Int)) = false := by simp [hln]
            have hgood := Lib.hid (show (rows.take (k + 1)).all (goodRow (wid rows)) = true by rw [hsn.out, hal.out, goodRow, hok, hw0.out, hln]; simp)
            clear hln
            go_wp2_with fail
            refine wp_region_quiet_below (by kernel_rfl) (by kernel_rfl) ?_
            repeat (go_big_quiet_step (first
              | (go_at_call 77; exact Calls.regrown_of (spec_row_is _ A' c' rows[k] _ hok ((hrow.1.mono (by omega)).to_ (below_regrown wr _ _)) hm.1 hm.2))))
            refine wpQuiet_nil ?_
            intro _ hw'
            obtain ⟨⟨dq, osq⟩, hw''⟩ := hw'
            subst hw''
            have hB2 := below_next hB (below_regrown wr dq osq) rfl rfl
            generalize grow (redrawn wr dq) osq = wx at *
            clear q0 q1
            go_wp2_with fail
            go_roundw
            case rel => exact ⟨k + 1, by omega, by go_num, hgood, hB2⟩
            case measure => simp [intOf]; omega
          · have hb : ((rows[k].length : Int) != (rows[0].length : Int)) = true := by simp; omega
            have H := Lib.hid (rows_bad (allr_bad _ rows k hlt (by rw [goodRow, hok, hw0.out]; simp [hln])))
            clear hln
            go_wp2_with fail
            refine wp_region_quiet_below (by kernel_rfl) (by kernel_rfl) ?_
            repeat (go_big_quiet_step (first
              | (go_at_call 77; exact Calls.regrown_of (spec_row_is _ A' c' rows[k] _ hok ((hrow.1.mono (by omega)).to_ (below_regrown wr _ _)) hm.1 hm.2))))
            refine wpQuiet_nil ?_
            intro _ hw'
            obtain ⟨⟨dq, osq⟩, hw''⟩ := hw'
            subst hw''
            have hB2 := below_next hB (below_regrown wr dq osq) rfl rfl
            generalize grow (redrawn wr dq) osq = wx at *
            clear q0 q1
            go_wp2_with fail
            go_ret
            exact ⟨_, [], [], rfl, rfl, cop_none rfl hB2, .inl ⟨H.out, rfl⟩, Nat.zero_le _, hB2.alloc hB2.size _⟩
        · rw [Bool.not_eq_true] at hok
          have H := Lib.hid (rows_bad (allr_bad _ rows k hlt (by rw [goodRow, hok]; rfl)))
          go_wp2_with fail
          refine wp_region_quiet_below (by kernel_rfl) (by kernel_rfl) ?_
          repeat (go_big_quiet_step (first
            | (go_at_call 77; exact Calls.regrown_of (spec_row_is _ A' c' rows[k] _ hok ((hrow.1.mono (by omega)).to_ (below_regrown wr _ _)) hm.1 hm.2))))
          refine wpQuiet_nil ?_
          intro _ hw'
          obtain ⟨⟨dq, osq⟩, hw''⟩ := hw'
          subst hw''
          have hB2 := below_next hB (below_regrown wr dq osq) rfl rfl
          generalize grow (redrawn wr dq) osq = wx at *
          clear q0 q1
          go_wp2_with fail
          go_ret
          exact ⟨_, [], [], rfl, rfl, cop_none rfl hB2, .inl ⟨H.out, rfl⟩, Nat.zero_le _, hB2.alloc hB2.size _⟩
      · have H := Lib.hid (show rowsOkB rows = true by
          have h := hal.out
          rw [List.take_of_length_le (by omega)] at h
          unfold rowsOkB; rw [h]; simp; omega)
        have hi3 : ¬ (k : Int) < (rows.length : Int) := by omega
        have hTw := Lib.hid (HT.out.low hB HT.out.1 (Nat.le_refl _))
        have HLR := Lib.hid (fun r (hr : r ∈ rows) => (hlr r hr).1)
        clear hlr
        go_wp2_with fail
        refine (spec_sort rows.length rows g o c w.heap.size _ (Nat.le_refl _) hTw.out hwz hl hc h8 HLR.out).mono ?_
        rintro e w2 ⟨g2, c2, out, rfl, hc2, hT2, ha2, hm2, hl2, hb2⟩
        have hB2 := below_next hB hb2 rfl rfl
        have hTI := Lib.hid (show TabIs rows out from .inr ⟨H.out, ha2, hm2⟩)
        have hLO := Lib.hid (show ∀ r ∈ out, r.length ≤ 1048576 from fun r hr => HLR.out r ((hm2 r).1 hr))
        have HT2 := Lib.hid hT2
        clear ha2 hm2 hT2 hTw
        go_wp2_with fail
        refine (spec_copyF g2 0 c2 w.heap.size out _ HT2.out (by have := hB2.size; omega) (by omega) hLO.out).mono ?_
        rintro e w3 ⟨v3, us3, rfl, hu3, hC3, hb3⟩
        have hB3 := below_next hB2 hb3 rfl rfl
        have HC3 := Lib.hid (cop_up hC3 hB2.size)
        clear hC3
        go_wp2_with fail
        go_ret
        exact ⟨v3, us3, out, rfl, hu3, HC3.out, hTI.out, hl2, hB3⟩
    · have H := Lib.hid (show rowsOkB rows = false by unfold rowsOkB; simp; omega)
      have h8i : ¬ (rows.length : Int) ≤ 3000 := by omega
      have h8j : decide ((rows.length : Int) ≤ 3000) = false := by simpa using h8i
      have h8k : (3000 : Int) < rows.length := by omega
      clear hlr
      by_cases hlt : (k : Int) < (rows.length : Int)
      · go_wp2_with fail
        go_ret
        exact ⟨_, [], [], rfl, rfl, cop_none rfl hB, .inl ⟨H.out, rfl⟩, Nat.zero_le _, hB.alloc hB.size _⟩
      · go_wp2_with fail
        go_ret
        exact ⟨_, [], [], rfl, rfl, cop_none rfl hB, .inl ⟨H.out, rfl⟩, Nat.zero_le _, hB.alloc hB.size _⟩
theorem spec_make (g o c : Nat) (rows : List Row) (w : World) (hT : TabB w w.heap.size g o rows) (hl : rows.length ≤ c) (hc : c ≤ 9223372036854775807) (hlr : ∀ r ∈ rows, r.length ≤ 1048576 ∧ ∀ v ∈ r, v.t.size ≤ maxLen) :
    Calls Try.prog 107 #[.slice (some ⟨g, o, none⟩) rows.length c] w (SpecMade w rows) :=
  (spec_makeF g o c rows w hT hl hc hlr).mono fun e w' ⟨v, us, out, he, hu, hS, hT, hl, hb⟩ => by
    obtain ⟨A, c5, e5, hT5⟩ := cop_end hS hu
    subst e5
    exact ⟨A, c5, out, he, hT5, hT, hl, hb⟩
end Go.Proofs.Ytemcpdpbikgfcaa
