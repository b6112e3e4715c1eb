/-
  spec.l4Distinct, spec.l1Copy and spec.Distinct.
-/
import Derived.Test.YtggkggaihfcjmaaTRow
import Derived.Test.YtggkggaihfcjmaaCopyD
import Derived.Test.YtggkggaihfcjmaaDiffOkSZ
namespace Go.Proofs.Ytggkggaihfcjmaa
open Go.RowKit Go.Sort
set_option linter.unusedVariables false

def posL : List GDiff → List (List GV)
  | [] => []
  | z :: zs => if 0 < z.count then z.row :: posL zs else posL zs
def posD (zs : List GDiff) : List (List GV) := if diffOkB zs = true then posL zs else []
theorem posL_append : ∀ a b : List GDiff, posL (a ++ b) = posL a ++ posL b
  | [], b => rfl
  | z :: a, b => by simp only [List.cons_append, posL, posL_append a b]; split <;> simp
theorem posL_len : ∀ zs : List GDiff, (posL zs).length ≤ zs.length
  | [] => by simp [posL]
  | z :: zs => by have := posL_len zs; simp only [posL]; split <;> simp <;> omega
theorem posL_rows {P : List GV → Prop} : ∀ {zs : List GDiff}, (∀ z ∈ zs, P z.row) → ∀ r ∈ posL zs, P r
  | [], h, r, hr => by simp [posL] at hr
  | z :: zs, h, r, hr => by
    simp only [posL] at hr
    split at hr
    · rcases List.mem_cons.1 hr with rfl | hr
      · exact h z (by simp)
      · exact posL_rows (fun y hy => h y (by simp [hy])) r hr
    · exact posL_rows (fun y hy => h y (by simp [hy])) r hr
theorem posL_yes (zs : List GDiff) (k : Nat) (h : k < zs.length) (hc : 0 < zs[k].count) : posL (zs.take (k + 1)) = posL (zs.take k) ++ [zs[k].row] := by
  rw [List.take_succ_eq_append_getElem h, posL_append]; simp [posL, hc]
theorem posL_no (zs : List GDiff) (k : Nat) (h : k < zs.length) (hc : ¬ 0 < zs[k].count) : posL (zs.take (k + 1)) = posL (zs.take k) := by
  rw [List.take_succ_eq_append_getElem h, posL_append]; simp [posL, hc]

set_option maxRecDepth 100000 in
set_option maxHeartbeats 3200000 in
theorem spec_distLC {lo : Nat} (A : Option Addr) (c : Nat) (zs : List GDiff) (w : World) (hr : DiffsAt w lo w.heap.size A zs) (hl : zs.length ≤ 1048576) :
    Calls Try.prog 60 #[.slice A zs.length c] w (TPostC w (posL zs)) := by
  have HR := Lib.hid hr
  clear hr
  go_enter Try.func60, Try.ntmps60
  go_wp2_with fail
  go_loopw [3, 4] (fun out i w' => ∃ (k : Nat) (L : List (List GV)), k ≤ zs.length ∧ i = .int .i64 k ∧ Hid (L = posL (zs.take k)) ∧ Hid (TAcc w w' out L)) (fun _ i _ => zs.length - (intOf i).toNat)
  case atStart => exact ⟨0, [], Nat.zero_le _, rfl, Lib.hid rfl, Lib.hid (TAcc.start (Below.refl _ _) rfl)⟩
  case round =>
    obtain ⟨k, L, hk, rfl, hL, hD⟩ := hrel
    obtain ⟨A6, c6, rfl, _⟩ := hD.out.slice
    have hLl := Lib.hid (show L.length ≤ k by rw [hL.out]; have := posL_len (zs.take k); simp at this; omega)
    by_cases hlt : k < zs.length
    · obtain ⟨g, o, rfl, _, hg, ⟨A', c', ⟨hcell, hcap⟩, hrow⟩, hcnt⟩ := (HR.out.keep (fun b _ h => hD.out.low.block b h)).at_ hlt
      have hi1 : (k : Int) < (zs.length : Int) := by omega
      have hi0 : (0 : Int) ≤ (k : Int) := by omega
      have hzl : L.length ≤ 4194304 := by have := hLl.out; omega
      have hp := Lib.hid (show THok wr w.heap.size ((A', c'), zs[k].row) from ⟨hrow.st hD.out.low.size, hcap⟩)
      clear hrow
      by_cases hc : 0 < zs[k].count
      · have hst := Lib.hid (show L ++ [zs[k].row] = posL (zs.take (k + 1)) by rw [hL.out, posL_yes zs k hlt hc])
        go_wp2_with (first | (at_builtin; refine wpList_tapp _ rfl (.tmp 18) (.tmp 24) rfl w _ L ((A', c'), zs[k].row) rfl hD.out hp.out rfl hzl ?_; intro v3 w3 hD3; refine Hid.out ?_))
        refine Lib.hid ?_
        have HD3 := Lib.hid hD3
        clear hD3 hcell hcnt
        go_wp2_with fail
        go_roundw
        case rel => exact ⟨k + 1, _, by omega, by go_num, hst, HD3⟩
        case measure => simp [intOf]; omega
      · have hst := Lib.hid (show L = posL (zs.take (k + 1)) by rw [hL.out, posL_no zs k hlt hc])
        have hD3 := hD
        go_wp2_with fail
        go_roundw
        case rel => exact ⟨k + 1, L, by omega, by go_num, hst, hD3⟩
        case measure => simp [intOf]; omega
    · have hi1 : ¬ (k : Int) < (zs.length : Int) := by omega
      have hE := Lib.hid (show L = posL zs by rw [hL.out, List.take_of_length_le (by omega)])
      have hP := Lib.hid hD.out.postC
      go_wp2_with fail
      go_ret
      rw [← hE.out]
      exact hP.out
theorem spec_distL {lo : Nat} (A : Option Addr) (c : Nat) (zs : List GDiff) (w : World) (hr : DiffsAt w lo w.heap.size A zs) (hl : zs.length ≤ 1048576) :
    Calls Try.prog 60 #[.slice A zs.length c] w (TPost w (posL zs)) := (spec_distLC A c zs w hr hl).mono fun _ _ h => h.post
theorem wpList_vnew {ops : Array Oper} {rest : List Oper} {o : Oper} {a : Act} {Q : Exit → Act → World → Prop} (W : World) (hgd : o.guard = none) (s x : Operand)
    (hop : o.op = Op.call { callee := Callee.builtin Builtin.append, args := #[s, x], argTypes := #[53, 53] })
    (w : World) (v : Value) (hs : a.eval s = v) (hI : VI w W v [])
    (A : Option Addr) (c : Nat) (vs : List GV) (hx : a.eval x = .slice A vs.length c) (hr : RowAt w w.heap.size A vs) (hb : vs.length ≤ 4194304)
    (hK : ∀ v' W', VI w W' v' vs → wpList Try.prog ops Q rest (a.put o.dst v') W') : wpList Try.prog ops Q (o :: rest) a W := by
  obtain ⟨i0, hi, hz0, hz1, hz2⟩ := info_parts infoValue
  obtain ⟨h1, h2⟩ := row_src (hr.to_ hI.2.1)
  refine wpList_plain hgd fun _ hK' => wp_append_any W s x 53 hop w.heap.size 52 i0 _ 3 32 Try.underlying53 hi hz0 hz1 hz2 rfl (by decide) v 0 [] hs hI.1 A vs.length c (flat vs) hx (flat_length vs) h1 h2 (flat_one vs) (by unfold maxLen; omega) (by omega) hI.2.1.size (fun v' W' h3 h4 h5 => hK' _ _ (hK v' W' ⟨?_, ?_, h5 hI.2.2⟩))
  · show W'.ownsRow _ _ _ _ _ _
    simpa using h3
  · exact hI.2.1.grown h4 hI.2.1.size (fun k hk => (World.ownsRow.lt hI.1 k hk).1)

set_option maxRecDepth 100000 in
set_option maxHeartbeats 3200000 in
theorem spec_copyTC (A : Option Addr) (c : Nat) (rows : List (List GV)) (w : World) (hr : TabAt w w.heap.size A rows) (hl : rows.length ≤ 1048576) (hlr : ∀ r ∈ rows, r.length ≤ 1048576) :
    Calls Try.prog 99 #[.slice A rows.length c] w (TPostC w rows) := by
  have HR := Lib.hid hr
  have HLR := Lib.hid hlr
  clear hr hlr
  go_enter Try.func99, Try.ntmps99
  go_wp2_with fail
  go_loopw [3, 4] (fun out i w' => ∃ (k : Nat) (L : List (List GV)), k ≤ rows.length ∧ i = .int .i64 k ∧ Hid (L = rows.take k) ∧ Hid (TAcc w w' out L)) (fun _ i _ => rows.length - (intOf i).toNat)
  case atStart => exact ⟨0, [], Nat.zero_le _, rfl, Lib.hid rfl, Lib.hid (TAcc.start (Below.refl _ _) rfl)⟩
  case round =>
    obtain ⟨k, L, hk, rfl, hL, hD⟩ := hrel
    obtain ⟨A6, c6, rfl, _⟩ := hD.out.slice
    have hLl := Lib.hid (show L.length = k by rw [hL.out]; simp; omega)
    by_cases hlt : k < rows.length
    · obtain ⟨g, o, A', c', rfl, hg, hcell, hrow⟩ := (HR.out.to_ hD.out.low).at_ hlt
      have hi1 : (k : Int) < (rows.length : Int) := by omega
      have hi0 : (0 : Int) ≤ (k : Int) := by omega
      have hm := HLR.out _ (List.getElem_mem hlt)
      have hzl : L.length ≤ 4194304 := by have := hLl.out; omega
      have hst := Lib.hid (show L ++ [rows[k]] = rows.take (k + 1) by rw [List.take_succ_eq_append_getElem hlt, hL.out])
      have hrw := Lib.hid hrow
      have hml : rows[k].length ≤ 4194304 := by omega
      have hV0 := Lib.hid (VI.start (n := wr.heap.size) (Below.refl wr.heap.size wr) rfl)
      clear hrow
      go_wp2_with (first | (at_builtin; refine wpList_vnew _ rfl (.tmp 13) (.tmp 17) rfl wr (.slice (some ⟨wr.heap.size, 0, none⟩) 0 0) rfl hV0.out A' c' rows[k] rfl hrw.out hml ?_; intro v1 W1 hV1; refine Hid.out ?_))
      refine Lib.hid ?_
      obtain ⟨A1, c1, rfl, hst1, hcap1⟩ := hV1.st (N := w.heap.size)
      have hDx := Lib.hid (hD.out.below hV1.2.1)
      have hp := Lib.hid (show THok W1 w.heap.size ((A1, c1), rows[k]) from ⟨hst1, hcap1⟩)
      clear hst1 hcap1 hV1 hV0 hcell hrw
      go_wp2_with (first | (at_builtin; refine wpList_tapp _ rfl (.tmp 12) (.tmp 19) rfl w _ L ((A1, c1), rows[k]) rfl hDx.out hp.out rfl hzl ?_; intro v3 w3 hD3; refine Hid.out ?_))
      refine Lib.hid ?_
      have HD3 := Lib.hid hD3
      clear hD3
      go_wp2_with fail
      go_roundw
      case rel => exact ⟨k + 1, _, by omega, by go_num, hst, HD3⟩
      case measure => simp [intOf]; omega
    · have hi1 : ¬ (k : Int) < (rows.length : Int) := by omega
      have hE := Lib.hid (show L = rows by rw [hL.out, List.take_of_length_le (by omega)])
      have hP := Lib.hid hD.out.postC
      go_wp2_with fail
      go_ret
      rw [← hE.out]
      exact hP.out

theorem spec_copyT (A : Option Addr) (c : Nat) (rows : List (List GV)) (w : World) (hr : TabAt w w.heap.size A rows) (hl : rows.length ≤ 1048576) (hlr : ∀ r ∈ rows, r.length ≤ 1048576) :
    Calls Try.prog 99 #[.slice A rows.length c] w (TPost w rows) := (spec_copyTC A c rows w hr hl hlr).mono fun _ _ h => h.post

set_option maxRecDepth 100000 in
set_option maxHeartbeats 1600000 in
theorem spec_distinctC {lo : Nat} (A : Option Addr) (c : Nat) (zs : List GDiff) (w : World) (hr : DiffsAt w lo w.heap.size A zs) (hl : zs.length ≤ 1048576) (hlr : ∀ z ∈ zs, z.row.length ≤ 1048576 ∧ ∀ v ∈ z.row, v.t.size ≤ maxLen) :
    Calls Try.prog 76 #[.slice A zs.length c] w (TPostC w (posD zs)) := by
  have HR := Lib.hid hr
  have HLR := Lib.hid hlr
  clear hr hlr
  by_cases h : diffOkB zs = true
  · have ho : posD zs = posL zs := by unfold posD; rw [if_pos h]
    rw [ho]
    clear ho
    have HN := Lib.hid (show (posL zs).length ≤ 1048576 from Nat.le_trans (posL_len zs) hl)
    have HRR := Lib.hid (posL_rows (P := fun r => r.length ≤ 1048576) (fun z hz => (HLR.out z hz).1))
    go_enter Try.func76, Try.ntmps76
    go_wp2_with fail
    refine (spec_diffOk A c zs _ HR.out (by omega) HLR.out).mono ?_
    rintro e w1 ⟨rfl, hb1⟩
    rw [h]
    go_wp2_with fail
    refine (spec_distL A c zs _ (HR.out.to_ hb1) hl).mono ?_
    rintro e w2 ⟨A2, c2, rfl, hc2, hd2, hb2⟩
    have hB2 := below_next hb1 hb2 rfl rfl
    have HD2 := Lib.hid hd2
    clear hd2 hc2
    go_wp2_with fail
    refine (spec_copyTC A2 c2 (posL zs) _ HD2.out HN.out HRR.out).mono ?_
    rintro e w3 ⟨A3, c3, rfl, hc3, hd3, hb3⟩
    have hB3 := below_next hB2 hb3 rfl rfl
    have HD3 := Lib.hid hd3
    clear hd3
    go_wp2_with fail
    go_ret
    exact ⟨_, _, rfl, hc3, HD3.out, hB3⟩
  · rw [Bool.not_eq_true] at h
    have ho : posD zs = [] := by unfold posD; rw [if_neg (by rw [h]; decide)]
    rw [ho]
    clear ho
    go_enter Try.func76, Try.ntmps76
    go_wp2_with fail
    refine (spec_diffOk A c zs _ HR.out (by omega) HLR.out).mono ?_
    rintro e w1 ⟨rfl, hb1⟩
    rw [h]
    go_wp2_with fail
    go_ret
    exact ⟨_, _, rfl, ⟨Nat.le_refl _, Nat.zero_le _⟩, .inl rfl, hb1.alloc hb1.size _⟩
theorem spec_distinct {lo : Nat} (A : Option Addr) (c : Nat) (zs : List GDiff) (w : World) (hr : DiffsAt w lo w.heap.size A zs) (hl : zs.length ≤ 1048576) (hlr : ∀ z ∈ zs, z.row.length ≤ 1048576 ∧ ∀ v ∈ z.row, v.t.size ≤ maxLen) :
    Calls Try.prog 76 #[.slice A zs.length c] w (TPost w (posD zs)) := (spec_distinctC A c zs w hr hl hlr).mono fun _ _ h => h.post
end Go.Proofs.Ytggkggaihfcjmaa
