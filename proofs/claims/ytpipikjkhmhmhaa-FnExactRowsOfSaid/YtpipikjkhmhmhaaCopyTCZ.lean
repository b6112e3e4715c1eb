/-
  A new row, while it is built. spec.l1Copy.
-/
import Derived.Test.YtpipikjkhmhmhaaRowStZ
import Derived.Test.YtpipikjkhmhmhaaToVs
import Derived.Test.YtpipikjkhmhmhaaMarkAZ
import Derived.Deep.RegionLaw
import Derived.Test.YtpipikjkhmhmhaaTRow
namespace Go.Proofs.Ytpipikjkhmhmhaa
open Go.RowKit Go.Sort
set_option linter.unusedVariables false

/-- A new row, while it is built: nothing that was there at w has changed. -/
def VI (w W : World) (v : Value) (vs : List GV) : Prop := VRow w.heap.size W v vs ∧ Below w.heap.size w W ∧ v ≠ .slice none 0 0
theorem VI.start {w w' : World} {n : Nat} (h : Below w.heap.size w w') (hn : w'.heap.size = n) : VI w (w'.alloc (.cells #[] 28)) (.slice (some ⟨n, 0, none⟩) 0 0) [] := by
  subst hn; exact ⟨World.ownsRow_made w' #[] 0 h.size (Nat.zero_le _) rfl, h.alloc h.size _, by simp⟩
theorem VI.st {w W : World} {v : Value} {vs : List GV} {N : Nat} (h : VI w W v vs) : ∃ A c, v = .slice A vs.length c ∧ RowSt W N A vs ∧ CapOk vs.length c := by
  rcases h.1.2 with ⟨h0, _⟩ | ⟨g, cap, cur, rfl, hg, hh, hc1, hc2, hc3, hc4⟩
  · exact absurd h0 h.2.2
  · refine ⟨_, cap, rfl, .inr ⟨g, 0, rfl, (Array.getElem?_eq_some_iff.1 hh).1, .inr ⟨_, _, hh⟩, fun i v hv => ?_⟩, hc1, hc2⟩
    obtain ⟨f0, f1, f2⟩ := flat_at vs i v hv
    have hi : i < vs.length := (List.getElem?_eq_some_iff.1 hv).1
    have key : ∀ j, j < vs.length * 3 → W.cell? ⟨g, j, none⟩ = (flat vs)[j]? := fun j hj => by
      have h1 : W.cell? ⟨g, j, none⟩ = cur.toList[j]? := by simp [World.cell?, hh]
      rw [h1, ← hc4, List.getElem?_take_of_lt hj]
    rw [Nat.zero_add]
    exact ⟨(key _ (by omega)).trans f0, (key _ (by omega)).trans f1, (key _ (by omega)).trans f2⟩
/-- The cells of a row, wherever it lies. -/
theorem row_src {w : World} {B : Nat} {A : Option Addr} {vs : List GV} (h : RowAt w B A vs) : (A = none → vs.length = 0) ∧ ∀ ad, A = some ad → ∀ j u, (flat vs)[j]? = some u → w.cell? (ad.add j) = some u := by
  rcases h with rfl | ⟨g, o, rfl, hg, hc⟩
  · exact ⟨fun _ => rfl, fun ad _ j u hu => by simp [flat] at hu⟩
  · refine ⟨(fun e => by cases e), fun ad e j u hu => ?_⟩
    cases e
    obtain ⟨i, v, hv, h'⟩ := flat_get vs j u hu
    obtain ⟨c0, c1, c2⟩ := hc i v hv
    rw [Addr.add_lit]
    rcases h' with ⟨rfl, rfl⟩ | ⟨rfl, rfl⟩ | ⟨rfl, rfl⟩
    · exact c0
    · rw [← Nat.add_assoc]; exact c1
    · rw [← Nat.add_assoc]; exact c2
theorem step_vapp {ops : Array Oper} {o : Oper} {a : Act} {W : World} {K : Act → World → Prop} {Q : Exit → Act → World → Prop} {E : Prop}
    (hg : o.guard = none) (s x : Operand) (hop : o.op = Op.call { callee := Callee.builtin Builtin.append, args := #[s, x], argTypes := #[29, 29] })
    (w : World) (v : Value) (us : List GV) (hs : a.eval s = v) (hI : VI w W v us)
    (A : Option Addr) (c : Nat) (vs : List GV) (hx : a.eval x = .slice A vs.length c) (hr : RowAt w w.heap.size A vs) (hb : us.length + vs.length ≤ 4194304)
    (hK : ∀ v' W', VI w W' v' (us ++ vs) → K (a.put o.dst v') W') :
    if Region.wanted o (yielded ops a.tmps) = true then Oper.wp Try.prog o a W K Q else E := by
  have hw : Region.wanted o (yielded ops a.tmps) = true := by simp [Region.wanted, hg]
  rw [if_pos hw]
  obtain ⟨i0, hi, hz0, hz1, hz2⟩ := info_parts infoValue
  obtain ⟨h1, h2⟩ := row_src (hr.to_ hI.2.1)
  refine wp_append_any W s x 29 hop w.heap.size 28 i0 _ 3 32 Try.underlying29 hi hz0 hz1 hz2 rfl (by decide) v us.length (flat us) hs hI.1 A vs.length c (flat vs) hx (flat_length vs) h1 h2 (flat_one vs) (by unfold maxLen; omega) (by omega) hI.2.1.size (fun v' W' h3 h4 h5 => hK v' W' ⟨?_, ?_, h5 hI.2.2⟩)
  · show W'.ownsRow _ _ _ _ _ _
    rw [List.length_append, flat_append]
    exact h3
  · exact hI.2.1.grown h4 hI.2.1.size (fun k hk => (World.ownsRow.lt hI.1 k hk).1)
end Go.Proofs.Ytpipikjkhmhmhaa
namespace Go.Proofs.Ytpipikjkhmhmhaa
open Go.RowKit Go.Sort
set_option linter.unusedVariables false

theorem wpList_vnew {ops : Array Oper} {rest : List Oper} {o : Oper} {a : Act} {Q : Exit → Act → World → Prop} (W : World) (hgd : o.guard = none) (s x : Operand)
    (hop : o.op = Op.call { callee := Callee.builtin Builtin.append, args := #[s, x], argTypes := #[29, 29] })
    (w : World) (v : Value) (hs : a.eval s = v) (hI : VI w W v [])
    (A : Option Addr) (c : Nat) (vs : List GV) (hx : a.eval x = .slice A vs.length c) (hr : RowAt w w.heap.size A vs) (hb : vs.length ≤ 4194304)
    (hK : ∀ v' W', VI w W' v' vs → wpList Try.prog ops Q rest (a.put o.dst v') W') : wpList Try.prog ops Q (o :: rest) a W := by
  obtain ⟨i0, hi, hz0, hz1, hz2⟩ := info_parts infoValue
  obtain ⟨h1, h2⟩ := row_src (hr.to_ hI.2.1)
  refine wpList_plain hgd fun _ hK' => wp_append_any W s x 29 hop w.heap.size 28 i0 _ 3 32 Try.underlying29 hi hz0 hz1 hz2 rfl (by decide) v 0 [] hs hI.1 A vs.length c (flat vs) hx (flat_length vs) h1 h2 (flat_one vs) (by unfold maxLen; omega) (by omega) hI.2.1.size (fun v' W' h3 h4 h5 => hK' _ _ (hK v' W' ⟨?_, ?_, h5 hI.2.2⟩))
  · show W'.ownsRow _ _ _ _ _ _
    simpa using h3
  · exact hI.2.1.grown h4 hI.2.1.size (fun k hk => (World.ownsRow.lt hI.1 k hk).1)

set_option maxRecDepth 100000 in
set_option maxHeartbeats 3200000 in
theorem spec_copyTC (A : Option Addr) (c : Nat) (rows : List (List GV)) (w : World) (hr : TabAt w w.heap.size A rows) (hl : rows.length ≤ 1048576) (hlr : ∀ r ∈ rows, r.length ≤ 1048576) :
    Calls Try.prog 62 #[.slice A rows.length c] w (TPostC w rows) := by
  have HR := Lib.hid hr
  have HLR := Lib.hid hlr
  clear hr hlr
  go_enter Try.func62, Try.ntmps62
  go_wp2_with fail
  go_loopw [3, 4] (fun out i w' => ∃ (k : Nat) (L : List (List GV)), k ≤ rows.length ∧ i = .int .i64 k ∧ Hid (L = rows.take k) ∧ Hid (TAcc w w' out L)) (fun _ i _ => rows.length - (intOf i).toNat)
  case atStart => exact ⟨0, [], Nat.zero_le _, rfl, Lib.hid rfl, Lib.hid (TAcc.start (Below.refl _ _) rfl)⟩
  case round =>
    obtain ⟨k, L, hk, rfl, hL, hD⟩ := hrel
    obtain ⟨A6, c6, rfl, _⟩ := hD.out.slice
    have hLl := Lib.hid (show L.length = k by rw [hL.out]; simp; omega)
    by_cases hlt : k < rows.length
    · obtain ⟨g, o, A', c', rfl, hg, hcell, hrow⟩ := (HR.out.to_ hD.out.low).at_ hlt
      have hi1 : (k : Int) < (rows.length : Int) := by omega
      have hi0 : (0 : Int) ≤ (k : Int) := by omega
      have hm := HLR.out _ (List.getElem_mem hlt)
      have hzl : L.length ≤ 4194304 := by have := hLl.out; omega
      have hst := Lib.hid (show L ++ [rows[k]] = rows.take (k + 1) by rw [List.take_succ_eq_append_getElem hlt, hL.out])
      have hrw := Lib.hid hrow
      have hml : rows[k].length ≤ 4194304 := by omega
      have hV0 := Lib.hid (VI.start (n := wr.heap.size) (Below.refl wr.heap.size wr) rfl)
      clear hrow
      go_wp2_with (first | (at_builtin; refine wpList_vnew _ rfl (.tmp 13) (.tmp 17) rfl wr (.slice (some ⟨wr.heap.size, 0, none⟩) 0 0) rfl hV0.out A' c' rows[k] rfl hrw.out hml ?_; intro v1 W1 hV1; refine Hid.out ?_))
      refine Lib.hid ?_
      obtain ⟨A1, c1, rfl, hst1, hcap1⟩ := hV1.st (N := w.heap.size)
      have hDx := Lib.hid (hD.out.below hV1.2.1)
      have hp := Lib.hid (show THok W1 w.heap.size ((A1, c1), rows[k]) from ⟨hst1, hcap1⟩)
      clear hst1 hcap1 hV1 hV0 hcell hrw
      go_wp2_with (first | (at_builtin; refine wpList_tapp _ rfl (.tmp 12) (.tmp 19) rfl w _ L ((A1, c1), rows[k]) rfl hDx.out hp.out rfl hzl ?_; intro v3 w3 hD3; refine Hid.out ?_))
      refine Lib.hid ?_
      have HD3 := Lib.hid hD3
      clear hD3
      go_wp2_with fail
      go_roundw
      case rel => exact ⟨k + 1, _, by omega, by go_num, hst, HD3⟩
      case measure => simp [intOf]; omega
    · have hi1 : ¬ (k : Int) < (rows.length : Int) := by omega
      have hE := Lib.hid (show L = rows by rw [hL.out, List.take_of_length_le (by omega)])
      have hP := Lib.hid hD.out.postC
      go_wp2_with fail
      go_ret
      rw [← hE.out]
      exact hP.out

theorem spec_copyT (A : Option Addr) (c : Nat) (rows : List (List GV)) (w : World) (hr : TabAt w w.heap.size A rows) (hl : rows.length ≤ 1048576) (hlr : ∀ r ∈ rows, r.length ≤ 1048576) :
    Calls Try.prog 62 #[.slice A rows.length c] w (TPost w rows) := (spec_copyTC A c rows w hr hl hlr).mono fun _ _ h => h.post

end Go.Proofs.Ytpipikjkhmhmhaa
