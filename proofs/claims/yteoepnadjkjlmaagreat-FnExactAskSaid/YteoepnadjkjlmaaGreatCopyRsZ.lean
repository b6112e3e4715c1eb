/-
  Contracts of strings.Clone and impl.copyRow. impl.copyRows.
-/
import Derived.Test.YteoepnadjkjlmaaGreatMarkZ
import Derived.Test.YteoepnadjkjlmaaGreatShelf
import Derived.Laws.CopyOwn
import Derived.Test.YteoepnadjkjlmaaGreatTGAZ
namespace Go.Proofs.YteoepnadjkjlmaaGreat
open Go.RowKit
set_option linter.unusedVariables false

theorem strings_clone (s : ByteArray) (w : World) (hs : s.size ≤ 1048576) :
    Calls Tryz.prog 78 #[.string s] w fun e w' => e = .returned (.string s) ∧ Below w.heap.size w w' := by

  go_enter Tryz.func78, Tryz.ntmps78
  go_wp2_with fail
  refine (Tryz.stringslite_Clone s _ (by omega)).mono ?_
  rintro e w1 ⟨rfl, hb1⟩
  go_wp2_with fail
  go_ret
  exact ⟨rfl, hb1⟩

/-- copy at elements of k cells. -/
theorem run_copy_k (P : Program) (w : World) (dT sT ty elem : TypeId) (k g o dLen dCap : Nat) (a : Addr) (sLen sCap : Nat) (cur : Array Value) (t : TypeId) (cs : List Value)
    (hu : P.underlying dT = some (.slice elem)) (hs : (P.info? elem).map (·.size) = some k)
    (hg : w.heap[g]? = some (.cells cur t (0, 0))) (hn : cs.length = Nat.min sLen dLen * k)
    (hsrc : ∀ j v, cs[j]? = some v → w.cell? (a.add j) = some v) (hfit : o + cs.length ≤ cur.size) (h1 : ∀ v ∈ cs, v.oneCell' = true) :
    (Builtin.copy_ #[dT, sT] ty #[.slice (some ⟨g, o, none⟩) dLen dCap, .slice (some a) sLen sCap]).run P w =
      .ok (goInt (Nat.min sLen dLen)) (w.setRow g (cur.toList.take o ++ cs ++ cur.toList.drop (o + cs.length)).toArray) := by
  have hl := run_loadCells_list (P := P) w a cs hsrc
  have hst := run_storeCells_at P g o t cs 0 cur w hg (by simpa using hfit) h1
  cases hq : P.info? elem with
  | none => simp [hq] at hs
  | some i =>
    have hi : i.size = k := by simpa [hq] using hs
    simp [Builtin.copy_, run_underlying hu, Builtin.lenOf, Builtin.firstCells, sizeOf, typeInfo, hq, hi, ← hn, hl, hst]
theorem run_copy_k0 (P : Program) (w : World) (dT sT ty elem : TypeId) (k : Nat) (d a : Option Addr) (dLen dCap sLen sCap : Nat) (hu : P.underlying dT = some (.slice elem)) (hs : (P.info? elem).map (·.size) = some k) (hn : Nat.min sLen dLen = 0) :
    (Builtin.copy_ #[dT, sT] ty #[.slice d dLen dCap, .slice a sLen sCap]).run P w = .ok (goInt 0) w := by
  cases hq : P.info? elem with
  | none => simp [hq] at hs
  | some i =>
    have hl : ∀ (x : Addr), (loadCells x 0).run P w = .ok #[] w := fun x => by simpa using run_loadCells_list (P := P) w x [] (by simp)
    cases d <;> cases a <;> simp [Builtin.copy_, run_underlying hu, Builtin.lenOf, Builtin.firstCells, sizeOf, typeInfo, hq, hn, storeCells, hl]
theorem sizeV : (Tryz.prog.info? 79).map (·.size) = some 3 := by kernel_rfl

theorem row_cells {w : World} {g o : Nat} {vs : List GV} (h : ∀ i v, vs[i]? = some v → VAt w g (o + i * 3) v) : ∀ j u, (flat vs)[j]? = some u → w.cell? ((⟨g, o, none⟩ : Addr).add j) = some u := by
  intro j u hu
  obtain ⟨i, v, hv, h'⟩ := flat_get vs j u hu
  obtain ⟨c0, c1, c2⟩ := h i v hv
  have ha : (⟨g, o, none⟩ : Addr).add j = ⟨g, o + j, none⟩ := by unfold Addr.add; split <;> simp_all
  rw [ha]
  rcases h' with ⟨rfl, rfl⟩ | ⟨rfl, rfl⟩ | ⟨rfl, rfl⟩
  · exact c0
  · exact c1
  · exact c2
theorem flat_same (vs : List GV) (i : Nat) (h : i < vs.length) : (flat vs).set (i * 3 + 2) (.string vs[i].t) = flat vs := by
  have h3 := (flat_at vs i vs[i] (List.getElem?_eq_getElem h)).2.2
  obtain ⟨hl, e⟩ := List.getElem?_eq_some_iff.1 h3
  rw [← e]
  exact List.set_getElem_self hl

/-- What impl.copyRow leaves. -/
def CopyPost (w : World) (vs : List GV) (e : Ending) (w' : World) : Prop :=
  e = .returned (.slice (some ⟨w.heap.size, 0, none⟩) vs.length vs.length) ∧ Whole w' w.heap.size 79 (flat vs) ∧ Below w.heap.size w w'

set_option maxHeartbeats 1600000 in
theorem copy_row (A : Option Addr) (c : Nat) (vs : List GV) (w : World) (hr : RowAt w w.heap.size A vs) (hl : vs.length ≤ 1048576) (hv : ∀ v ∈ vs, v.t.size ≤ 1048576) :
    Calls Tryz.prog 55 #[.slice A vs.length c] w (CopyPost w vs) := by
  obtain ⟨i0, hi0, hz0, hz1, hz2⟩ := info_parts infoV
  have hmk := fun W => run_make (P := Tryz.prog) W 52 79 i0 _ Tryz.underlying52 hi0 hz0 .i64 .i64 vs.length vs.length (by omega) (by omega) (by rw [hz2]; omega) (by omega)
  have HC := Lib.hid (show ∃ W1 : World, (Builtin.copy_ #[52, 52] 3 #[.slice (some ⟨w.heap.size, 0, none⟩) vs.length vs.length, .slice A vs.length c]).run Tryz.prog (w.alloc (.cells (madeCells #[.int .i64 0, .int .i64 0, .string ByteArray.empty] (vs.length * 3)) 79)) = .ok (goInt vs.length) W1 ∧ Whole W1 w.heap.size 79 (flat vs) ∧ Below w.heap.size w W1 by
    have hW := Whole.new w 79 (madeCells #[.int .i64 0, .int .i64 0, .string ByteArray.empty] (vs.length * 3)).toList
    rw [Array.toArray_toList] at hW
    have hB0 : Below w.heap.size w (w.alloc (.cells (madeCells #[.int .i64 0, .int .i64 0, .string ByteArray.empty] (vs.length * 3)) 79)) := (Below.refl _ _).alloc (Nat.le_refl _) _
    rcases hr with rfl | ⟨g, o, rfl, hg, hc⟩
    · refine ⟨_, run_copy_k0 _ _ _ _ _ _ 3 _ _ _ _ _ _ Tryz.underlying52 sizeV (by simp), ?_, hB0⟩
      simpa [flat, madeCells] using hW
    · have h := run_copy_k Tryz.prog _ 52 52 3 79 3 w.heap.size 0 vs.length vs.length ⟨g, o, none⟩ vs.length c _ _ (flat vs) Tryz.underlying52 sizeV hW (by rw [flat_length]; simp) (row_cells fun i v h => (hc i v h).below hB0 hg) (by rw [flat_length]; simp [size_madeCells]) (flat_one vs)
      rw [show Nat.min vs.length vs.length = vs.length from Nat.min_self _] at h
      refine ⟨_, h, ?_, below_setRow hB0 (Nat.le_refl _) _⟩
      have h2 := setRow_heap _ w.heap.size _ (((madeCells #[.int .i64 0, .int .i64 0, .string ByteArray.empty] (vs.length * 3)).toList.take 0 ++ flat vs ++ (madeCells #[.int .i64 0, .int .i64 0, .string ByteArray.empty] (vs.length * 3)).toList.drop (0 + (flat vs).length)).toArray) _ _ hW
      unfold Whole
      rw [h2, List.take_zero, List.nil_append, List.drop_eq_nil_of_le (by rw [flat_length]; simp [size_madeCells]), List.append_nil])
  obtain ⟨W1, hcp, hW1, hB1⟩ := HC.out
  have HW1 := Lib.hid hW1
  clear HC hW1
  go_enter Tryz.func55, Tryz.ntmps55
  go_wp2_with fail
  clear hcp hmk
  go_loopw [13] (fun i w' => ∃ k : Nat, k ≤ vs.length ∧ i = .int .i64 k ∧ Hid (Whole w' w.heap.size 79 (flat vs)) ∧ Below w.heap.size w w') (fun i _ => vs.length - (intOf i).toNat)
  case atStart => exact ⟨0, Nat.zero_le _, rfl, HW1, hB1⟩
  case round =>
    obtain ⟨k, hk, rfl, hW, hB⟩ := hrel
    by_cases hlt : k < vs.length
    · have hm : vs[k].t.size ≤ 1048576 := hv _ (List.getElem_mem hlt)
      have q0 := hW.out.cell (k * 3 + 2)
      rw [(flat_at vs k vs[k] (List.getElem?_eq_getElem hlt)).2.2] at q0
      have hws : w.heap.size < wr.heap.size := hW.out.lt
      go_wp2_with fail
      refine (strings_clone _ _ hm).mono ?_
      rintro e w2 ⟨rfl, hb2⟩
      have hB2 := below_next hB hb2 rfl rfl
      have hW2 := hW.out.below hb2 hws
      have q1 := hW2.cell (k * 3 + 2)
      rw [(flat_at vs k vs[k] (List.getElem?_eq_getElem hlt)).2.2] at q1
      have r1 := hW2.frozen (k * 3 + 2)
      have hW3 := hW2.set_ (k * 3 + 2) (.string vs[k].t)
      rw [flat_same vs k hlt] at hW3
      have HW3 := Lib.hid hW3
      have hB3 := hB2.setCell (p := ⟨w.heap.size, k * 3 + 2, none⟩) (Nat.le_refl _) (.string vs[k].t)
      clear q0 hW2 hW3
      go_wp2_with fail
      go_roundw
      case rel => exact ⟨k + 1, by omega, by go_num, HW3, hB3⟩
      case measure => simp [intOf]; omega
    · go_wp2_with fail
      go_ret
      exact ⟨rfl, hW.out, hB⟩
end Go.Proofs.YteoepnadjkjlmaaGreat
namespace Go.Proofs.YteoepnadjkjlmaaGreat
open Go.RowKit Go.Sort
set_option linter.unusedVariables false

theorem TGA.up {B B' : Nat} {w : World} {A : Option Addr} {ps : List PR} (h : TGA B w A ps) (hb : B' ≤ B) : TGA B' w A ps := by
  rcases h with h | ⟨g, l, hA, hB, hO, hr, hn⟩
  · exact .inl h
  · exact .inr ⟨g, l, hA, by omega, hO, fun p hp => Nat.le_trans hb (hr p hp), hn⟩
theorem PAcc.made {w0 w : World} {n m : Nat} (h : Below w0.heap.size w0 w) (hn : w.heap.size = n) (hm : m ≤ maxLen) : PAcc w0 (w.alloc (.cells (madeCells #[.slice none 0 0] m) 52)) (.slice (some ⟨n, 0, none⟩) 0 m) [] := by
  subst hn
  refine ⟨?_, fun p hp => by simp at hp, by simp, by simp, h.alloc h.size _⟩
  simpa using World.ownsRow_made (base := w0.heap.size) (e := 52) (size := 1) w (madeCells #[.slice none 0 0] m) m h.size hm (by simp [size_madeCells])
set_option maxRecDepth 100000 in
set_option maxHeartbeats 3200000 in
theorem copy_rows (A : Option Addr) (c : Nat) (rows : List (List GV)) (w : World) (hr : TabAt w w.heap.size A rows) (hl : rows.length ≤ 1048576) (hlr : ∀ r ∈ rows, r.length ≤ 1048576 ∧ ∀ v ∈ r, v.t.size ≤ 1048576) :
    Calls Tryz.prog 28 #[.slice A rows.length c] w (ITPost w rows) := by
  have HR := Lib.hid hr
  have HLR := Lib.hid hlr
  clear hr hlr
  obtain ⟨i0, hi0, hz0, hz1, hz2⟩ := info_parts infoVs
  have hmk := fun W => run_make (P := Tryz.prog) W 28 52 i0 _ Tryz.underlying28 hi0 hz0 .i64 .i64 0 rows.length (by omega) (by omega) (by rw [hz2]; omega) (by omega)
  have hA0 := Lib.hid (PAcc.made (w0 := w) (m := rows.length) (Below.refl _ w) rfl (by unfold maxLen; omega))
  go_enter Tryz.func28, Tryz.ntmps28
  go_wp2_with fail
  go_loopw [3, 11] (fun out i w' => ∃ (k : Nat) (ps : List PR), k ≤ rows.length ∧ i = .int .i64 k ∧ Hid (ps.map (·.2) = rows.take k) ∧ Hid (PAcc w w' out ps)) (fun _ i _ => rows.length - (intOf i).toNat)
  case atStart => exact ⟨0, [], Nat.zero_le _, rfl, Lib.hid rfl, hA0⟩
  case round =>
    obtain ⟨k, ps, hk, rfl, hL, hD⟩ := hrel
    obtain ⟨A6, c6, rfl, _⟩ := hD.out.slice
    have hLl := Lib.hid (show ps.length ≤ k by have h1 := congrArg List.length hL.out; simp at h1; omega)
    by_cases hlt : k < rows.length
    · obtain ⟨g, o, A', c', rfl, hg, hcell, hrow⟩ := (HR.out.to_ hD.out.low).at_ hlt
      have hi1 : (k : Int) < (rows.length : Int) := by omega
      have hi0 : (0 : Int) ≤ (k : Int) := by omega
      have hm := HLR.out _ (List.getElem_mem hlt)
      have hzl : ps.length ≤ 4194304 := by have := hLl.out; omega
      have hrw := Lib.hid hrow
      have hst := Lib.hid (fun (x : Nat) => (show (ps ++ [(x, rows[k])]).map (·.2) = rows.take (k + 1) by rw [List.map_append, hL.out, List.take_succ_eq_append_getElem hlt]; rfl))
      clear hrow
      go_wp2_with fail
      clear hcell
      refine (copy_row A' c' rows[k] _ hrw.out hm.1 hm.2).mono ?_
      rintro e W2 ⟨rfl, hW2, hb2⟩
      have hD2 := Lib.hid (hD.out.below hb2)
      have hnw := Lib.hid (show wr.heap.size ∉ ps.map (·.1) from fun hmm => by
        rw [List.mem_map] at hmm
        obtain ⟨p, hp, e⟩ := hmm
        have := (hD.out.row p hp).2.lt
        omega)
      have hp2 := Lib.hid (show w.heap.size ≤ wr.heap.size ∧ Whole W2 wr.heap.size 79 (flat rows[k]) from ⟨hD.out.low.size, hW2⟩)
      clear hW2 hb2
      generalize wr.heap.size = n1 at *
      go_wp2_with (first | (at_builtin; refine wpList_papp _ rfl (.tmp 15) (.tmp 18) rfl w (.slice A6 ps.length c6) ps (n1, rows[k]) rfl hD2.out hp2.out hnw.out rfl hzl ?_; intro v3 w3 hD3; refine Hid.out ?_))
      refine Lib.hid ?_
      have HD3 := Lib.hid hD3
      clear hD3
      go_wp2_with fail
      go_roundw
      case rel => exact ⟨k + 1, _, by omega, by go_num, hst.out _, HD3⟩
      case measure => simp [intOf]; omega
    · have hi1 : ¬ (k : Int) < (rows.length : Int) := by omega
      have hE := Lib.hid (show ps.map (·.2) = rows by rw [hL.out, List.take_of_length_le (by omega)])
      have hP := Lib.hid (hD.out.post hE.out)
      go_wp2_with fail
      go_ret
      exact hP.out
end Go.Proofs.YteoepnadjkjlmaaGreat
