/-
  spec.l5Find, spec.l5Reckon.
-/
import Derived.Test.YteoepnadjkjlmaaGreatReckMZ
import Derived.Test.YteoepnadjkjlmaaGreatSpecParts
import Derived.Lib.QuietBelow
import Derived.BigQuiet
namespace Go.Proofs.YteoepnadjkjlmaaGreat
open Go.RowKit Go.Sort
set_option linter.unusedVariables false

def findI (names : List ByteArray) (s : ByteArray) : Int := if idxN names s < names.length then (idxN names s : Int) else -1
theorem findI_hit {names : List ByteArray} {s : ByteArray} {k : Nat} (h : idxN names s = k) (hk : k < names.length) : findI names s = k := by unfold findI; rw [if_pos (by omega), h]
theorem findI_none {names : List ByteArray} {s : ByteArray} (h : names.length ≤ idxN names s) : findI names s = -1 := by unfold findI; rw [if_neg (by omega)]
set_option maxRecDepth 100000 in
set_option maxHeartbeats 1600000 in
theorem spec_find {lo : Nat} (A A2 : Option Addr) (c c2 n2 : Nat) (names : List ByteArray) (s : ByteArray) (w : World) (hl : names.length ≤ 1048576) (hr : StrsAt w lo w.heap.size A names) :
    Calls Tryz.prog 45 #[.agg #[.slice A names.length c, .slice A2 n2 c2], .string s] w fun e w' => e = .returned (.int .i64 (findI names s)) ∧ Below w.heap.size w w' := by
  have hP := Lib.hid (Whole.new w 55 [.slice A names.length c, .slice A2 n2 c2])
  have hB0 : Below w.heap.size w (w.alloc (.cells #[.slice A names.length c, .slice A2 n2 c2] 55)) := (Below.refl _ _).alloc (Nat.le_refl _) _
  have HR := Lib.hid hr
  clear hr
  go_enter Tryz.func45, Tryz.ntmps45
  go_wp2_with fail
  go_loopw [5] (fun i w' => ∃ k : Nat, k ≤ names.length ∧ i = .int .i64 k ∧ Hid (k ≤ idxN names s) ∧ Hid (Whole w' w.heap.size 55 [.slice A names.length c, .slice A2 n2 c2]) ∧ Below w.heap.size w w') (fun i _ => names.length - (intOf i).toNat)
  case atStart => exact ⟨0, Nat.zero_le _, rfl, Lib.hid (Nat.zero_le _), hP, hB0⟩
  case round =>
    obtain ⟨k, hk, rfl, hT, hPr, hB⟩ := hrel
    have p0 : wr.cell? ⟨w.heap.size, 0, none⟩ = some (.slice A names.length c) := hPr.out.cell 0
    by_cases hlt : k < names.length
    · obtain ⟨g, o, rfl, hg0, hg, he⟩ := (HR.out.to_ hB).at_ hlt
      have c0 : wr.cell? ⟨g, o + k, none⟩ = some (.string names[k]) := he
      clear he
      have hi0 : (0 : Int) ≤ (k : Int) := by omega
      have hi1 : (k : Int) < (names.length : Int) := by omega
      obtain ⟨b, hb⟩ : ∃ b, (names[k].toList == s.toList) = b := ⟨_, rfl⟩
      cases b with
      | true =>
        have hE := Lib.hid (findI_hit (idx_at names s k hlt hT.out hb) hlt)
        go_wp2_with fail
        go_ret
        exact ⟨ret_int (by rw [hE.out]), hB⟩
      | false =>
        have hT2 := Lib.hid (idx_next names s k hlt hT.out hb)
        go_wp2_with fail
        go_roundw
        case rel => exact ⟨k + 1, by omega, by go_num, hT2, hPr, hB⟩
        case measure => simp [intOf]; omega
    · have hi1 : ¬ (k : Int) < (names.length : Int) := by omega
      have hE := Lib.hid (findI_none (names := names) (s := s) (by have := hT.out; omega))
      go_wp2_with fail
      go_ret
      exact ⟨ret_int (by rw [hE.out]), hB⟩
theorem spec_find_is {lo : Nat} (n : Int) (A A2 : Option Addr) (c c2 n2 : Nat) (names : List ByteArray) (s : ByteArray) (w : World) (h : findI names s = n) (hl : names.length ≤ 1048576) (hr : StrsAt w lo w.heap.size A names) :
    Calls Tryz.prog 45 #[.agg #[.slice A names.length c, .slice A2 n2 c2], .string s] w fun e w' => e = .returned (.int .i64 n) ∧ Below w.heap.size w w' := by subst h; exact spec_find A A2 c c2 n2 names s w hl hr
/-- What an expression's reckoning leaves. -/
def ReckPost (w : World) (o : Option GV) (e : Ending) (w' : World) : Prop := e = .returned (resV o) ∧ Below w.heap.size w w'
theorem none_k {o : Option GV} (h : o.isSome = false) : (valO o).k ≠ 1 := by
  cases o with
  | none => simp [valO]
  | some v => simp at h
theorem good_valO {o : Option GV} (h : ∀ v, o = some v → GoodV v) : GoodV (valO o) := by
  cases o with
  | none => intro hk; simp [valO] at hk
  | some v => exact h v rfl
theorem eval_calc {names : List ByteArray} {vals : List GV} {k : Int} {l r : Tr} {n : Int} (hk : (valO (evalT names vals l)).k = 1) (hk2 : (valO (evalT names vals r)).k = 1) (hn : calcN k (valO (evalT names vals l)).n (valO (evalT names vals r)).n = n) (h1 : -1000000000 ≤ n) (h2 : n ≤ 1000000000) : evalT names vals (.op k l r) = some ⟨1, n, ⟨#[]⟩⟩ := by
  rw [eval_op _ _ _ _ _ hk hk2]
  unfold calcV
  rw [hn, if_pos ⟨hk, hk2, h1, h2⟩]
  rfl
theorem eval_far {names : List ByteArray} {vals : List GV} {k : Int} {l r : Tr} {n : Int} (hk : (valO (evalT names vals l)).k = 1) (hk2 : (valO (evalT names vals r)).k = 1) (hn : calcN k (valO (evalT names vals l)).n (valO (evalT names vals r)).n = n) (h : n < -1000000000 ∨ 1000000000 < n) : evalT names vals (.op k l r) = none := by
  rw [eval_op _ _ _ _ _ hk hk2]
  unfold calcV
  rw [hn, if_neg (by omega)]
theorem look_hit {names : List ByteArray} {vals : List GV} {s : ByteArray} {k : Nat} (h : idxN names s = k) (hk : k < vals.length) : evalT names vals (.var s) = some vals[k] := by
  simp only [evalT]; rw [h, List.getElem?_eq_getElem hk]
theorem look_none {names : List ByteArray} {vals : List GV} {s : ByteArray} (h : vals.length ≤ idxN names s) : evalT names vals (.var s) = none := by
  simp only [evalT]; rw [List.getElem?_eq_none h]

set_option maxRecDepth 100000 in
set_option maxHeartbeats 4000000 in
theorem spec_reckon (names : List ByteArray) (vals : List GV) (hnv : names.length = vals.length) (hnl : names.length ≤ 1048576) (hgood : ∀ v ∈ vals, GoodV v) (A1 A2 : Option Addr) (c1 c2 lo1 lo2 : Nat) : ∀ (t : Tr), Wf t → ∀ {lo : Nat} (A : Option Addr) (c : Nat) (w : World), (treeN t).length ≤ 1000 → CapOk (treeN t).length c → NodesAt w lo w.heap.size A (treeN t) → StrsAt w lo1 w.heap.size A1 names → ValuesAt w lo2 w.heap.size A2 vals →
    Calls Tryz.prog 47 #[.slice A (treeN t).length c, .agg #[.slice A1 names.length c1, .slice A2 vals.length c2]] w (ReckPost w (evalT names vals t)) := by
  have HNV := Lib.hid hnv
  have HGOOD := Lib.hid hgood
  clear hnv hgood
  intro t
  induction t with
  | var s =>
    intro ht lo A c w hl hc hr hs hv
    have hP := Lib.hid (show Whole ((w.alloc (.cells #[.slice A1 names.length c1, .slice A2 vals.length c2] 55)).alloc (.cells #[.int .i64 0, .int .i64 0, .string ⟨#[]⟩] 79)) w.heap.size 55 [.slice A1 names.length c1, .slice A2 vals.length c2] from (Whole.new w 55 [.slice A1 names.length c1, .slice A2 vals.length c2]).below ((Below.refl (w.heap.size + 1) _).alloc (by simp) _) (Nat.lt_succ_self _))
    have hBa : Below w.heap.size w (w.alloc (.cells #[.slice A1 names.length c1, .slice A2 vals.length c2] 55)) := (Below.refl _ _).alloc (Nat.le_refl _) _
    have hW := Lib.hid (show Whole ((w.alloc (.cells #[.slice A1 names.length c1, .slice A2 vals.length c2] 55)).alloc (.cells #[.int .i64 0, .int .i64 0, .string ⟨#[]⟩] 79)) (w.heap.size + 1) 79 [.int .i64 0, .int .i64 0, .string ⟨#[]⟩] by
      have h := Whole.new (w.alloc (.cells #[.slice A1 names.length c1, .slice A2 vals.length c2] 55)) 79 [.int .i64 0, .int .i64 0, .string ⟨#[]⟩]
      rw [show (w.alloc (.cells #[.slice A1 names.length c1, .slice A2 vals.length c2] 55)).heap.size = w.heap.size + 1 by simp] at h
      exact h)
    have hB0 : Below w.heap.size w ((w.alloc (.cells #[.slice A1 names.length c1, .slice A2 vals.length c2] 55)).alloc (.cells #[.int .i64 0, .int .i64 0, .string ⟨#[]⟩] 79)) := hBa.alloc hBa.size _
    clear hBa
    obtain ⟨g, o, rfl, hg0, hg, h0, h1, h2, h3, h4, h5⟩ := (hr.to_ hB0).at_ (i := 0) (by simp [treeN])
    simp only [treeN, List.getElem_cons_zero, Nat.zero_mul, Nat.add_zero] at h0 h1 h2 h3 h4 h5
    have HS := Lib.hid (hs.to_ hB0)
    have HV := Lib.hid (hv.to_ hB0)
    have HI := Lib.hid (idx_le names s)
    clear hs hv hr h2 h3 h4 h5 hl hc
    show Calls Tryz.prog 47 #[.slice (some ⟨g, o, none⟩) 1 c, .agg #[.slice A1 names.length c1, .slice A2 vals.length c2]] w (ReckPost w (evalT names vals (.var s)))
    by_cases hi : idxN names s < names.length
    · have hF := Lib.hid (show findI names s = (idxN names s : Int) from findI_hit rfl hi)
      have hiv : idxN names s < vals.length := by have := HNV.out; omega
      have hL := Lib.hid (look_hit (names := names) (vals := vals) (s := s) rfl hiv)
      generalize idxN names s = k at *
      have hk0 : ¬ (k : Int) < 0 := by omega
      have hk1 : (0 : Int) ≤ (k : Int) := by omega
      have hk2 : (k : Int) < (vals.length : Int) := by omega
      go_enter Tryz.func47, Tryz.ntmps47
      go_wp2_with fail
      generalize hW1 : (w.alloc (.cells #[.slice A1 names.length c1, .slice A2 vals.length c2] 55)).alloc (.cells #[.int .i64 0, .int .i64 0, .string ⟨#[]⟩] 79) = W1 at *
      clear hW1
      have e0 : W1.cell? ⟨w.heap.size, 0, none⟩ = some (.slice A1 names.length c1) := hP.out.cell 0
      have e1 : W1.cell? ⟨w.heap.size, 1, none⟩ = some (.slice A2 vals.length c2) := hP.out.cell 1
      have q0 := cell_regrown h0
      have q1 := cell_regrown h1
      have q2 := cell_regrown e0
      have q3 := cell_regrown e1
      clear h0 h1
      refine wp_region_quiet_below (by kernel_rfl) (by kernel_rfl) ?_
      repeat (go_big_quiet_step (first
        | (go_at_call 45; exact Calls.regrown_of (spec_find_is _ A1 A2 c1 c2 _ names s _ hF.out hnl (HS.out.to_ (below_regrown W1 _ _))))))
      refine wpQuiet_nil ?_
      intro _ hw'
      obtain ⟨⟨dq, osq⟩, hw''⟩ := hw'
      subst hw''
      have hb2 := below_regrown W1 dq osq
      have hB2 := Lib.hid (below_next hB0 hb2 rfl rfl)
      have hW2 := Lib.hid (hW.out.below hb2 hW.out.lt)
      have HV2 := Lib.hid (HV.out.to_ hb2)
      have hP2 := Lib.hid (hP.out.below hb2 hP.out.lt)
      generalize grow (redrawn W1 dq) osq = w2 at *
      clear q0 q1 q2 q3 e0 e1 hb2 HV HS
      have e1 : w2.cell? ⟨w.heap.size, 1, none⟩ = some (.slice A2 vals.length c2) := hP2.out.cell 1
      obtain ⟨g2, o2, rfl, _, hg2, v0, v1, v2⟩ := HV2.out.at_ hiv
      obtain ⟨d0, d1, d2⟩ := cells3_ hW2.out
      have f0 := hW2.out.frozen 0
      have f1 := hW2.out.frozen 1
      have f2 := hW2.out.frozen 2
      go_wp2_with fail
      obtain ⟨c0, c1, c2⟩ := cells3_ (put3 (.int .i64 vals[k].k) (.int .i64 vals[k].n) (.string vals[k].t) hW2.out)
      have hB9 := below3 (.int .i64 vals[k].k) (.int .i64 vals[k].n) (.string vals[k].t) hB2.out (Nat.le_succ _)
      generalize (((w2.setCell _ _).setCell _ _).setCell _ _) = w9 at c0 c1 c2 hB9 ⊢
      exact bodyPost_ret (v := .tuple #[.agg #[.int .i64 vals[k].k, .int .i64 vals[k].n, .string vals[k].t], .bool true]) (by simp [results, Tryz.results47, go_sem, c0, c1, c2]) rfl ⟨by rw [hL.out]; rfl, hB9⟩
    · have hF := Lib.hid (show findI names s = -1 from findI_none (by omega))
      have hL := Lib.hid (look_none (names := names) (vals := vals) (s := s) (by have := HNV.out; omega))
      go_enter Tryz.func47, Tryz.ntmps47
      go_wp2_with fail
      generalize hW1 : (w.alloc (.cells #[.slice A1 names.length c1, .slice A2 vals.length c2] 55)).alloc (.cells #[.int .i64 0, .int .i64 0, .string ⟨#[]⟩] 79) = W1 at *
      clear hW1
      have e0 : W1.cell? ⟨w.heap.size, 0, none⟩ = some (.slice A1 names.length c1) := hP.out.cell 0
      have e1 : W1.cell? ⟨w.heap.size, 1, none⟩ = some (.slice A2 vals.length c2) := hP.out.cell 1
      have q0 := cell_regrown h0
      have q1 := cell_regrown h1
      have q2 := cell_regrown e0
      have q3 := cell_regrown e1
      clear h0 h1
      refine wp_region_quiet_below (by kernel_rfl) (by kernel_rfl) ?_
      repeat (go_big_quiet_step (first
        | (go_at_call 45; exact Calls.regrown_of (spec_find_is _ A1 A2 c1 c2 _ names s _ hF.out hnl (HS.out.to_ (below_regrown W1 _ _))))))
      refine wpQuiet_nil ?_
      intro _ hw'
      obtain ⟨⟨dq, osq⟩, hw''⟩ := hw'
      subst hw''
      have hb2 := below_regrown W1 dq osq
      have hB2 := Lib.hid (below_next hB0 hb2 rfl rfl)
      have hW2 := Lib.hid (hW.out.below hb2 hW.out.lt)
      have HV2 := Lib.hid (HV.out.to_ hb2)
      have hP2 := Lib.hid (hP.out.below hb2 hP.out.lt)
      generalize grow (redrawn W1 dq) osq = w2 at *
      clear q0 q1 q2 q3 e0 e1 hb2 HV HS
      have e1 : w2.cell? ⟨w.heap.size, 1, none⟩ = some (.slice A2 vals.length c2) := hP2.out.cell 1
      obtain ⟨d0, d1, d2⟩ := cells3_ hW2.out
      have f0 := hW2.out.frozen 0
      have f1 := hW2.out.frozen 1
      have f2 := hW2.out.frozen 2
      go_wp2_with fail
      obtain ⟨c0, c1, c2⟩ := cells3_ (put3 (.int .i64 0) (.int .i64 0) (.string ⟨#[]⟩) hW2.out)
      have hB9 := below3 (.int .i64 0) (.int .i64 0) (.string ⟨#[]⟩) hB2.out (Nat.le_succ _)
      generalize (((w2.setCell _ _).setCell _ _).setCell _ _) = w9 at c0 c1 c2 hB9 ⊢
      exact bodyPost_ret (v := .tuple #[.agg #[.int .i64 0, .int .i64 0, .string ⟨#[]⟩], .bool false]) (by simp [results, Tryz.results47, go_sem, c0, c1, c2]) rfl ⟨by rw [hL.out]; rfl, hB9⟩
  | con v =>
    intro ht lo A c w hl hc hr hs hv
    have hP := Lib.hid (show Whole ((w.alloc (.cells #[.slice A1 names.length c1, .slice A2 vals.length c2] 55)).alloc (.cells #[.int .i64 0, .int .i64 0, .string ⟨#[]⟩] 79)) w.heap.size 55 [.slice A1 names.length c1, .slice A2 vals.length c2] from (Whole.new w 55 [.slice A1 names.length c1, .slice A2 vals.length c2]).below ((Below.refl (w.heap.size + 1) _).alloc (by simp) _) (Nat.lt_succ_self _))
    have hBa : Below w.heap.size w (w.alloc (.cells #[.slice A1 names.length c1, .slice A2 vals.length c2] 55)) := (Below.refl _ _).alloc (Nat.le_refl _) _
    have hW := Lib.hid (show Whole ((w.alloc (.cells #[.slice A1 names.length c1, .slice A2 vals.length c2] 55)).alloc (.cells #[.int .i64 0, .int .i64 0, .string ⟨#[]⟩] 79)) (w.heap.size + 1) 79 [.int .i64 0, .int .i64 0, .string ⟨#[]⟩] by
      have h := Whole.new (w.alloc (.cells #[.slice A1 names.length c1, .slice A2 vals.length c2] 55)) 79 [.int .i64 0, .int .i64 0, .string ⟨#[]⟩]
      rw [show (w.alloc (.cells #[.slice A1 names.length c1, .slice A2 vals.length c2] 55)).heap.size = w.heap.size + 1 by simp] at h
      exact h)
    have hB0 : Below w.heap.size w ((w.alloc (.cells #[.slice A1 names.length c1, .slice A2 vals.length c2] 55)).alloc (.cells #[.int .i64 0, .int .i64 0, .string ⟨#[]⟩] 79)) := hBa.alloc hBa.size _
    clear hBa
    obtain ⟨g, o, rfl, hg0, hg, h0, h1, h2, h3, h4, h5⟩ := (hr.to_ hB0).at_ (i := 0) (by simp [treeN])
    simp only [treeN, List.getElem_cons_zero, Nat.zero_mul, Nat.add_zero] at h0 h1 h2 h3 h4 h5
    clear hs hv hr h1 h5 hl hc
    show Calls Tryz.prog 47 #[.slice (some ⟨g, o, none⟩) 1 c, .agg #[.slice A1 names.length c1, .slice A2 vals.length c2]] w (ReckPost w (evalT names vals (.con v)))
    have hL := Lib.hid (show evalT names vals (.con v) = some v from rfl)
    go_enter Tryz.func47, Tryz.ntmps47
    have hBB := Lib.hid hB0
    go_wp2_with fail
    have hB5 : Below w.heap.size w ((w.alloc (.cells #[.slice A1 names.length c1, .slice A2 vals.length c2] 55)).alloc (.cells #[.int .i64 v.k, .int .i64 v.n, .string v.t] 79)) := ((Below.refl _ _).alloc (Nat.le_refl _) _).alloc (by simp) _
    obtain ⟨d0, d1, d2⟩ := cells3_ (show Whole ((w.alloc (.cells #[.slice A1 names.length c1, .slice A2 vals.length c2] 55)).alloc (.cells #[.int .i64 v.k, .int .i64 v.n, .string v.t] 79)) (w.heap.size + 1) 79 [.int .i64 v.k, .int .i64 v.n, .string v.t] by
      have h := Whole.new (w.alloc (.cells #[.slice A1 names.length c1, .slice A2 vals.length c2] 55)) 79 [.int .i64 v.k, .int .i64 v.n, .string v.t]
      rw [show (w.alloc (.cells #[.slice A1 names.length c1, .slice A2 vals.length c2] 55)).heap.size = w.heap.size + 1 by simp] at h
      exact h)
    generalize (w.alloc (.cells #[.slice A1 names.length c1, .slice A2 vals.length c2] 55)).alloc (.cells #[.int .i64 v.k, .int .i64 v.n, .string v.t] 79) = w9 at d0 d1 d2 hB5 ⊢
    exact bodyPost_ret (v := .tuple #[.agg #[.int .i64 v.k, .int .i64 v.n, .string v.t], .bool true]) (by simp [results, Tryz.results47, go_sem, d0, d1, d2]) rfl ⟨by rw [hL.out]; rfl, hB5⟩
  | any =>
    intro ht lo A c w hl hc hr hs hv
    have hP := Lib.hid (show Whole ((w.alloc (.cells #[.slice A1 names.length c1, .slice A2 vals.length c2] 55)).alloc (.cells #[.int .i64 0, .int .i64 0, .string ⟨#[]⟩] 79)) w.heap.size 55 [.slice A1 names.length c1, .slice A2 vals.length c2] from (Whole.new w 55 [.slice A1 names.length c1, .slice A2 vals.length c2]).below ((Below.refl (w.heap.size + 1) _).alloc (by simp) _) (Nat.lt_succ_self _))
    have hBa : Below w.heap.size w (w.alloc (.cells #[.slice A1 names.length c1, .slice A2 vals.length c2] 55)) := (Below.refl _ _).alloc (Nat.le_refl _) _
    have hW := Lib.hid (show Whole ((w.alloc (.cells #[.slice A1 names.length c1, .slice A2 vals.length c2] 55)).alloc (.cells #[.int .i64 0, .int .i64 0, .string ⟨#[]⟩] 79)) (w.heap.size + 1) 79 [.int .i64 0, .int .i64 0, .string ⟨#[]⟩] by
      have h := Whole.new (w.alloc (.cells #[.slice A1 names.length c1, .slice A2 vals.length c2] 55)) 79 [.int .i64 0, .int .i64 0, .string ⟨#[]⟩]
      rw [show (w.alloc (.cells #[.slice A1 names.length c1, .slice A2 vals.length c2] 55)).heap.size = w.heap.size + 1 by simp] at h
      exact h)
    have hB0 : Below w.heap.size w ((w.alloc (.cells #[.slice A1 names.length c1, .slice A2 vals.length c2] 55)).alloc (.cells #[.int .i64 0, .int .i64 0, .string ⟨#[]⟩] 79)) := hBa.alloc hBa.size _
    clear hBa
    obtain ⟨g, o, rfl, hg0, hg, h0, h1, h2, h3, h4, h5⟩ := (hr.to_ hB0).at_ (i := 0) (by simp [treeN])
    simp only [treeN, List.getElem_cons_zero, Nat.zero_mul, Nat.add_zero] at h0 h1 h2 h3 h4 h5
    clear hs hv hr h1 h2 h3 h4 h5 hl hc
    show Calls Tryz.prog 47 #[.slice (some ⟨g, o, none⟩) 1 c, .agg #[.slice A1 names.length c1, .slice A2 vals.length c2]] w (ReckPost w (evalT names vals .any))
    have hL := Lib.hid (show evalT names vals .any = none from rfl)
    go_enter Tryz.func47, Tryz.ntmps47
    have hBB := Lib.hid hB0
    go_wp2_with fail
    have hB5 : Below w.heap.size w ((w.alloc (.cells #[.slice A1 names.length c1, .slice A2 vals.length c2] 55)).alloc (.cells #[.int .i64 0, .int .i64 0, .string ⟨#[]⟩] 79)) := ((Below.refl _ _).alloc (Nat.le_refl _) _).alloc (by simp) _
    obtain ⟨d0, d1, d2⟩ := cells3_ (show Whole ((w.alloc (.cells #[.slice A1 names.length c1, .slice A2 vals.length c2] 55)).alloc (.cells #[.int .i64 0, .int .i64 0, .string ⟨#[]⟩] 79)) (w.heap.size + 1) 79 [.int .i64 0, .int .i64 0, .string ⟨#[]⟩] by
      have h := Whole.new (w.alloc (.cells #[.slice A1 names.length c1, .slice A2 vals.length c2] 55)) 79 [.int .i64 0, .int .i64 0, .string ⟨#[]⟩]
      rw [show (w.alloc (.cells #[.slice A1 names.length c1, .slice A2 vals.length c2] 55)).heap.size = w.heap.size + 1 by simp] at h
      exact h)
    generalize (w.alloc (.cells #[.slice A1 names.length c1, .slice A2 vals.length c2] 55)).alloc (.cells #[.int .i64 0, .int .i64 0, .string ⟨#[]⟩] 79) = w9 at d0 d1 d2 hB5 ⊢
    exact bodyPost_ret (v := .tuple #[.agg #[.int .i64 0, .int .i64 0, .string ⟨#[]⟩], .bool false]) (by simp [results, Tryz.results47, go_sem, d0, d1, d2]) rfl ⟨by rw [hL.out]; rfl, hB5⟩
  | op k l r ihl ihr =>
    intro ht lo A c w hl hc hr hs hv
    obtain ⟨hk, hwl, hwr⟩ := ht
    have hP := Lib.hid (show Whole ((w.alloc (.cells #[.slice A1 names.length c1, .slice A2 vals.length c2] 55)).alloc (.cells #[.int .i64 0, .int .i64 0, .string ⟨#[]⟩] 79)) w.heap.size 55 [.slice A1 names.length c1, .slice A2 vals.length c2] from (Whole.new w 55 [.slice A1 names.length c1, .slice A2 vals.length c2]).below ((Below.refl (w.heap.size + 1) _).alloc (by simp) _) (Nat.lt_succ_self _))
    have hBa : Below w.heap.size w (w.alloc (.cells #[.slice A1 names.length c1, .slice A2 vals.length c2] 55)) := (Below.refl _ _).alloc (Nat.le_refl _) _
    have hW := Lib.hid (show Whole ((w.alloc (.cells #[.slice A1 names.length c1, .slice A2 vals.length c2] 55)).alloc (.cells #[.int .i64 0, .int .i64 0, .string ⟨#[]⟩] 79)) (w.heap.size + 1) 79 [.int .i64 0, .int .i64 0, .string ⟨#[]⟩] by
      have h := Whole.new (w.alloc (.cells #[.slice A1 names.length c1, .slice A2 vals.length c2] 55)) 79 [.int .i64 0, .int .i64 0, .string ⟨#[]⟩]
      rw [show (w.alloc (.cells #[.slice A1 names.length c1, .slice A2 vals.length c2] 55)).heap.size = w.heap.size + 1 by simp] at h
      exact h)
    have hB0 : Below w.heap.size w ((w.alloc (.cells #[.slice A1 names.length c1, .slice A2 vals.length c2] 55)).alloc (.cells #[.int .i64 0, .int .i64 0, .string ⟨#[]⟩] 79)) := hBa.alloc hBa.size _
    clear hBa
    obtain ⟨f, m, hf, hfs⟩ := treeN_first l
    obtain ⟨f2, m2, hf2, hfs2⟩ := treeN_first r
    have IHL := Lib.hid (@ihl hwl lo)
    have IHR := Lib.hid (@ihr hwr lo)
    clear ihl ihr
    have hNr := hr.to_ hB0
    obtain ⟨g, o, rfl, hg0, hg, h0, hrest⟩ := hNr.at_ (i := 0) (by simp [treeN])
    clear hrest
    simp only [treeN, List.getElem_cons_zero, Nat.zero_mul, Nat.add_zero] at h0
    have hll : (treeN l).length = m.length + 1 := by rw [hf]; rfl
    have hlr : (treeN r).length = m2.length + 1 := by rw [hf2]; rfl
    have hlen : (treeN (.op k l r)).length = (treeN l).length + (treeN r).length + 1 := by simp [treeN]
    have he1 : (treeN (.op k l r))[1]? = some f := by simp [treeN, hf]
    have hTL : ((treeN (.op k l r)).drop 1).take (m.length + 1) = treeN l := by
      rw [treeN, List.drop_succ_cons, List.drop_zero, List.take_left' hll]
    have hTR : (treeN (.op k l r)).drop (m.length + 2) = treeN r := by
      rw [treeN, show m.length + 2 = (m.length + 1) + 1 by omega, List.drop_succ_cons, List.drop_left' hll]
    have HPT := Lib.hid (fun (W : World) (h : NodesAt W lo W.heap.size (some ⟨g, o, none⟩) (treeN (.op k l r))) => (show Calls Tryz.prog 69 #[.slice (some ⟨g, o, none⟩) (treeN (.op k l r)).length c] W (PartsPost lo W (treeN l) (treeN r)) by
      have h2 := spec_parts (treeN (.op k l r)) m.length g o c W f he1 hfs (by omega) hl hc.1 hc.2 h
      rw [hTL, hTR] at h2
      exact h2))
    have HN := Lib.hid hNr
    have HS := Lib.hid (hs.to_ hB0)
    have HV := Lib.hid (hv.to_ hB0)
    have hL1 : (treeN l).length ≤ 1000 := by omega
    have hR1 : (treeN r).length ≤ 1000 := by omega
    have hi0 : (0 : Int) < ((treeN (.op k l r)).length : Int) := by omega
    have HNL := Lib.hid (fun h => eval_op_l names vals k l r h)
    have HNR := Lib.hid (fun h => eval_op_r names vals k l r h)
    have HCAL := Lib.hid (fun (n : Int) h1 h2 h3 h4 h5 => eval_calc (names := names) (vals := vals) (k := k) (l := l) (r := r) (n := n) h1 h2 h3 h4 h5)
    have HFAR := Lib.hid (fun (n : Int) h1 h2 h3 h4 => eval_far (names := names) (vals := vals) (k := k) (l := l) (r := r) (n := n) h1 h2 h3 h4)
    have HGL := Lib.hid (good_valO (eval_good names vals HGOOD.out l hwl))
    have HGR := Lib.hid (good_valO (eval_good names vals HGOOD.out r hwr))
    have HSL := Lib.hid (none_k (o := evalT names vals l))
    have HSR := Lib.hid (none_k (o := evalT names vals r))
    clear hs hv hr hNr hf hf2 hfs hfs2 hll hlr hlen he1 hTL hTR hl hc hwl hwr
    generalize treeN (.op k l r) = es at *
    generalize evalT names vals (.op k l r) = ev at *
    generalize evalT names vals l = ol at *
    generalize evalT names vals r = oq at *
    have k1 : (k == 1) = false := beq_eq_false_iff_ne.2 (by omega)
    have k2 : (k == 2) = false := beq_eq_false_iff_ne.2 (by omega)
    have k6 : (k == 6) = false := beq_eq_false_iff_ne.2 (by omega)
    have HK := Lib.hid hk
    clear hk
    go_enter Tryz.func47, Tryz.ntmps47
    go_wp2_with fail
    generalize hW1 : (w.alloc (.cells #[.slice A1 names.length c1, .slice A2 vals.length c2] 55)).alloc (.cells #[.int .i64 0, .int .i64 0, .string ⟨#[]⟩] 79) = W1 at *
    clear hW1
    refine (HPT.out W1 HN.out).mono ?_
    rintro e2 w2 ⟨B1, B2, b1, b2, rfl, q1, q2, n1, n2, hb2⟩
    have hB2 := below_next hB0 hb2 rfl rfl
    have hP2 := Lib.hid (hP.out.below hb2 hP.out.lt)
    have hW2 := Lib.hid (hW.out.below hb2 hW.out.lt)
    have HS2 := Lib.hid (HS.out.to_ hb2)
    have HV2 := Lib.hid (HV.out.to_ hb2)
    have N1 := Lib.hid n1
    have N2 := Lib.hid n2
    have Q1 := Lib.hid q1
    have Q2 := Lib.hid q2
    have h0b := (hb2.cell (p := ⟨g, o, none⟩) hg).trans h0
    have hgb := Nat.lt_of_lt_of_le hg hb2.size
    clear n1 n2 q1 q2 hP hW HS HV HPT HN h0 hg hb2 hB0
    have e0 : w2.cell? ⟨w.heap.size, 0, none⟩ = some (.slice A1 names.length c1) := hP2.out.cell 0
    have e1 : w2.cell? ⟨w.heap.size, 1, none⟩ = some (.slice A2 vals.length c2) := hP2.out.cell 1
    go_wp2_with fail
    refine (IHL.out B1 b1 w2 hL1 Q1.out N1.out HS2.out HV2.out).mono ?_
    rintro e3 w3 ⟨rfl, hb3⟩
    rw [resV_eq]
    generalize valO ol = a at *
    generalize ol.isSome = sa at *
    have hB3 := below_next hB2 hb3 rfl rfl
    have hP3 := Lib.hid (hP2.out.below hb3 hP2.out.lt)
    have hW3 := Lib.hid (hW2.out.below hb3 hW2.out.lt)
    have HS3 := Lib.hid (HS2.out.to_ hb3)
    have HV3 := Lib.hid (HV2.out.to_ hb3)
    have N3 := Lib.hid (N2.out.to_ hb3)
    have h0c := (hb3.cell (p := ⟨g, o, none⟩) hgb).trans h0b
    have hgc := Nat.lt_of_lt_of_le hgb hb3.size
    clear hP2 hW2 HS2 HV2 N1 N2 Q1 h0b hgb hb3 hB2 e0 e1
    have hAl : Below w3.heap.size w3 (w3.alloc (.cells #[.int .i64 a.k, .int .i64 a.n, .string a.t] 79)) := (Below.refl _ _).alloc (Nat.le_refl _) _
    have HA := Lib.hid (Whole.new w3 79 [.int .i64 a.k, .int .i64 a.n, .string a.t])
    have e0 : w3.cell? ⟨w.heap.size, 0, none⟩ = some (.slice A1 names.length c1) := hP3.out.cell 0
    have e1 : w3.cell? ⟨w.heap.size, 1, none⟩ = some (.slice A2 vals.length c2) := hP3.out.cell 1
    have hz3 : w.heap.size < w3.heap.size := hP3.out.lt
    go_wp2_with fail
    clear e0 e1
    have hB4 := below_next hB3 hAl rfl rfl
    have hP4 := Lib.hid (hP3.out.below hAl hP3.out.lt)
    have hW4 := Lib.hid (hW3.out.below hAl hW3.out.lt)
    have HS4 := Lib.hid (HS3.out.to_ hAl)
    have HV4 := Lib.hid (HV3.out.to_ hAl)
    have N4 := Lib.hid (N3.out.to_ hAl)
    have h0d := (hAl.cell (p := ⟨g, o, none⟩) hgc).trans h0c
    have hgd := Nat.lt_of_lt_of_le hgc hAl.size
    clear hP3 hW3 HS3 HV3 N3 h0c hgc hAl hB3
    generalize w3.alloc (.cells #[.int .i64 a.k, .int .i64 a.n, .string a.t] 79) = w4 at *
    generalize w3.heap.size = n3 at *
    refine (IHR.out B2 b2 w4 hR1 Q2.out N4.out HS4.out HV4.out).mono ?_
    rintro e5 w5 ⟨rfl, hb5⟩
    rw [resV_eq]
    generalize valO oq = b at *
    generalize oq.isSome = sb at *
    have hB5 := below_next hB4 hb5 rfl rfl
    have hW5 := Lib.hid (hW4.out.below hb5 hW4.out.lt)
    have HA5 := Lib.hid (HA.out.below hb5 HA.out.lt)
    have h0e := (hb5.cell (p := ⟨g, o, none⟩) hgd).trans h0d
    have hge := Nat.lt_of_lt_of_le hgd hb5.size
    clear hP4 hW4 HS4 HV4 N4 h0d hgd hb5 hB4 HA Q2
    have hAl : Below w5.heap.size w5 (w5.alloc (.cells #[.int .i64 b.k, .int .i64 b.n, .string b.t] 79)) := (Below.refl _ _).alloc (Nat.le_refl _) _
    have hW6 := Lib.hid (hW5.out.below hAl hW5.out.lt)
    have hB6 := Lib.hid (below_next hB5 hAl rfl rfl)
    clear hAl
    obtain ⟨x0, x1, x2⟩ := cells3_ HA5.out
    have hz5 : n3 < w5.heap.size := HA5.out.lt
    have hz6 : w.heap.size + 1 < w5.heap.size := hW5.out.lt
    obtain ⟨d0, d1, d2⟩ := cells3_ hW5.out
    have f0 := hW5.out.frozen 0
    have f1 := hW5.out.frozen 1
    have f2 := hW5.out.frozen 2
    cases sa with
    | false =>
      have hL := Lib.hid (HNL.out (HSL.out rfl))
      go_wp2_with fail
      have hS := put3 (.int .i64 0) (.int .i64 0) (.string ⟨#[]⟩) hW5.out
      have hB9 := below3 (.int .i64 0) (.int .i64 0) (.string ⟨#[]⟩) hB5 (Nat.le_succ _)
      generalize (((w5.setCell _ _).setCell _ _).setCell _ _) = w9 at hS hB9 ⊢
      generalize hx : w9.alloc _ = w10
      have hB10 : Below w.heap.size w w10 := by rw [← hx]; exact hB9.alloc hB9.size _
      obtain ⟨c0, c1, c2⟩ := cells3_ (show Whole w10 (w.heap.size + 1) 79 _ by rw [← hx]; exact hS.below ((Below.refl _ _).alloc (Nat.le_refl _) _) hS.lt)
      exact bodyPost_ret (v := .tuple #[.agg #[.int .i64 0, .int .i64 0, .string ⟨#[]⟩], .bool false]) (by simp [results, Tryz.results47, go_sem, c0, c1, c2]) rfl ⟨by rw [hL.out]; rfl, hB10⟩
    | true =>
      cases sb with
      | false =>
        have hL := Lib.hid (HNR.out (HSR.out rfl))
        go_wp2_with fail
        have hS := put3 (.int .i64 0) (.int .i64 0) (.string ⟨#[]⟩) hW5.out
        have hB9 := below3 (.int .i64 0) (.int .i64 0) (.string ⟨#[]⟩) hB5 (Nat.le_succ _)
        generalize (((w5.setCell _ _).setCell _ _).setCell _ _) = w9 at hS hB9 ⊢
        generalize hx : w9.alloc _ = w10
        have hB10 : Below w.heap.size w w10 := by rw [← hx]; exact hB9.alloc hB9.size _
        obtain ⟨c0, c1, c2⟩ := cells3_ (show Whole w10 (w.heap.size + 1) 79 _ by rw [← hx]; exact hS.below ((Below.refl _ _).alloc (Nat.le_refl _) _) hS.lt)
        exact bodyPost_ret (v := .tuple #[.agg #[.int .i64 0, .int .i64 0, .string ⟨#[]⟩], .bool false]) (by simp [results, Tryz.results47, go_sem, c0, c1, c2]) rfl ⟨by rw [hL.out]; rfl, hB10⟩
      | true =>
        by_cases ka : a.k = 1
        · have kab : (a.k != 1) = false := by simp [ka]
          by_cases kb : b.k = 1
          · have kbb : (b.k != 1) = false := by simp [kb]
            have hra := HGL.out ka
            have hrb := HGR.out kb
            have hcw := calc_wide (k := 5) HGL.out HGR.out ka kb
            rw [show calcN 5 a.n b.n = a.n * b.n from rfl] at hcw
            have wm : IntKind.i64.wrap (a.n * b.n) = a.n * b.n := by rw [IntKind.wrap_i64]; omega
            have wa : IntKind.i64.wrap (a.n + b.n) = a.n + b.n := by rw [IntKind.wrap_i64]; omega
            have ws : IntKind.i64.wrap (a.n - b.n) = a.n - b.n := by rw [IntKind.wrap_i64]; omega
            rcases HK.out with rfl | rfl | rfl
            · have HC := Lib.hid (HCAL.out (a.n + b.n) ka kb rfl)
              have HF := Lib.hid (HFAR.out (a.n + b.n) ka kb rfl)
              clear hcw
              by_cases hlo : a.n + b.n < -1000000000
              · have hlod : decide (a.n + b.n < -1000000000) = true := by simpa using hlo
                have hL := Lib.hid (HF.out (.inl hlo))
                go_wp2_with fail
                have hS := put3 (.int .i64 0) (.int .i64 0) (.string ⟨#[]⟩) hW5.out
                have hB9 := below3 (.int .i64 0) (.int .i64 0) (.string ⟨#[]⟩) hB5 (Nat.le_succ _)
                generalize (((w5.setCell _ _).setCell _ _).setCell _ _) = w9 at hS hB9 ⊢
                generalize hx : w9.alloc _ = w10
                have hB10 : Below w.heap.size w w10 := by rw [← hx]; exact hB9.alloc hB9.size _
                obtain ⟨c0, c1, c2⟩ := cells3_ (show Whole w10 (w.heap.size + 1) 79 _ by rw [← hx]; exact hS.below ((Below.refl _ _).alloc (Nat.le_refl _) _) hS.lt)
                exact bodyPost_ret (v := .tuple #[.agg #[.int .i64 0, .int .i64 0, .string ⟨#[]⟩], .bool false]) (by simp [results, Tryz.results47, go_sem, c0, c1, c2]) rfl ⟨by rw [hL.out]; rfl, hB10⟩
              · by_cases hhi : 1000000000 < a.n + b.n
                · have hlod : decide (a.n + b.n < -1000000000) = false := by simpa using hlo
                  have hhid : decide (1000000000 < a.n + b.n) = true := by simpa using hhi
                  have hL := Lib.hid (HF.out (.inr hhi))
                  go_wp2_with fail
                  have hS := put3 (.int .i64 0) (.int .i64 0) (.string ⟨#[]⟩) hW5.out
                  have hB9 := below3 (.int .i64 0) (.int .i64 0) (.string ⟨#[]⟩) hB5 (Nat.le_succ _)
                  generalize (((w5.setCell _ _).setCell _ _).setCell _ _) = w9 at hS hB9 ⊢
                  generalize hx : w9.alloc _ = w10
                  have hB10 : Below w.heap.size w w10 := by rw [← hx]; exact hB9.alloc hB9.size _
                  obtain ⟨c0, c1, c2⟩ := cells3_ (show Whole w10 (w.heap.size + 1) 79 _ by rw [← hx]; exact hS.below ((Below.refl _ _).alloc (Nat.le_refl _) _) hS.lt)
                  exact bodyPost_ret (v := .tuple #[.agg #[.int .i64 0, .int .i64 0, .string ⟨#[]⟩], .bool false]) (by simp [results, Tryz.results47, go_sem, c0, c1, c2]) rfl ⟨by rw [hL.out]; rfl, hB10⟩
                · have hlod : decide (a.n + b.n < -1000000000) = false := by simpa using hlo
                  have hhid : decide (1000000000 < a.n + b.n) = false := by simpa using hhi
                  have hL := Lib.hid (HC.out (by omega) (by omega))
                  go_wp2_with fail
                  have hS := put3 (.int .i64 1) (.int .i64 (a.n + b.n)) (.string ⟨#[]⟩) hW5.out
                  have hB9 := below3 (.int .i64 1) (.int .i64 (a.n + b.n)) (.string ⟨#[]⟩) hB5 (Nat.le_succ _)
                  generalize (((w5.setCell _ _).setCell _ _).setCell _ _) = w9 at hS hB9 ⊢
                  generalize hx : w9.alloc _ = w10
                  have hB10 : Below w.heap.size w w10 := by rw [← hx]; exact hB9.alloc hB9.size _
                  obtain ⟨c0, c1, c2⟩ := cells3_ (show Whole w10 (w.heap.size + 1) 79 _ by rw [← hx]; exact hS.below ((Below.refl _ _).alloc (Nat.le_refl _) _) hS.lt)
                  exact bodyPost_ret (v := .tuple #[.agg #[.int .i64 1, .int .i64 (a.n + b.n), .string ⟨#[]⟩], .bool true]) (by simp [results, Tryz.results47, go_sem, c0, c1, c2]) rfl ⟨by rw [hL.out]; rfl, hB10⟩
            · have HC := Lib.hid (HCAL.out (a.n - b.n) ka kb rfl)
              have HF := Lib.hid (HFAR.out (a.n - b.n) ka kb rfl)
              clear hcw
              by_cases hlo : a.n - b.n < -1000000000
              · have hlod : decide (a.n - b.n < -1000000000) = true := by simpa using hlo
                have hL := Lib.hid (HF.out (.inl hlo))
                go_wp2_with fail
                have hS := put3 (.int .i64 0) (.int .i64 0) (.string ⟨#[]⟩) hW5.out
                have hB9 := below3 (.int .i64 0) (.int .i64 0) (.string ⟨#[]⟩) hB5 (Nat.le_succ _)
                generalize (((w5.setCell _ _).setCell _ _).setCell _ _) = w9 at hS hB9 ⊢
                generalize hx : w9.alloc _ = w10
                have hB10 : Below w.heap.size w w10 := by rw [← hx]; exact hB9.alloc hB9.size _
                obtain ⟨c0, c1, c2⟩ := cells3_ (show Whole w10 (w.heap.size + 1) 79 _ by rw [← hx]; exact hS.below ((Below.refl _ _).alloc (Nat.le_refl _) _) hS.lt)
                exact bodyPost_ret (v := .tuple #[.agg #[.int .i64 0, .int .i64 0, .string ⟨#[]⟩], .bool false]) (by simp [results, Tryz.results47, go_sem, c0, c1, c2]) rfl ⟨by rw [hL.out]; rfl, hB10⟩
              · by_cases hhi : 1000000000 < a.n - b.n
                · have hlod : decide (a.n - b.n < -1000000000) = false := by simpa using hlo
                  have hhid : decide (1000000000 < a.n - b.n) = true := by simpa using hhi
                  have hL := Lib.hid (HF.out (.inr hhi))
                  go_wp2_with fail
                  have hS := put3 (.int .i64 0) (.int .i64 0) (.string ⟨#[]⟩) hW5.out
                  have hB9 := below3 (.int .i64 0) (.int .i64 0) (.string ⟨#[]⟩) hB5 (Nat.le_succ _)
                  generalize (((w5.setCell _ _).setCell _ _).setCell _ _) = w9 at hS hB9 ⊢
                  generalize hx : w9.alloc _ = w10
                  have hB10 : Below w.heap.size w w10 := by rw [← hx]; exact hB9.alloc hB9.size _
                  obtain ⟨c0, c1, c2⟩ := cells3_ (show Whole w10 (w.heap.size + 1) 79 _ by rw [← hx]; exact hS.below ((Below.refl _ _).alloc (Nat.le_refl _) _) hS.lt)
                  exact bodyPost_ret (v := .tuple #[.agg #[.int .i64 0, .int .i64 0, .string ⟨#[]⟩], .bool false]) (by simp [results, Tryz.results47, go_sem, c0, c1, c2]) rfl ⟨by rw [hL.out]; rfl, hB10⟩
                · have hlod : decide (a.n - b.n < -1000000000) = false := by simpa using hlo
                  have hhid : decide (1000000000 < a.n - b.n) = false := by simpa using hhi
                  have hL := Lib.hid (HC.out (by omega) (by omega))
                  go_wp2_with fail
                  have hS := put3 (.int .i64 1) (.int .i64 (a.n - b.n)) (.string ⟨#[]⟩) hW5.out
                  have hB9 := below3 (.int .i64 1) (.int .i64 (a.n - b.n)) (.string ⟨#[]⟩) hB5 (Nat.le_succ _)
                  generalize (((w5.setCell _ _).setCell _ _).setCell _ _) = w9 at hS hB9 ⊢
                  generalize hx : w9.alloc _ = w10
                  have hB10 : Below w.heap.size w w10 := by rw [← hx]; exact hB9.alloc hB9.size _
                  obtain ⟨c0, c1, c2⟩ := cells3_ (show Whole w10 (w.heap.size + 1) 79 _ by rw [← hx]; exact hS.below ((Below.refl _ _).alloc (Nat.le_refl _) _) hS.lt)
                  exact bodyPost_ret (v := .tuple #[.agg #[.int .i64 1, .int .i64 (a.n - b.n), .string ⟨#[]⟩], .bool true]) (by simp [results, Tryz.results47, go_sem, c0, c1, c2]) rfl ⟨by rw [hL.out]; rfl, hB10⟩
            · have HC := Lib.hid (HCAL.out (a.n * b.n) ka kb rfl)
              have HF := Lib.hid (HFAR.out (a.n * b.n) ka kb rfl)
              clear hcw
              by_cases hlo : a.n * b.n < -1000000000
              · have hlod : decide (a.n * b.n < -1000000000) = true := by simpa using hlo
                have hL := Lib.hid (HF.out (.inl hlo))
                go_wp2_with fail
                have hS := put3 (.int .i64 0) (.int .i64 0) (.string ⟨#[]⟩) hW5.out
                have hB9 := below3 (.int .i64 0) (.int .i64 0) (.string ⟨#[]⟩) hB5 (Nat.le_succ _)
                generalize (((w5.setCell _ _).setCell _ _).setCell _ _) = w9 at hS hB9 ⊢
                generalize hx : w9.alloc _ = w10
                have hB10 : Below w.heap.size w w10 := by rw [← hx]; exact hB9.alloc hB9.size _
                obtain ⟨c0, c1, c2⟩ := cells3_ (show Whole w10 (w.heap.size + 1) 79 _ by rw [← hx]; exact hS.below ((Below.refl _ _).alloc (Nat.le_refl _) _) hS.lt)
                exact bodyPost_ret (v := .tuple #[.agg #[.int .i64 0, .int .i64 0, .string ⟨#[]⟩], .bool false]) (by simp [results, Tryz.results47, go_sem, c0, c1, c2]) rfl ⟨by rw [hL.out]; rfl, hB10⟩
              · by_cases hhi : 1000000000 < a.n * b.n
                · have hlod : decide (a.n * b.n < -1000000000) = false := by simpa using hlo
                  have hhid : decide (1000000000 < a.n * b.n) = true := by simpa using hhi
                  have hL := Lib.hid (HF.out (.inr hhi))
                  go_wp2_with fail
                  have hS := put3 (.int .i64 0) (.int .i64 0) (.string ⟨#[]⟩) hW5.out
                  have hB9 := below3 (.int .i64 0) (.int .i64 0) (.string ⟨#[]⟩) hB5 (Nat.le_succ _)
                  generalize (((w5.setCell _ _).setCell _ _).setCell _ _) = w9 at hS hB9 ⊢
                  generalize hx : w9.alloc _ = w10
                  have hB10 : Below w.heap.size w w10 := by rw [← hx]; exact hB9.alloc hB9.size _
                  obtain ⟨c0, c1, c2⟩ := cells3_ (show Whole w10 (w.heap.size + 1) 79 _ by rw [← hx]; exact hS.below ((Below.refl _ _).alloc (Nat.le_refl _) _) hS.lt)
                  exact bodyPost_ret (v := .tuple #[.agg #[.int .i64 0, .int .i64 0, .string ⟨#[]⟩], .bool false]) (by simp [results, Tryz.results47, go_sem, c0, c1, c2]) rfl ⟨by rw [hL.out]; rfl, hB10⟩
                · have hlod : decide (a.n * b.n < -1000000000) = false := by simpa using hlo
                  have hhid : decide (1000000000 < a.n * b.n) = false := by simpa using hhi
                  have hL := Lib.hid (HC.out (by omega) (by omega))
                  go_wp2_with fail
                  have hS := put3 (.int .i64 1) (.int .i64 (a.n * b.n)) (.string ⟨#[]⟩) hW5.out
                  have hB9 := below3 (.int .i64 1) (.int .i64 (a.n * b.n)) (.string ⟨#[]⟩) hB5 (Nat.le_succ _)
                  generalize (((w5.setCell _ _).setCell _ _).setCell _ _) = w9 at hS hB9 ⊢
                  generalize hx : w9.alloc _ = w10
                  have hB10 : Below w.heap.size w w10 := by rw [← hx]; exact hB9.alloc hB9.size _
                  obtain ⟨c0, c1, c2⟩ := cells3_ (show Whole w10 (w.heap.size + 1) 79 _ by rw [← hx]; exact hS.below ((Below.refl _ _).alloc (Nat.le_refl _) _) hS.lt)
                  exact bodyPost_ret (v := .tuple #[.agg #[.int .i64 1, .int .i64 (a.n * b.n), .string ⟨#[]⟩], .bool true]) (by simp [results, Tryz.results47, go_sem, c0, c1, c2]) rfl ⟨by rw [hL.out]; rfl, hB10⟩
          · have kbb : (b.k != 1) = true := by simp [kb]
            have hL := Lib.hid (HNR.out kb)
            go_wp2_with fail
            have hS := put3 (.int .i64 0) (.int .i64 0) (.string ⟨#[]⟩) hW5.out
            have hB9 := below3 (.int .i64 0) (.int .i64 0) (.string ⟨#[]⟩) hB5 (Nat.le_succ _)
            generalize (((w5.setCell _ _).setCell _ _).setCell _ _) = w9 at hS hB9 ⊢
            generalize hx : w9.alloc _ = w10
            have hB10 : Below w.heap.size w w10 := by rw [← hx]; exact hB9.alloc hB9.size _
            obtain ⟨c0, c1, c2⟩ := cells3_ (show Whole w10 (w.heap.size + 1) 79 _ by rw [← hx]; exact hS.below ((Below.refl _ _).alloc (Nat.le_refl _) _) hS.lt)
            exact bodyPost_ret (v := .tuple #[.agg #[.int .i64 0, .int .i64 0, .string ⟨#[]⟩], .bool false]) (by simp [results, Tryz.results47, go_sem, c0, c1, c2]) rfl ⟨by rw [hL.out]; rfl, hB10⟩
        · have kab : (a.k != 1) = true := by simp [ka]
          have hL := Lib.hid (HNL.out ka)
          go_wp2_with fail
          have hS := put3 (.int .i64 0) (.int .i64 0) (.string ⟨#[]⟩) hW5.out
          have hB9 := below3 (.int .i64 0) (.int .i64 0) (.string ⟨#[]⟩) hB5 (Nat.le_succ _)
          generalize (((w5.setCell _ _).setCell _ _).setCell _ _) = w9 at hS hB9 ⊢
          generalize hx : w9.alloc _ = w10
          have hB10 : Below w.heap.size w w10 := by rw [← hx]; exact hB9.alloc hB9.size _
          obtain ⟨c0, c1, c2⟩ := cells3_ (show Whole w10 (w.heap.size + 1) 79 _ by rw [← hx]; exact hS.below ((Below.refl _ _).alloc (Nat.le_refl _) _) hS.lt)
          exact bodyPost_ret (v := .tuple #[.agg #[.int .i64 0, .int .i64 0, .string ⟨#[]⟩], .bool false]) (by simp [results, Tryz.results47, go_sem, c0, c1, c2]) rfl ⟨by rw [hL.out]; rfl, hB10⟩
end Go.Proofs.YteoepnadjkjlmaaGreat
