/-
  impl.byPrefix. slices.Concat of two slices of Value. impl.joinable, impl.JoinDiffs.
-/
import Derived.Test.YtemcpdpbikgfcaaGrpMZ
import Derived.Test.YtemcpdpbikgfcaaDraw4Z
import Derived.Test.YtemcpdpbikgfcaaSumIZ
import Derived.Test.YtemcpdpbikgfcaaShelf
import Derived.Test.YtemcpdpbikgfcaaJoinMIZ
import Derived.Test.YtemcpdpbikgfcaaSumVZ
import Derived.Deep.DeepMust
namespace Go.Proofs.Ytemcpdpbikgfcaa
open Go.RowKit Go.Sort
set_option linter.unusedVariables false

theorem RowAt.front {w : World} {B : Nat} {A : Option Addr} {r : List GV} (h : RowAt w B A r) (n : Nat) : RowAt w B A (r.take n) := by
  rcases h with rfl | ⟨g, o, hA, hg, hc⟩
  · exact .inl (by simp)
  · refine .inr ⟨g, o, hA, hg, fun i v hv => hc i v ?_⟩
    rw [List.getElem?_take] at hv
    split at hv
    · exact hv
    · cases hv
theorem rowOk_take {r : List GV} (h : rowOkB r = true) (n : Nat) : rowOkB (r.take n) = true := by
  obtain ⟨h1, h2⟩ := rowOk_parts h
  unfold rowOkB
  simp only [Bool.and_eq_true, decide_eq_true_eq, List.all_eq_true]
  exact ⟨fun v hv => h2 v (List.mem_of_mem_take hv), by simp; omega⟩
theorem key_front (A : Option Addr) (c : Nat) (r : List GV) (n : Nat) (W : World) (hr : RowAt W W.heap.size A r) (hok : rowOkB r = true) (hn : n ≤ r.length) :
    Calls Try.prog 65 #[.slice A n c] W (KeyPost W (r.take n)) := by
  have h := key_of A c (r.take n) W (hr.front n) (by have := (rowOk_parts hok).1; simp; omega)
  rwa [show (r.take n).length = n by simp; omega] at h
/-- What impl.byPrefix leaves. -/
def ByPost (w : World) (n : Nat) (b : List GDiff) (e : Ending) (w' : World) : Prop := ∃ mb, e = .returned (.map (some mb)) ∧ GrpV w' mb b.length n b ∧ Below w.heap.size w w' ∧ w.heap.size ≤ mb
set_option maxRecDepth 100000 in
set_option maxHeartbeats 6400000 in
theorem by_prefix {lo : Nat} (A : Option Addr) (c : Nat) (b : List GDiff) (n : Nat) (w : World) (hr : DiffsAt w lo w.heap.size A b) (hl : b.length ≤ 1048576) (hok : ∀ z ∈ b, rowOkB z.row = true ∧ n ≤ z.row.length) :
    Calls Try.prog 64 #[.slice A b.length c, .int .i64 n] w (ByPost w n b) := by
  obtain ⟨i0, hi, hz0, hz1, hz2⟩ := info_parts infoDiffG
  have HR := Lib.hid hr
  have HOK := Lib.hid hok
  clear hr hok
  have hmm := @run_makeMap Try.prog
  go_enter Try.func64, Try.ntmps64
  go_wp2_with fail
  clear hmm
  have HG0 := Lib.hid (grp_made (w0 := w) (n := n) (Below.refl w.heap.size w))
  go_loopw [12] (fun i wr => ∃ (k : Nat) (V : List GV → Value) (Ps : List GV → List DH), k ≤ b.length ∧ i = .int .i64 k ∧ Hid (Grp w wr w.heap.size k n (b.take k) V Ps)) (fun i _ => b.length - (intOf i).toNat)
  case atStart => exact ⟨0, _, _, Nat.zero_le _, rfl, HG0⟩
  case round =>
    obtain ⟨k, V, Ps, hk, rfl, hG⟩ := hrel
    have hlow := hG.out.low
    have hwz := hlow.size
    by_cases hlt : k < b.length
    · obtain ⟨g, o, rfl, _, hg, ⟨A', c', ⟨hcell0, hcap⟩, hrow0⟩, hcnt0⟩ := HR.out.at_ hlt
      have hcell := (hlow.cell (p := ⟨g, o + k * 2, none⟩) hg).trans hcell0
      have hcnt := (hlow.cell (p := ⟨g, o + k * 2 + 1, none⟩) hg).trans hcnt0
      have hi1 : (k : Int) < (b.length : Int) := by omega
      have hi0 : (0 : Int) ≤ (k : Int) := by omega
      obtain ⟨hrk, hnk⟩ := HOK.out b[k] (List.getElem_mem hlt)
      have HRK := Lib.hid hrk
      have hn0 : (0 : Int) ≤ (n : Int) := by omega
      have hn1 : (n : Int) ≤ (c' : Int) := by have := hcap.1; omega
      have HRW := Lib.hid hrow0.row
      have hB1 : Below wr.heap.size wr (wr.alloc (.cells #[.slice A' b[k].row.length c', .int .i64 b[k].count] 55)) := (Below.refl _ _).alloc (Nat.le_refl _) _
      have HK := Lib.hid (key_front A' c' b[k].row n (wr.alloc (.cells #[.slice A' b[k].row.length c', .int .i64 b[k].count] 55)) (((hrow0.row.below hlow (Nat.le_refl _)).mono hwz).to_ hB1) hrk hnk)
      have c0 : (wr.alloc (.cells #[.slice A' b[k].row.length c', .int .i64 b[k].count] 55)).cell? ⟨wr.heap.size, 0, none⟩ = some (.slice A' b[k].row.length c') := by simp
      have c1 : (wr.alloc (.cells #[.slice A' b[k].row.length c', .int .i64 b[k].count] 55)).cell? ⟨wr.heap.size, 1, none⟩ = some (.int .i64 b[k].count) := by simp
      have hls : wr.heap.size < (wr.alloc (.cells #[.slice A' b[k].row.length c', .int .i64 b[k].count] 55)).heap.size := by simp
      have HG1 := Lib.hid (hG.out.below hB1)
      clear hrow0 hcell0 hcnt0 hrk hG
      go_wp2_with fail
      clear hcell hcnt
      generalize wr.alloc (.cells #[.slice A' b[k].row.length c', .int .i64 b[k].count] 55) = W1 at *
      refine HK.out.mono ?_
      rintro e w2 ⟨rfl, hb2⟩
      have hkl := key_row (rowOk_take HRK.out n)
      have hx24 : (flat (pad (b[k].row.take n))).toArray.size = 24 := by rw [List.size_toArray, flat_length, pad_length (rowOk_parts (rowOk_take HRK.out n)).1]
      have hx1 := flat_ones (pad (b[k].row.take n))
      unfold keyV at hkl ⊢
      generalize (flat (pad (b[k].row.take n))).toArray = x at *
      have HX24 := Lib.hid (show (#[.int .i64 0, .int .i64 0, .string ⟨#[]⟩, .int .i64 0, .int .i64 0, .string ⟨#[]⟩, .int .i64 0, .int .i64 0, .string ⟨#[]⟩, .int .i64 0, .int .i64 0, .string ⟨#[]⟩, .int .i64 0, .int .i64 0, .string ⟨#[]⟩, .int .i64 0, .int .i64 0, .string ⟨#[]⟩, .int .i64 0, .int .i64 0, .string ⟨#[]⟩, .int .i64 0, .int .i64 0, .string ⟨#[]⟩] : Array Value).size = x.size by rw [hx24]; rfl)
      have HI := Lib.hid (show (Try.prog.info? 83).map (·.size) = some x.size by rw [hx24]; exact infoKey)
      have HX1 := Lib.hid hx1
      have hB3 : Below w2.heap.size w2 (w2.alloc (.cells x 83)) := (Below.refl _ _).alloc (Nat.le_refl _) _
      have hl2 : wr.heap.size < w2.heap.size := Nat.lt_of_lt_of_le hls hb2.size
      have d0 := (hB3.cell (p := ⟨wr.heap.size, 0, none⟩) hl2).trans ((hb2.cell (p := ⟨wr.heap.size, 0, none⟩) hls).trans c0)
      have d1 := (hB3.cell (p := ⟨wr.heap.size, 1, none⟩) hl2).trans ((hb2.cell (p := ⟨wr.heap.size, 1, none⟩) hls).trans c1)
      have hnew := heap_alloc_new w2 (.cells x 83)
      have HNEW := Lib.hid hnew
      have hB4 : Below (w2.alloc (.cells x 83)).heap.size (w2.alloc (.cells x 83)) ((w2.alloc (.cells x 83)).alloc (.cells #[.slice A' b[k].row.length c', .int .i64 b[k].count] 55)) := (Below.refl _ _).alloc (Nat.le_refl _) _
      have HG4 := Lib.hid (((HG1.out.below hb2).below hB3).below hB4)
      have hs4 : (w2.alloc (.cells x 83)).heap.size = w2.heap.size + 1 := by simp
      have e0 : ((w2.alloc (.cells x 83)).alloc (.cells #[.slice A' b[k].row.length c', .int .i64 b[k].count] 55)).cell? ⟨w2.heap.size + 1, 0, none⟩ = some (.slice A' b[k].row.length c') := by rw [← hs4]; simp
      have e1 : ((w2.alloc (.cells x 83)).alloc (.cells #[.slice A' b[k].row.length c', .int .i64 b[k].count] 55)).cell? ⟨w2.heap.size + 1, 1, none⟩ = some (.int .i64 b[k].count) := by rw [← hs4]; simp
      obtain ⟨D, hD, hDV⟩ := HG4.out.own
      obtain ⟨v0, st, W5, ps0, hrun, hv0, hg5, hm5, hst⟩ := entry_app (t := 78) keyKL Try.underlying78 zeroDs sliceR_nil hD (by unfold maxLen; omega) hkl
      have hr0 := rowOk_take HRK.out n
      have hvv : v0 = V (b[k].row.take n) := sliceR_inj hv0 (hDV _ hr0)
      subst hvv
      have hmw : w2.heap.size + 1 ≠ w.heap.size := by omega
      have hlm : w2.heap.size + 1 < ((w2.alloc (.cells x 83)).alloc (.cells #[.slice A' b[k].row.length c', .int .i64 b[k].count] 55)).heap.size := by simp
      have hb5 : W5.heap[w2.heap.size + 1]? = ((w2.alloc (.cells x 83)).alloc (.cells #[.slice A' b[k].row.length c', .int .i64 b[k].count] 55)).heap[w2.heap.size + 1]? := hg5.block _ hlm (fun e => hmw (by injection e))
      have f0 := (World.cell?_of_block (a := ⟨w2.heap.size + 1, 0, none⟩) hb5).trans e0
      have f1 := (World.cell?_of_block (a := ⟨w2.heap.size + 1, 1, none⟩) hb5).trans e1
      have HF := Lib.hid (dhL_cellsW (p := ((A', c'), b[k])) f0 f1)
      have hpl : (Ps (b[k].row.take n)).length ≤ b.length := by
        have h1 := congrArg List.length (HG4.out.is_ _ hr0)
        rw [List.length_map] at h1
        rw [h1]
        unfold grpB
        exact Nat.le_trans (List.length_filter_le _ _) (by simp; omega)
      have ho5 : W5.ownsRow w.heap.size 55 2 (V (b[k].row.take n)) (Ps (b[k].row.take n)).length (flatH (Ps (b[k].row.take n))) := by
        obtain ⟨es, cl, hm⟩ := map_lt hD
        exact World.ownsRow.kept (HG4.out.row _ hr0) hg5 (own_not_map (HG4.out.row _ hr0) hm)
      have HO5 := Lib.hid ho5
      have hz5 : w.heap.size ≤ W5.heap.size := by have := hg5.size; have := HG4.out.low.size; omega
      have HRUN := Lib.hid hrun
      have HST := Lib.hid hst
      have HD := Lib.hid hD
      have HDV := Lib.hid hDV
      have HG5 := Lib.hid hg5
      have HM5 := Lib.hid hm5
      clear hrun hst hD hDV hg5 hm5 hv0 ho5 f0 f1 e0 e1 c0 c1 hnew hx24 hx1 hb5
      go_wp2_with (first
        | (refine wpList_store_row rfl _ (.tmp 8) (.tmp 20) rfl w2.heap.size x rfl rfl _ _ (heap_alloc_new w2 _) HI.out HX24.out HX1.out ?_; rw [World.setRow_alloc_new])
        | (refine wpList_load_row rfl _ (.tmp 8) rfl w2.heap.size rfl _ x _ _ HNEW.out keyArr rfl HI.out ?_)
        | (refine wpList_entry rfl (.tmp 21) (.tmp 22) _ rfl (.map (some w.heap.size)) (.agg x) _ rfl rfl HRUN.out ?_)
        | (at_builtin; refine wpList_append_own_at _ rfl (.tmp 23) (.tmp 25) _ rfl w.heap.size 55 i0 _ 2 32 Try.underlying24 hi hz0 hz1 hz2 rfl (by decide) (V (b[k].row.take n)) _ _ rfl HO5.out ⟨w2.heap.size + 1, 0, none⟩ 1 1 (dhL ((A', c'), b[k])) rfl rfl HF.out (dhL_one _) (by unfold maxLen; omega) (by omega) hz5 ?_; intro v6 W6 ho6 hg6 hv6 hob6; refine Hid.out ?_))
      refine Lib.hid ?_
      obtain ⟨d, hd⟩ := sliceR_own ho6
      have hm6 : W6.heap[w.heap.size]? = W5.heap[w.heap.size]? := by
        obtain ⟨es, cl, hm⟩ := HM5.out
        refine hg6.block _ (Array.getElem?_eq_some_iff.1 hm).1 (fun e => ?_)
        rcases own_not_map HO5.out hm with h' | h'
        · rw [h'] at e; cases e
        · exact h' e.symm
      obtain ⟨W7, hs7, ho7, hg7⟩ := HST.out W6 v6 d [] hm6 hd
      obtain ⟨V', Ps', hG7⟩ := HG4.out.step (p := ((A', c'), b[k])) hr0 rfl ⟨HRW.out, hcap⟩ HD.out HDV.out hd HG5.out HM5.out hg6 hob6 ho6 ho7 hg7
      have HG7 := Lib.hid (show Grp w W7 w.heap.size (k + 1) n (b.take (k + 1)) V' Ps' by rw [List.take_succ_eq_append_getElem hlt]; exact hG7)
      have HS7 := Lib.hid hs7
      clear hG7 hs7 ho7 hg7 ho6 hg6 hv6 hob6 hd hm6 d0 d1
      go_wp2_with (first | (refine wpList_estore rfl (.tmp 21) (.tmp 28) (.tmp 27) _ rfl (.map (some w.heap.size)) _ v6 rfl rfl rfl HS7.out ?_))
      go_roundw
      case rel => exact ⟨k + 1, V', Ps', by omega, by go_num, HG7⟩
      case measure => simp [intOf]; omega
    · have hi1 : ¬ (k : Int) < (b.length : Int) := by omega
      have HV := Lib.hid (show GrpV wr w.heap.size b.length n b by
        have h := hG.out.view
        rw [List.take_of_length_le (by omega)] at h
        rwa [show k = b.length by omega] at h)
      go_wp2_with fail
      go_ret
      exact ⟨_, rfl, HV.out, hlow, Nat.le_refl _⟩
end Go.Proofs.Ytemcpdpbikgfcaa
namespace Go.Proofs.Ytemcpdpbikgfcaa
open Go.RowKit Go.Sort Go.Shelf
set_option linter.unusedVariables false

theorem grow_newV (m : Nat) (w : World) (hm : m ≤ 4194304) :
    Calls Try.prog 88 #[.slice none 0 0, .int .i64 m] w fun e w' => ∃ v, e = .returned v ∧ w'.ownsRow w.heap.size 52 3 v 0 [] ∧ Below w.heap.size w w' := by
  obtain ⟨i0, hi0, hz0, hz1, hz2⟩ := info_parts infoV
  by_cases h0 : m = 0
  · subst h0
    refine Calls.mono (Any8.slices_Grow_room Try.growV none 0 0 0 w (by omega) (by omega) (by omega) (by omega)) fun e w' he => ?_
    obtain ⟨rfl, rfl⟩ := he
    exact ⟨_, rfl, ⟨rfl, .inl ⟨rfl, rfl⟩⟩, Below.refl _ _⟩
  · refine Calls.mono (Any8.slices_Grow_grow Try.growV i0 _ hi0 hz0 (by rw [hz1]; decide) none 0 0 m [] w (by omega) (by omega) (by rw [hz2]; omega) (by omega) (by simp) (fun _ => rfl) (fun a h => by cases h)) fun e w' he => ?_
    obtain ⟨rfl, rfl⟩ := he
    have hge := grownCap_ge w (0 + m) 0 52
    have hle := grownCap_le_maxLen w (0 + m) 0 52 (by unfold maxLen; omega)
    refine ⟨_, rfl, ?_, (Below.refl _ _).drew.alloc (Nat.le_refl _) _⟩
    refine World.ownsRow_made w.drew _ _ (Nat.le_refl _) hle ?_
    have hs : (Value.cells (.agg #[.int .i64 0, .int .i64 0, .string ByteArray.empty])).size = 3 := rfl
    rw [Array.size_append, Array.size_append, size_zeroCells, size_zeroCells, hs]
    show 0 + _ + _ = _
    change 0 + (0 + m - 0) * 3 + (grownCap w (0 + m) 0 52 - (0 + m)) * 3 = grownCap w (0 + m) 0 52 * 3
    omega
/-- The cells that a slice of Value appends. -/
theorem wpList_appV {ops : Array Oper} {rest : List Oper} {o : Oper} {a : Act} {w : World} {Q : Exit → Act → World → Prop} (hg : o.guard = none) (s x : Operand)
    (ho : o.op = .call { callee := .builtin .append, args := #[s, x], argTypes := #[53, 53] }) (base : Nat) (v : Value) (n : Nat) (xs : List Value) (hs : a.eval s = v) (hown : w.ownsRow base 52 3 v n xs)
    (A : Option Addr) (m c : Nat) (news : List Value) (hx : a.eval x = .slice A m c) (hl : news.length = m * 3) (hA : SrcAt w A news) (h1 : ∀ u ∈ news, u.oneCell' = true) (hb : n + m ≤ 4194304) (hbase : base ≤ w.heap.size)
    (h : ∀ v' w', w'.ownsRow base 52 3 v' (n + m) (xs ++ news) → w.grownBy w' v.ownBlock → wpList Try.prog ops Q rest (a.put o.dst v') w') : wpList Try.prog ops Q (o :: rest) a w := by
  obtain ⟨i0, hi, hz0, hz1, hz2⟩ := info_parts infoV
  refine wpList_plain hg fun K' hK' => ?_
  exact wp_append_any w s x _ ho base 52 i0 _ 3 32 Try.underlying53 hi hz0 hz1 hz2 rfl (by decide) v n xs hs hown A m c news hx hl (fun e => by have := hA.1 e; rw [this] at hl; simp at hl; omega) hA.2 h1 (by unfold maxLen; omega) (by omega) hbase (fun v' w' h2 h3 _ => hK' _ _ (h v' w' h2 h3))
def CatRelV (n1 n2 : Nat) (w : World) (s i : Value) (w' : World) : Prop := w = w' ∧ ((s = .int .i64 0 ∧ i = .int .i64 0) ∨ (s = .int .i64 n1 ∧ i = .int .i64 1) ∨ (s = .int .i64 ((n1 : Int) + n2) ∧ i = .int .i64 2))
def ConcatPostV (w : World) (n : Nat) (cs : List Value) (e : Ending) (w' : World) : Prop := ∃ v, e = .returned v ∧ w'.ownsRow w.heap.size 52 3 v n cs ∧ Below w.heap.size w w'
set_option maxRecDepth 100000 in
set_option maxHeartbeats 3200000 in
theorem concatV (g : Nat) (A1 A2 : Option Addr) (n1 c1 n2 c2 : Nat) (cs1 cs2 : List Value) (w : World) (h0 : w.cell? ⟨g, 0, none⟩ = some (.slice A1 n1 c1)) (h1 : w.cell? ⟨g, 1, none⟩ = some (.slice A2 n2 c2))
    (hl1 : cs1.length = n1 * 3) (hl2 : cs2.length = n2 * 3) (hs1 : SrcAt w A1 cs1) (hs2 : SrcAt w A2 cs2) (ho1 : ∀ u ∈ cs1, u.oneCell' = true) (ho2 : ∀ u ∈ cs2, u.oneCell' = true) (hb1 : n1 ≤ 1048576) (hb2 : n2 ≤ 1048576) :
    Calls Try.prog 67 #[.slice (some ⟨g, 0, none⟩) 2 2] w (ConcatPostV w (n1 + n2) (cs1 ++ cs2)) := by
  have HL1 := Lib.hid hl1
  have HL2 := Lib.hid hl2
  have HS1 := Lib.hid hs1
  have HS2 := Lib.hid hs2
  have HO1 := Lib.hid ho1
  have HO2 := Lib.hid ho2
  have hg : g < w.heap.size := World.block_lt_of_cell? _ ⟨g, 0, none⟩ h0
  clear hl1 hl2 hs1 hs2 ho1 ho2
  go_enter Try.func67, Try.ntmps67
  go_wp2_with fail
  go_loopw [3, 11] (fun s i w' => CatRelV n1 n2 w s i w') (fun _ i _ => 2 - (intOf i).toNat)
  case atStart => exact ⟨rfl, .inl ⟨rfl, rfl⟩⟩
  case round =>
    obtain ⟨rfl, hrel⟩ := hrel
    rcases hrel with ⟨rfl, rfl⟩ | ⟨rfl, rfl⟩ | ⟨rfl, rfl⟩
    · have q1 : ¬ ((n1 : Int) < 0) := by omega
      go_wp2_with fail
      go_roundw
      case rel => exact ⟨rfl, .inr (.inl ⟨rfl, rfl⟩)⟩
      case measure => simp [intOf]
    · have q1 : ¬ ((n1 : Int) + (n2 : Int) < 0) := by omega
      go_wp2_with fail
      go_roundw
      case rel => exact ⟨rfl, .inr (.inr ⟨rfl, rfl⟩)⟩
      case measure => simp [intOf]
    · have hgr := grow_newV (n1 + n2) w (by omega)
      rw [show (((n1 + n2 : Nat) : Int)) = (n1 : Int) + (n2 : Int) by omega] at hgr
      have HGR := Lib.hid hgr
      clear hgr
      go_wp2_with fail
      refine HGR.out.mono ?_
      rintro e w1 ⟨v1, rfl, hw1, hb1'⟩
      have HW1 := Lib.hid hw1
      have HB1 := Lib.hid hb1'
      clear hw1 hb1' HGR
      go_wp2_with fail
      go_loopw [6, 27] (fun v i w' => Below w.heap.size w w' ∧ ((i = .int .i64 0 ∧ Hid (w'.ownsRow w.heap.size 52 3 v 0 [])) ∨ (i = .int .i64 1 ∧ Hid (w'.ownsRow w.heap.size 52 3 v n1 cs1)) ∨ (i = .int .i64 2 ∧ Hid (w'.ownsRow w.heap.size 52 3 v (n1 + n2) (cs1 ++ cs2))))) (fun _ i _ => 2 - (intOf i).toNat)
      case atStart => exact ⟨HB1.out, .inl ⟨rfl, HW1⟩⟩
      case round =>
        obtain ⟨hB, hrel⟩ := hrel
        have k0 := (hB.cell (p := ⟨g, 0, none⟩) hg).trans h0
        have k1 := (hB.cell (p := ⟨g, 1, none⟩) hg).trans h1
        have hsz := hB.size
        rcases hrel with ⟨rfl, hv⟩ | ⟨rfl, hv⟩ | ⟨rfl, hv⟩
        · have HA := Lib.hid (HS1.out.below hB)
          go_wp2_with (at_builtin; refine wpList_appV rfl (.tmp 31) (.tmp 32) rfl w.heap.size _ 0 [] rfl hv.out A1 n1 c1 cs1 rfl HL1.out HA.out HO1.out (by omega) hsz ?_; intro v2 w2 hv2 hg2; refine Hid.out ?_)
          refine Lib.hid ?_
          have hB2 : Below w.heap.size w w2 := hB.trans ((Below.refl _ _).grown hg2 hsz (own_ge hv.out))
          have HV2 := Lib.hid (show w2.ownsRow w.heap.size 52 3 v2 n1 cs1 by simpa using hv2)
          clear hv2 hg2 k0 k1
          go_wp2_with fail
          go_roundw
          case rel => exact ⟨hB2, .inr (.inl ⟨rfl, HV2⟩)⟩
          case measure => simp [intOf]
        · have HA := Lib.hid (HS2.out.below hB)
          go_wp2_with (at_builtin; refine wpList_appV rfl (.tmp 31) (.tmp 32) rfl w.heap.size _ n1 cs1 rfl hv.out A2 n2 c2 cs2 rfl HL2.out HA.out HO2.out (by omega) hsz ?_; intro v2 w2 hv2 hg2; refine Hid.out ?_)
          refine Lib.hid ?_
          have hB2 : Below w.heap.size w w2 := hB.trans ((Below.refl _ _).grown hg2 hsz (own_ge hv.out))
          have HV2 := Lib.hid hv2
          clear hv2 hg2 k0 k1
          go_wp2_with fail
          go_roundw
          case rel => exact ⟨hB2, .inr (.inr ⟨rfl, HV2⟩)⟩
          case measure => simp [intOf]
        · clear k0 k1
          go_wp2_with fail
          go_ret
          exact ⟨_, rfl, hv.out, hB⟩
end Go.Proofs.Ytemcpdpbikgfcaa
namespace Go.Proofs.Ytemcpdpbikgfcaa
open Go.RowKit Go.Sort
set_option linter.unusedVariables false

def jableB (a b : List GDiff) (on : Int) : Bool := decide (0 ≤ on) && decide (on ≤ (wid (rowsD a) : Int)) && decide (on ≤ (wid (rowsD b) : Int)) && decide ((wid (rowsD a) : Int) + wid (rowsD b) - on ≤ 8)
set_option maxHeartbeats 1600000 in
theorem impl_joinable {lo lo' : Nat} (A B : Option Addr) (c d : Nat) (a b : List GDiff) (on : Int) (w : World) (ha : DiffsAt w lo w.heap.size A a) (hb : DiffsAt w lo' w.heap.size B b) (hl : a.length ≤ 4194304) (hl' : b.length ≤ 4194304) (hwa : wid (rowsD a) ≤ 8) (hwb : wid (rowsD b) ≤ 8) (hon : -9223372036854775808 ≤ on ∧ on ≤ 9223372036854775807) :
    Calls Try.prog 63 #[.slice A a.length c, .slice B b.length d, .int .i64 on] w fun e w' => e = .returned (.bool (jableB a b on)) ∧ w = w' := by
  have H1 := Lib.hid (impl_width A c a w ha hl)
  have H2 := Lib.hid (impl_width B d b w hb hl')
  obtain ⟨hon1, hon2⟩ := hon
  have hj := Lib.hid (show jableB a b on = (decide (0 ≤ on) && decide (on ≤ (wid (rowsD a) : Int)) && decide (on ≤ (wid (rowsD b) : Int)) && decide ((wid (rowsD a) : Int) + wid (rowsD b) - on ≤ 8)) from rfl)
  generalize jableB a b on = J at *
  generalize wid (rowsD a) = wa at *
  generalize wid (rowsD b) = wb at *
  clear ha hb
  by_cases g1 : 0 ≤ on
  · have g1d : decide (0 ≤ on) = true := decide_eq_true g1
    by_cases g2 : on ≤ (wa : Int)
    · have g2d : decide (on ≤ (wa : Int)) = true := decide_eq_true g2
      by_cases g3 : on ≤ (wb : Int)
      · have g3d : decide (on ≤ (wb : Int)) = true := decide_eq_true g3
        obtain ⟨z, hz⟩ : ∃ z, decide ((wa : Int) + (wb : Int) - on ≤ 8) = z := ⟨_, rfl⟩
        have HJ := Lib.hid (show J = z by rw [hj.out, g1d, g2d, g3d, hz]; rfl)
        clear hj
        go_enter Try.func63, Try.ntmps63
        go_wp2_with fail
        refine H1.out.mono ?_
        rintro e w1 ⟨rfl, rfl⟩
        go_wp2_with fail
        refine H2.out.mono ?_
        rintro e w1 ⟨rfl, rfl⟩
        go_wp2_with fail
        go_ret
        exact ⟨ret_bool (by rw [HJ.out]), rfl⟩
      · have g3d : decide (on ≤ (wb : Int)) = false := decide_eq_false g3
        have HJ := Lib.hid (show J = false by rw [hj.out, g3d]; simp)
        clear hj
        go_enter Try.func63, Try.ntmps63
        go_wp2_with fail
        refine H1.out.mono ?_
        rintro e w1 ⟨rfl, rfl⟩
        go_wp2_with fail
        refine H2.out.mono ?_
        rintro e w1 ⟨rfl, rfl⟩
        go_wp2_with fail
        go_ret
        exact ⟨ret_bool (by rw [HJ.out]), rfl⟩
    · have g2d : decide (on ≤ (wa : Int)) = false := decide_eq_false g2
      have HJ := Lib.hid (show J = false by rw [hj.out, g2d]; simp)
      clear hj
      go_enter Try.func63, Try.ntmps63
      go_wp2_with fail
      refine H1.out.mono ?_
      rintro e w1 ⟨rfl, rfl⟩
      go_wp2_with fail
      refine H2.out.mono ?_
      rintro e w1 ⟨rfl, rfl⟩
      go_wp2_with fail
      go_ret
      exact ⟨ret_bool (by rw [HJ.out]), rfl⟩
  · have g1d : decide (0 ≤ on) = false := decide_eq_false g1
    have HJ := Lib.hid (show J = false by rw [hj.out, g1d]; simp)
    clear hj
    go_enter Try.func63, Try.ntmps63
    go_wp2_with fail
    refine H1.out.mono ?_
    rintro e w1 ⟨rfl, rfl⟩
    go_wp2_with fail
    refine H2.out.mono ?_
    rintro e w1 ⟨rfl, rfl⟩
    go_wp2_with fail
    go_ret
    exact ⟨ret_bool (by rw [HJ.out]), rfl⟩
end Go.Proofs.Ytemcpdpbikgfcaa
