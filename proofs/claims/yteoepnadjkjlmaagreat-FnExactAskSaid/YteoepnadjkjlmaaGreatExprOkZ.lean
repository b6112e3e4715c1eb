/-
  Two values held against each other with != and ==. slices.Equal at nodes. impl.exprOk.
-/
import Derived.Test.YteoepnadjkjlmaaGreatRowOkSZ
import Derived.Deep.QuietTactic
import Derived.BigQuiet
import Derived.Lib.QuietBelow
import Derived.Laws.StructEq
import Derived.Lib.Strings
import Derived.Test.YteoepnadjkjlmaaGreatFlat
namespace Go.Proofs.YteoepnadjkjlmaaGreat
open Go.RowKit Go.Sort
set_option linter.unusedVariables false

theorem heldV : Tryz.prog.stoodInHeld 79 = false := by kernel_rfl
theorem structV : Tryz.prog.underlying 79 = some (.struct (Tryz.prog.fieldsOf 79)) := by kernel_rfl
theorem guardV : Tryz.prog.eqGuardType Tryz.prog.depth 79 = false := by kernel_rfl
@[go_sem] theorem eqV (k n k' n' : Int) (t t' : ByteArray) (w : World) : (Op.equalIn 10000 79 (.agg #[.int .i64 k, .int .i64 n, .string t]) (.agg #[.int .i64 k', .int .i64 n', .string t'])).run Tryz.prog w = .ok (k == k' && n == n' && t.toList == t'.toList) w := by
  have u3 := Tryz.underlying2
  have a3 := Tryz.isAgg2
  have z3 := Tryz.sizeOf2
  have u9 := Tryz.underlying9
  have a9 := Tryz.isAgg9
  have z9 := Tryz.sizeOf9
  rw [show (10000 : Nat) = 9999 + 1 from rfl, run_equalIn_agg w 9999 79 _ _ structV heldV]
  simp only [Program.fieldsOf, Tryz.underlying79]
  go_simp
  by_cases h1 : k = k' <;> by_cases h2 : n = n' <;> by_cases h3 : t.toList = t'.toList <;> simp [h1, h2, h3]
theorem neqV (k n k' n' : Int) (t t' : ByteArray) (w : World) : (binOp .neq 79 (.agg #[.int .i64 k, .int .i64 n, .string t]) (.agg #[.int .i64 k', .int .i64 n', .string t'])).run Tryz.prog w = .ok (.bool (!(k == k' && n == n' && t.toList == t'.toList))) w := by
  rw [run_neq_struct, eqV]; rfl
theorem gv_ext {a b : GV} : a = b ↔ a.k = b.k ∧ a.n = b.n ∧ a.t = b.t := by
  cases a; cases b; simp

end Go.Proofs.YteoepnadjkjlmaaGreat
namespace Go.Proofs.YteoepnadjkjlmaaGreat
open Go.RowKit Go.Sort
set_option linter.unusedVariables false

theorem heldN : Tryz.prog.stoodInHeld 81 = false := by kernel_rfl
theorem structN : Tryz.prog.underlying 81 = some (.struct (Tryz.prog.fieldsOf 81)) := by kernel_rfl
theorem guardN : Tryz.prog.eqGuardType Tryz.prog.depth 81 = false := by kernel_rfl
theorem eqV9 (k n k' n' : Int) (t t' : ByteArray) (w : World) : (Op.equalIn 9999 79 (.agg #[.int .i64 k, .int .i64 n, .string t]) (.agg #[.int .i64 k', .int .i64 n', .string t'])).run Tryz.prog w = .ok (k == k' && n == n' && t.toList == t'.toList) w := by
  have u3 := Tryz.underlying2
  have a3 := Tryz.isAgg2
  have z3 := Tryz.sizeOf2
  have u9 := Tryz.underlying9
  have a9 := Tryz.isAgg9
  have z9 := Tryz.sizeOf9
  rw [show (9999 : Nat) = 9998 + 1 from rfl, run_equalIn_agg w 9998 79 _ _ structV heldV]
  simp only [Program.fieldsOf, Tryz.underlying79]
  go_simp
  by_cases h1 : k = k' <;> by_cases h2 : n = n' <;> by_cases h3 : t.toList = t'.toList <;> simp [h1, h2, h3]
def eqNB (x y : GNode) : Bool := x.k == y.k && x.name.toList == y.name.toList && x.v.k == y.v.k && x.v.n == y.v.n && x.v.t.toList == y.v.t.toList && x.size == y.size
theorem eqN (x y : GNode) (w : World) : (Op.equalIn 10000 81 (.agg #[.int .i64 x.k, .string x.name, .int .i64 x.v.k, .int .i64 x.v.n, .string x.v.t, .int .i64 x.size]) (.agg #[.int .i64 y.k, .string y.name, .int .i64 y.v.k, .int .i64 y.v.n, .string y.v.t, .int .i64 y.size])).run Tryz.prog w = .ok (eqNB x y) w := by
  unfold eqNB
  have u3 := Tryz.underlying2
  have a3 := Tryz.isAgg2
  have z3 := Tryz.sizeOf2
  have u9 := Tryz.underlying9
  have a9 := Tryz.isAgg9
  have z9 := Tryz.sizeOf9
  have av := Tryz.isAgg79
  have zv := Tryz.sizeOf79
  have ev := eqV9 x.v.k x.v.n y.v.k y.v.n x.v.t y.v.t
  rw [show (10000 : Nat) = 9999 + 1 from rfl, run_equalIn_agg w 9999 81 _ _ structN heldN]
  simp only [Program.fieldsOf, Tryz.underlying81]
  go_simp
  by_cases h1 : x.k = y.k <;> by_cases h2 : x.name.toList = y.name.toList <;> by_cases h3 : x.v.k = y.v.k <;> by_cases h4 : x.v.n = y.v.n <;> by_cases h5 : x.v.t.toList = y.v.t.toList <;> by_cases h6 : x.size = y.size <;> simp [h1, h2, h3, h4, h5, h6]
theorem neqN (x y : GNode) (w : World) : (binOp .neq 81 (.agg #[.int .i64 x.k, .string x.name, .int .i64 x.v.k, .int .i64 x.v.n, .string x.v.t, .int .i64 x.size]) (.agg #[.int .i64 y.k, .string y.name, .int .i64 y.v.k, .int .i64 y.v.n, .string y.v.t, .int .i64 y.size])).run Tryz.prog w = .ok (.bool (!eqNB x y)) w := by
  rw [run_neq_struct, eqN]; rfl
theorem toList_ext {a b : ByteArray} (h : a.toList = b.toList) : a = b := ByteArray.ext (Array.toList_inj.1 (by rw [← Lib.toList_data, ← Lib.toList_data, h]))
theorem eqNB_iff (x y : GNode) : eqNB x y = true ↔ x = y := by
  constructor
  · intro h
    simp [eqNB] at h
    obtain ⟨⟨⟨⟨⟨h1, h2⟩, h3⟩, h4⟩, h5⟩, h6⟩ := h
    cases x with
    | mk k nm v sz =>
      cases y with
      | mk k' nm' v' sz' =>
        cases v; cases v'
        simp at h1 h2 h3 h4 h5 h6
        rw [h1, toList_ext h2, h3, h4, toList_ext h5, h6]
  · rintro rfl; simp [eqNB]

set_option maxRecDepth 100000 in
set_option maxHeartbeats 1600000 in
theorem equal_nodes {lo lo' : Nat} (A A' : Option Addr) (c c' : Nat) (r r' : List GNode) (w : World) (hr : NodesAt w lo w.heap.size A r) (hr' : NodesAt w lo' w.heap.size A' r') (hl : r.length ≤ 1048576) (hl' : r'.length ≤ 1048576) :
    Calls Tryz.prog 90 #[.slice A r.length c, .slice A' r'.length c'] w fun e w' => ∃ b : Bool, e = .returned (.bool b) ∧ (b = true ↔ r = r') ∧ Below w.heap.size w w' := by
  by_cases hlen : r.length = r'.length
  · have hb : ((r.length : Int) != (r'.length : Int)) = false := by simp [hlen]
    have hb' : ((r.length : Int) == (r'.length : Int)) = true := by simp [hlen]
    go_enter Tryz.func90, Tryz.ntmps90
    go_wp2_with fail
    go_loopw [13] (fun i w' => ∃ k : Nat, k ≤ r.length ∧ i = .int .i64 k ∧ Hid (r.take k = r'.take k) ∧ Below w.heap.size w w') (fun i _ => r.length - (intOf i).toNat)
    case atStart => exact ⟨0, Nat.zero_le _, rfl, Lib.hid rfl, Below.refl _ _⟩
    case round =>
      obtain ⟨k, hk, rfl, hT, hB⟩ := hrel
      by_cases hlt : k < r.length
      · have hlt' : k < r'.length := by omega
        obtain ⟨g, o, rfl, hg0, hg, c0, c1, c2, c3, c4, c5⟩ := (hr.to_ hB).at_ hlt
        obtain ⟨g', o', rfl, hg0', hg', d0, d1, d2, d3, d4, d5⟩ := (hr'.to_ hB).at_ hlt'
        have hi0 : (0 : Int) ≤ (k : Int) := by omega
        have hi1 : (k : Int) < (r.length : Int) := by omega
        have hi2 : (k : Int) < (r'.length : Int) := by omega
        have hgd := guardN
        have q0 := cell_regrown c0
        have q1 := cell_regrown c1
        have q2 := cell_regrown c2
        have q3 := cell_regrown c3
        have q4 := cell_regrown c4
        have q5 := cell_regrown c5
        have p0 := cell_regrown d0
        have p1 := cell_regrown d1
        have p2 := cell_regrown d2
        have p3 := cell_regrown d3
        have p4 := cell_regrown d4
        have p5 := cell_regrown d5
        have hnq := fun W => neqN r[k] r'[k] W
        have HI := Lib.hid (eqNB_iff r[k] r'[k])
        go_wp2_with fail
        refine wp_region_quiet_below (by kernel_rfl) (by kernel_rfl) ?_
        repeat (go_big_quiet_step (fail))
        refine wpQuiet_nil ?_
        intro _ hw'
        obtain ⟨⟨dq, osq⟩, hw''⟩ := hw'
        subst hw''
        have hB2 := below_next hB (below_regrown wr dq osq) rfl rfl
        generalize grow (redrawn wr dq) osq = wx at *
        clear q0 q1 q2 q3 q4 q5 p0 p1 p2 p3 p4 p5 c0 c1 c2 c3 c4 c5 d0 d1 d2 d3 d4 d5 hnq
        have hT2 := Lib.hid (fun he : r[k] = r'[k] => show r.take (k + 1) = r'.take (k + 1) by rw [List.take_succ_eq_append_getElem hlt, List.take_succ_eq_append_getElem hlt', hT.out, he])
        have hE2 := Lib.hid (fun he : ¬ r[k] = r'[k] => show ¬ r = r' by rintro rfl; exact he rfl)
        generalize eqNB r[k] r'[k] = b at *
        cases b with
        | true =>
          have hT3 := Lib.hid (hT2.out (HI.out.1 rfl))
          clear hT2 hE2 HI
          go_wp2_with fail
          go_roundw
          case rel => exact ⟨k + 1, by omega, by go_num, hT3, hB2⟩
          case measure => simp [intOf]; omega
        | false =>
          have hE := Lib.hid (hE2.out (fun h => by have := HI.out.2 h; cases this))
          clear hT2 hE2 HI
          go_wp2_with fail
          go_ret
          exact ⟨false, rfl, by simp [hE.out], hB2⟩
      · have hE := Lib.hid (show r = r' by
          have h := hT.out
          rwa [List.take_of_length_le (by omega), List.take_of_length_le (by omega)] at h)
        go_wp2_with fail
        go_ret
        exact ⟨true, rfl, by simp [hE.out], hB⟩
  · have hb : ((r.length : Int) != (r'.length : Int)) = true := by simp; omega
    have hE := Lib.hid (show ¬ r = r' by rintro rfl; exact hlen rfl)
    go_enter Tryz.func90, Tryz.ntmps90
    go_wp2_with fail
    go_ret
    exact ⟨false, rfl, by simp [hE.out], Below.refl _ _⟩
end Go.Proofs.YteoepnadjkjlmaaGreat
namespace Go.Proofs.YteoepnadjkjlmaaGreat
open Go.RowKit Go.Sort
set_option linter.unusedVariables false

theorem growM_size (n : Nat) : ∀ (xs : List GNode) (t : Tr) (r : List GNode), growM n xs = some (t, r) → (treeN t).length + r.length = xs.length := by
  induction n with
  | zero => intro xs t r h; simp [growM] at h
  | succ n ih =>
    intro xs t r h
    cases xs with
    | nil => simp [growM] at h
    | cons x rest =>
      unfold growM at h
      split at h
      · split at h
        · cases h; simp [treeN]; omega
        · cases h
      · split at h
        · split at h
          · cases h; simp [treeN]; omega
          · cases h
        · split at h
          · cases h; simp [treeN]; omega
          · split at h
            · split at h
              · cases h
              · rename_i l r1 h1
                split at h
                · cases h
                · rename_i r' r2 h2
                  cases h
                  have e1 := ih _ _ _ h1
                  have e2 := ih _ _ _ h2
                  simp [treeN]
                  omega
            · cases h
def eqNL : List GNode → List GNode → Bool
  | [], [] => true
  | x :: a, y :: b => eqNB x y && eqNL a b
  | _, _ => false
theorem eqNL_iff : ∀ a b : List GNode, eqNL a b = true ↔ a = b
  | [], [] => by simp [eqNL]
  | [], y :: b => by simp [eqNL]
  | x :: a, [] => by simp [eqNL]
  | x :: a, y :: b => by simp [eqNL, eqNB_iff, eqNL_iff a b]
def treeB (es : List GNode) : Bool := match growM (es.length + 1) es with
  | none => false
  | some (t, _) => eqNL (treeN t) es
def exprB (es : List GNode) : Bool := decide (es.length ≤ 100) && treeB es
theorem flatN_at : ∀ (r : List GNode) (i : Nat) (x : GNode), r[i]? = some x → (flatN r)[i * 6]? = some (.int .i64 x.k) ∧ (flatN r)[i * 6 + 1]? = some (.string x.name) ∧ (flatN r)[i * 6 + 2]? = some (.int .i64 x.v.k) ∧ (flatN r)[i * 6 + 3]? = some (.int .i64 x.v.n) ∧ (flatN r)[i * 6 + 4]? = some (.string x.v.t) ∧ (flatN r)[i * 6 + 5]? = some (.int .i64 x.size)
  | [], i, x, h => by simp at h
  | y :: r, 0, x, h => by simp at h; subst h; simp [flatN, nodeL]
  | y :: r, i + 1, x, h => by
    have := flatN_at r i x (by simpa using h)
    rw [show (i + 1) * 6 = i * 6 + 1 + 1 + 1 + 1 + 1 + 1 by omega]
    simpa [flatN, nodeL, Nat.add_assoc] using this
theorem NRow.nodes {B : Nat} {w : World} {A : Option Addr} {n c : Nat} {r : List GNode} (h : NRow B w (.slice A n c) r) : NodesAt w B w.heap.size A r := by
  rcases h.2 with ⟨e, h0⟩ | ⟨g, cap, cur, e, hg, hh, hc1, hc2, hc3, hc4⟩
  · exact .inl (List.eq_nil_of_length_eq_zero h0)
  · cases e
    refine .inr ⟨g, 0, rfl, hg, ?_, fun i x hx => ?_⟩
    · rcases Nat.lt_or_ge g w.heap.size with h' | h'
      · exact h'
      · rw [Array.getElem?_eq_none h'] at hh; cases hh
    · obtain ⟨f0, f1, f2, f3, f4, f5⟩ := flatN_at r i x hx
      have hi : i < r.length := (List.getElem?_eq_some_iff.1 hx).1
      have key : ∀ j, j < r.length * 6 → w.cell? ⟨g, j, none⟩ = (flatN r)[j]? := fun j hj => by
        have h1 : w.cell? ⟨g, j, none⟩ = cur.toList[j]? := by simp [World.cell?, hh]
        rw [h1, ← hc4, List.getElem?_take_of_lt hj]
      rw [Nat.zero_add]
      exact ⟨(key _ (by omega)).trans f0, (key _ (by omega)).trans f1, (key _ (by omega)).trans f2, (key _ (by omega)).trans f3, (key _ (by omega)).trans f4, (key _ (by omega)).trans f5⟩
set_option maxRecDepth 100000 in
set_option maxHeartbeats 1600000 in
theorem ok_expr {lo : Nat} (A : Option Addr) (c : Nat) (es : List GNode) (w : World) (hl : es.length ≤ 1048576) (hc : es.length ≤ c) (hc2 : c ≤ 9223372036854775807) (hf : fitNodes es) (hr : NodesAt w lo w.heap.size A es) :
    Calls Tryz.prog 75 #[.slice A es.length c] w fun e w' => e = .returned (.bool (exprB es)) ∧ Below w.heap.size w w' := by
  by_cases h100 : (es.length : Int) ≤ 100
  · have hE := Lib.hid (show exprB es = treeB es by unfold exprB; rw [decide_eq_true (by omega)]; rfl)
    go_enter Tryz.func75, Tryz.ntmps75
    go_wp2_with fail
    refine (impl_grow (es.length + 1) A c es _ (by omega) (by omega) hc hc2 hf hr).mono ?_
    rintro e w1 ⟨hb1, he⟩
    cases hM : growM (es.length + 1) es with
    | none =>
      rw [hM] at he
      subst he
      have H := Lib.hid (show exprB es = false by rw [hE.out, treeB, hM])
      clear hM
      go_wp2_with fail
      go_ret
      exact ⟨ret_bool (by rw [H.out]), hb1⟩
    | some q =>
      obtain ⟨t, r⟩ := q
      rw [hM] at he
      obtain ⟨A1, c1, rfl, hc1, hc1', hr3⟩ := he
      have hsz := growM_size _ _ _ _ hM
      have H := Lib.hid (show exprB es = eqNL (treeN t) es by rw [hE.out, treeB, hM])
      clear hM
      obtain ⟨T1, x1, hT1⟩ := TV_iface t
      have hfl := impl_flat t (B := w1.heap.size) none 0 [] w1 (Nat.le_refl _) (by simp; omega) (World.ownsRow_nil _ _ _ _)
      rw [hT1] at hfl ⊢
      have HFL := Lib.hid hfl
      clear hfl hT1
      go_wp2_with fail
      refine HFL.out.mono ?_
      rintro e w2 ⟨v2, rfl, hV2, hb2, hk2⟩
      rw [List.nil_append] at hV2
      have hB2 := below_next hb1 hb2 rfl rfl
      obtain ⟨A2, c2, rfl⟩ := hV2.slice
      have hN2 := hV2.nodes
      have hr2 := hr.to_ hB2
      clear hV2 hk2 HFL
      go_wp2_with fail
      refine (equal_nodes A2 A c2 c (treeN t) es _ hN2 hr2 (by omega) (by omega)).mono ?_
      rintro e w3 ⟨b, rfl, hbi, hb3⟩
      have hB3 := below_next hB2 hb3 rfl rfl
      have HB := Lib.hid (show exprB es = b by
        rw [H.out]
        cases b with
        | true => exact (eqNL_iff _ _).2 (hbi.1 rfl)
        | false =>
          cases h : eqNL (treeN t) es with
          | false => rfl
          | true => have := hbi.2 ((eqNL_iff _ _).1 h); cases this)
      clear hbi
      go_wp2_with fail
      go_ret
      exact ⟨ret_bool (by rw [HB.out]), hB3⟩
  · have hd : decide (es.length ≤ 100) = false := by simp; omega
    have H := Lib.hid (show exprB es = false by unfold exprB; rw [hd]; rfl)
    clear hd
    go_enter Tryz.func75, Tryz.ntmps75
    go_wp2_with fail
    go_ret
    exact ⟨ret_bool (by rw [H.out]), Below.refl _ _⟩
end Go.Proofs.YteoepnadjkjlmaaGreat
