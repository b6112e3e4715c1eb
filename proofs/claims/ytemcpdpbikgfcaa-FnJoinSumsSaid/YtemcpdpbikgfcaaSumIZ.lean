/-
  A slice as the source of an append: its cells. slices.Concat of two slices of Diff. impl.sumOf and impl.AddDiffs.
-/
import Derived.Test.YtemcpdpbikgfcaaToVsZ
import Derived.Test.YtemcpdpbikgfcaaDraw4Z
import Derived.Test.YtemcpdpbikgfcaaShelf
import Derived.Test.YtemcpdpbikgfcaaDiffsIZ
import Derived.Test.YtemcpdpbikgfcaaAddI
import Derived.Test.YtemcpdpbikgfcaaOrDZ
import Derived.Deep.DeepMust
namespace Go.Proofs.Ytemcpdpbikgfcaa
open Go.RowKit Go.Sort
set_option linter.unusedVariables false

/-- The cells of a slice, in order; a nil slice has none. -/
def SrcAt (w : World) (A : Option Addr) (cs : List Value) : Prop := (A = none → cs = []) ∧ ∀ ad, A = some ad → ∀ j u, cs[j]? = some u → w.cell? (ad.add j) = some u
theorem SrcAt.below {w w' : World} {A : Option Addr} {cs : List Value} (h : SrcAt w A cs) (hb : Below w.heap.size w w') : SrcAt w' A cs :=
  ⟨h.1, fun ad e j u hu => (hb.cell (World.block_lt_of_cell? _ _ (h.2 ad e j u hu))).trans (h.2 ad e j u hu)⟩
end Go.Proofs.Ytemcpdpbikgfcaa
namespace Go.Proofs.Ytemcpdpbikgfcaa
open Go.RowKit Go.Sort Go.Shelf
set_option linter.unusedVariables false

theorem grow_newD (m : Nat) (w : World) (hm : m ≤ 4194304) :
    Calls Try.prog 101 #[.slice none 0 0, .int .i64 m] w fun e w' => ∃ v, e = .returned v ∧ w'.ownsRow w.heap.size 55 2 v 0 [] ∧ Below w.heap.size w w' := by
  obtain ⟨i0, hi0, hz0, hz1, hz2⟩ := info_parts infoDiff
  by_cases h0 : m = 0
  · subst h0
    refine Calls.mono (Any8.slices_Grow_room Try.growD none 0 0 0 w (by omega) (by omega) (by omega) (by omega)) fun e w' he => ?_
    obtain ⟨rfl, rfl⟩ := he
    exact ⟨_, rfl, ⟨rfl, .inl ⟨rfl, rfl⟩⟩, Below.refl _ _⟩
  · refine Calls.mono (Any8.slices_Grow_grow Try.growD i0 _ hi0 hz0 (by rw [hz1]; decide) none 0 0 m [] w (by omega) (by omega) (by rw [hz2]; omega) (by omega) (by simp) (fun _ => rfl) (fun a h => by cases h)) fun e w' he => ?_
    obtain ⟨rfl, rfl⟩ := he
    have hge := grownCap_ge w (0 + m) 0 55
    have hle := grownCap_le_maxLen w (0 + m) 0 55 (by unfold maxLen; omega)
    refine ⟨_, rfl, ?_, (Below.refl _ _).drew.alloc (Nat.le_refl _) _⟩
    refine World.ownsRow_made w.drew _ _ (Nat.le_refl _) hle ?_
    have hs : (Value.cells (.agg #[.slice none 0 0, .int .i64 0])).size = 2 := rfl
    rw [Array.size_append, Array.size_append, size_zeroCells, size_zeroCells, hs]
    show 0 + _ + _ = _
    change 0 + (0 + m - 0) * 2 + (grownCap w (0 + m) 0 55 - (0 + m)) * 2 = grownCap w (0 + m) 0 55 * 2
    omega
/-- The cells that a slice of Diff appends. -/
theorem wpList_appD {ops : Array Oper} {rest : List Oper} {o : Oper} {a : Act} {w : World} {Q : Exit → Act → World → Prop} (hg : o.guard = none) (s x : Operand)
    (ho : o.op = .call { callee := .builtin .append, args := #[s, x], argTypes := #[24, 24] }) (base : Nat) (v : Value) (n : Nat) (xs : List Value) (hs : a.eval s = v) (hown : w.ownsRow base 55 2 v n xs)
    (A : Option Addr) (m c : Nat) (news : List Value) (hx : a.eval x = .slice A m c) (hl : news.length = m * 2) (hA : SrcAt w A news) (h1 : ∀ u ∈ news, u.oneCell' = true) (hb : n + m ≤ 4194304) (hbase : base ≤ w.heap.size)
    (h : ∀ v' w', w'.ownsRow base 55 2 v' (n + m) (xs ++ news) → w.grownBy w' v.ownBlock → wpList Try.prog ops Q rest (a.put o.dst v') w') : wpList Try.prog ops Q (o :: rest) a w := by
  obtain ⟨i0, hi, hz0, hz1, hz2⟩ := info_parts infoDiff
  refine wpList_plain hg fun K' hK' => ?_
  exact wp_append_any w s x _ ho base 55 i0 _ 2 32 Try.underlying24 hi hz0 hz1 hz2 rfl (by decide) v n xs hs hown A m c news hx hl (fun e => by have := hA.1 e; rw [this] at hl; simp at hl; omega) hA.2 h1 (by unfold maxLen; omega) (by omega) hbase (fun v' w' h2 h3 _ => hK' _ _ (h v' w' h2 h3))
def CatRelD (n1 n2 : Nat) (w : World) (s i : Value) (w' : World) : Prop := w = w' ∧ ((s = .int .i64 0 ∧ i = .int .i64 0) ∨ (s = .int .i64 n1 ∧ i = .int .i64 1) ∨ (s = .int .i64 ((n1 : Int) + n2) ∧ i = .int .i64 2))
def ConcatPostD (w : World) (n : Nat) (cs : List Value) (e : Ending) (w' : World) : Prop := ∃ v, e = .returned v ∧ w'.ownsRow w.heap.size 55 2 v n cs ∧ Below w.heap.size w w'
set_option maxRecDepth 100000 in
set_option maxHeartbeats 3200000 in
theorem concatD (g : Nat) (A1 A2 : Option Addr) (n1 c1 n2 c2 : Nat) (cs1 cs2 : List Value) (w : World) (h0 : w.cell? ⟨g, 0, none⟩ = some (.slice A1 n1 c1)) (h1 : w.cell? ⟨g, 1, none⟩ = some (.slice A2 n2 c2))
    (hl1 : cs1.length = n1 * 2) (hl2 : cs2.length = n2 * 2) (hs1 : SrcAt w A1 cs1) (hs2 : SrcAt w A2 cs2) (ho1 : ∀ u ∈ cs1, u.oneCell' = true) (ho2 : ∀ u ∈ cs2, u.oneCell' = true) (hb1 : n1 ≤ 1048576) (hb2 : n2 ≤ 1048576) :
    Calls Try.prog 80 #[.slice (some ⟨g, 0, none⟩) 2 2] w (ConcatPostD w (n1 + n2) (cs1 ++ cs2)) := by
  have HL1 := Lib.hid hl1
  have HL2 := Lib.hid hl2
  have HS1 := Lib.hid hs1
  have HS2 := Lib.hid hs2
  have HO1 := Lib.hid ho1
  have HO2 := Lib.hid ho2
  have hg : g < w.heap.size := World.block_lt_of_cell? _ ⟨g, 0, none⟩ h0
  clear hl1 hl2 hs1 hs2 ho1 ho2
  go_enter Try.func80, Try.ntmps80
  go_wp2_with fail
  go_loopw [3, 11] (fun s i w' => CatRelD n1 n2 w s i w') (fun _ i _ => 2 - (intOf i).toNat)
  case atStart => exact ⟨rfl, .inl ⟨rfl, rfl⟩⟩
  case round =>
    obtain ⟨rfl, hrel⟩ := hrel
    rcases hrel with ⟨rfl, rfl⟩ | ⟨rfl, rfl⟩ | ⟨rfl, rfl⟩
    · have q1 : ¬ ((n1 : Int) < 0) := by omega
      go_wp2_with fail
      go_roundw
      case rel => exact ⟨rfl, .inr (.inl ⟨rfl, rfl⟩)⟩
      case measure => simp [intOf]
    · have q1 : ¬ ((n1 : Int) + (n2 : Int) < 0) := by omega
      go_wp2_with fail
      go_roundw
      case rel => exact ⟨rfl, .inr (.inr ⟨rfl, rfl⟩)⟩
      case measure => simp [intOf]
    · have hgr := grow_newD (n1 + n2) w (by omega)
      rw [show (((n1 + n2 : Nat) : Int)) = (n1 : Int) + (n2 : Int) by omega] at hgr
      have HGR := Lib.hid hgr
      clear hgr
      go_wp2_with fail
      refine HGR.out.mono ?_
      rintro e w1 ⟨v1, rfl, hw1, hb1'⟩
      have HW1 := Lib.hid hw1
      have HB1 := Lib.hid hb1'
      clear hw1 hb1' HGR
      go_wp2_with fail
      go_loopw [6, 27] (fun v i w' => Below w.heap.size w w' ∧ ((i = .int .i64 0 ∧ Hid (w'.ownsRow w.heap.size 55 2 v 0 [])) ∨ (i = .int .i64 1 ∧ Hid (w'.ownsRow w.heap.size 55 2 v n1 cs1)) ∨ (i = .int .i64 2 ∧ Hid (w'.ownsRow w.heap.size 55 2 v (n1 + n2) (cs1 ++ cs2))))) (fun _ i _ => 2 - (intOf i).toNat)
      case atStart => exact ⟨HB1.out, .inl ⟨rfl, HW1⟩⟩
      case round =>
        obtain ⟨hB, hrel⟩ := hrel
        have k0 := (hB.cell (p := ⟨g, 0, none⟩) hg).trans h0
        have k1 := (hB.cell (p := ⟨g, 1, none⟩) hg).trans h1
        have hsz := hB.size
        rcases hrel with ⟨rfl, hv⟩ | ⟨rfl, hv⟩ | ⟨rfl, hv⟩
        · have HA := Lib.hid (HS1.out.below hB)
          go_wp2_with (at_builtin; refine wpList_appD rfl (.tmp 31) (.tmp 32) rfl w.heap.size _ 0 [] rfl hv.out A1 n1 c1 cs1 rfl HL1.out HA.out HO1.out (by omega) hsz ?_; intro v2 w2 hv2 hg2; refine Hid.out ?_)
          refine Lib.hid ?_
          have hB2 : Below w.heap.size w w2 := hB.trans ((Below.refl _ _).grown hg2 hsz (own_ge hv.out))
          have HV2 := Lib.hid (show w2.ownsRow w.heap.size 55 2 v2 n1 cs1 by simpa using hv2)
          clear hv2 hg2 k0 k1
          go_wp2_with fail
          go_roundw
          case rel => exact ⟨hB2, .inr (.inl ⟨rfl, HV2⟩)⟩
          case measure => simp [intOf]
        · have HA := Lib.hid (HS2.out.below hB)
          go_wp2_with (at_builtin; refine wpList_appD rfl (.tmp 31) (.tmp 32) rfl w.heap.size _ n1 cs1 rfl hv.out A2 n2 c2 cs2 rfl HL2.out HA.out HO2.out (by omega) hsz ?_; intro v2 w2 hv2 hg2; refine Hid.out ?_)
          refine Lib.hid ?_
          have hB2 : Below w.heap.size w w2 := hB.trans ((Below.refl _ _).grown hg2 hsz (own_ge hv.out))
          have HV2 := Lib.hid hv2
          clear hv2 hg2 k0 k1
          go_wp2_with fail
          go_roundw
          case rel => exact ⟨hB2, .inr (.inr ⟨rfl, HV2⟩)⟩
          case measure => simp [intOf]
        · clear k0 k1
          go_wp2_with fail
          go_ret
          exact ⟨_, rfl, hv.out, hB⟩
end Go.Proofs.Ytemcpdpbikgfcaa
namespace Go.Proofs.Ytemcpdpbikgfcaa
open Go.RowKit Go.Sort
set_option linter.unusedVariables false

theorem bad_big {L zs : List GDiff} (h : Canon L zs) {rs : List (List GV)} (hn : rs.Nodup) (hr : ∀ r ∈ rs, coef zs r ≠ 0) (hl : 3000 < rs.length) : diffOkB L = false := by
  have := canon_big h hn hr
  unfold diffOkB
  rw [show decide (L.length ≤ 3000) = false by simp; omega]
  rfl
theorem bad_cnt {L zs : List GDiff} (h : Canon L zs) {r : List GV} (hr : coef zs r ≠ 0) (hc : cntB (coef zs r) = false) : diffOkB L = false := by
  rw [← Bool.not_eq_true]
  intro hk
  obtain ⟨z, hz, e⟩ := coef_ne (by rw [h.sum]; exact hr)
  have h1 := ((diffOk_asc hk).2.2 z hz).2
  rw [← coef_mem h.asc z hz, e, h.sum, hc] at h1
  cases h1
theorem coef_le {M : Int} (h0 : 0 ≤ M) (r : List GV) : ∀ zs : List GDiff, cntLe M zs → -(zs.length * M) ≤ coef zs r ∧ coef zs r ≤ zs.length * M
  | [], _ => by simp [coef]
  | z :: zs, h => by
    have ih := coef_le h0 r zs (fun x hx => h x (List.mem_cons_of_mem _ hx))
    have hz := h z List.mem_cons_self
    rw [coef_cons, List.length_cons]
    have e : ((zs.length + 1 : Nat) : Int) * M = zs.length * M + M := by rw [Int.natCast_add, Int.add_mul]; simp
    rw [e]
    by_cases hc : cmpR z.row r = 0
    · rw [if_pos hc]; omega
    · rw [if_neg hc]; omega
theorem DiffsAt.heads {w : World} {lo B : Nat} {A : Option Addr} {zs : List GDiff} (h : DiffsAt w lo B A zs) (hB : B ≤ w.heap.size) : ∃ hs : List DH, hs.map (·.2) = zs ∧ SrcAt w A (flatH hs) ∧ ∀ p ∈ hs, RowAt w w.heap.size p.1.1 p.2.row ∧ CapOk p.2.row.length p.1.2 := by
  rcases h with rfl | ⟨g, o, rfl, h1, h2, hc⟩
  · exact ⟨[], rfl, ⟨fun _ => rfl, fun ad _ j u hu => by simp [flatH] at hu⟩, fun p hp => by simp at hp⟩
  · have key : ∀ n, n ≤ zs.length → ∃ hs : List DH, hs.map (·.2) = zs.take n ∧ (∀ j u, (flatH hs)[j]? = some u → w.cell? ⟨g, o + j, none⟩ = some u) ∧ ∀ p ∈ hs, RowAt w w.heap.size p.1.1 p.2.row ∧ CapOk p.2.row.length p.1.2 := by
      intro n
      induction n with
      | zero => intro _; exact ⟨[], rfl, fun j u hu => by simp [flatH] at hu, fun p hp => by simp at hp⟩
      | succ n ih =>
        intro hn
        obtain ⟨hs, e, hcs, hp⟩ := ih (by omega)
        obtain ⟨⟨A', c', ⟨hcell, hcap⟩, hrow⟩, hcnt⟩ := hc n _ (List.getElem?_eq_getElem (show n < zs.length by omega))
        have hlen : hs.length = n := by have := congrArg List.length e; simpa [Nat.min_eq_left (show n ≤ zs.length by omega)] using this
        refine ⟨hs ++ [((A', c'), zs[n])], by rw [List.map_append, e, List.take_succ_eq_append_getElem (by omega)]; rfl, fun j u hu => ?_, fun p hm => ?_⟩
        · rw [flatH_append] at hu
          rcases Nat.lt_or_ge j (flatH hs).length with hj | hj
          · rw [List.getElem?_append_left hj] at hu; exact hcs j u hu
          · rw [List.getElem?_append_right hj, flatH_length, hlen] at hu
            rw [flatH_length, hlen] at hj
            have h3 : j - n * 2 = 0 ∨ j - n * 2 = 1 := by
              have h4 := (List.getElem?_eq_some_iff.1 hu).1
              simp [flatH, dhL] at h4
              omega
            rcases h3 with h3 | h3
            · rw [h3] at hu
              simp [flatH, dhL] at hu
              subst hu
              rw [show o + j = o + n * 2 by omega]; exact hcell
            · rw [h3] at hu
              simp [flatH, dhL] at hu
              subst hu
              rw [show o + j = o + n * 2 + 1 by omega]; exact hcnt
        · rw [List.mem_append, List.mem_singleton] at hm
          rcases hm with hm | rfl
          · exact hp p hm
          · exact ⟨hrow.row.mono hB, hcap⟩
    obtain ⟨hs, e, hcs, hp⟩ := key zs.length (Nat.le_refl _)
    rw [List.take_length] at e
    refine ⟨hs, e, ⟨fun e => by (cases e), fun ad e' j u hu => ?_⟩, hp⟩
    injection e' with e'
    subst e'
    have ha : (⟨g, o, none⟩ : Addr).add j = ⟨g, o + j, none⟩ := by unfold Addr.add; split <;> simp_all
    rw [ha]
    exact hcs j u hu
theorem flatH_ones (a : List DH) : ∀ u ∈ flatH a, u.oneCell' = true := by
  induction a with
  | nil => intro u hu; simp [flatH] at hu
  | cons p a ih =>
    intro u hu
    simp only [flatH, List.mem_append] at hu
    rcases hu with hu | hu
    · exact dhL_one p u hu
    · exact ih u hu
/-- A list of the call's own, read: element i's head, count and row. -/
structure HeadsAt (w : World) (A : Option Addr) (hs : List DH) : Prop where
  at_ : ∀ i p, hs[i]? = some p → ∃ g o, A = some ⟨g, o, none⟩ ∧ w.cell? ⟨g, o + i * 2, none⟩ = some (.slice p.1.1 p.2.row.length p.1.2) ∧ w.cell? ⟨g, o + i * 2 + 1, none⟩ = some (.int .i64 p.2.count) ∧ RowAt w w.heap.size p.1.1 p.2.row
theorem heads_own {w0 w : World} {v : Value} {hs : List DH} (ho : w.ownsRow w0.heap.size 55 2 v hs.length (flatH hs)) (hr : ∀ p ∈ hs, RowAt w w.heap.size p.1.1 p.2.row) : ∃ A c, v = .slice A hs.length c ∧ HeadsAt w A hs := by
  rcases ho.2 with ⟨rfl, h0⟩ | ⟨g, cap, cur, rfl, hg, hh, hc1, hc2, hc3, hc4⟩
  · have : hs = [] := List.eq_nil_of_length_eq_zero h0
    subst this
    exact ⟨none, 0, rfl, ⟨fun i p hp => by simp at hp⟩⟩
  · refine ⟨_, cap, rfl, ⟨fun i p hp => ⟨g, 0, rfl, ?_, ?_, hr p (List.mem_of_getElem? hp)⟩⟩⟩
    all_goals
      have hi : i < hs.length := (List.getElem?_eq_some_iff.1 hp).1
      obtain ⟨f0, f1⟩ := flatH_at hs i p hp
      have key : ∀ j, j < hs.length * 2 → w.cell? ⟨g, j, none⟩ = (flatH hs)[j]? := fun j hj => by
        have h1 : w.cell? ⟨g, j, none⟩ = cur.toList[j]? := by simp [World.cell?, hh]
        rw [h1, ← hc4, List.getElem?_take_of_lt hj]
      rw [Nat.zero_add]
    · exact (key _ (by omega)).trans f0
    · exact (key _ (by omega)).trans f1
theorem cell_grown {w w' : World} {b : Nat} {p : Addr} {u : Value} {es : Array MapEntry} {cl : Nat} (hm : w.heap[b]? = some (.map es cl)) (hg : w.grownBy w' (some b)) (h : w.cell? p = some u) : w'.cell? p = some u ∧ p.block < w.heap.size ∧ w'.heap[p.block]? = w.heap[p.block]? := by
  have hlt := World.block_lt_of_cell? _ p h
  have hb : w'.heap[p.block]? = w.heap[p.block]? := hg.block p.block hlt (fun e => by
    injection e with e
    rw [← e] at hm
    simp [World.cell?, hm] at h)
  exact ⟨(World.cell?_of_block (w := w) (w' := w') (a := p) hb).trans h, hlt, hb⟩
theorem RowAt.grown {w w' : World} {b : Nat} {A : Option Addr} {vs : List GV} {es : Array MapEntry} {cl : Nat} (hm : w.heap[b]? = some (.map es cl)) (hg : w.grownBy w' (some b)) (h : RowAt w w.heap.size A vs) : RowAt w' w'.heap.size A vs := by
  rcases h with h | ⟨g, o, rfl, hlt, hc⟩
  · exact .inl h
  · exact .inr ⟨g, o, rfl, Nat.lt_of_lt_of_le hlt hg.size, fun i v hv => ⟨(cell_grown hm hg (hc i v hv).1).1, (cell_grown hm hg (hc i v hv).2.1).1, (cell_grown hm hg (hc i v hv).2.2).1⟩⟩
theorem HeadsAt.grown {w w' : World} {b : Nat} {A : Option Addr} {hs : List DH} {es : Array MapEntry} {cl : Nat} (hm : w.heap[b]? = some (.map es cl)) (hg : w.grownBy w' (some b)) (h : HeadsAt w A hs) : HeadsAt w' A hs :=
  ⟨fun i p hp => by
    obtain ⟨g, o, e, h0, h1, hr⟩ := h.at_ i p hp
    exact ⟨g, o, e, (cell_grown hm hg h0).1, (cell_grown hm hg h1).1, hr.grown hm hg⟩⟩
theorem Ms.map {w : World} {b n : Nat} {zs : List GDiff} (h : Ms w b n zs) : ∃ es cl, w.heap[b]? = some (.map es cl) := by
  obtain ⟨D, ⟨es, cl, hb, _⟩, _⟩ := h; exact ⟨es, cl, hb⟩
end Go.Proofs.Ytemcpdpbikgfcaa
