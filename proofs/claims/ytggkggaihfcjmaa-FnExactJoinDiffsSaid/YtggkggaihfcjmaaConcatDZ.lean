/-
  A slice as the source of an append: its cells. slices.Concat of two slices of Diff.
-/
import Derived.Test.YtggkggaihfcjmaaDRow
import Derived.Test.YtggkggaihfcjmaaToDiff
import Derived.Test.YtggkggaihfcjmaaShelf
namespace Go.Proofs.Ytggkggaihfcjmaa
open Go.RowKit Go.Sort
set_option linter.unusedVariables false

/-- The cells of a slice, in order; a nil slice has none. -/
def SrcAt (w : World) (A : Option Addr) (cs : List Value) : Prop := (A = none → cs = []) ∧ ∀ ad, A = some ad → ∀ j u, cs[j]? = some u → w.cell? (ad.add j) = some u
theorem SrcAt.below {w w' : World} {A : Option Addr} {cs : List Value} (h : SrcAt w A cs) (hb : Below w.heap.size w w') : SrcAt w' A cs :=
  ⟨h.1, fun ad e j u hu => (hb.cell (World.block_lt_of_cell? _ _ (h.2 ad e j u hu))).trans (h.2 ad e j u hu)⟩
end Go.Proofs.Ytggkggaihfcjmaa
namespace Go.Proofs.Ytggkggaihfcjmaa
open Go.RowKit Go.Sort Go.Shelf
set_option linter.unusedVariables false

theorem grow_newD (m : Nat) (w : World) (hm : m ≤ 4194304) :
    Calls Try.prog 101 #[.slice none 0 0, .int .i64 m] w fun e w' => ∃ v, e = .returned v ∧ w'.ownsRow w.heap.size 55 2 v 0 [] ∧ Below w.heap.size w w' := by
  obtain ⟨i0, hi0, hz0, hz1, hz2⟩ := info_parts infoDiff
  by_cases h0 : m = 0
  · subst h0
    refine Calls.mono (Any8.slices_Grow_room Try.growD none 0 0 0 w (by omega) (by omega) (by omega) (by omega)) fun e w' he => ?_
    obtain ⟨rfl, rfl⟩ := he
    exact ⟨_, rfl, ⟨rfl, .inl ⟨rfl, rfl⟩⟩, Below.refl _ _⟩
  · refine Calls.mono (Any8.slices_Grow_grow Try.growD i0 _ hi0 hz0 (by rw [hz1]; decide) none 0 0 m [] w (by omega) (by omega) (by rw [hz2]; omega) (by omega) (by simp) (fun _ => rfl) (fun a h => by cases h)) fun e w' he => ?_
    obtain ⟨rfl, rfl⟩ := he
    have hge := grownCap_ge w (0 + m) 0 55
    have hle := grownCap_le_maxLen w (0 + m) 0 55 (by unfold maxLen; omega)
    refine ⟨_, rfl, ?_, (Below.refl _ _).drew.alloc (Nat.le_refl _) _⟩
    refine World.ownsRow_made w.drew _ _ (Nat.le_refl _) hle ?_
    have hs : (Value.cells (.agg #[.slice none 0 0, .int .i64 0])).size = 2 := rfl
    rw [Array.size_append, Array.size_append, size_zeroCells, size_zeroCells, hs]
    show 0 + _ + _ = _
    change 0 + (0 + m - 0) * 2 + (grownCap w (0 + m) 0 55 - (0 + m)) * 2 = grownCap w (0 + m) 0 55 * 2
    omega
/-- The cells that a slice of Diff appends. -/
theorem wpList_appD {ops : Array Oper} {rest : List Oper} {o : Oper} {a : Act} {w : World} {Q : Exit → Act → World → Prop} (hg : o.guard = none) (s x : Operand)
    (ho : o.op = .call { callee := .builtin .append, args := #[s, x], argTypes := #[24, 24] }) (base : Nat) (v : Value) (n : Nat) (xs : List Value) (hs : a.eval s = v) (hown : w.ownsRow base 55 2 v n xs)
    (A : Option Addr) (m c : Nat) (news : List Value) (hx : a.eval x = .slice A m c) (hl : news.length = m * 2) (hA : SrcAt w A news) (h1 : ∀ u ∈ news, u.oneCell' = true) (hb : n + m ≤ 4194304) (hbase : base ≤ w.heap.size)
    (h : ∀ v' w', w'.ownsRow base 55 2 v' (n + m) (xs ++ news) → w.grownBy w' v.ownBlock → wpList Try.prog ops Q rest (a.put o.dst v') w') : wpList Try.prog ops Q (o :: rest) a w := by
  obtain ⟨i0, hi, hz0, hz1, hz2⟩ := info_parts infoDiff
  refine wpList_plain hg fun K' hK' => ?_
  exact wp_append_any w s x _ ho base 55 i0 _ 2 32 Try.underlying24 hi hz0 hz1 hz2 rfl (by decide) v n xs hs hown A m c news hx hl (fun e => by have := hA.1 e; rw [this] at hl; simp at hl; omega) hA.2 h1 (by unfold maxLen; omega) (by omega) hbase (fun v' w' h2 h3 _ => hK' _ _ (h v' w' h2 h3))
def CatRelD (n1 n2 : Nat) (w : World) (s i : Value) (w' : World) : Prop := w = w' ∧ ((s = .int .i64 0 ∧ i = .int .i64 0) ∨ (s = .int .i64 n1 ∧ i = .int .i64 1) ∨ (s = .int .i64 ((n1 : Int) + n2) ∧ i = .int .i64 2))
def ConcatPostD (w : World) (n : Nat) (cs : List Value) (e : Ending) (w' : World) : Prop := ∃ v, e = .returned v ∧ w'.ownsRow w.heap.size 55 2 v n cs ∧ Below w.heap.size w w'
set_option maxRecDepth 100000 in
set_option maxHeartbeats 3200000 in
theorem concatD (g : Nat) (A1 A2 : Option Addr) (n1 c1 n2 c2 : Nat) (cs1 cs2 : List Value) (w : World) (h0 : w.cell? ⟨g, 0, none⟩ = some (.slice A1 n1 c1)) (h1 : w.cell? ⟨g, 1, none⟩ = some (.slice A2 n2 c2))
    (hl1 : cs1.length = n1 * 2) (hl2 : cs2.length = n2 * 2) (hs1 : SrcAt w A1 cs1) (hs2 : SrcAt w A2 cs2) (ho1 : ∀ u ∈ cs1, u.oneCell' = true) (ho2 : ∀ u ∈ cs2, u.oneCell' = true) (hb1 : n1 ≤ 1048576) (hb2 : n2 ≤ 1048576) :
    Calls Try.prog 80 #[.slice (some ⟨g, 0, none⟩) 2 2] w (ConcatPostD w (n1 + n2) (cs1 ++ cs2)) := by
  have HL1 := Lib.hid hl1
  have HL2 := Lib.hid hl2
  have HS1 := Lib.hid hs1
  have HS2 := Lib.hid hs2
  have HO1 := Lib.hid ho1
  have HO2 := Lib.hid ho2
  have hg : g < w.heap.size := World.block_lt_of_cell? _ ⟨g, 0, none⟩ h0
  clear hl1 hl2 hs1 hs2 ho1 ho2
  go_enter Try.func80, Try.ntmps80
  go_wp2_with fail
  go_loopw [3, 11] (fun s i w' => CatRelD n1 n2 w s i w') (fun _ i _ => 2 - (intOf i).toNat)
  case atStart => exact ⟨rfl, .inl ⟨rfl, rfl⟩⟩
  case round =>
    obtain ⟨rfl, hrel⟩ := hrel
    rcases hrel with ⟨rfl, rfl⟩ | ⟨rfl, rfl⟩ | ⟨rfl, rfl⟩
    · have q1 : ¬ ((n1 : Int) < 0) := by omega
      go_wp2_with fail
      go_roundw
      case rel => exact ⟨rfl, .inr (.inl ⟨rfl, rfl⟩)⟩
      case measure => simp [intOf]
    · have q1 : ¬ ((n1 : Int) + (n2 : Int) < 0) := by omega
      go_wp2_with fail
      go_roundw
      case rel => exact ⟨rfl, .inr (.inr ⟨rfl, rfl⟩)⟩
      case measure => simp [intOf]
    · have hgr := grow_newD (n1 + n2) w (by omega)
      rw [show (((n1 + n2 : Nat) : Int)) = (n1 : Int) + (n2 : Int) by omega] at hgr
      have HGR := Lib.hid hgr
      clear hgr
      go_wp2_with fail
      refine HGR.out.mono ?_
      rintro e w1 ⟨v1, rfl, hw1, hb1'⟩
      have HW1 := Lib.hid hw1
      have HB1 := Lib.hid hb1'
      clear hw1 hb1' HGR
      go_wp2_with fail
      go_loopw [6, 27] (fun v i w' => Below w.heap.size w w' ∧ ((i = .int .i64 0 ∧ Hid (w'.ownsRow w.heap.size 55 2 v 0 [])) ∨ (i = .int .i64 1 ∧ Hid (w'.ownsRow w.heap.size 55 2 v n1 cs1)) ∨ (i = .int .i64 2 ∧ Hid (w'.ownsRow w.heap.size 55 2 v (n1 + n2) (cs1 ++ cs2))))) (fun _ i _ => 2 - (intOf i).toNat)
      case atStart => exact ⟨HB1.out, .inl ⟨rfl, HW1⟩⟩
      case round =>
        obtain ⟨hB, hrel⟩ := hrel
        have k0 := (hB.cell (p := ⟨g, 0, none⟩) hg).trans h0
        have k1 := (hB.cell (p := ⟨g, 1, none⟩) hg).trans h1
        have hsz := hB.size
        rcases hrel with ⟨rfl, hv⟩ | ⟨rfl, hv⟩ | ⟨rfl, hv⟩
        · have HA := Lib.hid (HS1.out.below hB)
          go_wp2_with (at_builtin; refine wpList_appD rfl (.tmp 31) (.tmp 32) rfl w.heap.size _ 0 [] rfl hv.out A1 n1 c1 cs1 rfl HL1.out HA.out HO1.out (by omega) hsz ?_; intro v2 w2 hv2 hg2; refine Hid.out ?_)
          refine Lib.hid ?_
          have hB2 : Below w.heap.size w w2 := hB.trans ((Below.refl _ _).grown hg2 hsz (own_ge hv.out))
          have HV2 := Lib.hid (show w2.ownsRow w.heap.size 55 2 v2 n1 cs1 by simpa using hv2)
          clear hv2 hg2 k0 k1
          go_wp2_with fail
          go_roundw
          case rel => exact ⟨hB2, .inr (.inl ⟨rfl, HV2⟩)⟩
          case measure => simp [intOf]
        · have HA := Lib.hid (HS2.out.below hB)
          go_wp2_with (at_builtin; refine wpList_appD rfl (.tmp 31) (.tmp 32) rfl w.heap.size _ n1 cs1 rfl hv.out A2 n2 c2 cs2 rfl HL2.out HA.out HO2.out (by omega) hsz ?_; intro v2 w2 hv2 hg2; refine Hid.out ?_)
          refine Lib.hid ?_
          have hB2 : Below w.heap.size w w2 := hB.trans ((Below.refl _ _).grown hg2 hsz (own_ge hv.out))
          have HV2 := Lib.hid hv2
          clear hv2 hg2 k0 k1
          go_wp2_with fail
          go_roundw
          case rel => exact ⟨hB2, .inr (.inr ⟨rfl, HV2⟩)⟩
          case measure => simp [intOf]
        · clear k0 k1
          go_wp2_with fail
          go_ret
          exact ⟨_, rfl, hv.out, hB⟩
end Go.Proofs.Ytggkggaihfcjmaa
