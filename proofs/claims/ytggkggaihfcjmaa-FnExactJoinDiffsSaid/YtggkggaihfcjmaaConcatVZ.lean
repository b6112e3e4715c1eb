/-
  The join of two lists of differences: what the pairs are. slices.Concat of two slices of Value.
-/
import Derived.Test.YtggkggaihfcjmaaJoinM
import Derived.Test.YtggkggaihfcjmaaProjMZ
import Derived.Test.YtggkggaihfcjmaaCoef
import Derived.Test.YtggkggaihfcjmaaToDiff
import Derived.Test.YtggkggaihfcjmaaConcatDZ
import Derived.Test.YtggkggaihfcjmaaShelf
namespace Go.Proofs.Ytggkggaihfcjmaa
open Go.RowKit Go.Sort
set_option linter.unusedVariables false

theorem join_bigI {a b : List GDiff} {n k : Nat} (h : 3000 < (pairsD n (a.take k) b).length) : joinD a b (n : Int) = [] := by
  unfold joinD
  rw [if_neg]
  rintro ⟨_, h2⟩
  have := pairsD_take n a b k
  simp only [Int.toNat_natCast] at h2
  omega
theorem mul_rangeI {x y : Int} (hx : -1000000 ≤ x ∧ x ≤ 1000000) (hy : -1000000 ≤ y ∧ y ≤ 1000000) : -1000000000000 ≤ x * y ∧ x * y ≤ 1000000000000 := by
  have h := Int.natAbs_mul x y
  have h1 : x.natAbs ≤ 1000000 := by omega
  have h2 : y.natAbs ≤ 1000000 := by omega
  have h3 := Nat.mul_le_mul h1 h2
  rw [← h] at h3
  omega
theorem pairs_smallI {a b : List GDiff} {n : Nat} (h1 : diffOkB a = true) (h2 : diffOkB b = true) (h8 : widD a + widD b ≤ 8 + n) (hn : n ≤ widD b) :
    cntLe 1000000000000 (pairsD n a b) ∧ (∀ z ∈ pairsD n a b, goodRow (widD a + widD b - n) z.row = true) ∧ nzD (pairsD n a b) := by
  have key : ∀ z ∈ pairsD n a b, (-1000000000000 ≤ z.count ∧ z.count ≤ 1000000000000) ∧ goodRow (widD a + widD b - n) z.row = true ∧ z.count ≠ 0 := by
    intro z hz
    obtain ⟨x, hx, y, hy, rfl⟩ := pairsD_mem hz
    have ax := (diffOk_all h1).2 x hx
    have ay := (diffOk_all h2).2 y hy
    have bx := diffOk_asc h1
    have by_ := diffOk_asc h2
    refine ⟨mul_rangeI ax.2.2.2 ay.2.2.2, ?_, Int.mul_ne_zero (bx.2.1 x hx) (by_.2.1 y hy)⟩
    have gx := (bx.2.2 x hx).1
    have gy := (by_.2.2 y hy).1
    unfold goodRow at gx gy ⊢
    simp only [Bool.and_eq_true, decide_eq_true_eq] at gx gy ⊢
    have px := okRow_vals gx.1
    have py := okRow_vals gy.1
    refine ⟨?_, by rw [List.length_append, List.length_drop, ax.1, ay.1]; omega⟩
    unfold rowOkB
    simp only [Bool.and_eq_true, decide_eq_true_eq, List.all_eq_true]
    refine ⟨fun v hv => ?_, by rw [List.length_append, List.length_drop, ax.1, ay.1]; omega⟩
    rcases List.mem_append.1 hv with hv | hv
    · exact px v hv
    · exact py v (List.mem_of_mem_drop hv)
  exact ⟨fun z hz => (key z hz).1, fun z hz => (key z hz).2.1, fun z hz => (key z hz).2.2⟩
theorem pairs_nil (n : Nat) (a : List GDiff) : pairsD n a [] = [] := by
  unfold pairsD rowJ
  induction a with
  | nil => rfl
  | cons x a ih => rw [List.flatMap_cons, ih]; rfl
/-- Where the widths allow a join, it is the sum of the pairs, if they are not too many. -/
theorem joinD_eq {a b : List GDiff} {n : Nat} (h1 : diffOkB a = true) (h2 : diffOkB b = true) (h4 : n ≤ widD a) (h5 : n ≤ widD b) (h6 : widD a + widD b ≤ 8 + n) (h3 : (pairsD n a b).length ≤ 3000) : joinD a b (n : Int) = orD (sumD (pairsD n a b)) := by
  have hnil : orD (sumD []) = [] := by rw [sumD_small (by simp)]; decide
  by_cases ha0 : a.length = 0
  · obtain rfl := List.eq_nil_of_length_eq_zero ha0
    have : pairsD n [] b = [] := rfl
    rw [this, hnil]
    unfold joinD joinB
    rw [if_neg (by simp)]
  · by_cases hb0 : b.length = 0
    · obtain rfl := List.eq_nil_of_length_eq_zero hb0
      rw [pairs_nil, hnil]
      unfold joinD joinB
      rw [if_neg (by simp)]
    · have hjb : joinB a b (n : Int) = true := by
        unfold joinB
        have e1 : a.isEmpty = false := by cases a with | nil => simp at ha0 | cons _ _ => rfl
        have e2 : b.isEmpty = false := by cases b with | nil => simp at hb0 | cons _ _ => rfl
        rw [h1, h2, e1, e2]
        simp; omega
      unfold joinD
      simp only [Int.toNat_natCast]
      rw [if_pos ⟨hjb, h3⟩]
end Go.Proofs.Ytggkggaihfcjmaa
namespace Go.Proofs.Ytggkggaihfcjmaa
open Go.RowKit Go.Sort Go.Shelf
set_option linter.unusedVariables false

theorem grow_newV (m : Nat) (w : World) (hm : m ≤ 4194304) :
    Calls Try.prog 88 #[.slice none 0 0, .int .i64 m] w fun e w' => ∃ v, e = .returned v ∧ w'.ownsRow w.heap.size 52 3 v 0 [] ∧ Below w.heap.size w w' := by
  obtain ⟨i0, hi0, hz0, hz1, hz2⟩ := info_parts infoV
  by_cases h0 : m = 0
  · subst h0
    refine Calls.mono (Any8.slices_Grow_room Try.growV none 0 0 0 w (by omega) (by omega) (by omega) (by omega)) fun e w' he => ?_
    obtain ⟨rfl, rfl⟩ := he
    exact ⟨_, rfl, ⟨rfl, .inl ⟨rfl, rfl⟩⟩, Below.refl _ _⟩
  · refine Calls.mono (Any8.slices_Grow_grow Try.growV i0 _ hi0 hz0 (by rw [hz1]; decide) none 0 0 m [] w (by omega) (by omega) (by rw [hz2]; omega) (by omega) (by simp) (fun _ => rfl) (fun a h => by cases h)) fun e w' he => ?_
    obtain ⟨rfl, rfl⟩ := he
    have hge := grownCap_ge w (0 + m) 0 52
    have hle := grownCap_le_maxLen w (0 + m) 0 52 (by unfold maxLen; omega)
    refine ⟨_, rfl, ?_, (Below.refl _ _).drew.alloc (Nat.le_refl _) _⟩
    refine World.ownsRow_made w.drew _ _ (Nat.le_refl _) hle ?_
    have hs : (Value.cells (.agg #[.int .i64 0, .int .i64 0, .string ByteArray.empty])).size = 3 := rfl
    rw [Array.size_append, Array.size_append, size_zeroCells, size_zeroCells, hs]
    show 0 + _ + _ = _
    change 0 + (0 + m - 0) * 3 + (grownCap w (0 + m) 0 52 - (0 + m)) * 3 = grownCap w (0 + m) 0 52 * 3
    omega
/-- The cells that a slice of Value appends. -/
theorem wpList_appV {ops : Array Oper} {rest : List Oper} {o : Oper} {a : Act} {w : World} {Q : Exit → Act → World → Prop} (hg : o.guard = none) (s x : Operand)
    (ho : o.op = .call { callee := .builtin .append, args := #[s, x], argTypes := #[53, 53] }) (base : Nat) (v : Value) (n : Nat) (xs : List Value) (hs : a.eval s = v) (hown : w.ownsRow base 52 3 v n xs)
    (A : Option Addr) (m c : Nat) (news : List Value) (hx : a.eval x = .slice A m c) (hl : news.length = m * 3) (hA : SrcAt w A news) (h1 : ∀ u ∈ news, u.oneCell' = true) (hb : n + m ≤ 4194304) (hbase : base ≤ w.heap.size)
    (h : ∀ v' w', w'.ownsRow base 52 3 v' (n + m) (xs ++ news) → w.grownBy w' v.ownBlock → wpList Try.prog ops Q rest (a.put o.dst v') w') : wpList Try.prog ops Q (o :: rest) a w := by
  obtain ⟨i0, hi, hz0, hz1, hz2⟩ := info_parts infoV
  refine wpList_plain hg fun K' hK' => ?_
  exact wp_append_any w s x _ ho base 52 i0 _ 3 32 Try.underlying53 hi hz0 hz1 hz2 rfl (by decide) v n xs hs hown A m c news hx hl (fun e => by have := hA.1 e; rw [this] at hl; simp at hl; omega) hA.2 h1 (by unfold maxLen; omega) (by omega) hbase (fun v' w' h2 h3 _ => hK' _ _ (h v' w' h2 h3))
def CatRelV (n1 n2 : Nat) (w : World) (s i : Value) (w' : World) : Prop := w = w' ∧ ((s = .int .i64 0 ∧ i = .int .i64 0) ∨ (s = .int .i64 n1 ∧ i = .int .i64 1) ∨ (s = .int .i64 ((n1 : Int) + n2) ∧ i = .int .i64 2))
def ConcatPostV (w : World) (n : Nat) (cs : List Value) (e : Ending) (w' : World) : Prop := ∃ v, e = .returned v ∧ w'.ownsRow w.heap.size 52 3 v n cs ∧ Below w.heap.size w w'
set_option maxRecDepth 100000 in
set_option maxHeartbeats 3200000 in
theorem concatV (g : Nat) (A1 A2 : Option Addr) (n1 c1 n2 c2 : Nat) (cs1 cs2 : List Value) (w : World) (h0 : w.cell? ⟨g, 0, none⟩ = some (.slice A1 n1 c1)) (h1 : w.cell? ⟨g, 1, none⟩ = some (.slice A2 n2 c2))
    (hl1 : cs1.length = n1 * 3) (hl2 : cs2.length = n2 * 3) (hs1 : SrcAt w A1 cs1) (hs2 : SrcAt w A2 cs2) (ho1 : ∀ u ∈ cs1, u.oneCell' = true) (ho2 : ∀ u ∈ cs2, u.oneCell' = true) (hb1 : n1 ≤ 1048576) (hb2 : n2 ≤ 1048576) :
    Calls Try.prog 67 #[.slice (some ⟨g, 0, none⟩) 2 2] w (ConcatPostV w (n1 + n2) (cs1 ++ cs2)) := by
  have HL1 := Lib.hid hl1
  have HL2 := Lib.hid hl2
  have HS1 := Lib.hid hs1
  have HS2 := Lib.hid hs2
  have HO1 := Lib.hid ho1
  have HO2 := Lib.hid ho2
  have hg : g < w.heap.size := World.block_lt_of_cell? _ ⟨g, 0, none⟩ h0
  clear hl1 hl2 hs1 hs2 ho1 ho2
  go_enter Try.func67, Try.ntmps67
  go_wp2_with fail
  go_loopw [3, 11] (fun s i w' => CatRelV n1 n2 w s i w') (fun _ i _ => 2 - (intOf i).toNat)
  case atStart => exact ⟨rfl, .inl ⟨rfl, rfl⟩⟩
  case round =>
    obtain ⟨rfl, hrel⟩ := hrel
    rcases hrel with ⟨rfl, rfl⟩ | ⟨rfl, rfl⟩ | ⟨rfl, rfl⟩
    · have q1 : ¬ ((n1 : Int) < 0) := by omega
      go_wp2_with fail
      go_roundw
      case rel => exact ⟨rfl, .inr (.inl ⟨rfl, rfl⟩)⟩
      case measure => simp [intOf]
    · have q1 : ¬ ((n1 : Int) + (n2 : Int) < 0) := by omega
      go_wp2_with fail
      go_roundw
      case rel => exact ⟨rfl, .inr (.inr ⟨rfl, rfl⟩)⟩
      case measure => simp [intOf]
    · have hgr := grow_newV (n1 + n2) w (by omega)
      rw [show (((n1 + n2 : Nat) : Int)) = (n1 : Int) + (n2 : Int) by omega] at hgr
      have HGR := Lib.hid hgr
      clear hgr
      go_wp2_with fail
      refine HGR.out.mono ?_
      rintro e w1 ⟨v1, rfl, hw1, hb1'⟩
      have HW1 := Lib.hid hw1
      have HB1 := Lib.hid hb1'
      clear hw1 hb1' HGR
      go_wp2_with fail
      go_loopw [6, 27] (fun v i w' => Below w.heap.size w w' ∧ ((i = .int .i64 0 ∧ Hid (w'.ownsRow w.heap.size 52 3 v 0 [])) ∨ (i = .int .i64 1 ∧ Hid (w'.ownsRow w.heap.size 52 3 v n1 cs1)) ∨ (i = .int .i64 2 ∧ Hid (w'.ownsRow w.heap.size 52 3 v (n1 + n2) (cs1 ++ cs2))))) (fun _ i _ => 2 - (intOf i).toNat)
      case atStart => exact ⟨HB1.out, .inl ⟨rfl, HW1⟩⟩
      case round =>
        obtain ⟨hB, hrel⟩ := hrel
        have k0 := (hB.cell (p := ⟨g, 0, none⟩) hg).trans h0
        have k1 := (hB.cell (p := ⟨g, 1, none⟩) hg).trans h1
        have hsz := hB.size
        rcases hrel with ⟨rfl, hv⟩ | ⟨rfl, hv⟩ | ⟨rfl, hv⟩
        · have HA := Lib.hid (HS1.out.below hB)
          go_wp2_with (at_builtin; refine wpList_appV rfl (.tmp 31) (.tmp 32) rfl w.heap.size _ 0 [] rfl hv.out A1 n1 c1 cs1 rfl HL1.out HA.out HO1.out (by omega) hsz ?_; intro v2 w2 hv2 hg2; refine Hid.out ?_)
          refine Lib.hid ?_
          have hB2 : Below w.heap.size w w2 := hB.trans ((Below.refl _ _).grown hg2 hsz (own_ge hv.out))
          have HV2 := Lib.hid (show w2.ownsRow w.heap.size 52 3 v2 n1 cs1 by simpa using hv2)
          clear hv2 hg2 k0 k1
          go_wp2_with fail
          go_roundw
          case rel => exact ⟨hB2, .inr (.inl ⟨rfl, HV2⟩)⟩
          case measure => simp [intOf]
        · have HA := Lib.hid (HS2.out.below hB)
          go_wp2_with (at_builtin; refine wpList_appV rfl (.tmp 31) (.tmp 32) rfl w.heap.size _ n1 cs1 rfl hv.out A2 n2 c2 cs2 rfl HL2.out HA.out HO2.out (by omega) hsz ?_; intro v2 w2 hv2 hg2; refine Hid.out ?_)
          refine Lib.hid ?_
          have hB2 : Below w.heap.size w w2 := hB.trans ((Below.refl _ _).grown hg2 hsz (own_ge hv.out))
          have HV2 := Lib.hid hv2
          clear hv2 hg2 k0 k1
          go_wp2_with fail
          go_roundw
          case rel => exact ⟨hB2, .inr (.inr ⟨rfl, HV2⟩)⟩
          case measure => simp [intOf]
        · clear k0 k1
          go_wp2_with fail
          go_ret
          exact ⟨_, rfl, hv.out, hB⟩
end Go.Proofs.Ytggkggaihfcjmaa
