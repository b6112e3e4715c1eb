/-
  How databases read. Letters, names, words: spec.l2Letter, spec.l2Name, spec.l2Agg, spec.l2Word, spec.l2Op; impl.isNameByte, impl.nameSize, impl.nameOk, impl.variableOk, impl.wordOk, impl.typeOk, impl.aggregateOk, impl.comparisonOk.
-/
import Derived.Test.YteoepnadjkjlmaaGreatOpenTabZ
import Derived.Test.YteoepnadjkjlmaaGreatSzValZ
import Derived.Test.YteoepnadjkjlmaaGreatTyZ
import Derived.Test.YteoepnadjkjlmaaGreatRowOkSZ
namespace Go.Proofs.YteoepnadjkjlmaaGreat
open Go.ChangeShapes Go.WideShapes Go.ChangeAt Go.RowKit Go.Joins Go.Deep
set_option linter.unusedVariables false

instance : Inhabited GRel := ⟨⟨ByteArray.empty, []⟩⟩
theorem cells_Rel : Tryz.prog.cellsOf 46 = 2 := by kernel_rfl
theorem list_Rel {cs : List Value} (h : cs.length = 2) : ∃ v0 v1, cs = [v0, v1] := by
  match cs, h with
  | [v0, v1], _ => exact ⟨v0, v1, rfl⟩
section
variable {H : Type} {enc : TypeId × Value → H} {W : World} {base b : Nat} {spare : Nat → Bool} {held : Bool}
set_option maxRecDepth 100000 in
theorem open_Rel {fuel : Nat} {cs : List Value} {y : DataW H × List MemPlace} (h : DataW.trod enc Tryz.prog W b spare held fuel 46 cs = some y) :
    ∃ (x : GRel) (A1 : Option Addr) (c1 : Nat), cs = [.string x.name, .slice A1 x.rows.length c1] ∧ fitRel x ∧ (CapOk x.rows.length c1 ∧ ValueSsAt W 0 W.heap.size A1 x.rows) := by
  have hl : cs.length = Tryz.prog.cellsOf 46 := by obtain ⟨xs, n, _, _, hl, _⟩ := DataW.trod_struct Tryz.underlying46 h; exact hl
  obtain ⟨v0, v1, rfl⟩ := list_Rel (hl.trans cells_Rel)
  obtain ⟨n0, y0, h0⟩ := trod_part Tryz.underlying46 h 0 _ rfl
  have g0 : DataW.trod enc Tryz.prog W b spare held n0 9 [v0] = some y0 := by
    have hc : Tryz.prog.cellsOf 9 = 1 := by kernel_rfl
    have q : DataW.trod enc Tryz.prog W b spare held n0 9 (([v0, v1].drop 0).take (Tryz.prog.cellsOf 9)) = some y0 := h0
    rw [hc] at q; exact q
  obtain ⟨z0, e0, _, f0⟩ := DataW.trod_string Tryz.underlying9 g0
  simp at e0
  subst e0
  obtain ⟨n1, y1, h1⟩ := trod_part Tryz.underlying46 h 1 _ rfl
  have g1 : DataW.trod enc Tryz.prog W b spare held n1 44 [v1] = some y1 := by
    have hc : Tryz.prog.cellsOf 44 = 1 := by kernel_rfl
    have q : DataW.trod enc Tryz.prog W b spare held n1 44 (([.string z0, v1].drop 1).take (Tryz.prog.cellsOf 44)) = some y1 := h1
    rw [hc] at q; exact q
  obtain ⟨A1, l1, c1, z1, e1, el1, s1, f1⟩ := open_ValueSs g1
  simp at e1
  subst e1 el1
  exact ⟨⟨z0, z1⟩, _, _, rfl, ⟨f0, f1⟩, s1⟩
end
section
variable {H : Type} {enc : TypeId × Value → H} {W : World} {base b : Nat} {spare : Nat → Bool} {held : Bool}
set_option maxRecDepth 100000 in
theorem open_Rels {fuel : Nat} {cs : List Value} {y : DataW H × List MemPlace} (h : DataW.trod enc Tryz.prog W b spare held fuel 22 cs = some y) :
    ∃ (A : Option Addr) (len c : Nat) (xs : List (GRel)), cs = [.slice A len c] ∧ len = xs.length ∧ (CapOk xs.length c ∧ RelsAt W 0 W.heap.size A xs) ∧ fitRels xs := by
  rcases open_slice Tryz.underlying22 h with ⟨hcs, hx⟩ | ⟨a, len, cap, m, n, D, Pl, hcs, hbb, hl, hm, hmm, hx, hi⟩
  · exact ⟨none, 0, 0, [], hcs, rfl, ⟨⟨Nat.le_refl _, Nat.zero_le _⟩, .inl rfl⟩, Nat.zero_le _, by simp⟩
  · have hce : Tryz.prog.cellsOf 46 = 2 := by kernel_rfl
    rw [hce] at hi
    have hlm : len ≤ m := by rw [hmm]; split <;> omega
    have hel : ∀ i, i < m → ∃ x : GRel, RelAt W 0 W.heap.size a.block (a.off + i * 2) x ∧ fitRel x := by
      intro i him
      obtain ⟨cs', hc, ht⟩ := hi i him
      obtain ⟨x, A1, c1, rfl, hfit, ⟨v1, s1⟩⟩ := open_Rel ht
      obtain ⟨_, _, hat⟩ := World.cells?_some hc
      have g0 := hat 0 (by simp)
      have g1 := hat 1 (by simp)
      simp at g0 g1
      rw [Go.Deep.add_add] at g0 g1
      exact ⟨x, ⟨cell_add0 g0, ⟨A1, c1, ⟨cell_add0 g1, v1⟩, s1⟩⟩, hfit⟩
    obtain ⟨f, hf⟩ := choose_lt (α := GRel) (n := len) (p := fun i x => RelAt W 0 W.heap.size a.block (a.off + i * 2) x ∧ fitRel x) (fun i hil => hel i (by omega))
    refine ⟨some a, len, cap, (List.range len).map f, hcs, by simp, ⟨⟨by simp; exact hl, hm⟩, ?_⟩, by simp; omega, ?_⟩
    · rcases Nat.eq_zero_or_pos len with rfl | hpos
      · exact .inl (by simp)
      · have h00 : ∃ u, W.cell? a = some u := by
          obtain ⟨cs', hc, ht⟩ := hi 0 (by omega)
          obtain ⟨_, hln, hat⟩ := World.cells?_some hc
          have g0 := hat 0 (by omega)
          rw [Nat.zero_mul, show (a.add 0).add 0 = a by simp [Addr.add]] at g0
          rw [List.getElem?_eq_getElem (by omega)] at g0
          exact ⟨_, g0⟩
        obtain ⟨u0, hu0⟩ := h00
        have hsp := World.cell?_spot hu0
        have hlt := World.block_lt_of_cell? W a hu0
        refine .inr ⟨a.block, a.off, by obtain ⟨bk, of, sp⟩ := a; simp at hsp; rw [hsp], Nat.zero_le _, hlt, fun i x hx => ?_⟩
        simp only [List.getElem?_map, Option.map_eq_some_iff] at hx
        obtain ⟨j, hj, rfl⟩ := hx
        obtain ⟨hil, rfl⟩ := List.getElem?_eq_some_iff.1 hj
        simp only [List.length_range] at hil
        rw [List.getElem_range]
        exact (hf i hil).1
    · intro x hx
      simp at hx
      obtain ⟨i, hi', rfl⟩ := hx
      exact (hf i hi').2
end
section
variable {H : Type} {enc : TypeId × Value → H} {W : World} {base b : Nat} {spare : Nat → Bool} {held : Bool}
set_option maxRecDepth 100000 in
theorem open_Rels_arg {v : Value} {d : DataW H} {p : List MemPlace} (hv : Value.okWide Tryz.prog W .any base 22 v) (h : DataW.Trod enc Tryz.prog W b spare held 22 v d p) :
    ∃ (A : Option Addr) (c : Nat) (xs : List (GRel)), v = .slice A xs.length c ∧ fitRels xs ∧ RelsAt W 0 W.heap.size A xs := by
  obtain ⟨a, len, cap, rfl⟩ := okWide_slice Tryz.underlying22 hv
  obtain ⟨fuel, hf⟩ := h
  obtain ⟨A, l, c, xs, hcs, rfl, ⟨_, hr⟩, hfit⟩ := open_Rels hf
  simp [Value.cells] at hcs
  obtain ⟨rfl, rfl, rfl⟩ := hcs
  exact ⟨_, _, xs, rfl, hfit, hr⟩
end
end Go.Proofs.YteoepnadjkjlmaaGreat
namespace Go.Proofs.YteoepnadjkjlmaaGreat
open Go.RowKit
set_option linter.unusedVariables false

def letterB (n : Int) : Bool := decide (97 ≤ n ∧ n ≤ 122 ∨ 65 ≤ n ∧ n ≤ 90 ∨ 48 ≤ n ∧ n ≤ 57 ∨ n = 95)
def letU (c : UInt8) : Bool := letterB (c.toNat : Int)
theorem spec_letter (n : Int) (w : World) :
    Calls Tryz.prog 81 #[.int .u8 n] w fun e w' => e = .returned (.bool (letterB n)) ∧ w = w' := by
  go_enter Tryz.func81, Tryz.ntmps81
  go_wp2
  all_goals go_ret
  all_goals refine ⟨ret_bool ?_, rfl⟩
  all_goals (rw [Bool.eq_iff_iff]; simp [letterB]; omega)
theorem impl_letter (n : Int) (w : World) :
    Calls Tryz.prog 94 #[.int .u8 n] w fun e w' => e = .returned (.bool (letterB n)) ∧ w = w' := by
  go_enter Tryz.func94, Tryz.ntmps94
  go_wp2
  all_goals go_ret
  all_goals refine ⟨ret_bool ?_, rfl⟩
  all_goals (rw [Bool.eq_iff_iff]; simp [letterB]; omega)
def isT (s : ByteArray) (l : List UInt8) : Bool := s.toList == l
def aggB (s : ByteArray) : Bool := isT s [109, 105, 110] || isT s [109, 97, 120] || isT s [115, 117, 109] || isT s [99, 111, 117, 110, 116]
def opB (s : ByteArray) : Bool := isT s [61] || isT s [33, 61] || isT s [60] || isT s [60, 61] || isT s [62] || isT s [62, 61]
def typeB (s : ByteArray) : Bool := isT s [105, 110, 116] || isT s [116, 101, 120, 116] || isT s [97, 110, 121]
theorem spec_agg (s : ByteArray) (w : World) :
    Calls Tryz.prog 65 #[.string s] w fun e w' => e = .returned (.bool (aggB s)) ∧ w = w' := by
  go_enter Tryz.func65, Tryz.ntmps65
  go_wp2
  all_goals go_ret
  all_goals refine ⟨ret_bool ?_, rfl⟩
  all_goals simp_all [aggB, isT]
def lets (l : List UInt8) : Bool := l.all letU
def firstB (lo hi : Int) (l : List UInt8) : Bool := match l with | [] => false | c :: _ => decide (lo ≤ (c.toNat : Int) ∧ (c.toNat : Int) ≤ hi)
def nameB (lo hi : Int) (s : ByteArray) : Bool := decide (1 ≤ s.size) && decide (s.size ≤ 20) && firstB lo hi s.data.toList && lets s.data.toList
theorem lets_snoc (l : List UInt8) (c : UInt8) : lets (l ++ [c]) = (lets l && letU c) := by simp [lets]
theorem lets_bad (s : ByteArray) (k : Nat) (h : k < s.size) (hg : letU s[k] = false) : lets s.data.toList = false := by
  unfold lets
  rw [List.all_eq_false]
  exact ⟨s[k], by simp [ByteArray.getElem_eq_getElem_data], by simp [hg]⟩
theorem first_at (lo hi : Int) (s : ByteArray) (h : 0 < s.size) : firstB lo hi s.data.toList = decide (lo ≤ (s[0].toNat : Int) ∧ (s[0].toNat : Int) ≤ hi) := by
  have h1 : 0 < s.data.toList.length := by simpa using h
  have e : s.data.toList = s[0] :: s.data.toList.drop 1 := by
    conv => lhs; rw [← List.drop_zero (l := s.data.toList), List.drop_eq_getElem_cons h1]
    rfl
  rw [e]
  rfl
theorem spec_letter_is (b : Bool) (c : UInt8) (w : World) (h : letU c = b) :
    Calls Tryz.prog 81 #[.int .u8 (c.toNat : Int)] w fun e w' => e = .returned (.bool b) ∧ w = w' := by subst h; exact spec_letter _ w
theorem impl_letter_is (b : Bool) (c : UInt8) (w : World) (h : letU c = b) :
    Calls Tryz.prog 94 #[.int .u8 (c.toNat : Int)] w fun e w' => e = .returned (.bool b) ∧ w = w' := by subst h; exact impl_letter _ w

set_option maxHeartbeats 800000 in
theorem spec_name (s : ByteArray) (lo hi : Int) (w : World) (hs : s.size ≤ maxLen) :
    Calls Tryz.prog 64 #[.string s, .int .u8 lo, .int .u8 hi] w fun e w' => e = .returned (.bool (nameB lo hi s)) ∧ w = w' := by
  unfold maxLen at hs
  by_cases hgood : 0 < s.size ∧ s.size ≤ 20
  · obtain ⟨h1, h20⟩ := hgood
    have hfa := first_at lo hi s h1
    have h1i : ¬ (s.size : Int) < 1 := by omega
    have h20i : ¬ (20 : Int) < (s.size : Int) := by omega
    by_cases hlo : (s[0].toNat : Int) < lo
    · have H := Lib.hid (show nameB lo hi s = false by unfold nameB; rw [hfa]; simp; omega)
      clear hfa
      go_enter Tryz.func64, Tryz.ntmps64
      go_wp2_with fail
      go_ret
      exact ⟨ret_bool (by rw [H.out]), rfl⟩
    · by_cases hhi : hi < (s[0].toNat : Int)
      · have H := Lib.hid (show nameB lo hi s = false by unfold nameB; rw [hfa]; simp; omega)
        clear hfa
        go_enter Tryz.func64, Tryz.ntmps64
        go_wp2_with fail
        go_ret
        exact ⟨ret_bool (by rw [H.out]), rfl⟩
      · have HN := Lib.hid (show nameB lo hi s = lets s.data.toList by unfold nameB; rw [hfa, decide_eq_true (show 1 ≤ s.size by omega), decide_eq_true h20, decide_eq_true (by omega)]; rfl)
        clear hfa
        go_enter Tryz.func64, Tryz.ntmps64
        go_wp2_with fail
        go_loop [7] (fun i => ∃ k : Nat, k ≤ s.size ∧ i = .int .i64 k ∧ Hid (lets (s.data.toList.take k) = true)) (fun i => s.size - (intOf i).toNat)
        case atStart => exact ⟨0, Nat.zero_le _, rfl, Lib.hid rfl⟩
        case round =>
          obtain ⟨k, hk, rfl, hL⟩ := hrel
          by_cases hlt : k < s.size
          · have hts := take_snoc s k hlt
            have hsn := lets_snoc (s.data.toList.take k) s[k]
            rw [← hts] at hsn
            have HS := Lib.hid hsn
            clear hsn hts
            by_cases hc : letU s[k] = true
            · have HX := Lib.hid (show lets (s.data.toList.take (k + 1)) = true by rw [HS.out, hL.out, hc]; rfl)
              go_wp2_with (go_at_call 81; refine (spec_letter_is true _ _ hc).mono ?_; rintro e w' ⟨rfl, rfl⟩)
              go_round
              case rel => exact ⟨k + 1, by omega, by go_num, HX⟩
              case measure => simp [intOf]; omega
            · rw [Bool.not_eq_true] at hc
              have HX := Lib.hid (lets_bad s k hlt hc)
              go_wp2_with (go_at_call 81; refine (spec_letter_is false _ _ hc).mono ?_; rintro e w' ⟨rfl, rfl⟩)
              go_ret
              exact ⟨ret_bool (by rw [HN.out, HX.out]), rfl⟩
          · go_wp2_with fail
            go_ret
            refine ⟨ret_bool ?_, rfl⟩
            have h := hL.out
            rw [List.take_of_length_le (by simp; omega)] at h
            rw [HN.out, h]
  · have H := Lib.hid (show nameB lo hi s = false by unfold nameB; simp; omega)
    by_cases h1 : (s.size : Int) < 1
    · go_enter Tryz.func64, Tryz.ntmps64
      go_wp2_with fail
      go_ret
      exact ⟨ret_bool (by rw [H.out]), rfl⟩
    · have h20 : (20 : Int) < (s.size : Int) := by omega
      go_enter Tryz.func64, Tryz.ntmps64
      go_wp2_with fail
      go_ret
      exact ⟨ret_bool (by rw [H.out]), rfl⟩
end Go.Proofs.YteoepnadjkjlmaaGreat
