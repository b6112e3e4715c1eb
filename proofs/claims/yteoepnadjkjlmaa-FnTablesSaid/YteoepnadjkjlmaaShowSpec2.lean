/-
  spec.l1Show, spec.ShowValue.
-/
import Derived.Test.YteoepnadjkjlmaaVRow
import Derived.Test.YteoepnadjkjlmaaShowSpec
import Derived.OwnWalk
import Derived.Lib.BufferWrite
import Derived.BigQuiet
import Derived.Deep.QuietTactic
import Derived.Lib.SmallJoins
import Derived.Laws.AppendOwn
namespace Go.Proofs.Yteoepnadjkjlmaa
open Go.RowKit
set_option linter.unusedVariables false

/-- A slice of bytes of the call's own, from block B on, that holds l. -/
def Bytes (B : Nat) (w : World) (v : Value) (l : List UInt8) : Prop := w.ownsRow B 5 1 v l.length (Lib.byteCells l)
theorem news_one (w : World) (c : Value) (t : TypeId) : ∀ j u, [c][j]? = some u → (w.alloc (.cells #[c] t)).cell? ((⟨w.heap.size, 0, none⟩ : Addr).add j) = some u := by
  intro j u hj
  match j, hj with
  | 0, hj => simp at hj; subst hj; simp [Addr.add]
theorem one_u8 (c : Int) : ∀ u ∈ [Value.int .u8 c], u.oneCell' = true := by intro u hu; simp at hu; subst hu; rfl
theorem byteCells_snoc (l : List UInt8) (c : UInt8) : Lib.byteCells (l ++ [c]) = Lib.byteCells l ++ [Value.int .u8 (c.toNat : Int)] := by simp [Lib.byteCells]

theorem bytes_app {B : Nat} {w2 : World} {v2 : Value} {l : List UInt8} {c : UInt8} (h : w2.ownsRow B 5 1 v2 (l.length + 1) (Lib.byteCells l ++ [Value.int .u8 (c.toNat : Int)])) : Bytes B w2 v2 (l ++ [c]) := by
  unfold Bytes
  rw [byteCells_snoc, List.length_append]
  exact h
theorem bytes_text {B : Nat} {w : World} {v : Value} {l : List UInt8} (h : Bytes B w v l) (hl : 0 < l.length) :
    ∃ g cap, v = .slice (some ⟨g, 0, none⟩) l.length cap ∧ (convert 30 9 (.slice (some ⟨g, 0, none⟩) l.length cap)).run Try.prog w = .ok (.string ⟨l.toArray⟩) w := by
  rcases h.2 with ⟨rfl, h0⟩ | ⟨g, cap, cur, rfl, hg, hh, hc1, hc2, hc3, hc4⟩
  · omega
  · refine ⟨g, cap, rfl, ?_⟩
    refine run_convert_bytes_back (P := Try.prog) w 30 9 5 ⟨g, 0, none⟩ cap l Try.underlying30 Try.underlying5 Try.underlying9 (fun j hj => ?_)
    have e : (⟨g, 0, none⟩ : Addr).add j = ⟨g, j, none⟩ := by unfold Addr.add; split <;> simp_all
    rw [e]
    have h1 : w.cell? ⟨g, j, none⟩ = cur.toList[j]? := by simp [World.cell?, hh]
    have h2 : (cur.toList.take (l.length * 1))[j]? = (Lib.byteCells l)[j]? := by rw [hc4]
    rw [List.getElem?_take_of_lt (by omega)] at h2
    rw [h1, h2]
    simp [Lib.byteCells, hj]

set_option maxRecDepth 100000 in
set_option maxHeartbeats 3200000 in
theorem spec_quote (k n : Int) (t : ByteArray) (w : World) (hk : k ≠ 1) (hk3 : k ≠ 3) (ht : t.size ≤ 60) :
    Calls Try.prog 54 #[.agg #[.int .i64 k, .int .i64 n, .string t]] w fun e w' => e = .returned (.string ⟨(quoteL t.data.toList).toArray⟩) ∧ Below w.heap.size w w' := by
  obtain ⟨i0, hi, hz0, hz1, hz2⟩ := info_parts infoU8
  have hk1 : (k == 1) = false := by simp [hk]
  have hk2 : (k == 3) = false := by simp [hk3]
  clear hk hk3
  have hB0 : Below (w.heap.size + 1) (w.alloc (.cells #[.int .i64 k, .int .i64 n, .string t] 54)) ((w.alloc (.cells #[.int .i64 k, .int .i64 n, .string t] 54)).alloc (.cells #[.int .u8 34] 5)) := (Below.refl _ _).alloc (by simp) _
  have hO0 := Lib.hid (show Bytes (w.heap.size + 1) ((w.alloc (.cells #[.int .i64 k, .int .i64 n, .string t] 54)).alloc (.cells #[.int .u8 34] 5)) (.slice (some ⟨w.heap.size + 1, 0, none⟩) 1 1) [34] from
    ⟨rfl, .inr ⟨w.heap.size + 1, 1, #[.int .u8 34], rfl, Nat.le_refl _, by simpa using heap_alloc_new (w.alloc (.cells #[.int .i64 k, .int .i64 n, .string t] 54)) (.cells #[.int .u8 34] 5), Nat.le_refl _, by unfold maxLen; omega, rfl, rfl⟩⟩)
  go_enter Try.func54, Try.ntmps54
  go_wp2_with fail
  go_loopw [3, 4] (fun o i w' => ∃ (j : Nat), j ≤ t.size ∧ i = .int .i64 j ∧ Hid (Bytes (w.heap.size + 1) w' o (34 :: escL (t.data.toList.take j))) ∧ Below (w.heap.size + 1) (w.alloc (.cells #[.int .i64 k, .int .i64 n, .string t] 54)) w') (fun _ i _ => t.size - (intOf i).toNat)
  case atStart => exact ⟨0, Nat.zero_le _, rfl, by simpa [escL] using hO0, hB0⟩
  case round =>
    obtain ⟨j, hj, rfl, hO, hB⟩ := hrel
    have hel := escL_len (t.data.toList.take j)
    have htl : (t.data.toList.take j).length ≤ 60 := by rw [List.length_take]; have : t.data.toList.length = t.size := by (rw [Array.length_toList]; rfl)
                                                        omega
    have hcell : wr.cell? ⟨w.heap.size, 2, none⟩ = some (.string t) := by rw [hB.cell (p := ⟨w.heap.size, 2, none⟩) (by show w.heap.size < w.heap.size + 1; omega)]; go_simp
    have hwz : w.heap.size + 1 ≤ wr.heap.size := by have := hB.size; simpa using this
    have hN : (34 :: escL (t.data.toList.take j)).length ≤ 200 := by simp only [List.length_cons]; omega
    by_cases hlt : j < t.size
    · have hes := Lib.hid (escL_snoc t j hlt)
      have hc1 := Lib.hid (is_u8 t[j] 34 34 rfl)
      have hc2 := Lib.hid (is_u8 t[j] 92 92 rfl)
      by_cases h34 : t[j] = 34 ∨ t[j] = 92
      · have hee := Lib.hid (show escB t[j] = [92, t[j]] by unfold escB; rw [if_pos h34])
        have hor : ((t[j].toNat : Int) == 34) = true ∨ (((t[j].toNat : Int) == 34) = false ∧ ((t[j].toNat : Int) == 92) = true) := by
          rw [hc1.out, hc2.out]
          by_cases h3 : t[j] = 34
          · left; simp [h3]
          · right; rcases h34 with h | h
            · exact absurd h h3
            · simp [h]
        clear hc1 hc2 h34
        rcases hor with hb1 | ⟨hb1, hb2⟩
        all_goals
          go_wp2_with (first | (at_builtin; refine wpList_append_own _ rfl (.tmp 38) (.tmp 39) _ rfl (w.heap.size + 1) 5 i0 (.int .u8 0) 1 1 Try.underlying30 hi hz0 hz1 hz2 rfl (by decide) _ _ _ rfl ((show wr.ownsRow (w.heap.size + 1) 5 1 u3 _ _ from hO.out).alloc _) ⟨wr.heap.size, 0, none⟩ 1 1 [.int .u8 92] rfl rfl (news_one _ _ _) (one_u8 _) (by unfold maxLen; omega) (by omega) (by simp; omega) ?_; intro v2 w2 ho2 hg2 _; refine Hid.out ?_))
          refine Lib.hid ?_
          have hO2 : Bytes (w.heap.size + 1) w2 v2 (34 :: escL (t.data.toList.take j) ++ [92]) := bytes_app ho2
          have hB2 := (hB.alloc hwz _).grown hg2 (by simp; omega) (own_ge hO.out)
          have hcell2 : w2.cell? ⟨w.heap.size, 2, none⟩ = some (.string t) := by rw [hB2.cell (p := ⟨w.heap.size, 2, none⟩) (by show w.heap.size < w.heap.size + 1; omega)]; go_simp
          have hwz2 : w.heap.size + 1 ≤ w2.heap.size := by have := hB2.size; simpa using this
          have hN2 : (34 :: escL (t.data.toList.take j) ++ [92]).length ≤ 201 := by rw [List.length_append]; simp only [List.length_cons, List.length_nil] at hN ⊢; omega
          have HO2 := Lib.hid hO2
          have HG := Lib.hid hg2
          clear ho2 hO2 hcell hg2
          go_wp2_with (first | (at_builtin; refine wpList_append_own _ rfl (.tmp 41) (.tmp 46) _ rfl (w.heap.size + 1) 5 i0 (.int .u8 0) 1 1 Try.underlying30 hi hz0 hz1 hz2 rfl (by decide) _ _ _ rfl ((show w2.ownsRow (w.heap.size + 1) 5 1 v2 _ _ from HO2.out).alloc _) ⟨w2.heap.size, 0, none⟩ 1 1 [.int .u8 (t[j].toNat : Int)] rfl rfl (news_one _ _ _) (one_u8 _) (by unfold maxLen; omega) (by omega) (by simp; omega) ?_; intro v3 w3 ho3 hg3 _))
          have hO3 : Bytes (w.heap.size + 1) w3 v3 (34 :: escL (t.data.toList.take j) ++ [92] ++ [t[j]]) := bytes_app ho3
          have hB3 := (hB2.alloc hwz2 _).grown hg3 (by simp; omega) (own_ge HO2.out)
          go_roundw
          case rel => exact ⟨j + 1, by omega, by go_num, Lib.hid (by rw [hes.out, hee.out]; simpa using hO3), hB3⟩
          case measure => simp [intOf]; omega
      · have hee := Lib.hid (show escB t[j] = [t[j]] by unfold escB; rw [if_neg h34])
        have hb1 : ((t[j].toNat : Int) == 34) = false := by rw [hc1.out]; simp; exact fun h => h34 (.inl h)
        have hb2 : ((t[j].toNat : Int) == 92) = false := by rw [hc2.out]; simp; exact fun h => h34 (.inr h)
        clear hc1 hc2
        go_wp2_with (at_builtin; refine wpList_append_own _ rfl (.tmp 41) (.tmp 46) _ rfl (w.heap.size + 1) 5 i0 (.int .u8 0) 1 1 Try.underlying30 hi hz0 hz1 hz2 rfl (by decide) _ _ _ rfl ((show wr.ownsRow (w.heap.size + 1) 5 1 u3 _ _ from hO.out).alloc _) ⟨wr.heap.size, 0, none⟩ 1 1 [.int .u8 (t[j].toNat : Int)] rfl rfl (news_one _ _ _) (one_u8 _) (by unfold maxLen; omega) (by omega) (by simp; omega) ?_; intro v2 w2 ho2 hg2 _)
        have hO2 : Bytes (w.heap.size + 1) w2 v2 (34 :: escL (t.data.toList.take j) ++ [t[j]]) := bytes_app ho2
        have hB2 := (hB.alloc hwz _).grown hg2 (by simp; omega) (own_ge hO.out)
        go_roundw
        case rel => exact ⟨j + 1, by omega, by go_num, Lib.hid (by rw [hes.out, hee.out]; simpa using hO2), hB2⟩
        case measure => simp [intOf]; omega
    · have htk : t.data.toList.take j = t.data.toList := List.take_of_length_le (by rw [Array.length_toList]; show t.size ≤ j; omega)
      have HTK := Lib.hid htk
      clear htk
      go_wp2_with (first | (at_builtin; refine wpList_append_own _ rfl (.tmp 48) (.tmp 49) _ rfl (w.heap.size + 1) 5 i0 (.int .u8 0) 1 1 Try.underlying30 hi hz0 hz1 hz2 rfl (by decide) _ _ _ rfl ((show wr.ownsRow (w.heap.size + 1) 5 1 u3 _ _ from hO.out).alloc _) ⟨wr.heap.size, 0, none⟩ 1 1 [.int .u8 34] rfl rfl (news_one _ _ _) (one_u8 _) (by unfold maxLen; omega) (by omega) (by simp; omega) ?_; intro v2 w2 ho2 hg2 _; refine Hid.out ?_))
      refine Lib.hid ?_
      have hO2 : Bytes (w.heap.size + 1) w2 v2 (34 :: escL (t.data.toList.take j) ++ [34]) := bytes_app ho2
      have hB2 := (hB.alloc hwz _).grown hg2 (by simp; omega) (own_ge hO.out)
      have hpos : 0 < (34 :: escL (t.data.toList.take j) ++ [34]).length := by simp
      generalize hLL : (34 :: escL (t.data.toList.take j) ++ [34]) = L at hO2 hpos
      have HLL := Lib.hid hLL
      clear hLL
      obtain ⟨g, cap, rfl, hcv⟩ := bytes_text hO2 hpos
      have HO2 := Lib.hid hO2
      clear ho2 hO2 hg2
      go_wp2_with fail
      go_ret
      refine ⟨?_, ((Below.refl _ _).alloc (Nat.le_refl _) _).trans (hB2.mono (by omega))⟩
      have h := HLL.out
      rw [HTK.out] at h
      rw [← h]
      rfl

theorem itoa_pos (n : Nat) : Lib.itoa (n : Int) = Lib.decDigits n := by unfold Lib.itoa; rw [if_neg (by omega)]; simp
theorem itoa_neg (n : Nat) (h : 1 ≤ n) : Lib.itoa (-(n : Int)) = 45 :: Lib.decDigits n := by unfold Lib.itoa; rw [if_pos (by omega)]; simp
theorem spec_int (n : Int) (w : World) (h0 : -1000000000 ≤ n) (h1 : n ≤ 1000000000) :
    Calls Try.prog 68 #[.int .i64 n] w fun e w' => e = .returned (.string ⟨(Lib.itoa n).toArray⟩) ∧ Below w.heap.size w w' := by
  rcases Int.lt_or_le n 0 with hn | hn
  · obtain ⟨m, rfl⟩ : ∃ m : Nat, n = -(m : Int) := ⟨n.natAbs, by omega⟩
    rw [itoa_neg m (by omega)]
    exact spec_int_neg m w (by omega) (by omega)
  · obtain ⟨m, rfl⟩ := Int.eq_ofNat_of_zero_le hn
    rw [itoa_pos m]
    exact spec_int_pos m w (by omega)

set_option maxRecDepth 100000 in
set_option maxHeartbeats 1600000 in
theorem spec_l1Show (v : GV) (w : World) (hok : okG v = true) :
    Calls Try.prog 54 #[.agg #[.int .i64 v.k, .int .i64 v.n, .string v.t]] w fun e w' => e = .returned (.string ⟨(showL v).toArray⟩) ∧ Below w.heap.size w w' := by
  rcases ok_kind hok with ⟨hk, h0, h1, hte⟩ | ⟨hk, hn, htx⟩ | ⟨hk, h0, h1, hte⟩
  · have hs : showL v = Lib.itoa v.n := by unfold showL; rw [if_pos hk]
    have HS := Lib.hid hs
    have hk1 : (v.k == 1) = true := by simp [hk]
    clear hk hs hte
    go_enter Try.func54, Try.ntmps54
    go_wp2_with fail
    refine (spec_int v.n _ h0 h1).mono ?_
    rintro e w2 ⟨rfl, hb2⟩
    go_wp2_with fail
    go_ret
    exact ⟨by rw [HS.out]; rfl, ((Below.refl _ _).alloc (Nat.le_refl _) _).trans (hb2.mono (by simp))⟩
  · have hs : showL v = quoteL v.t.data.toList := by unfold showL; rw [if_neg (by omega), if_neg (by omega)]
    rw [hs]
    exact spec_quote v.k v.n v.t w (by omega) (by omega) (text_size htx)
  · have hs : showL v = 63 :: Lib.itoa v.n := by unfold showL; rw [if_neg (by omega), if_pos hk]
    have HS := Lib.hid hs
    have hk1 : (v.k == 1) = false := by simp [hk]
    have hk3 : (v.k == 3) = true := by simp [hk]
    have hil := Lib.itoa_length_le v.n (by omega) (by omega)
    clear hk hs hte
    go_enter Try.func54, Try.ntmps54
    go_wp2_with fail
    refine (spec_int v.n _ (by omega) h1).mono ?_
    rintro e w2 ⟨rfl, hb2⟩
    go_wp2_with fail
    go_ret
    refine ⟨?_, ((Below.refl _ _).alloc (Nat.le_refl _) _).trans (hb2.mono (by simp))⟩
    rw [HS.out, ← str_cons]
    rfl

end Go.Proofs.Yteoepnadjkjlmaa
