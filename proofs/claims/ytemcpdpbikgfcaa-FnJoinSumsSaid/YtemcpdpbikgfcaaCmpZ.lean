/-
  A multiset of rows as a map: what the map reads as, and what adding one difference makes of it. Contracts of the two functions that look at a text: spec.l1TextOk and impl.textOk both answer textOkB. Contracts of the comparisons: cmp.Compare at int64 and string, cmp.Or at int, spec.l1Sign, spec.CompareValues, impl.CompareValues.
-/
import Derived.Test.YtemcpdpbikgfcaaMapEZ
import Derived.Test.YtemcpdpbikgfcaaCoef
import Derived.Test.YtemcpdpbikgfcaaWideSZ
import Derived.Test.YtemcpdpbikgfcaaTabOkMZ
namespace Go.Proofs.Ytemcpdpbikgfcaa
open Go.RowKit
set_option linter.unusedVariables false

theorem okG_fit {v : GV} (h : okG v = true) : v.fit := by
  have hs := okG_size h
  have hk : 1 ≤ v.k ∧ v.k ≤ 3 ∧ -1000000000 ≤ v.n ∧ v.n ≤ 1000000000 := by
    unfold okG valueOkB at h
    split at h
    · simp only [Bool.and_eq_true, decide_eq_true_eq] at h; omega
    · split at h
      · simp only [Bool.and_eq_true, decide_eq_true_eq] at h; omega
      · split at h
        · simp only [Bool.and_eq_true, decide_eq_true_eq] at h; omega
        · cases h
  refine ⟨WalkArith.wf_i64 (by omega), WalkArith.wf_i64 (by omega), by unfold maxLen; omega⟩
theorem okG_zero : okG zGV = false := by unfold okG valueOkB zGV; simp
theorem takeWhile_pad (p : GV → Bool) (z : GV) (hz : p z = false) (m : Nat) : ∀ r : List GV, (∀ v ∈ r, p v = true) → (r ++ List.replicate m z).takeWhile p = r
  | [], _ => by cases m <;> simp [List.replicate, hz]
  | v :: r, h => by
    rw [List.cons_append, List.takeWhile_cons, if_pos (h v List.mem_cons_self), takeWhile_pad p z hz m r (fun x hx => h x (List.mem_cons_of_mem _ hx))]
theorem rowOk_parts {r : List GV} (h : rowOkB r = true) : r.length ≤ 8 ∧ ∀ v ∈ r, okG v = true := by
  unfold rowOkB at h
  simp only [Bool.and_eq_true, decide_eq_true_eq, List.all_eq_true] at h
  exact ⟨h.2, h.1⟩
theorem pad_back {r : List GV} (h : rowOkB r = true) : (pad r).takeWhile okG = r := takeWhile_pad okG zGV okG_zero _ r (rowOk_parts h).2
theorem key_row {r : List GV} (h : rowOkB r = true) : keyOf Try.prog 83 (keyV r) = some (klOf r) := key_is (rowOk_parts h).1 (fun v hv => okG_fit ((rowOk_parts h).2 v hv))
theorem pad_inj {r r' : List GV} (h : rowOkB r = true) (h' : rowOkB r' = true) (e : pad r = pad r') : r = r' := by rw [← pad_back h, ← pad_back h', e]
theorem kl_inj {r r' : List GV} (h : rowOkB r = true) (h' : rowOkB r' = true) (e : klOf r = klOf r') : r = r' := by
  have h1 := keyK.inj (key_row h) (by rw [e]; exact key_row h')
  unfold keyV at h1
  simp only [Value.agg.injEq] at h1
  exact pad_inj h h' (flat_inj _ _ (by simpa using h1))
theorem kl_key {r : List GV} (h : rowOkB r = true) : WideAt.IsKeyLit (klOf r) := keyK.key (key_row h)
/-- The map's datum holds the sums of zs that are not 0. -/
structure MsD (D : DataW Unit) (zs : List GDiff) : Prop where
  has : ∀ r, rowOkB r = true → Maps.has D (klOf r) = decide (coef zs r ≠ 0)
  at_ : ∀ r, rowOkB r = true → D.atKey (klOf r) (.lit (.int .i64 0)) = .lit (.int .i64 (coef zs r))
  key : ∀ l, Maps.has D l = true → ∃ r, rowOkB r = true ∧ l = klOf r
theorem msD_nil : MsD (.map []) [] := ⟨fun r h => rfl, fun r h => rfl, fun l h => by cases h⟩
theorem coef_snoc (zs : List GDiff) (z : GDiff) (r : List GV) : coef (zs ++ [z]) r = coef zs r + if cmpR z.row r = 0 then z.count else 0 := by
  rw [coef_append, coef_cons, coef_nil, Int.add_zero]
theorem coef_snoc_same (zs : List GDiff) (z : GDiff) : coef (zs ++ [z]) z.row = coef zs z.row + z.count := by rw [coef_snoc, if_pos ((good_cmpR.eq _ _).2 rfl)]
theorem coef_snoc_other (zs : List GDiff) (z : GDiff) {r : List GV} (h : r ≠ z.row) : coef (zs ++ [z]) r = coef zs r := by rw [coef_snoc, if_neg (fun e => h ((good_cmpR.eq _ _).1 e).symm), Int.add_zero]
theorem MsD.put {D : DataW Unit} {zs : List GDiff} {z : GDiff} (h : MsD D zs) (hm : Maps.IsMap D) (hz : rowOkB z.row = true) (h0 : coef zs z.row + z.count ≠ 0) : MsD (D.put (klOf z.row) (.lit (.int .i64 (coef zs z.row + z.count)))) (zs ++ [z]) := by
  refine ⟨fun r hr => ?_, fun r hr => ?_, fun l hl => ?_⟩
  · by_cases e : r = z.row
    · subst e; rw [Maps.has_put_same hm (kl_key hz), coef_snoc_same]; simp [h0]
    · rw [Maps.has_put_other (fun e' => e (kl_inj hr hz e')), coef_snoc_other zs z e]; exact h.has r hr
  · by_cases e : r = z.row
    · subst e; rw [Maps.atKey_put_same hm (kl_key hz), coef_snoc_same]
    · rw [Maps.atKey_put_other (fun e' => e (kl_inj hr hz e')), coef_snoc_other zs z e]; exact h.at_ r hr
  · by_cases e : l = klOf z.row
    · exact ⟨z.row, hz, e⟩
    · rw [Maps.has_put_other e] at hl; exact h.key l hl
theorem MsD.del {D : DataW Unit} {zs : List GDiff} {z : GDiff} {d : DataW Unit} (h : MsD D zs) (hm : Maps.IsMap D) (hz : rowOkB z.row = true) (h0 : coef zs z.row + z.count = 0) : MsD ((D.put (klOf z.row) d).del (klOf z.row)) (zs ++ [z]) := by
  refine ⟨fun r hr => ?_, fun r hr => ?_, fun l hl => ?_⟩
  · by_cases e : r = z.row
    · subst e; rw [Maps.has_del_same, coef_snoc_same]; simp [h0]
    · rw [Maps.has_del_other (fun e' => e (kl_inj hr hz e')), Maps.has_put_other (fun e' => e (kl_inj hr hz e')), coef_snoc_other zs z e]; exact h.has r hr
  · by_cases e : r = z.row
    · subst e; rw [Maps.atKey_del_same, coef_snoc_same, h0]
    · rw [Maps.atKey_del_other (fun e' => e (kl_inj hr hz e')), Maps.atKey_put_other (fun e' => e (kl_inj hr hz e')), coef_snoc_other zs z e]; exact h.at_ r hr
  · by_cases e : l = klOf z.row
    · exact ⟨z.row, hz, e⟩
    · rw [Maps.has_del_other e, Maps.has_put_other e] at hl; exact h.key l hl
/-- A multiset in memory: block b, at most n entries. -/
def Ms (w : World) (b n : Nat) (zs : List GDiff) : Prop := ∃ D : DataW Unit, w.ownsMap Try.prog 83 (plainElem Try.prog 2) b n D ∧ MsD D zs
theorem Ms.kept {w w' : World} {b n : Nat} {zs : List GDiff} {row : Option Nat} (h : Ms w b n zs) (hg : w.grownBy w' row) (hne : some b ≠ row) : Ms w' b n zs := by
  obtain ⟨D, ho, hD⟩ := h; exact ⟨D, ho.kept hg hne, hD⟩
theorem Ms.lt {w : World} {b n : Nat} {zs : List GDiff} (h : Ms w b n zs) : b < w.heap.size := by obtain ⟨D, ho, hD⟩ := h; exact ho.lt
theorem ms_made (w : World) : Ms (w.alloc (.map #[] 0)) w.heap.size 0 [] := ⟨_, World.ownsMap_made w _ _ _, msD_nil⟩
theorem keyKL : WideMaps.KeyLaw Try.prog 83 := deep_law_laid laidOutP (m := 4) (by omega) keyRow keyDeep (by rw [keyArr])
theorem zero64 (u : World) : (zeroValue 2).run Try.prog u = .ok (.int .i64 0) u := by kernel_rfl
end Go.Proofs.Ytemcpdpbikgfcaa
namespace Go.Proofs.Ytemcpdpbikgfcaa
open Go.RowKit
set_option linter.unusedVariables false

set_option maxHeartbeats 400000 in
theorem impl_text (s : ByteArray) (w : World) (hs : s.size ≤ maxLen) :
    Calls Try.prog 134 #[.string s] w fun e w' => e = .returned (.bool (textOkB s)) ∧ w = w' := by
  unfold maxLen at hs
  by_cases h60 : (60 : Int) < s.size
  · have HT := Lib.hid (show textOkB s = false by unfold textOkB; simp; omega)
    go_enter Try.func134, Try.ntmps134
    go_wp2
    go_ret
    exact ⟨ret_bool (by rw [HT.out]), rfl⟩
  go_enter Try.func134, Try.ntmps134
  go_wp2
  go_loop [9] (fun i => ∃ k : Nat, k ≤ s.size ∧ i = .int .i64 k ∧ goodBytes (s.data.toList.take k) = true) (fun i => s.size - (intOf i).toNat)
  case atStart => exact ⟨0, Nat.zero_le _, rfl, rfl⟩
  case round =>
    obtain ⟨k, hk, rfl, hgood⟩ := hrel
    have HG := Lib.hid hgood
    clear hgood
    by_cases hlt : k < s.size
    · have hsn := good_snoc (s.data.toList.take k) s[k]
      have hts := take_snoc s k hlt
      rw [← hts] at hsn
      have HS := Lib.hid hsn
      clear hsn hts
      by_cases h1 : (s[k].toNat : Int) < 32
      · have hb : goodByte s[k] = false := by simp [goodByte]; omega
        have HB := Lib.hid (good_of_take s k hlt hb)
        clear hb
        go_wp2
        go_ret
        exact ⟨ret_bool (by unfold textOkB; rw [HB.out]; rfl), rfl⟩
      · by_cases h2 : (126 : Int) < s[k].toNat
        · have hb : goodByte s[k] = false := by simp [goodByte]; omega
          have HB := Lib.hid (good_of_take s k hlt hb)
          clear hb
          go_wp2
          go_ret
          exact ⟨ret_bool (by unfold textOkB; rw [HB.out]; rfl), rfl⟩
        · have HB := Lib.hid (show goodByte s[k] = true by simp [goodByte]; omega)
          go_wp2
          go_round
          case rel => exact ⟨k + 1, by omega, by go_num, by rw [HS.out, HG.out, HB.out]; rfl⟩
          case measure => simp [intOf]; omega
    · go_wp2
      go_ret
      refine ⟨ret_bool ?_, rfl⟩
      have h := HG.out
      rw [List.take_of_length_le (by simp; omega)] at h
      unfold textOkB
      rw [h]
      simp
      omega
end Go.Proofs.Ytemcpdpbikgfcaa
namespace Go.Proofs.Ytemcpdpbikgfcaa
open Go.RowKit
set_option linter.unusedVariables false

theorem nan_int (a : Int) (w : World) :
    Calls Try.prog 136 #[.int .i64 a] w fun e w' => e = .returned (.bool false) ∧ w = w' := by
  go_enter Try.func136, Try.ntmps136
  go_wp2
  go_ret
  exact ⟨ret_bool (by simp), rfl⟩
theorem nan_text (a : ByteArray) (w : World) :
    Calls Try.prog 137 #[.string a] w fun e w' => e = .returned (.bool false) ∧ w = w' := by
  go_enter Try.func137, Try.ntmps137
  go_wp2
  go_ret
  exact ⟨ret_bool (by simp), rfl⟩
theorem compare_int (a b : Int) (w : World) :
    Calls Try.prog 131 #[.int .i64 a, .int .i64 b] w fun e w' => e = .returned (.int .i64 (cmpI a b)) ∧ w = w' := by
  go_enter Try.func131, Try.ntmps131
  go_wp2_with (go_at_call 136; refine (nan_int _ _).mono ?_; rintro e w' ⟨rfl, rfl⟩)
  all_goals go_ret
  all_goals refine ⟨ret_int ?_, rfl⟩
  all_goals unfold cmpI
  · rw [if_pos (by assumption)]
  · rw [if_neg (by omega), if_pos (by omega)]
  · rw [if_neg (by omega), if_neg (by omega)]
theorem compare_text (a b : ByteArray) (w : World) :
    Calls Try.prog 132 #[.string a, .string b] w fun e w' => e = .returned (.int .i64 (cmpT a b)) ∧ w = w' := by
  by_cases he : a = b
  · subst he
    by_cases hl : Op.bytesLess a.toList a.toList = true
    · have H := Lib.hid (show cmpT a a = -1 by simp [cmpT, ltT, hl])
      go_enter Try.func132, Try.ntmps132
      go_wp2_with (go_at_call 137; refine (nan_text _ _).mono ?_; rintro e w' ⟨rfl, rfl⟩)
      go_ret
      exact ⟨ret_int (by rw [H.out]), rfl⟩
    · have H := Lib.hid (show cmpT a a = 0 by simp [cmpT, ltT, hl])
      simp only [Bool.not_eq_true] at hl
      go_enter Try.func132, Try.ntmps132
      go_wp2_with (go_at_call 137; refine (nan_text _ _).mono ?_; rintro e w' ⟨rfl, rfl⟩)
      go_ret
      exact ⟨ret_int (by rw [H.out]), rfl⟩
  · have he2 : (a.toList == b.toList) = false := by
      rw [beq_eq_false_iff_ne]
      intro h
      rw [Lib.toList_data, Lib.toList_data] at h
      exact he (ByteArray.ext (Array.toList_inj.1 h))
    by_cases hl : Op.bytesLess a.toList b.toList = true
    · have H := Lib.hid (show cmpT a b = -1 by simp [cmpT, ltT, hl])
      go_enter Try.func132, Try.ntmps132
      go_wp2_with (go_at_call 137; refine (nan_text _ _).mono ?_; rintro e w' ⟨rfl, rfl⟩)
      go_ret
      exact ⟨ret_int (by rw [H.out]), rfl⟩
    · have H := Lib.hid (show cmpT a b = 1 by simp [cmpT, ltT, hl, he])
      simp only [Bool.not_eq_true] at hl
      go_enter Try.func132, Try.ntmps132
      go_wp2_with (go_at_call 137; refine (nan_text _ _).mono ?_; rintro e w' ⟨rfl, rfl⟩)
      go_ret
      exact ⟨ret_int (by rw [H.out]), rfl⟩

set_option maxHeartbeats 400000 in
theorem or_ints (g c : Nat) (a0 a1 a2 : Int) (w : World) (h0 : w.cell? ⟨g, 0, none⟩ = some (.int .i64 a0)) (h1 : w.cell? ⟨g, 1, none⟩ = some (.int .i64 a1)) (h2 : w.cell? ⟨g, 2, none⟩ = some (.int .i64 a2)) :
    Calls Try.prog 130 #[.slice (some ⟨g, 0, none⟩) 3 c] w fun e w' => e = .returned (.int .i64 (or3 a0 a1 a2)) ∧ w = w' := by
  go_enter Try.func130, Try.ntmps130
  go_wp2
  go_loop [8] (fun i => ∃ k : Nat, k ≤ 3 ∧ i = .int .i64 k ∧ Hid ((0 < k → a0 = 0) ∧ (1 < k → a1 = 0) ∧ (2 < k → a2 = 0))) (fun i => 3 - (intOf i).toNat)
  case atStart => exact ⟨0, Nat.zero_le _, rfl, Lib.hid ⟨by omega, by omega, by omega⟩⟩
  case round =>
    obtain ⟨k, hk, rfl, hz⟩ := hrel
    have hk' : k = 0 ∨ k = 1 ∨ k = 2 ∨ k = 3 := by omega
    rcases hk' with rfl | rfl | rfl | rfl
    · by_cases h : a0 = 0
      · have hb : (a0 != 0) = false := by simp [h]
        have H := Lib.hid h
        clear h
        go_wp2
        go_round
        case rel => exact ⟨1, by omega, by go_num, Lib.hid ⟨fun _ => H.out, by omega, by omega⟩⟩
        case measure => simp [intOf]
      · have hb : (a0 != 0) = true := by simp [h]
        have H := Lib.hid (show or3 a0 a1 a2 = a0 by simp [or3, h])
        clear h
        go_wp2
        go_ret
        exact ⟨ret_int (by rw [H.out]), rfl⟩
    · by_cases h : a1 = 0
      · have hb : (a1 != 0) = false := by simp [h]
        have H := Lib.hid h
        clear h
        go_wp2
        go_round
        case rel => exact ⟨2, by omega, by go_num, Lib.hid ⟨fun _ => hz.out.1 (by omega), fun _ => H.out, by omega⟩⟩
        case measure => simp [intOf]
      · have hb : (a1 != 0) = true := by simp [h]
        have H := Lib.hid (show or3 a0 a1 a2 = a1 by simp [or3, h, hz.out.1 (by omega)])
        clear h
        go_wp2
        go_ret
        exact ⟨ret_int (by rw [H.out]), rfl⟩
    · by_cases h : a2 = 0
      · have hb : (a2 != 0) = false := by simp [h]
        have H := Lib.hid h
        clear h
        go_wp2
        go_round
        case rel => exact ⟨3, by omega, by go_num, Lib.hid ⟨fun _ => hz.out.1 (by omega), fun _ => hz.out.2.1 (by omega), fun _ => H.out⟩⟩
        case measure => simp [intOf]
      · have hb : (a2 != 0) = true := by simp [h]
        have H := Lib.hid (show or3 a0 a1 a2 = a2 by simp [or3, hz.out.1 (by omega), hz.out.2.1 (by omega)])
        clear h
        go_wp2
        go_ret
        exact ⟨ret_int (by rw [H.out]), rfl⟩
    · have H := Lib.hid (show or3 a0 a1 a2 = 0 by simp [or3, hz.out.1 (by omega), hz.out.2.1 (by omega), hz.out.2.2 (by omega)])
      go_wp2
      go_ret
      exact ⟨ret_int (by rw [H.out]), rfl⟩

set_option maxHeartbeats 1000000 in
theorem impl_compare (k n : Int) (t : ByteArray) (k' n' : Int) (t' : ByteArray) (w : World) :
    Calls Try.prog 121 #[.agg #[.int .i64 k, .int .i64 n, .string t], .agg #[.int .i64 k', .int .i64 n', .string t']] w fun e w' => e = .returned (.int .i64 (cmpV k n t k' n' t')) ∧ Below w.heap.size w w' := by
  go_enter Try.func121, Try.ntmps121
  go_wp2_with fail
  go_region_held3 (fun w' => w'.cell? ⟨w.heap.size, 0, none⟩ = some (.int .i64 k) ∧ w'.cell? ⟨w.heap.size, 1, none⟩ = some (.int .i64 n) ∧ w'.cell? ⟨w.heap.size, 2, none⟩ = some (.string t) ∧
      w'.cell? ⟨w.heap.size + 1, 0, none⟩ = some (.int .i64 k') ∧ w'.cell? ⟨w.heap.size + 1, 1, none⟩ = some (.int .i64 n') ∧ w'.cell? ⟨w.heap.size + 1, 2, none⟩ = some (.string t'))
    (first | go_keep)
    (first
      | (go_at_call 131; refine (compare_int _ _ _).mono ?_; rintro e w' ⟨rfl, rfl⟩)
      | (go_at_call 132; refine (compare_text _ _ _).mono ?_; rintro e w' ⟨rfl, rfl⟩)
      | (go_at_call 130; refine (or_ints _ _ (cmpI k k') (cmpI n n') (cmpT t t') _ (by go_simp) (by go_simp) (by go_simp)).mono ?_; rintro e w' ⟨rfl, rfl⟩))
  go_wp2
  go_ret
  exact ⟨rfl, ((((Below.refl _ _).alloc (Nat.le_refl _) _).alloc (by simp) _).alloc (by simp; omega) _).drew⟩
end Go.Proofs.Ytemcpdpbikgfcaa
