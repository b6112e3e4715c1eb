/-
  laws.sameTable, at equal tables. Text forms, as lists of bytes.
-/
import Derived.Test.YteoepnadjkjlmaaSame
import Derived.Test.YteoepnadjkjlmaaMake
import Derived.Test.YteoepnadjkjlmaaTabMZ
import Derived.Test.YteoepnadjkjlmaaTabMath
import Derived.Lib.QuietBelow
import Derived.BigQuiet
import Derived.Test.YteoepnadjkjlmaaRowOkZ
import Derived.Lib.ItoaLen
import Derived.Lib.Strings
import Derived.Laws.Strings2
import Derived.Laws.IdiomStrings
namespace Go.Proofs.Yteoepnadjkjlmaa
open Go.RowKit Go.Sort
set_option linter.unusedVariables false

theorem same_is_row (b : Bool) (A A' : Option Addr) (c c' : Nat) (r r' : Row) (w : World) (hb : b = true ↔ r = r') (hr : RowAt w w.heap.size A r) (hr' : RowAt w w.heap.size A' r') (hl : r.length ≤ 1048576) (hl' : r'.length ≤ 1048576) :
    Calls Try.prog 36 #[.slice A r.length c, .slice A' r'.length c'] w fun e w' => e = .returned (.bool b) ∧ Below w.heap.size w w' :=
  (same_row A A' c c' r r' w hr hr' hl hl').mono fun e w' ⟨b', he, hb', hB⟩ => ⟨by
    rw [he]
    have : b' = b := by
      have h := hb'.trans hb.symm
      cases b <;> cases b' <;> simp_all
    rw [this], hB⟩

set_option maxHeartbeats 800000 in
theorem same_table (A A' : Option Addr) (c c' : Nat) (rows : List Row) (w : World) (hr : TabAt w w.heap.size A rows) (hr' : TabAt w w.heap.size A' rows) (hl : rows.length ≤ 1048576) (hlr : ∀ r ∈ rows, r.length ≤ 1048576) :
    Calls Try.prog 18 #[.slice A rows.length c, .slice A' rows.length c'] w fun e w' => e = .returned (.bool true) ∧ Below w.heap.size w w' := by
  go_enter Try.func18, Try.ntmps18
  go_wp2
  go_loopw [5] (fun i w' => ∃ k : Nat, k ≤ rows.length ∧ i = .int .i64 k ∧ Below w.heap.size w w') (fun i _ => rows.length - (intOf i).toNat)
  case atStart => exact ⟨0, Nat.zero_le _, rfl, Below.refl _ _⟩
  case round =>
    obtain ⟨k, hk, rfl, hB⟩ := hrel
    by_cases hlt : k < rows.length
    · obtain ⟨g, o, A1, c1, rfl, hg, hc1, hr1⟩ := (hr.to_ hB).at_ hlt
      obtain ⟨g', o', A2, c2, rfl, hg', hc2, hr2⟩ := (hr'.to_ hB).at_ hlt
      have hi0 : (0 : Int) ≤ (k : Int) := Int.natCast_nonneg _
      have hi1 : (k : Int) < (rows.length : Int) := by omega
      have hm := hlr _ (List.getElem_mem hlt)
      have q0 := cell_regrown hc1
      have q1 := cell_regrown hc2
      clear hc1 hc2
      go_wp2_with fail
      refine wp_region_quiet_below (by kernel_rfl) (by kernel_rfl) ?_
      repeat (go_big_quiet_step (first
        | (go_at_call 36; exact Calls.regrown_of (same_is_row true A1 A2 c1 c2 rows[k] rows[k] _ (by simp) (hr1.to_ (below_regrown wr _ _)) (hr2.to_ (below_regrown wr _ _)) hm hm))))
      refine wpQuiet_nil ?_
      intro _ hw'
      obtain ⟨⟨dq, osq⟩, hw''⟩ := hw'
      subst hw''
      have hB2 := below_next hB (below_regrown wr dq osq) rfl rfl
      generalize grow (redrawn wr dq) osq = wx at *
      clear q0 q1
      go_wp2_with fail
      go_roundw
      case rel => exact ⟨k + 1, by omega, by go_num, hB2⟩
      case measure => simp [intOf]; omega
    · go_wp2_with fail
      go_ret
      exact ⟨rfl, hB⟩

end Go.Proofs.Yteoepnadjkjlmaa
namespace Go.Proofs.Yteoepnadjkjlmaa
open Go.RowKit
set_option linter.unusedVariables false

theorem is_u8 (c d : UInt8) (n : Int) (hn : (d.toNat : Int) = n) : ((c.toNat : Int) == n) = decide (c = d) := by
  subst hn
  by_cases h : c = d
  · subst h; simp
  · rw [decide_eq_false h, beq_eq_false_iff_ne]
    intro e
    exact h (UInt8.toNat_inj.1 (by omega))
theorem extract_one (s : ByteArray) (k : Nat) (h : k < s.size) : s.extract k (k + 1) = ⟨#[s[k]]⟩ := by
  apply ByteArray.ext
  rw [ByteArray.data_extract]
  apply Array.toList_inj.1
  rw [Array.toList_extract, List.extract_eq_take_drop]
  have hk : k < s.data.toList.length := by simpa using h
  rw [List.drop_eq_getElem_cons hk]
  simp
  rfl
def escB (c : UInt8) : List UInt8 := if c = 34 ∨ c = 92 then [92, c] else [c]
def escL (l : List UInt8) : List UInt8 := l.flatMap escB
def quoteL (l : List UInt8) : List UInt8 := 34 :: (escL l ++ [34])
theorem escL_snoc (s : ByteArray) (k : Nat) (h : k < s.size) : escL (s.data.toList.take (k + 1)) = escL (s.data.toList.take k) ++ escB s[k] := by
  rw [take_snoc s k h]; simp [escL]
theorem escB_len (c : UInt8) : (escB c).length ≤ 2 := by unfold escB; split <;> simp
theorem escL_len (l : List UInt8) : (escL l).length ≤ 2 * l.length := by
  induction l with
  | nil => simp [escL]
  | cons c l ih => have := escB_len c; simp only [escL, List.flatMap_cons, List.length_append, List.length_cons] at *; omega
/-- The text form of a value. -/
def showL (v : GV) : List UInt8 := if v.k = 1 then Lib.itoa v.n else if v.k = 3 then 63 :: Lib.itoa v.n else quoteL v.t.data.toList
theorem ok_kind {v : GV} (h : okG v = true) : (v.k = 1 ∧ -1000000000 ≤ v.n ∧ v.n ≤ 1000000000 ∧ v.t = ByteArray.empty) ∨ (v.k = 2 ∧ v.n = 0 ∧ textOkB v.t = true) ∨ (v.k = 3 ∧ 1 ≤ v.n ∧ v.n ≤ 1000000000 ∧ v.t = ByteArray.empty) := by
  unfold okG valueOkB at h
  have emp : v.t.toList.isEmpty = true → v.t = ByteArray.empty := fun he => by
    rw [Lib.toList_data, List.isEmpty_iff] at he
    exact ByteArray.ext (Array.toList_inj.1 (by rw [he]; rfl))
  by_cases h1 : v.k = 1
  · rw [if_pos h1] at h; simp at h; exact .inl ⟨h1, h.1.1, h.1.2, emp (by simpa using h.2)⟩
  · rw [if_neg h1] at h
    by_cases h2 : v.k = 2
    · rw [if_pos h2] at h; simp at h; exact .inr (.inl ⟨h2, h.1, h.2⟩)
    · rw [if_neg h2] at h
      by_cases h3 : v.k = 3
      · rw [if_pos h3] at h; simp at h; exact .inr (.inr ⟨h3, h.1.1, h.1.2, emp (by simpa using h.2)⟩)
      · rw [if_neg h3] at h; simp at h
theorem text_size {t : ByteArray} (h : textOkB t = true) : t.size ≤ 60 := by unfold textOkB at h; simp at h; exact h.2
theorem showL_len {v : GV} (h : okG v = true) : (showL v).length ≤ 122 := by
  unfold showL
  rcases ok_kind h with ⟨hk, h0, h1, _⟩ | ⟨hk, _, ht⟩ | ⟨hk, h0, h1, _⟩
  · rw [if_pos hk]; have := Lib.itoa_length_le v.n (by omega) (by omega); omega
  · rw [if_neg (by omega), if_neg (by omega)]
    have h1 := escL_len v.t.data.toList
    have h2 := text_size ht
    have h3 : v.t.data.toList.length = v.t.size := by rw [Array.length_toList]; rfl
    simp only [quoteL, List.length_cons, List.length_append, List.length_nil]; omega
  · rw [if_neg (by omega), if_pos hk]; have := Lib.itoa_length_le v.n (by omega) (by omega); simp only [List.length_cons]; omega
theorem itoa_size (n : Int) : (⟨(Lib.itoa n).toArray⟩ : ByteArray).size = (Lib.itoa n).length := by show (Lib.itoa n).toArray.size = _; simp
theorem list_text (l : List UInt8) : (⟨l.toArray⟩ : ByteArray).data.toList = l := by simp
/-- What ShowValue answers. -/
def showV (v : GV) : ByteArray := if okG v = true then ⟨(showL v).toArray⟩ else ⟨#[]⟩
end Go.Proofs.Yteoepnadjkjlmaa
