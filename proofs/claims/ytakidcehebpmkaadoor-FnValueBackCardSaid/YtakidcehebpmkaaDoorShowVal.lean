/-
  impl.shownText: addValue; impl.ShowValue.
-/
import Derived.Test.YtakidcehebpmkaaDoorShowText
import Derived.Test.YtakidcehebpmkaaDoorShelf
import Derived.Lib.SmallJoins
import Derived.Lib.ItoaLen
namespace Go.Proofs.YtakidcehebpmkaaDoor
open Go.RowKit Go.Joins
set_option linter.unusedVariables false

/-- The table of powers that strconv reads lies as its initialiser lays it. -/
def PowTab (w : World) : Prop := Lib.TabIs Tryd.prog w "internal/strconv.uint64pow10" .u64 Lib.pow10Tab
theorem powNamed : Tryd.prog.globalNamed "internal/strconv.uint64pow10" = some 0 := by kernel_rfl
theorem PowTab.below {w w' : World} (h : PowTab w) (hb : Below w.heap.size w w') : PowTab w' := tab_stays powNamed h hb (Nat.le_refl _)

theorem PowTab.lt {w : World} (h : PowTab w) : 0 < w.heap.size := by
  unfold PowTab Lib.TabIs World.var? at h
  rw [powNamed] at h
  simp only [Option.bind_some] at h
  rcases Nat.lt_or_ge 0 w.heap.size with h' | h'
  · exact h'
  · rw [Array.getElem?_eq_none h'] at h; cases h
theorem PowTab.grown {w w' : World} {b : Nat} (h : PowTab w) (hg : w.grownBy w' (some b)) (hne : 0 < b) : PowTab w' := by
  have hlt := h.lt
  unfold PowTab Lib.TabIs World.var? at h ⊢
  rw [powNamed] at h ⊢
  simp only [Option.bind_some] at h ⊢
  rw [hg.block _ hlt (fun e => by injection e; omega)]
  exact h

theorem grow_below (w : World) (k : Nat) (os : Array Obj) : Below w.heap.size w (Sort.grow (w.drewN k) os) :=
  ⟨rfl, rfl, rfl, by simp [Sort.grow, World.drewN], fun i hi => by simp [Sort.grow, World.drewN, Array.getElem?_append, hi]⟩

theorem fmt_int (n : Int) (w : World) (h0 : -9223372036854775808 ≤ n) (h1 : n ≤ 9223372036854775807) (ht : PowTab w) :
    Calls Tryd.prog 54 #[.int .i64 n, .int .i64 10] w fun e w' => e = .returned (.string ⟨(Lib.itoa n).toArray⟩) ∧ Below w.heap.size w w' :=
  (Tryd.strconv_FormatInt_10 n h0 h1 w ht).mono fun e w' ⟨he, k, os, hw⟩ => ⟨he, by rw [hw]; exact grow_below w k os⟩

/-- The text form of a value. -/
def showL (v : GV) : List UInt8 := if v.k = 1 then Lib.itoa v.n else if v.k = 3 then 63 :: Lib.itoa v.n else quoteL v.t.data.toList

theorem ok_kind {v : GV} (h : okG v = true) : (v.k = 1 ∧ -1000000000 ≤ v.n ∧ v.n ≤ 1000000000 ∧ v.t = ByteArray.empty) ∨ (v.k = 2 ∧ v.n = 0 ∧ textOkB v.t = true) ∨ (v.k = 3 ∧ 1 ≤ v.n ∧ v.n ≤ 1000000000 ∧ v.t = ByteArray.empty) := by
  unfold okG valueOkB at h
  have emp : v.t.toList.isEmpty = true → v.t = ByteArray.empty := fun he => by
    rw [Lib.toList_data, List.isEmpty_iff] at he
    exact ByteArray.ext (Array.toList_inj.1 (by rw [he]; rfl))
  by_cases h1 : v.k = 1
  · rw [if_pos h1] at h; simp at h; exact .inl ⟨h1, h.1.1, h.1.2, emp (by simpa using h.2)⟩
  · rw [if_neg h1] at h
    by_cases h2 : v.k = 2
    · rw [if_pos h2] at h; simp at h; exact .inr (.inl ⟨h2, h.1, h.2⟩)
    · rw [if_neg h2] at h
      by_cases h3 : v.k = 3
      · rw [if_pos h3] at h; simp at h; exact .inr (.inr ⟨h3, h.1.1, h.1.2, emp (by simpa using h.2)⟩)
      · rw [if_neg h3] at h; simp at h
theorem text_size {t : ByteArray} (h : textOkB t = true) : t.size ≤ 60 := by unfold textOkB at h; simp at h; exact h.2
theorem showL_len {v : GV} (h : okG v = true) : (showL v).length ≤ 122 := by
  unfold showL
  rcases ok_kind h with ⟨hk, h0, h1, _⟩ | ⟨hk, _, ht⟩ | ⟨hk, h0, h1, _⟩
  · rw [if_pos hk]; have := Lib.itoa_length_le v.n (by omega) (by omega); omega
  · rw [if_neg (by omega), if_neg (by omega)]
    have h1 := escL_len v.t.data.toList
    have h2 := text_size ht
    have h3 : v.t.data.toList.length = v.t.size := by rw [Array.length_toList]; rfl
    simp only [quoteL, List.length_cons, List.length_append, List.length_nil]; omega
  · rw [if_neg (by omega), if_pos hk]; have := Lib.itoa_length_le v.n (by omega) (by omega); simp only [List.length_cons]; omega

theorem grown_alloc {w : World} {b : Nat} (o : Obj) : w.grownBy (w.alloc o) (some b) := World.grownBy_alloc w o _
theorem grown_below {w w' : World} {b : Nat} (h : Below w.heap.size w w') : w.grownBy w' (some b) := ⟨h.os, h.tape, h.output, h.size, fun k hk _ => h.block k hk⟩
theorem itoa_size (n : Int) : (⟨(Lib.itoa n).toArray⟩ : ByteArray).size = (Lib.itoa n).length := by show (Lib.itoa n).toArray.size = _; simp

set_option maxRecDepth 100000 in
set_option maxHeartbeats 1600000 in
theorem add_value (b : Nat) (l : List UInt8) (v : GV) (w : World) (hb : Shown w b l) (hok : okG v = true) (hl : l.length + 122 ≤ 992) (ht : PowTab w) (hbg : 0 < b) :
    Calls Tryd.prog 33 #[.pointer (some ⟨b, 0, none⟩), .agg #[.int .i64 v.k, .int .i64 v.n, .string v.t]] w (AddPost w b (l ++ showL v)) := by
  have hB1 : Below w.heap.size w (w.alloc (.cells #[.int .i64 v.k, .int .i64 v.n, .string v.t] 26)) := (Below.refl _ _).alloc (Nat.le_refl _) _
  have hb1 := hb.below hB1 hb.lt
  have ht1 := ht.below hB1
  have hbl := hb.lt
  rcases ok_kind hok with ⟨hk, h0, h1, hte⟩ | ⟨hk, hn, htx⟩ | ⟨hk, h0, h1, hte⟩
  · have hs := Lib.hid (show showL v = Lib.itoa v.n by unfold showL; rw [if_pos hk])
    have hil := Lib.itoa_length_le v.n (by omega) (by omega)
    have hk1 : (v.k == 1) = true := by simp [hk]
    have hsz := itoa_size v.n
    clear hk hte
    go_enter Tryd.func33, Tryd.ntmps33
    go_wp2_with fail
    refine (fmt_int v.n _ (by omega) (by omega) ht1).mono ?_
    rintro e w2 ⟨rfl, hb2⟩
    go_wp2_with fail
    refine (add_text b l ⟨(Lib.itoa v.n).toArray⟩ _ (hb1.below hb2 (by simp; omega)) (by rw [hsz]; omega) (by omega)).mono ?_
    rintro e w3 ⟨rfl, hb3, hg3⟩
    go_wp2_with fail
    go_end0
    exact ⟨rfl, by rw [hs.out]; exact hb3, grown_next (grown_below (below_next hB1 hb2 rfl rfl)) hg3⟩
  · have hs := Lib.hid (show showL v = quoteL v.t.data.toList by unfold showL; rw [if_neg (by omega), if_neg (by omega)])
    have hk1 : (v.k == 1) = false := by simp [hk]
    have hk2 : (v.k == 2) = true := by simp [hk]
    have hsz := text_size htx
    clear hk hn
    go_enter Tryd.func33, Tryd.ntmps33
    go_wp2_with fail
    refine (add_quoted b l v.t _ hb1 hsz (by omega)).mono ?_
    rintro e w3 ⟨rfl, hb3, hg3⟩
    go_wp2_with fail
    go_end0
    exact ⟨rfl, by rw [hs.out]; exact hb3, grown_next (grown_below hB1) hg3⟩
  · have hs := Lib.hid (show showL v = 63 :: Lib.itoa v.n by unfold showL; rw [if_neg (by omega), if_pos hk])
    have hil := Lib.itoa_length_le v.n (by omega) (by omega)
    have hk1 : (v.k == 1) = false := by simp [hk]
    have hk2 : (v.k == 2) = false := by simp [hk]
    have hk3 : (v.k == 3) = true := by simp [hk]
    have hsz := itoa_size v.n
    clear hk hte
    go_enter Tryd.func33, Tryd.ntmps33
    go_wp2_with fail
    refine (add_text b l ⟨#[63]⟩ _ hb1 (by show _ + 1 ≤ 992; omega) (by omega)).mono ?_
    rintro e w2 ⟨rfl, hb2, hg2⟩
    have hc2 : w2.cell? ⟨w.heap.size, 1, none⟩ = some (.int .i64 v.n) := by
      rw [World.cell?_of_block (hg2.block w.heap.size (by simp) (by simp; omega))]; go_simp
    go_wp2_with fail
    refine (fmt_int v.n _ (by omega) (by omega) (ht1.grown hg2 hbg)).mono ?_
    rintro e w3 ⟨rfl, hb3⟩
    go_wp2_with fail
    refine (add_text b (l ++ [63]) ⟨(Lib.itoa v.n).toArray⟩ _ (hb2.below hb3 (by have := hg2.size; simp at this; omega)) (by rw [hsz]; simp only [List.length_append, List.length_cons, List.length_nil]; omega) (by simp only [List.length_append, List.length_cons, List.length_nil]; omega)).mono ?_
    rintro e w4 ⟨rfl, hb4, hg4⟩
    go_wp2_with fail
    go_end0
    exact ⟨rfl, by rw [hs.out]; simpa using hb4, grown_next (grown_next (grown_below hB1) hg2) (grown_next (grown_below hb3) hg4)⟩

theorem list_text (l : List UInt8) : (⟨l.toArray⟩ : ByteArray).data.toList = l := by simp

/-- What ShowValue answers. -/
def showV (v : GV) : ByteArray := if okG v = true then ⟨(showL v).toArray⟩ else ⟨#[]⟩

set_option maxHeartbeats 800000 in
theorem impl_show (v : GV) (w : World) (hv : v.t.size ≤ maxLen) (ht : PowTab w) :
    Calls Tryd.prog 9 #[.agg #[.int .i64 v.k, .int .i64 v.n, .string v.t]] w fun e w' => e = .returned (.string (showV v)) ∧ Below w.heap.size w w' := by
  by_cases hok : okG v = true
  · have H := Lib.hid (show showV v = ⟨(showL v).toArray⟩ by unfold showV; rw [if_pos hok])
    have hlt := ht.lt
    go_enter Tryd.func9, Tryd.ntmps9
    go_wp2_with fail
    refine (impl_value _ _ _ _ hv).mono ?_
    rintro e w1 ⟨rfl, hb1⟩
    have hk : valueOkB v.k v.n v.t = true := hok
    obtain ⟨hc1, hf1⟩ := bcell hb1
    have hz1 : w.heap.size < w1.heap.size := by have := hb1.size; simp at this; omega
    have hB1 : Below w.heap.size w w1 := ((Below.refl _ _).alloc (Nat.le_refl _) _).trans (hb1.mono (by simp))
    go_wp2_with fail
    have hsh := shown_new w1
    have hB2 : Below w.heap.size w (w1.alloc (.cells Tryd.zeroCells55 55)) := hB1.alloc (by omega) _
    refine (add_value w1.heap.size [] v _ hsh hok (by simp) (ht.below hB2) (by omega)).mono ?_
    rintro e w2 ⟨rfl, hb2, hg2⟩
    have hB3 : Below w.heap.size w w2 := hB2.grown hg2 (by simp; omega) (fun k hk => by injection hk; omega)
    go_wp2_with fail
    refine (text_of w1.heap.size _ _ hb2).mono ?_
    rintro e w3 ⟨rfl, hb3⟩
    have hB4 := hB3.trans (hb3.mono (by have := hg2.size; simp at this; omega))
    go_wp2_with fail
    go_ret
    exact ⟨by rw [H.out]; rfl, hB4⟩
  · have H := Lib.hid (show showV v = ⟨#[]⟩ by unfold showV; rw [if_neg hok])
    rw [Bool.not_eq_true] at hok
    have hk : valueOkB v.k v.n v.t = false := hok
    go_enter Tryd.func9, Tryd.ntmps9
    go_wp2_with fail
    refine (impl_value _ _ _ _ hv).mono ?_
    rintro e w1 ⟨rfl, hb1⟩
    have hB1 : Below w.heap.size w w1 := ((Below.refl _ _).alloc (Nat.le_refl _) _).trans (hb1.mono (by simp))
    go_wp2_with fail
    go_ret
    exact ⟨by rw [H.out]; rfl, hB1⟩
end Go.Proofs.YtakidcehebpmkaaDoor
