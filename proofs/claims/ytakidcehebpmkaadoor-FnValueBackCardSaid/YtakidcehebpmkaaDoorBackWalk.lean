/-
  The walk of laws.FnValueBack at two slices of at most 1<<20 bytes.
-/
import Derived.Test.YtakidcehebpmkaaDoorRowReadS
import Derived.Test.YtakidcehebpmkaaDoorDrawText
import Derived.Test.YtakidcehebpmkaaDoorSame
import Derived.Test.YtakidcehebpmkaaDoorOrder
import Derived.Test.YtakidcehebpmkaaDoorCards
import Derived.Test.YtakidcehebpmkaaDoorTie
namespace Go.Proofs.YtakidcehebpmkaaDoor.valueBack
open Go.ChangeShapes Go.WideShapes Go.ChangeAt Go.RowKit
set_option linter.unusedVariables false

theorem pow_only : (Rows.fnValueBackRow.laid.filter fun x => x.1 == "internal/strconv.uint64pow10") = [("internal/strconv.uint64pow10", Lib.tabData .u64 Lib.pow10Tab)] := by kernel_rfl
theorem bad_only : (Rows.fnValueBackRow.laid.filter fun x => x.1 == "strconv.ErrSyntax") = [("strconv.ErrSyntax", .iface "*errors.errorString" (.ptr (.agg [.lit (.string badText.data.toList)])))] := by kernel_rfl
theorem far_only : (Rows.fnValueBackRow.laid.filter fun x => x.1 == "strconv.ErrRange") = [("strconv.ErrRange", .iface "*errors.errorString" (.ptr (.agg [.lit (.string farText.data.toList)])))] := by kernel_rfl

theorem _root_.Go.Proofs.YtakidcehebpmkaaDoor.BAt.up {w : World} {B B' : Nat} {A : Option Addr} {xs : List UInt8} (h : BAt w B A xs) (hB : B ≤ B') : BAt w B' A xs := by
  rcases h with h | ⟨g, o, hA, hg, hc⟩
  · exact .inl h
  · exact .inr ⟨g, o, hA, by omega, hc⟩
theorem ans_same {l : List UInt8} {r r' : List GV} {b b' : Bool} (h : RowAns l r b) (h' : RowAns l r' b') : r' = r ∧ b' = b := by
  rcases h with ⟨rfl, h1, h2, h3⟩ | ⟨rfl, rfl, h1⟩
  · rcases h' with ⟨rfl, k1, k2, k3⟩ | ⟨rfl, rfl, k1⟩
    · exact ⟨h3 _ k1 k2, rfl⟩
    · exact absurd h2 (k1 _ h1)
  · rcases h' with ⟨rfl, k1, k2, k3⟩ | ⟨rfl, rfl, k1⟩
    · exact absurd k2 (h1 _ k1)
    · exact ⟨rfl, rfl⟩
theorem ans_len {l : List UInt8} {r : List GV} {b : Bool} (h : RowAns l r b) : r.length ≤ 8 ∧ ∀ v ∈ r, v.t.size ≤ maxLen := by
  rcases h with ⟨_, h1, _, _⟩ | ⟨_, rfl, _⟩
  · exact ⟨(row_ok h1).2, fun v hv => ok_size ((row_ok h1).1 v hv)⟩
  · simp
set_option maxHeartbeats 400000 in
theorem big_is (A : Option Addr) (n c : Nat) (w : World) :
    Calls Tryd.prog 8 #[.slice A n c] w fun e w' => e = .returned (.bool (decide (1048576 < n))) ∧ w = w' := by
  go_enter Tryd.func8, Tryd.ntmps8
  go_wp2_with fail
  go_ret
  exact ⟨ret_bool (by rw [decide_eq_decide]; omega), rfl⟩
theorem minus7 : showV ⟨1, -7, ⟨#[]⟩⟩ = ⟨#[45, 55]⟩ := by
  have h : okG ⟨1, -7, ⟨#[]⟩⟩ = true := by unfold okG valueOkB; simp [Lib.toList_data]
  unfold showV
  rw [if_pos h, show_int rfl]
  have e : Lib.itoa (-7) = [45, 55] := by
    have := itoa_neg 7 (by omega)
    rw [digits_small 7 (by omega)] at this
    exact this
  rw [e]
theorem showV_size (v : GV) : (showV v).size ≤ 122 := by
  unfold showV
  split
  · rename_i h; rw [size_le (list_text _)]; exact showL_len h
  · exact Nat.zero_le _
theorem showV_data {v : GV} (h : okG v = true) : (showV v).data.toList = showL v := by unfold showV; rw [if_pos h]
theorem showR_data {r : List GV} (h : rowOkB r = true) : (showR r).data.toList = showRowL r := by unfold showR; rw [if_pos h]
theorem ans_show {r r1 : List GV} {b : Bool} (h : rowOkB r = true) (ha : RowAns (showR r).data.toList r1 b) : b = true ∧ r1 = r := by
  rw [showR_data h] at ha
  rcases ha with ⟨hb, _, _, ho⟩ | ⟨_, _, hn⟩
  · exact ⟨hb, (ho r h rfl).symm⟩
  · exact absurd rfl (hn r h)

theorem ans_eq {s : ByteArray} {r : List GV} (h : RowAns s.data.toList r true) : showR r = s := by
  rcases h with ⟨_, h1, h2, _⟩ | ⟨h, _⟩
  · exact (show_row_eq h1 s).2 h2
  · cases h
theorem show_full {r : List GV} (h : rowOkB r = true) : ¬ (showR r).toList = [] ∧ (showR r).toList.isEmpty = false := by
  have e : ¬ (showR r).toList = [] := by rw [Lib.toList_data, showR_data h]; simp [showRowL]
  exact ⟨e, by rw [List.isEmpty_eq_false_iff]; exact e⟩
theorem show_none {r : List GV} (h : ¬ rowOkB r = true) : (showR r).toList = [] ∧ (showR r).toList.isEmpty = true := by
  have e : (showR r).toList = [] := by rw [Lib.toList_data]; unfold showR; rw [if_neg h]
  exact ⟨e, by rw [e]; rfl⟩
theorem cmpI_b (a b : Int) : -1 ≤ cmpI a b ∧ cmpI a b ≤ 1 := by unfold cmpI; split <;> (try split) <;> omega
theorem cmpT_b (a b : ByteArray) : -1 ≤ cmpT a b ∧ cmpT a b ≤ 1 := by unfold cmpT; split <;> (try split) <;> omega
theorem cmpG_b (a b : GV) : -1 ≤ cmpG a b ∧ cmpG a b ≤ 1 := by
  have h1 := cmpI_b a.k b.k
  have h2 := cmpI_b a.n b.n
  have h3 := cmpT_b a.t b.t
  unfold cmpG cmpV or3; split <;> (try split) <;> omega
theorem cmpR_b : ∀ a b : List GV, -1 ≤ cmpR a b ∧ cmpR a b ≤ 1
  | [], [] => by simp [cmpR]
  | [], _ :: _ => by simp [cmpR]
  | _ :: _, [] => by simp [cmpR]
  | a :: x, b :: y => by
    rw [cmpR]; split
    · exact cmpR_b x y
    · exact cmpG_b a b
theorem le_trans3 {a b d : List GV} (h1 : cmpR a b ≤ 0) (h2 : cmpR b d ≤ 0) : cmpR a d ≤ 0 := by
  rcases Int.lt_or_eq_of_le h1 with h1 | h1
  · rcases Int.lt_or_eq_of_le h2 with h2 | h2
    · exact Int.le_of_lt (good_cmpR.trans a b d h1 h2)
    · rw [← (good_cmpR.eq b d).1 h2]; exact Int.le_of_lt h1
  · rw [(good_cmpR.eq a b).1 h1]; exact h2
set_option maxRecDepth 100000 in
set_option maxHeartbeats 6400000 in
theorem main (A A' : Option Addr) (c c' : Nat) (xs ys : List UInt8) (w : World) (hx : BAt w w.heap.size A xs) (hy : BAt w w.heap.size A' ys) (hl : xs.length ≤ 1048576) (hl' : ys.length ≤ 1048576) (hE : Errs w) (hT : PowTab w) :
    Calls Tryd.prog 3 #[.slice A xs.length c, .slice A' ys.length c'] w fun e w' => e = .returned (.bool true) ∧ Below w.heap.size w w' := by
  have hd1 : decide (1048576 < xs.length) = false := by simp; omega
  have hd2 : decide (1048576 < ys.length) = false := by simp; omega
  go_enter Tryd.func3, Tryd.ntmps3
  go_wp2_with fail
  refine (big_is A xs.length c _).mono ?_
  rintro e w0 ⟨rfl, rfl⟩
  rw [hd1]
  go_wp2_with fail
  refine (big_is A' ys.length c' _).mono ?_
  rintro e w0 ⟨rfl, rfl⟩
  rw [hd2]
  go_wp2_with fail
  refine (impl_show ⟨1, -7, ⟨#[]⟩⟩ _ (Nat.zero_le _) hT).mono ?_
  rintro e w1 ⟨rfl, hB1⟩
  rw [minus7]
  go_wp2_with fail
  refine (draw_showValue A c xs _ ((hx.below hB1 (Nat.le_refl _)).up hB1.size) hl).mono ?_
  rintro e w2 ⟨v, rfl, hvt, hb2⟩
  have hB2 := below_next hB1 hb2 rfl rfl
  have hvm : v.t.size ≤ maxLen := by unfold maxLen; omega
  have hgd := guardV
  have hBa := hB2.alloc hB2.size (.cells #[.int .i64 v.k, .int .i64 v.n, .string v.t] 26)
  have hWa := Lib.hid (Whole.new w2 26 [.int .i64 v.k, .int .i64 v.n, .string v.t])
  clear hb2 hB1 hB2
  unfold VV
  go_wp2_with fail
  refine (impl_show v _ hvm (hT.below hBa)).mono ?_
  rintro e w3 ⟨rfl, hb3⟩
  have hB3 := below_next hBa hb3 rfl rfl
  have hW3 := Lib.hid (hWa.out.below hb3 hWa.out.lt)
  have hsv := showV_size v
  clear hb3 hBa hWa
  go_wp2_with fail
  refine (impl_read (showV v) _ (by omega) (hE.below hB3) (hT.below hB3)).mono ?_
  rintro e w4 ⟨rfl, hb4⟩
  have hB4 := below_next hB3 hb4 rfl rfl
  have hW4 := Lib.hid (hW3.out.below hb4 hW3.out.lt)
  obtain ⟨c0, c1, c2⟩ := cells3_ hW4.out
  have hz4 := hW4.out.lt
  have hfacts := Lib.hid (fun h : okG v = true => (show readB (showV v).data.toList = true ∧ readV (showV v).data.toList = v by rw [showV_data h]; exact read_show h))
  generalize readV (showV v).data.toList = q at *
  generalize readB (showV v).data.toList = bq at *
  have hBb := hB4.alloc hB4.size (.cells #[.int .i64 q.k, .int .i64 q.n, .string q.t] 26)
  have hWb1 := Lib.hid (hW4.out.below (w' := w4.alloc (.cells #[.int .i64 q.k, .int .i64 q.n, .string q.t] 26)) ((Below.refl w4.heap.size _).alloc (Nat.le_refl _) _) hz4)
  have hWb2 := Lib.hid (Whole.new w4 26 [.int .i64 q.k, .int .i64 q.n, .string q.t])
  clear hb4 hB3 hW3 hB4 hW4
  unfold VV
  go_wp2_with fail
  refine (spec_value v.k v.n v.t _ hvm).mono ?_
  rintro e w5 ⟨rfl, hb5⟩
  have hB5 := below_next hBb hb5 rfl rfl
  obtain ⟨d0, d1, d2⟩ := cells3_ (hWb1.out.below hb5 hWb1.out.lt)
  obtain ⟨e0, e1, e2⟩ := cells3_ (hWb2.out.below hb5 hWb2.out.lt)
  clear hb5 hBb hWb1 hWb2 c0 c1 c2
  generalize hok : valueOkB v.k v.n v.t = ok
  have hok' : okG v = ok := hok
  cases ok with
  | true =>
    obtain ⟨hbq, hqv⟩ := hfacts.out hok'
    subst hbq hqv
    clear hok hok' hfacts
    go_wp2_with fail
    refine (draw_showRow A c xs _ ((hx.below hB5 (Nat.le_refl _)).up hB5.size) hl).mono ?_
    rintro e w6 ⟨u6, r, rfl, hV6, hr6, ht6, hb6⟩
    obtain ⟨A6, c6, rfl, hR6⟩ := hV6.row
    have hB6 := below_next hB5 hb6 rfl rfl
    clear hB5 hb6 
    have HTM := Lib.hid (show ∀ v ∈ r, v.t.size ≤ maxLen from fun v hv => by have := ht6 v hv; unfold maxLen; omega)
    have hss := showR_size r
    clear hV6 ht6
    go_wp2_with fail
    refine (impl_showRow A6 c6 r _ hR6 (by omega) HTM.out (hT.below hB6)).mono ?_
    rintro e w7 ⟨rfl, hb7⟩
    have hB7 := below_next hB6 hb7 rfl rfl
    have hR7 := hR6.to_ hb7
    clear hB6 hb7 hR6
    go_wp2_with fail
    refine (impl_readRow (showR r) _ (by omega) (hE.below hB7) (hT.below hB7)).mono ?_
    rintro e w8 ⟨v8, r8, b8, rfl, hV8, hA8, hb8⟩
    obtain ⟨A8, c8, rfl, hQ8⟩ := hV8.row
    have hl8 := (ans_len hA8).1
    have HA8 := Lib.hid hA8
    have hB8 := below_next hB7 hb8 rfl rfl
    have hR8 := hR7.to_ hb8
    clear hB7 hb8 hR7
    clear hV8 hA8
    go_wp2_with fail
    refine (impl_showRow A6 c6 r _ hR8 (by omega) HTM.out (hT.below hB8)).mono ?_
    rintro e w9 ⟨rfl, hb9⟩
    have hB9 := below_next hB8 hb9 rfl rfl
    have hR9 := hR8.to_ hb9
    have hQ9 := hQ8.to_ hb9
    clear hB8 hb9 hR8 hQ8
    go_wp2_with fail
    refine (spec_showRow A6 c6 r _ hR9 (by omega) HTM.out).mono ?_
    rintro e w10 ⟨rfl, hb10⟩
    have hB10 := below_next hB9 hb10 rfl rfl
    have hR10 := hR9.to_ hb10
    have hQ10 := hQ9.to_ hb10
    clear hB9 hb10 hR9 hQ9
    by_cases hro : rowOkB r = true
    · obtain ⟨hb8t, hr8⟩ := ans_show hro HA8.out
      subst hb8t hr8
      obtain ⟨hS1, hS2⟩ := show_full hro
      clear HA8
      go_wp2_with fail
      refine (impl_showRow A6 c6 r8 _ hR10 (by omega) HTM.out (hT.below hB10)).mono ?_
      rintro e w11 ⟨rfl, hb11⟩
      have hB11 := below_next hB10 hb11 rfl rfl
      have hR11 := hR10.to_ hb11
      have hQ11 := hQ10.to_ hb11
      clear hB10 hb11 hR10 hQ10
      go_wp2_with fail
      refine (same_row A8 A6 c8 c6 r8 r8 _ hQ11 hR11 (by omega) (by omega)).mono ?_
      rintro e w12 ⟨bs, rfl, hbs, hb12⟩
      obtain rfl : bs = true := hbs.2 rfl
      have hB12 := below_next hB11 hb12 rfl rfl
      clear hB11 hb12 
      clear hbs hQ11 hR11 hS1 hS2 hss HTM
      go_wp2_with fail
      refine (draw_readRow A c xs _ ((hx.below hB12 (Nat.le_refl _)).up hB12.size) hl).mono ?_
      rintro e w14 ⟨T, rfl, hTs, hb14⟩
      have hB14 := below_next hB12 hb14 rfl rfl
      clear hB12 hb14 
      go_wp2_with fail
      refine (impl_readRow T _ (by omega) (hE.below hB14) (hT.below hB14)).mono ?_
      rintro e w15 ⟨vx, rx, bx, rfl, hVx, hAx, hb15⟩
      have HAx := Lib.hid hAx
      obtain ⟨Ax, cx, rfl, hRx15⟩ := hVx.row
      have hB15 := below_next hB14 hb15 rfl rfl
      clear hB14 hb15 
      clear hVx hAx
      go_wp2_with fail
      refine (spec_readRow T _ (by omega)).mono ?_
      rintro e w16 ⟨vy, ry, bz, rfl, hVy, hAy, hb16⟩
      obtain ⟨rfl, rfl⟩ := ans_same HAx.out hAy
      obtain ⟨Ay, cy, rfl, hRy16⟩ := hVy.row
      have hB16 := below_next hB15 hb16 rfl rfl
      have hRx16 := hRx15.to_ hb16
      clear hB15 hb16 hRx15
      clear hVy hAy hRy16
      obtain ⟨hlx, htx⟩ := ans_len HAx.out
      have HTX := Lib.hid htx
      clear htx
      cases bz with
      | true =>
        have hEq := ans_eq HAx.out
        go_wp2_with fail
        refine (impl_showRow Ax cx ry _ hRx16 (by omega) HTX.out (hT.below hB16)).mono ?_
        rintro e w17 ⟨rfl, hb17⟩
        have hB17 := below_next hB16 hb17 rfl rfl
        clear hB16 hb17 
        rw [hEq]
        clear hEq HTX hRx16
        go_wp2_with fail
        refine (draw_twoRows A c xs _ ((hx.below hB17 (Nat.le_refl _)).up hB17.size) hl).mono ?_
        rintro e w20 ⟨ua, ub, rfl, ra, rb, hVa, hVb, hla, hlb, hta, htb, hb20⟩
        have hB20 := below_next hB17 hb20 rfl rfl
        obtain ⟨Aa, ca, rfl, hRa20⟩ := hVa.row
        obtain ⟨Ab, cb, rfl, hRb20⟩ := hVb.row
        clear hb20 hVa hVb hta htb
        go_wp2_with fail
        refine (draw_twoRows A' c' ys _ ((hy.below hB20 (Nat.le_refl _)).up hB20.size) hl').mono ?_
        rintro e w21 ⟨uc, ud, rfl, rc, rd, hVc, hVd, hlc, hld, htc, htd, hb21⟩
        obtain ⟨Ac, cc, rfl, hRc21⟩ := hVc.row
        obtain ⟨Ad, cd, rfl, hRd21⟩ := hVd.row
        have hB21 := below_next hB20 hb21 rfl rfl
        have hRa21 := hRa20.to_ hb21
        have hRb21 := hRb20.to_ hb21
        clear hB20 hb21 hRa20 hRb20
        clear hVc hVd htc htd hRd21
        go_wp2_with fail
        refine (impl_rows Aa Ab ca cb ra rb _ hRa21 hRb21 (by omega) (by omega)).mono ?_
        rintro e w22 ⟨rfl, hb22⟩
        have hB22 := below_next hB21 hb22 rfl rfl
        have hRa22 := hRa21.to_ hb22
        have hRb22 := hRb21.to_ hb22
        have hRc22 := hRc21.to_ hb22
        clear hB21 hb22 hRa21 hRb21 hRc21
        go_wp2_with fail
        refine (impl_rows Ab Aa cb ca rb ra _ hRb22 hRa22 (by omega) (by omega)).mono ?_
        rintro e w23 ⟨rfl, hb23⟩
        have hB23 := below_next hB22 hb23 rfl rfl
        have hRa23 := hRa22.to_ hb23
        have hRb23 := hRb22.to_ hb23
        have hRc23 := hRc22.to_ hb23
        clear hB22 hb23 hRa22 hRb22 hRc22
        rw [good_cmpR.anti ra rb]
        have hbd := cmpR_b ra rb
        have hx0 := Lib.hid (good_cmpR.eq ra rb)
        have hle := Lib.hid (fun h1 h2 => le_trans3 (a := ra) (b := rb) (d := rc) h1 h2)
        generalize cmpR ra rb = x at *
        obtain ⟨hbd1, hbd2⟩ := hbd
        have hnn : - -x = x := by omega
        go_wp2_with fail
        refine (same_row Aa Ab ca cb ra rb _ hRa23 hRb23 (by omega) (by omega)).mono ?_
        rintro e w24 ⟨bs, rfl, hbs, hb24⟩
        have hB24 := below_next hB23 hb24 rfl rfl
        have hRa24 := hRa23.to_ hb24
        have hRb24 := hRb23.to_ hb24
        have hRc24 := hRc23.to_ hb24
        clear hB23 hb24 hRa23 hRb23 hRc23
        have hbx : bs = (x == 0) := by
          have h1 := hx0.out
          cases bs with
          | true => have := h1.2 (hbs.1 rfl); simp [this]
          | false =>
            have : ¬ x = 0 := fun e => by have := hbs.2 (h1.1 e); cases this
            symm; simpa using this
        subst hbx
        clear hbs
        by_cases hpos : 0 < x
        · go_wp2_with fail
          go_ret
          exact ⟨rfl, hB24⟩
        · go_wp2_with fail
          refine (impl_rows Ab Ac cb cc rb rc _ hRb24 hRc24 (by omega) (by omega)).mono ?_
          rintro e w25 ⟨rfl, hb25⟩
          have hB25 := below_next hB24 hb25 rfl rfl
          have hRa25 := hRa24.to_ hb25
          have hRb25 := hRb24.to_ hb25
          have hRc25 := hRc24.to_ hb25
          clear hB24 hb25 hRa24 hRb24 hRc24
          generalize hyy : cmpR rb rc = y at *
          by_cases hpos2 : 0 < y
          · go_wp2_with fail
            go_ret
            exact ⟨rfl, hB25⟩
          · go_wp2_with fail
            refine (impl_rows Aa Ac ca cc ra rc _ hRa25 hRc25 (by omega) (by omega)).mono ?_
            rintro e w26 ⟨rfl, hb26⟩
            have hB26 := below_next hB25 hb26 rfl rfl
            have hz := hle.out (by omega) (by omega)
            generalize cmpR ra rc = z at *
            go_wp2_with fail
            go_ret
            exact ⟨rfl, hB26⟩
      | false =>
        clear HTX hRx16
        go_wp2_with fail
        refine (draw_twoRows A c xs _ ((hx.below hB16 (Nat.le_refl _)).up hB16.size) hl).mono ?_
        rintro e w20 ⟨ua, ub, rfl, ra, rb, hVa, hVb, hla, hlb, hta, htb, hb20⟩
        have hB20 := below_next hB16 hb20 rfl rfl
        obtain ⟨Aa, ca, rfl, hRa20⟩ := hVa.row
        obtain ⟨Ab, cb, rfl, hRb20⟩ := hVb.row
        clear hb20 hVa hVb hta htb
        go_wp2_with fail
        refine (draw_twoRows A' c' ys _ ((hy.below hB20 (Nat.le_refl _)).up hB20.size) hl').mono ?_
        rintro e w21 ⟨uc, ud, rfl, rc, rd, hVc, hVd, hlc, hld, htc, htd, hb21⟩
        obtain ⟨Ac, cc, rfl, hRc21⟩ := hVc.row
        obtain ⟨Ad, cd, rfl, hRd21⟩ := hVd.row
        have hB21 := below_next hB20 hb21 rfl rfl
        have hRa21 := hRa20.to_ hb21
        have hRb21 := hRb20.to_ hb21
        clear hB20 hb21 hRa20 hRb20
        clear hVc hVd htc htd hRd21
        go_wp2_with fail
        refine (impl_rows Aa Ab ca cb ra rb _ hRa21 hRb21 (by omega) (by omega)).mono ?_
        rintro e w22 ⟨rfl, hb22⟩
        have hB22 := below_next hB21 hb22 rfl rfl
        have hRa22 := hRa21.to_ hb22
        have hRb22 := hRb21.to_ hb22
        have hRc22 := hRc21.to_ hb22
        clear hB21 hb22 hRa21 hRb21 hRc21
        go_wp2_with fail
        refine (impl_rows Ab Aa cb ca rb ra _ hRb22 hRa22 (by omega) (by omega)).mono ?_
        rintro e w23 ⟨rfl, hb23⟩
        have hB23 := below_next hB22 hb23 rfl rfl
        have hRa23 := hRa22.to_ hb23
        have hRb23 := hRb22.to_ hb23
        have hRc23 := hRc22.to_ hb23
        clear hB22 hb23 hRa22 hRb22 hRc22
        rw [good_cmpR.anti ra rb]
        have hbd := cmpR_b ra rb
        have hx0 := Lib.hid (good_cmpR.eq ra rb)
        have hle := Lib.hid (fun h1 h2 => le_trans3 (a := ra) (b := rb) (d := rc) h1 h2)
        generalize cmpR ra rb = x at *
        obtain ⟨hbd1, hbd2⟩ := hbd
        have hnn : - -x = x := by omega
        go_wp2_with fail
        refine (same_row Aa Ab ca cb ra rb _ hRa23 hRb23 (by omega) (by omega)).mono ?_
        rintro e w24 ⟨bs, rfl, hbs, hb24⟩
        have hB24 := below_next hB23 hb24 rfl rfl
        have hRa24 := hRa23.to_ hb24
        have hRb24 := hRb23.to_ hb24
        have hRc24 := hRc23.to_ hb24
        clear hB23 hb24 hRa23 hRb23 hRc23
        have hbx : bs = (x == 0) := by
          have h1 := hx0.out
          cases bs with
          | true => have := h1.2 (hbs.1 rfl); simp [this]
          | false =>
            have : ¬ x = 0 := fun e => by have := hbs.2 (h1.1 e); cases this
            symm; simpa using this
        subst hbx
        clear hbs
        by_cases hpos : 0 < x
        · go_wp2_with fail
          go_ret
          exact ⟨rfl, hB24⟩
        · go_wp2_with fail
          refine (impl_rows Ab Ac cb cc rb rc _ hRb24 hRc24 (by omega) (by omega)).mono ?_
          rintro e w25 ⟨rfl, hb25⟩
          have hB25 := below_next hB24 hb25 rfl rfl
          have hRa25 := hRa24.to_ hb25
          have hRb25 := hRb24.to_ hb25
          have hRc25 := hRc24.to_ hb25
          clear hB24 hb25 hRa24 hRb24 hRc24
          generalize hyy : cmpR rb rc = y at *
          by_cases hpos2 : 0 < y
          · go_wp2_with fail
            go_ret
            exact ⟨rfl, hB25⟩
          · go_wp2_with fail
            refine (impl_rows Aa Ac ca cc ra rc _ hRa25 hRc25 (by omega) (by omega)).mono ?_
            rintro e w26 ⟨rfl, hb26⟩
            have hB26 := below_next hB25 hb26 rfl rfl
            have hz := hle.out (by omega) (by omega)
            generalize cmpR ra rc = z at *
            go_wp2_with fail
            go_ret
            exact ⟨rfl, hB26⟩
    · obtain ⟨hS1, hS2⟩ := show_none hro
      clear HA8
      go_wp2_with fail
      refine (impl_showRow A6 c6 r _ hR10 (by omega) HTM.out (hT.below hB10)).mono ?_
      rintro e w11 ⟨rfl, hb11⟩
      have hB11 := below_next hB10 hb11 rfl rfl
      clear hB10 hb11 
      clear hR10 hQ10 hss HTM
      go_wp2_with fail
      refine (draw_readRow A c xs _ ((hx.below hB11 (Nat.le_refl _)).up hB11.size) hl).mono ?_
      rintro e w14 ⟨T, rfl, hTs, hb14⟩
      have hB14 := below_next hB11 hb14 rfl rfl
      clear hB11 hb14 
      go_wp2_with fail
      refine (impl_readRow T _ (by omega) (hE.below hB14) (hT.below hB14)).mono ?_
      rintro e w15 ⟨vx, rx, bx, rfl, hVx, hAx, hb15⟩
      have HAx := Lib.hid hAx
      obtain ⟨Ax, cx, rfl, hRx15⟩ := hVx.row
      have hB15 := below_next hB14 hb15 rfl rfl
      clear hB14 hb15 
      clear hVx hAx
      go_wp2_with fail
      refine (spec_readRow T _ (by omega)).mono ?_
      rintro e w16 ⟨vy, ry, bz, rfl, hVy, hAy, hb16⟩
      obtain ⟨rfl, rfl⟩ := ans_same HAx.out hAy
      obtain ⟨Ay, cy, rfl, hRy16⟩ := hVy.row
      have hB16 := below_next hB15 hb16 rfl rfl
      have hRx16 := hRx15.to_ hb16
      clear hB15 hb16 hRx15
      clear hVy hAy hRy16
      obtain ⟨hlx, htx⟩ := ans_len HAx.out
      have HTX := Lib.hid htx
      clear htx
      cases bz with
      | true =>
        have hEq := ans_eq HAx.out
        go_wp2_with fail
        refine (impl_showRow Ax cx ry _ hRx16 (by omega) HTX.out (hT.below hB16)).mono ?_
        rintro e w17 ⟨rfl, hb17⟩
        have hB17 := below_next hB16 hb17 rfl rfl
        clear hB16 hb17 
        rw [hEq]
        clear hEq HTX hRx16
        go_wp2_with fail
        refine (draw_twoRows A c xs _ ((hx.below hB17 (Nat.le_refl _)).up hB17.size) hl).mono ?_
        rintro e w20 ⟨ua, ub, rfl, ra, rb, hVa, hVb, hla, hlb, hta, htb, hb20⟩
        have hB20 := below_next hB17 hb20 rfl rfl
        obtain ⟨Aa, ca, rfl, hRa20⟩ := hVa.row
        obtain ⟨Ab, cb, rfl, hRb20⟩ := hVb.row
        clear hb20 hVa hVb hta htb
        go_wp2_with fail
        refine (draw_twoRows A' c' ys _ ((hy.below hB20 (Nat.le_refl _)).up hB20.size) hl').mono ?_
        rintro e w21 ⟨uc, ud, rfl, rc, rd, hVc, hVd, hlc, hld, htc, htd, hb21⟩
        obtain ⟨Ac, cc, rfl, hRc21⟩ := hVc.row
        obtain ⟨Ad, cd, rfl, hRd21⟩ := hVd.row
        have hB21 := below_next hB20 hb21 rfl rfl
        have hRa21 := hRa20.to_ hb21
        have hRb21 := hRb20.to_ hb21
        clear hB20 hb21 hRa20 hRb20
        clear hVc hVd htc htd hRd21
        go_wp2_with fail
        refine (impl_rows Aa Ab ca cb ra rb _ hRa21 hRb21 (by omega) (by omega)).mono ?_
        rintro e w22 ⟨rfl, hb22⟩
        have hB22 := below_next hB21 hb22 rfl rfl
        have hRa22 := hRa21.to_ hb22
        have hRb22 := hRb21.to_ hb22
        have hRc22 := hRc21.to_ hb22
        clear hB21 hb22 hRa21 hRb21 hRc21
        go_wp2_with fail
        refine (impl_rows Ab Aa cb ca rb ra _ hRb22 hRa22 (by omega) (by omega)).mono ?_
        rintro e w23 ⟨rfl, hb23⟩
        have hB23 := below_next hB22 hb23 rfl rfl
        have hRa23 := hRa22.to_ hb23
        have hRb23 := hRb22.to_ hb23
        have hRc23 := hRc22.to_ hb23
        clear hB22 hb23 hRa22 hRb22 hRc22
        rw [good_cmpR.anti ra rb]
        have hbd := cmpR_b ra rb
        have hx0 := Lib.hid (good_cmpR.eq ra rb)
        have hle := Lib.hid (fun h1 h2 => le_trans3 (a := ra) (b := rb) (d := rc) h1 h2)
        generalize cmpR ra rb = x at *
        obtain ⟨hbd1, hbd2⟩ := hbd
        have hnn : - -x = x := by omega
        go_wp2_with fail
        refine (same_row Aa Ab ca cb ra rb _ hRa23 hRb23 (by omega) (by omega)).mono ?_
        rintro e w24 ⟨bs, rfl, hbs, hb24⟩
        have hB24 := below_next hB23 hb24 rfl rfl
        have hRa24 := hRa23.to_ hb24
        have hRb24 := hRb23.to_ hb24
        have hRc24 := hRc23.to_ hb24
        clear hB23 hb24 hRa23 hRb23 hRc23
        have hbx : bs = (x == 0) := by
          have h1 := hx0.out
          cases bs with
          | true => have := h1.2 (hbs.1 rfl); simp [this]
          | false =>
            have : ¬ x = 0 := fun e => by have := hbs.2 (h1.1 e); cases this
            symm; simpa using this
        subst hbx
        clear hbs
        by_cases hpos : 0 < x
        · go_wp2_with fail
          go_ret
          exact ⟨rfl, hB24⟩
        · go_wp2_with fail
          refine (impl_rows Ab Ac cb cc rb rc _ hRb24 hRc24 (by omega) (by omega)).mono ?_
          rintro e w25 ⟨rfl, hb25⟩
          have hB25 := below_next hB24 hb25 rfl rfl
          have hRa25 := hRa24.to_ hb25
          have hRb25 := hRb24.to_ hb25
          have hRc25 := hRc24.to_ hb25
          clear hB24 hb25 hRa24 hRb24 hRc24
          generalize hyy : cmpR rb rc = y at *
          by_cases hpos2 : 0 < y
          · go_wp2_with fail
            go_ret
            exact ⟨rfl, hB25⟩
          · go_wp2_with fail
            refine (impl_rows Aa Ac ca cc ra rc _ hRa25 hRc25 (by omega) (by omega)).mono ?_
            rintro e w26 ⟨rfl, hb26⟩
            have hB26 := below_next hB25 hb26 rfl rfl
            have hz := hle.out (by omega) (by omega)
            generalize cmpR ra rc = z at *
            go_wp2_with fail
            go_ret
            exact ⟨rfl, hB26⟩
      | false =>
        clear HTX hRx16
        go_wp2_with fail
        refine (draw_twoRows A c xs _ ((hx.below hB16 (Nat.le_refl _)).up hB16.size) hl).mono ?_
        rintro e w20 ⟨ua, ub, rfl, ra, rb, hVa, hVb, hla, hlb, hta, htb, hb20⟩
        have hB20 := below_next hB16 hb20 rfl rfl
        obtain ⟨Aa, ca, rfl, hRa20⟩ := hVa.row
        obtain ⟨Ab, cb, rfl, hRb20⟩ := hVb.row
        clear hb20 hVa hVb hta htb
        go_wp2_with fail
        refine (draw_twoRows A' c' ys _ ((hy.below hB20 (Nat.le_refl _)).up hB20.size) hl').mono ?_
        rintro e w21 ⟨uc, ud, rfl, rc, rd, hVc, hVd, hlc, hld, htc, htd, hb21⟩
        obtain ⟨Ac, cc, rfl, hRc21⟩ := hVc.row
        obtain ⟨Ad, cd, rfl, hRd21⟩ := hVd.row
        have hB21 := below_next hB20 hb21 rfl rfl
        have hRa21 := hRa20.to_ hb21
        have hRb21 := hRb20.to_ hb21
        clear hB20 hb21 hRa20 hRb20
        clear hVc hVd htc htd hRd21
        go_wp2_with fail
        refine (impl_rows Aa Ab ca cb ra rb _ hRa21 hRb21 (by omega) (by omega)).mono ?_
        rintro e w22 ⟨rfl, hb22⟩
        have hB22 := below_next hB21 hb22 rfl rfl
        have hRa22 := hRa21.to_ hb22
        have hRb22 := hRb21.to_ hb22
        have hRc22 := hRc21.to_ hb22
        clear hB21 hb22 hRa21 hRb21 hRc21
        go_wp2_with fail
        refine (impl_rows Ab Aa cb ca rb ra _ hRb22 hRa22 (by omega) (by omega)).mono ?_
        rintro e w23 ⟨rfl, hb23⟩
        have hB23 := below_next hB22 hb23 rfl rfl
        have hRa23 := hRa22.to_ hb23
        have hRb23 := hRb22.to_ hb23
        have hRc23 := hRc22.to_ hb23
        clear hB22 hb23 hRa22 hRb22 hRc22
        rw [good_cmpR.anti ra rb]
        have hbd := cmpR_b ra rb
        have hx0 := Lib.hid (good_cmpR.eq ra rb)
        have hle := Lib.hid (fun h1 h2 => le_trans3 (a := ra) (b := rb) (d := rc) h1 h2)
        generalize cmpR ra rb = x at *
        obtain ⟨hbd1, hbd2⟩ := hbd
        have hnn : - -x = x := by omega
        go_wp2_with fail
        refine (same_row Aa Ab ca cb ra rb _ hRa23 hRb23 (by omega) (by omega)).mono ?_
        rintro e w24 ⟨bs, rfl, hbs, hb24⟩
        have hB24 := below_next hB23 hb24 rfl rfl
        have hRa24 := hRa23.to_ hb24
        have hRb24 := hRb23.to_ hb24
        have hRc24 := hRc23.to_ hb24
        clear hB23 hb24 hRa23 hRb23 hRc23
        have hbx : bs = (x == 0) := by
          have h1 := hx0.out
          cases bs with
          | true => have := h1.2 (hbs.1 rfl); simp [this]
          | false =>
            have : ¬ x = 0 := fun e => by have := hbs.2 (h1.1 e); cases this
            symm; simpa using this
        subst hbx
        clear hbs
        by_cases hpos : 0 < x
        · go_wp2_with fail
          go_ret
          exact ⟨rfl, hB24⟩
        · go_wp2_with fail
          refine (impl_rows Ab Ac cb cc rb rc _ hRb24 hRc24 (by omega) (by omega)).mono ?_
          rintro e w25 ⟨rfl, hb25⟩
          have hB25 := below_next hB24 hb25 rfl rfl
          have hRa25 := hRa24.to_ hb25
          have hRb25 := hRb24.to_ hb25
          have hRc25 := hRc24.to_ hb25
          clear hB24 hb25 hRa24 hRb24 hRc24
          generalize hyy : cmpR rb rc = y at *
          by_cases hpos2 : 0 < y
          · go_wp2_with fail
            go_ret
            exact ⟨rfl, hB25⟩
          · go_wp2_with fail
            refine (impl_rows Aa Ac ca cc ra rc _ hRa25 hRc25 (by omega) (by omega)).mono ?_
            rintro e w26 ⟨rfl, hb26⟩
            have hB26 := below_next hB25 hb26 rfl rfl
            have hz := hle.out (by omega) (by omega)
            generalize cmpR ra rc = z at *
            go_wp2_with fail
            go_ret
            exact ⟨rfl, hB26⟩
  | false =>
    clear hok hok' hfacts
    go_wp2_with fail
    refine (draw_showRow A c xs _ ((hx.below hB5 (Nat.le_refl _)).up hB5.size) hl).mono ?_
    rintro e w6 ⟨u6, r, rfl, hV6, hr6, ht6, hb6⟩
    obtain ⟨A6, c6, rfl, hR6⟩ := hV6.row
    have hB6 := below_next hB5 hb6 rfl rfl
    clear hB5 hb6 
    have HTM := Lib.hid (show ∀ v ∈ r, v.t.size ≤ maxLen from fun v hv => by have := ht6 v hv; unfold maxLen; omega)
    have hss := showR_size r
    clear hV6 ht6
    go_wp2_with fail
    refine (impl_showRow A6 c6 r _ hR6 (by omega) HTM.out (hT.below hB6)).mono ?_
    rintro e w7 ⟨rfl, hb7⟩
    have hB7 := below_next hB6 hb7 rfl rfl
    have hR7 := hR6.to_ hb7
    clear hB6 hb7 hR6
    go_wp2_with fail
    refine (impl_readRow (showR r) _ (by omega) (hE.below hB7) (hT.below hB7)).mono ?_
    rintro e w8 ⟨v8, r8, b8, rfl, hV8, hA8, hb8⟩
    obtain ⟨A8, c8, rfl, hQ8⟩ := hV8.row
    have hl8 := (ans_len hA8).1
    have HA8 := Lib.hid hA8
    have hB8 := below_next hB7 hb8 rfl rfl
    have hR8 := hR7.to_ hb8
    clear hB7 hb8 hR7
    clear hV8 hA8
    go_wp2_with fail
    refine (impl_showRow A6 c6 r _ hR8 (by omega) HTM.out (hT.below hB8)).mono ?_
    rintro e w9 ⟨rfl, hb9⟩
    have hB9 := below_next hB8 hb9 rfl rfl
    have hR9 := hR8.to_ hb9
    have hQ9 := hQ8.to_ hb9
    clear hB8 hb9 hR8 hQ8
    go_wp2_with fail
    refine (spec_showRow A6 c6 r _ hR9 (by omega) HTM.out).mono ?_
    rintro e w10 ⟨rfl, hb10⟩
    have hB10 := below_next hB9 hb10 rfl rfl
    have hR10 := hR9.to_ hb10
    have hQ10 := hQ9.to_ hb10
    clear hB9 hb10 hR9 hQ9
    by_cases hro : rowOkB r = true
    · obtain ⟨hb8t, hr8⟩ := ans_show hro HA8.out
      subst hb8t hr8
      obtain ⟨hS1, hS2⟩ := show_full hro
      clear HA8
      go_wp2_with fail
      refine (impl_showRow A6 c6 r8 _ hR10 (by omega) HTM.out (hT.below hB10)).mono ?_
      rintro e w11 ⟨rfl, hb11⟩
      have hB11 := below_next hB10 hb11 rfl rfl
      have hR11 := hR10.to_ hb11
      have hQ11 := hQ10.to_ hb11
      clear hB10 hb11 hR10 hQ10
      go_wp2_with fail
      refine (same_row A8 A6 c8 c6 r8 r8 _ hQ11 hR11 (by omega) (by omega)).mono ?_
      rintro e w12 ⟨bs, rfl, hbs, hb12⟩
      obtain rfl : bs = true := hbs.2 rfl
      have hB12 := below_next hB11 hb12 rfl rfl
      clear hB11 hb12 
      clear hbs hQ11 hR11 hS1 hS2 hss HTM
      go_wp2_with fail
      refine (draw_readRow A c xs _ ((hx.below hB12 (Nat.le_refl _)).up hB12.size) hl).mono ?_
      rintro e w14 ⟨T, rfl, hTs, hb14⟩
      have hB14 := below_next hB12 hb14 rfl rfl
      clear hB12 hb14 
      go_wp2_with fail
      refine (impl_readRow T _ (by omega) (hE.below hB14) (hT.below hB14)).mono ?_
      rintro e w15 ⟨vx, rx, bx, rfl, hVx, hAx, hb15⟩
      have HAx := Lib.hid hAx
      obtain ⟨Ax, cx, rfl, hRx15⟩ := hVx.row
      have hB15 := below_next hB14 hb15 rfl rfl
      clear hB14 hb15 
      clear hVx hAx
      go_wp2_with fail
      refine (spec_readRow T _ (by omega)).mono ?_
      rintro e w16 ⟨vy, ry, bz, rfl, hVy, hAy, hb16⟩
      obtain ⟨rfl, rfl⟩ := ans_same HAx.out hAy
      obtain ⟨Ay, cy, rfl, hRy16⟩ := hVy.row
      have hB16 := below_next hB15 hb16 rfl rfl
      have hRx16 := hRx15.to_ hb16
      clear hB15 hb16 hRx15
      clear hVy hAy hRy16
      obtain ⟨hlx, htx⟩ := ans_len HAx.out
      have HTX := Lib.hid htx
      clear htx
      cases bz with
      | true =>
        have hEq := ans_eq HAx.out
        go_wp2_with fail
        refine (impl_showRow Ax cx ry _ hRx16 (by omega) HTX.out (hT.below hB16)).mono ?_
        rintro e w17 ⟨rfl, hb17⟩
        have hB17 := below_next hB16 hb17 rfl rfl
        clear hB16 hb17 
        rw [hEq]
        clear hEq HTX hRx16
        go_wp2_with fail
        refine (draw_twoRows A c xs _ ((hx.below hB17 (Nat.le_refl _)).up hB17.size) hl).mono ?_
        rintro e w20 ⟨ua, ub, rfl, ra, rb, hVa, hVb, hla, hlb, hta, htb, hb20⟩
        have hB20 := below_next hB17 hb20 rfl rfl
        obtain ⟨Aa, ca, rfl, hRa20⟩ := hVa.row
        obtain ⟨Ab, cb, rfl, hRb20⟩ := hVb.row
        clear hb20 hVa hVb hta htb
        go_wp2_with fail
        refine (draw_twoRows A' c' ys _ ((hy.below hB20 (Nat.le_refl _)).up hB20.size) hl').mono ?_
        rintro e w21 ⟨uc, ud, rfl, rc, rd, hVc, hVd, hlc, hld, htc, htd, hb21⟩
        obtain ⟨Ac, cc, rfl, hRc21⟩ := hVc.row
        obtain ⟨Ad, cd, rfl, hRd21⟩ := hVd.row
        have hB21 := below_next hB20 hb21 rfl rfl
        have hRa21 := hRa20.to_ hb21
        have hRb21 := hRb20.to_ hb21
        clear hB20 hb21 hRa20 hRb20
        clear hVc hVd htc htd hRd21
        go_wp2_with fail
        refine (impl_rows Aa Ab ca cb ra rb _ hRa21 hRb21 (by omega) (by omega)).mono ?_
        rintro e w22 ⟨rfl, hb22⟩
        have hB22 := below_next hB21 hb22 rfl rfl
        have hRa22 := hRa21.to_ hb22
        have hRb22 := hRb21.to_ hb22
        have hRc22 := hRc21.to_ hb22
        clear hB21 hb22 hRa21 hRb21 hRc21
        go_wp2_with fail
        refine (impl_rows Ab Aa cb ca rb ra _ hRb22 hRa22 (by omega) (by omega)).mono ?_
        rintro e w23 ⟨rfl, hb23⟩
        have hB23 := below_next hB22 hb23 rfl rfl
        have hRa23 := hRa22.to_ hb23
        have hRb23 := hRb22.to_ hb23
        have hRc23 := hRc22.to_ hb23
        clear hB22 hb23 hRa22 hRb22 hRc22
        rw [good_cmpR.anti ra rb]
        have hbd := cmpR_b ra rb
        have hx0 := Lib.hid (good_cmpR.eq ra rb)
        have hle := Lib.hid (fun h1 h2 => le_trans3 (a := ra) (b := rb) (d := rc) h1 h2)
        generalize cmpR ra rb = x at *
        obtain ⟨hbd1, hbd2⟩ := hbd
        have hnn : - -x = x := by omega
        go_wp2_with fail
        refine (same_row Aa Ab ca cb ra rb _ hRa23 hRb23 (by omega) (by omega)).mono ?_
        rintro e w24 ⟨bs, rfl, hbs, hb24⟩
        have hB24 := below_next hB23 hb24 rfl rfl
        have hRa24 := hRa23.to_ hb24
        have hRb24 := hRb23.to_ hb24
        have hRc24 := hRc23.to_ hb24
        clear hB23 hb24 hRa23 hRb23 hRc23
        have hbx : bs = (x == 0) := by
          have h1 := hx0.out
          cases bs with
          | true => have := h1.2 (hbs.1 rfl); simp [this]
          | false =>
            have : ¬ x = 0 := fun e => by have := hbs.2 (h1.1 e); cases this
            symm; simpa using this
        subst hbx
        clear hbs
        by_cases hpos : 0 < x
        · go_wp2_with fail
          go_ret
          exact ⟨rfl, hB24⟩
        · go_wp2_with fail
          refine (impl_rows Ab Ac cb cc rb rc _ hRb24 hRc24 (by omega) (by omega)).mono ?_
          rintro e w25 ⟨rfl, hb25⟩
          have hB25 := below_next hB24 hb25 rfl rfl
          have hRa25 := hRa24.to_ hb25
          have hRb25 := hRb24.to_ hb25
          have hRc25 := hRc24.to_ hb25
          clear hB24 hb25 hRa24 hRb24 hRc24
          generalize hyy : cmpR rb rc = y at *
          by_cases hpos2 : 0 < y
          · go_wp2_with fail
            go_ret
            exact ⟨rfl, hB25⟩
          · go_wp2_with fail
            refine (impl_rows Aa Ac ca cc ra rc _ hRa25 hRc25 (by omega) (by omega)).mono ?_
            rintro e w26 ⟨rfl, hb26⟩
            have hB26 := below_next hB25 hb26 rfl rfl
            have hz := hle.out (by omega) (by omega)
            generalize cmpR ra rc = z at *
            go_wp2_with fail
            go_ret
            exact ⟨rfl, hB26⟩
      | false =>
        clear HTX hRx16
        go_wp2_with fail
        refine (draw_twoRows A c xs _ ((hx.below hB16 (Nat.le_refl _)).up hB16.size) hl).mono ?_
        rintro e w20 ⟨ua, ub, rfl, ra, rb, hVa, hVb, hla, hlb, hta, htb, hb20⟩
        have hB20 := below_next hB16 hb20 rfl rfl
        obtain ⟨Aa, ca, rfl, hRa20⟩ := hVa.row
        obtain ⟨Ab, cb, rfl, hRb20⟩ := hVb.row
        clear hb20 hVa hVb hta htb
        go_wp2_with fail
        refine (draw_twoRows A' c' ys _ ((hy.below hB20 (Nat.le_refl _)).up hB20.size) hl').mono ?_
        rintro e w21 ⟨uc, ud, rfl, rc, rd, hVc, hVd, hlc, hld, htc, htd, hb21⟩
        obtain ⟨Ac, cc, rfl, hRc21⟩ := hVc.row
        obtain ⟨Ad, cd, rfl, hRd21⟩ := hVd.row
        have hB21 := below_next hB20 hb21 rfl rfl
        have hRa21 := hRa20.to_ hb21
        have hRb21 := hRb20.to_ hb21
        clear hB20 hb21 hRa20 hRb20
        clear hVc hVd htc htd hRd21
        go_wp2_with fail
        refine (impl_rows Aa Ab ca cb ra rb _ hRa21 hRb21 (by omega) (by omega)).mono ?_
        rintro e w22 ⟨rfl, hb22⟩
        have hB22 := below_next hB21 hb22 rfl rfl
        have hRa22 := hRa21.to_ hb22
        have hRb22 := hRb21.to_ hb22
        have hRc22 := hRc21.to_ hb22
        clear hB21 hb22 hRa21 hRb21 hRc21
        go_wp2_with fail
        refine (impl_rows Ab Aa cb ca rb ra _ hRb22 hRa22 (by omega) (by omega)).mono ?_
        rintro e w23 ⟨rfl, hb23⟩
        have hB23 := below_next hB22 hb23 rfl rfl
        have hRa23 := hRa22.to_ hb23
        have hRb23 := hRb22.to_ hb23
        have hRc23 := hRc22.to_ hb23
        clear hB22 hb23 hRa22 hRb22 hRc22
        rw [good_cmpR.anti ra rb]
        have hbd := cmpR_b ra rb
        have hx0 := Lib.hid (good_cmpR.eq ra rb)
        have hle := Lib.hid (fun h1 h2 => le_trans3 (a := ra) (b := rb) (d := rc) h1 h2)
        generalize cmpR ra rb = x at *
        obtain ⟨hbd1, hbd2⟩ := hbd
        have hnn : - -x = x := by omega
        go_wp2_with fail
        refine (same_row Aa Ab ca cb ra rb _ hRa23 hRb23 (by omega) (by omega)).mono ?_
        rintro e w24 ⟨bs, rfl, hbs, hb24⟩
        have hB24 := below_next hB23 hb24 rfl rfl
        have hRa24 := hRa23.to_ hb24
        have hRb24 := hRb23.to_ hb24
        have hRc24 := hRc23.to_ hb24
        clear hB23 hb24 hRa23 hRb23 hRc23
        have hbx : bs = (x == 0) := by
          have h1 := hx0.out
          cases bs with
          | true => have := h1.2 (hbs.1 rfl); simp [this]
          | false =>
            have : ¬ x = 0 := fun e => by have := hbs.2 (h1.1 e); cases this
            symm; simpa using this
        subst hbx
        clear hbs
        by_cases hpos : 0 < x
        · go_wp2_with fail
          go_ret
          exact ⟨rfl, hB24⟩
        · go_wp2_with fail
          refine (impl_rows Ab Ac cb cc rb rc _ hRb24 hRc24 (by omega) (by omega)).mono ?_
          rintro e w25 ⟨rfl, hb25⟩
          have hB25 := below_next hB24 hb25 rfl rfl
          have hRa25 := hRa24.to_ hb25
          have hRb25 := hRb24.to_ hb25
          have hRc25 := hRc24.to_ hb25
          clear hB24 hb25 hRa24 hRb24 hRc24
          generalize hyy : cmpR rb rc = y at *
          by_cases hpos2 : 0 < y
          · go_wp2_with fail
            go_ret
            exact ⟨rfl, hB25⟩
          · go_wp2_with fail
            refine (impl_rows Aa Ac ca cc ra rc _ hRa25 hRc25 (by omega) (by omega)).mono ?_
            rintro e w26 ⟨rfl, hb26⟩
            have hB26 := below_next hB25 hb26 rfl rfl
            have hz := hle.out (by omega) (by omega)
            generalize cmpR ra rc = z at *
            go_wp2_with fail
            go_ret
            exact ⟨rfl, hB26⟩
    · obtain ⟨hS1, hS2⟩ := show_none hro
      clear HA8
      go_wp2_with fail
      refine (impl_showRow A6 c6 r _ hR10 (by omega) HTM.out (hT.below hB10)).mono ?_
      rintro e w11 ⟨rfl, hb11⟩
      have hB11 := below_next hB10 hb11 rfl rfl
      clear hB10 hb11 
      clear hR10 hQ10 hss HTM
      go_wp2_with fail
      refine (draw_readRow A c xs _ ((hx.below hB11 (Nat.le_refl _)).up hB11.size) hl).mono ?_
      rintro e w14 ⟨T, rfl, hTs, hb14⟩
      have hB14 := below_next hB11 hb14 rfl rfl
      clear hB11 hb14 
      go_wp2_with fail
      refine (impl_readRow T _ (by omega) (hE.below hB14) (hT.below hB14)).mono ?_
      rintro e w15 ⟨vx, rx, bx, rfl, hVx, hAx, hb15⟩
      have HAx := Lib.hid hAx
      obtain ⟨Ax, cx, rfl, hRx15⟩ := hVx.row
      have hB15 := below_next hB14 hb15 rfl rfl
      clear hB14 hb15 
      clear hVx hAx
      go_wp2_with fail
      refine (spec_readRow T _ (by omega)).mono ?_
      rintro e w16 ⟨vy, ry, bz, rfl, hVy, hAy, hb16⟩
      obtain ⟨rfl, rfl⟩ := ans_same HAx.out hAy
      obtain ⟨Ay, cy, rfl, hRy16⟩ := hVy.row
      have hB16 := below_next hB15 hb16 rfl rfl
      have hRx16 := hRx15.to_ hb16
      clear hB15 hb16 hRx15
      clear hVy hAy hRy16
      obtain ⟨hlx, htx⟩ := ans_len HAx.out
      have HTX := Lib.hid htx
      clear htx
      cases bz with
      | true =>
        have hEq := ans_eq HAx.out
        go_wp2_with fail
        refine (impl_showRow Ax cx ry _ hRx16 (by omega) HTX.out (hT.below hB16)).mono ?_
        rintro e w17 ⟨rfl, hb17⟩
        have hB17 := below_next hB16 hb17 rfl rfl
        clear hB16 hb17 
        rw [hEq]
        clear hEq HTX hRx16
        go_wp2_with fail
        refine (draw_twoRows A c xs _ ((hx.below hB17 (Nat.le_refl _)).up hB17.size) hl).mono ?_
        rintro e w20 ⟨ua, ub, rfl, ra, rb, hVa, hVb, hla, hlb, hta, htb, hb20⟩
        have hB20 := below_next hB17 hb20 rfl rfl
        obtain ⟨Aa, ca, rfl, hRa20⟩ := hVa.row
        obtain ⟨Ab, cb, rfl, hRb20⟩ := hVb.row
        clear hb20 hVa hVb hta htb
        go_wp2_with fail
        refine (draw_twoRows A' c' ys _ ((hy.below hB20 (Nat.le_refl _)).up hB20.size) hl').mono ?_
        rintro e w21 ⟨uc, ud, rfl, rc, rd, hVc, hVd, hlc, hld, htc, htd, hb21⟩
        obtain ⟨Ac, cc, rfl, hRc21⟩ := hVc.row
        obtain ⟨Ad, cd, rfl, hRd21⟩ := hVd.row
        have hB21 := below_next hB20 hb21 rfl rfl
        have hRa21 := hRa20.to_ hb21
        have hRb21 := hRb20.to_ hb21
        clear hB20 hb21 hRa20 hRb20
        clear hVc hVd htc htd hRd21
        go_wp2_with fail
        refine (impl_rows Aa Ab ca cb ra rb _ hRa21 hRb21 (by omega) (by omega)).mono ?_
        rintro e w22 ⟨rfl, hb22⟩
        have hB22 := below_next hB21 hb22 rfl rfl
        have hRa22 := hRa21.to_ hb22
        have hRb22 := hRb21.to_ hb22
        have hRc22 := hRc21.to_ hb22
        clear hB21 hb22 hRa21 hRb21 hRc21
        go_wp2_with fail
        refine (impl_rows Ab Aa cb ca rb ra _ hRb22 hRa22 (by omega) (by omega)).mono ?_
        rintro e w23 ⟨rfl, hb23⟩
        have hB23 := below_next hB22 hb23 rfl rfl
        have hRa23 := hRa22.to_ hb23
        have hRb23 := hRb22.to_ hb23
        have hRc23 := hRc22.to_ hb23
        clear hB22 hb23 hRa22 hRb22 hRc22
        rw [good_cmpR.anti ra rb]
        have hbd := cmpR_b ra rb
        have hx0 := Lib.hid (good_cmpR.eq ra rb)
        have hle := Lib.hid (fun h1 h2 => le_trans3 (a := ra) (b := rb) (d := rc) h1 h2)
        generalize cmpR ra rb = x at *
        obtain ⟨hbd1, hbd2⟩ := hbd
        have hnn : - -x = x := by omega
        go_wp2_with fail
        refine (same_row Aa Ab ca cb ra rb _ hRa23 hRb23 (by omega) (by omega)).mono ?_
        rintro e w24 ⟨bs, rfl, hbs, hb24⟩
        have hB24 := below_next hB23 hb24 rfl rfl
        have hRa24 := hRa23.to_ hb24
        have hRb24 := hRb23.to_ hb24
        have hRc24 := hRc23.to_ hb24
        clear hB23 hb24 hRa23 hRb23 hRc23
        have hbx : bs = (x == 0) := by
          have h1 := hx0.out
          cases bs with
          | true => have := h1.2 (hbs.1 rfl); simp [this]
          | false =>
            have : ¬ x = 0 := fun e => by have := hbs.2 (h1.1 e); cases this
            symm; simpa using this
        subst hbx
        clear hbs
        by_cases hpos : 0 < x
        · go_wp2_with fail
          go_ret
          exact ⟨rfl, hB24⟩
        · go_wp2_with fail
          refine (impl_rows Ab Ac cb cc rb rc _ hRb24 hRc24 (by omega) (by omega)).mono ?_
          rintro e w25 ⟨rfl, hb25⟩
          have hB25 := below_next hB24 hb25 rfl rfl
          have hRa25 := hRa24.to_ hb25
          have hRb25 := hRb24.to_ hb25
          have hRc25 := hRc24.to_ hb25
          clear hB24 hb25 hRa24 hRb24 hRc24
          generalize hyy : cmpR rb rc = y at *
          by_cases hpos2 : 0 < y
          · go_wp2_with fail
            go_ret
            exact ⟨rfl, hB25⟩
          · go_wp2_with fail
            refine (impl_rows Aa Ac ca cc ra rc _ hRa25 hRc25 (by omega) (by omega)).mono ?_
            rintro e w26 ⟨rfl, hb26⟩
            have hB26 := below_next hB25 hb26 rfl rfl
            have hz := hle.out (by omega) (by omega)
            generalize cmpR ra rc = z at *
            go_wp2_with fail
            go_ret
            exact ⟨rfl, hB26⟩
      | false =>
        clear HTX hRx16
        go_wp2_with fail
        refine (draw_twoRows A c xs _ ((hx.below hB16 (Nat.le_refl _)).up hB16.size) hl).mono ?_
        rintro e w20 ⟨ua, ub, rfl, ra, rb, hVa, hVb, hla, hlb, hta, htb, hb20⟩
        have hB20 := below_next hB16 hb20 rfl rfl
        obtain ⟨Aa, ca, rfl, hRa20⟩ := hVa.row
        obtain ⟨Ab, cb, rfl, hRb20⟩ := hVb.row
        clear hb20 hVa hVb hta htb
        go_wp2_with fail
        refine (draw_twoRows A' c' ys _ ((hy.below hB20 (Nat.le_refl _)).up hB20.size) hl').mono ?_
        rintro e w21 ⟨uc, ud, rfl, rc, rd, hVc, hVd, hlc, hld, htc, htd, hb21⟩
        obtain ⟨Ac, cc, rfl, hRc21⟩ := hVc.row
        obtain ⟨Ad, cd, rfl, hRd21⟩ := hVd.row
        have hB21 := below_next hB20 hb21 rfl rfl
        have hRa21 := hRa20.to_ hb21
        have hRb21 := hRb20.to_ hb21
        clear hB20 hb21 hRa20 hRb20
        clear hVc hVd htc htd hRd21
        go_wp2_with fail
        refine (impl_rows Aa Ab ca cb ra rb _ hRa21 hRb21 (by omega) (by omega)).mono ?_
        rintro e w22 ⟨rfl, hb22⟩
        have hB22 := below_next hB21 hb22 rfl rfl
        have hRa22 := hRa21.to_ hb22
        have hRb22 := hRb21.to_ hb22
        have hRc22 := hRc21.to_ hb22
        clear hB21 hb22 hRa21 hRb21 hRc21
        go_wp2_with fail
        refine (impl_rows Ab Aa cb ca rb ra _ hRb22 hRa22 (by omega) (by omega)).mono ?_
        rintro e w23 ⟨rfl, hb23⟩
        have hB23 := below_next hB22 hb23 rfl rfl
        have hRa23 := hRa22.to_ hb23
        have hRb23 := hRb22.to_ hb23
        have hRc23 := hRc22.to_ hb23
        clear hB22 hb23 hRa22 hRb22 hRc22
        rw [good_cmpR.anti ra rb]
        have hbd := cmpR_b ra rb
        have hx0 := Lib.hid (good_cmpR.eq ra rb)
        have hle := Lib.hid (fun h1 h2 => le_trans3 (a := ra) (b := rb) (d := rc) h1 h2)
        generalize cmpR ra rb = x at *
        obtain ⟨hbd1, hbd2⟩ := hbd
        have hnn : - -x = x := by omega
        go_wp2_with fail
        refine (same_row Aa Ab ca cb ra rb _ hRa23 hRb23 (by omega) (by omega)).mono ?_
        rintro e w24 ⟨bs, rfl, hbs, hb24⟩
        have hB24 := below_next hB23 hb24 rfl rfl
        have hRa24 := hRa23.to_ hb24
        have hRb24 := hRb23.to_ hb24
        have hRc24 := hRc23.to_ hb24
        clear hB23 hb24 hRa23 hRb23 hRc23
        have hbx : bs = (x == 0) := by
          have h1 := hx0.out
          cases bs with
          | true => have := h1.2 (hbs.1 rfl); simp [this]
          | false =>
            have : ¬ x = 0 := fun e => by have := hbs.2 (h1.1 e); cases this
            symm; simpa using this
        subst hbx
        clear hbs
        by_cases hpos : 0 < x
        · go_wp2_with fail
          go_ret
          exact ⟨rfl, hB24⟩
        · go_wp2_with fail
          refine (impl_rows Ab Ac cb cc rb rc _ hRb24 hRc24 (by omega) (by omega)).mono ?_
          rintro e w25 ⟨rfl, hb25⟩
          have hB25 := below_next hB24 hb25 rfl rfl
          have hRa25 := hRa24.to_ hb25
          have hRb25 := hRb24.to_ hb25
          have hRc25 := hRc24.to_ hb25
          clear hB24 hb25 hRa24 hRb24 hRc24
          generalize hyy : cmpR rb rc = y at *
          by_cases hpos2 : 0 < y
          · go_wp2_with fail
            go_ret
            exact ⟨rfl, hB25⟩
          · go_wp2_with fail
            refine (impl_rows Aa Ac ca cc ra rc _ hRa25 hRc25 (by omega) (by omega)).mono ?_
            rintro e w26 ⟨rfl, hb26⟩
            have hB26 := below_next hB25 hb26 rfl rfl
            have hz := hle.out (by omega) (by omega)
            generalize cmpR ra rc = z at *
            go_wp2_with fail
            go_ret
            exact ⟨rfl, hB26⟩

end Go.Proofs.YtakidcehebpmkaaDoor.valueBack
