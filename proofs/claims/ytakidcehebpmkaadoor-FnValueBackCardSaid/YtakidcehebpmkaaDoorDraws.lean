/-
  spec.DrawShowValue, spec.DrawShowRow, spec.DrawCompareRows.
-/
import Derived.Test.YtakidcehebpmkaaDoorDrawAny
namespace Go.Proofs.YtakidcehebpmkaaDoor
open Go.RowKit Go.Sort
set_option linter.unusedVariables false

theorem st_new {w w1 : World} {A : Option Addr} {c : Nat} {xs : List UInt8} (hC : Cur w1 w.heap.size A c xs) (hx : BAt w w.heap.size A xs) (hb : Below w.heap.size w w1) : St w1 w.heap.size A c xs := ⟨hC, hx.below hb (Nat.le_refl _)⟩
theorem BAt.alloc {w : World} {A : Option Addr} {xs : List UInt8} (h : BAt w w.heap.size A xs) (o : Obj) : BAt (w.alloc o) (w.alloc o).heap.size A xs := by
  have := h.below (B' := w.heap.size) ((Below.refl w.heap.size w).alloc (Nat.le_refl _) o) (Nat.le_refl _)
  rcases this with h | ⟨g, o', hA, hg, hc⟩
  · exact .inl h
  · exact .inr ⟨g, o', hA, by simp; omega, hc⟩

set_option maxRecDepth 100000 in
set_option maxHeartbeats 600000 in
theorem draw_showValue (A : Option Addr) (c : Nat) (xs : List UInt8) (w : World) (hx : BAt w w.heap.size A xs) (hl : xs.length ≤ 1048576) :
    Calls Tryd.prog 10 #[.slice A xs.length c] w fun e w' => ∃ v : GV, e = .returned (VV v) ∧ v.t.size ≤ 100 ∧ Below w.heap.size w w' := by
  have hx0 := hx.alloc (.cells #[.int .i64 0, .int .i64 0, .string ⟨#[]⟩] 26)
  have hB0 : Below w.heap.size w (w.alloc (.cells #[.int .i64 0, .int .i64 0, .string ⟨#[]⟩] 26)) := (Below.refl _ _).alloc (Nat.le_refl _) _
  have hN := Lib.hid (new3 w)
  go_enter Tryd.func10, Tryd.ntmps10
  go_wp2_with fail
  refine (l1_new A c xs _ hx0 hl).mono ?_
  rintro e w1 ⟨rfl, hC, hb1⟩
  have hS1 := st_new hC hx0 hb1
  have hB1 := Lib.hid (below_next hB0 hb1 rfl rfl)
  have hN1 := Lib.hid (hN.out.below hb1 (by simp))
  have es : (w.alloc (.cells #[.int .i64 0, .int .i64 0, .string ⟨#[]⟩] 26)).heap.size = w.heap.size + 1 := by simp
  rw [es] at hS1
  clear hN hC hb1 es
  go_wp2_with fail
  refine (draw_any (w.heap.size + 1) A c xs _ hS1 hl).mono ?_
  rintro e w2 ⟨v, rfl, hvt, hS2, hG2⟩
  have hB2 := Lib.hid (hB1.out.grown hG2 hB1.out.size (fun k hk => by injection hk; omega))
  have hN2 := Lib.hid (hN1.out.drawn hG2 (by omega))
  obtain ⟨a0, a1, a2⟩ := cells3_ hN2.out
  obtain ⟨f0, f1, f2⟩ := frozen3 hN2.out
  unfold VV
  go_wp2_with fail
  obtain ⟨c0, c1, c2⟩ := cells3_ (put3 (.int .i64 v.k) (.int .i64 v.n) (.string v.t) hN2.out)
  have hY := below3 (.int .i64 v.k) (.int .i64 v.n) (.string v.t) hB2.out (Nat.le_refl _)
  generalize (((w2.setCell _ _).setCell _ _).setCell _ _) = w3 at c0 c1 c2 hY ⊢
  exact bodyPost_ret (v := VV v) (by simp [VV, results, Tryd.results10, go_sem, c0, c1, c2]) rfl ⟨v, rfl, hvt, hY⟩

/-- What a draw of a row by itself leaves. -/
def RowGot (w : World) (n : Nat) (u : Value) (r : List GV) (w' : World) : Prop := VRow w.heap.size w' u r ∧ r.length ≤ n ∧ (∀ v ∈ r, v.t.size ≤ 100) ∧ Below w.heap.size w w'

set_option maxRecDepth 100000 in
set_option maxHeartbeats 600000 in
theorem draw_showRow (A : Option Addr) (c : Nat) (xs : List UInt8) (w : World) (hx : BAt w w.heap.size A xs) (hl : xs.length ≤ 1048576) :
    Calls Tryd.prog 13 #[.slice A xs.length c] w fun e w' => ∃ u r, e = .returned u ∧ RowGot w 11 u r w' := by
  obtain ⟨i0, hi, hz0, hz1, hz2⟩ := info_parts infoV
  go_enter Tryd.func13, Tryd.ntmps13
  go_wp2_with fail
  refine (l1_new A c xs _ hx hl).mono ?_
  rintro e w1 ⟨rfl, hC, hb1⟩
  have hS1 := st_new hC hx hb1
  have hgl := hS1.lt
  clear hC
  go_wp2_with fail
  refine (l1_below w.heap.size A c xs 10 _ hS1.1 hS1.2 hl (by omega) (by omega)).mono ?_
  rintro e w2 ⟨n, rfl, hn, hD2⟩
  have hB2 := Lib.hid (hb1.grown hD2.2.2 hb1.size (fun k hk => by injection hk; omega))
  have hz2' := hB2.out.size
  have hgl2 : w.heap.size < w2.heap.size := hD2.1.lt
  go_wp2_with fail
  refine (draw_row w.heap.size A c xs n _ ⟨hD2.1, hD2.2.1⟩ hl (by omega)).mono ?_
  rintro e w3 ⟨u, r, rfl, ⟨a3, c3, rfl⟩, hV3, hr3, ht3, hS3, hG3⟩
  have hB3 := Lib.hid (hB2.out.grown hG3 hB2.out.size (fun k hk => by injection hk; omega))
  have hV3' := Lib.hid hV3
  have ht3' := Lib.hid ht3
  have hs3 := hG3.size
  clear hD2 hV3 ht3 hG3
  go_wp2_with fail
  refine (l1_once w.heap.size A c xs 8 _ hS3.1 hS3.2 hl (by omega) (by omega)).mono ?_
  rintro e w4 ⟨b, rfl, hD4⟩
  have hB4 := Lib.hid (hB3.out.grown hD4.2.2 hB3.out.size (fun k hk => by injection hk; omega))
  have hV4 := Lib.hid (hV3'.out.drawn hD4.2.2 hgl2)
  have hs4 := hD4.2.2.size
  cases b with
  | false =>
    go_wp2_with fail
    go_ret
    exact ⟨_, r, rfl, hV4.out.mono (by omega), by omega, ht3'.out, hB4.out⟩
  | true =>
    go_wp2_with fail
    refine (draw_any w.heap.size A c xs _ ⟨hD4.1, hD4.2.1⟩ hl).mono ?_
    rintro e w5 ⟨x, rfl, hxt, hS5, hG5⟩
    have hB5 := Lib.hid (hB4.out.grown hG5 hB4.out.size (fun k hk => by injection hk; omega))
    have hV5 := Lib.hid (hV4.out.drawn hG5 hgl2)
    have hz5 := hB5.out.size
    have hs5 := hG5.size
    have hz6 : w2.heap.size ≤ w5.heap.size := by omega
    clear hG5 hD4
    unfold VV
    go_wp2_with (first | (at_builtin; refine wpList_append_own _ rfl (.tmp 13) (.tmp 16) _ rfl w2.heap.size 26 i0 _ 3 32 Tryd.underlying31 hi hz0 hz1 hz2 rfl (by decide) _ _ _ rfl ((show w5.ownsRow w2.heap.size 26 3 (.slice (some ⟨a3, 0, none⟩) r.length c3) _ _ from hV5.out).alloc _) ⟨w5.heap.size, 0, none⟩ 1 1 [.int .i64 x.k, .int .i64 x.n, .string x.t] rfl rfl (news_three _ _ _ _ _) (one_three _ _ _) (by unfold maxLen; omega) (by omega) (by simp; omega) ?_; intro v2 w6 ho2 hg2 _; refine Hid.out ?_))
    refine Lib.hid ?_
    have hV6 : VRow w2.heap.size w6 v2 (r ++ [x]) := vrow_app ho2
    have hB6 := (hB5.out.alloc hz5 _).grown hg2 (by simp; omega) (fun k hk => by have := own_ge hV5.out k hk; omega)
    have HV6 := Lib.hid hV6
    have HB6 := Lib.hid hB6
    clear ho2 hg2 hV6 hB6
    go_wp2_with fail
    go_ret
    exact ⟨_, r ++ [x], rfl, HV6.out.mono (by omega), by simp; omega, fun v hv => by rcases List.mem_append.1 hv with h | h; exact ht3'.out v h; simp at h; rw [h]; exact hxt, HB6.out⟩
theorem vrow_nn {B : Nat} {w : World} {v : Value} {r : List GV} (h : VRow B w v r) (hr : v ≠ .slice none 0 0) : ∃ a cap, v = .slice (some ⟨a, 0, none⟩) r.length cap := by
  rcases h.2 with ⟨h0, _⟩ | ⟨g, cap, cur, rfl, _⟩
  · exact absurd h0 hr
  · exact ⟨g, cap, rfl⟩
/-- What a draw of two rows leaves. -/
def TwoRows (w w' : World) (ua ub : Value) : Prop := ∃ ra rb : List GV, VRow w.heap.size w' ua ra ∧ VRow w.heap.size w' ub rb ∧ ra.length ≤ 10 ∧ rb.length ≤ 10 ∧ (∀ v ∈ ra, v.t.size ≤ 100) ∧ (∀ v ∈ rb, v.t.size ≤ 100) ∧ Below w.heap.size w w'
theorem flat_one (r : List GV) : ∀ u ∈ flat r, u.oneCell' = true := by
  induction r with
  | nil => intro u hu; simp [flat] at hu
  | cons v r ih => intro u hu; simp [flat] at hu; rcases hu with rfl | rfl | rfl | h; rfl; rfl; rfl; exact ih u h
theorem vrow_cells {B : Nat} {w : World} {a cap : Nat} {r : List GV} (h : VRow B w (.slice (some ⟨a, 0, none⟩) r.length cap) r) : ∀ j u, (flat r)[j]? = some u → w.cell? ((⟨a, 0, none⟩ : Addr).add j) = some u := by
  rcases h.2 with ⟨h0, _⟩ | ⟨g, cap', cur, h0, hg, hh, hc1, hc2, hc3, hc4⟩
  · cases h0
  · injection h0 with h1 _ _
    injection h1 with h1
    injection h1 with h1 _ _
    subst h1
    intro j u hj
    have hjl : j < r.length * 3 := by have := (List.getElem?_eq_some_iff.1 hj).1; rwa [flat_length] at this
    have e : (⟨a, 0, none⟩ : Addr).add j = ⟨a, j, none⟩ := by unfold Addr.add; split <;> simp_all
    rw [e]
    have h2 : w.cell? ⟨a, j, none⟩ = cur.toList[j]? := by simp [World.cell?, hh]
    rw [h2, ← hj, ← hc4, List.getElem?_take_of_lt hjl]

set_option maxRecDepth 100000 in
set_option maxHeartbeats 800000 in
theorem draw_twoRows (A : Option Addr) (c : Nat) (xs : List UInt8) (w : World) (hx : BAt w w.heap.size A xs) (hl : xs.length ≤ 1048576) :
    Calls Tryd.prog 20 #[.slice A xs.length c] w fun e w' => ∃ ua ub, e = .returned (.tuple #[ua, ub]) ∧ TwoRows w w' ua ub := by
  obtain ⟨i0, hi, hz0, hz1, hz2⟩ := info_parts infoV
  go_enter Tryd.func20, Tryd.ntmps20
  go_wp2_with fail
  refine (l1_new A c xs _ hx hl).mono ?_
  rintro e w1 ⟨rfl, hC, hb1⟩
  have hS1 := st_new hC hx hb1
  have hgl := hS1.lt
  clear hC
  go_wp2_with fail
  refine (l1_below w.heap.size A c xs 4 _ hS1.1 hS1.2 hl (by omega) (by omega)).mono ?_
  rintro e w2 ⟨n, rfl, hn, hD2⟩
  have hB2 := Lib.hid (hb1.grown hD2.2.2 hb1.size (fun k hk => by injection hk; omega))
  have hgl2 : w.heap.size < w2.heap.size := hD2.1.lt
  go_wp2_with fail
  refine (draw_row w.heap.size A c xs n _ ⟨hD2.1, hD2.2.1⟩ hl (by omega)).mono ?_
  rintro e w3 ⟨u, r, rfl, ⟨a3, c3, rfl⟩, hV3, hr3, ht3, hS3, hG3⟩
  have hB3 := Lib.hid (hB2.out.grown hG3 hB2.out.size (fun k hk => by injection hk; omega))
  have hs3 := hG3.size
  have hgl3 : w.heap.size < w3.heap.size := hS3.lt
  have hV3 := Lib.hid hV3
  have ht3 := Lib.hid ht3
  clear hD2 hG3
  have hVn := Lib.hid (vrow_new w3)
  have hVx := Lib.hid (hV3.out.below (w' := w3.alloc (.cells #[] 26)) ((Below.refl _ _).alloc (Nat.le_refl _) _))
  go_wp2_with (first | (at_builtin; refine wpList_append_own _ rfl (.tmp 13) (.tmp 14) _ rfl w3.heap.size 26 i0 _ 3 32 Tryd.underlying31 hi hz0 hz1 hz2 rfl (by decide) _ _ _ rfl hVn.out ⟨a3, 0, none⟩ r.length c3 (flat r) rfl (flat_length r) (vrow_cells hVx.out) (flat_one r) (by simp [maxLen]; omega) (by simp; omega) (by simp) ?_; intro v4 w4 ho4 hg4 hnil; refine Hid.out ?_))
  refine Lib.hid ?_
  have hV4 : VRow w3.heap.size w4 v4 r := by unfold VRow; simpa [flat] using ho4
  obtain ⟨a4, c4, rfl⟩ := vrow_nn hV4 (fun e => by have := (hnil.1 e).1; cases this)
  have hB4 : RowKit.Below w3.heap.size w3 w4 := ((Below.refl _ _).alloc (Nat.le_refl _) _).grown hg4 (by simp) (own_ge hVn.out)
  have hS4 := hS3.low hB4 hgl3
  have hG4 := Lib.hid (show w3.grownBy w4 (some w.heap.size) from grown_own (World.grownBy_alloc w3 _ _) hg4 (own_ge hVn.out))
  have hV4 := Lib.hid hV4
  clear ho4 hg4 hnil hB4 hVn hVx
  go_wp2_with fail
  refine (l1_once w.heap.size A c xs 2 _ hS4.1 hS4.2 hl (by omega) (by omega)).mono ?_
  rintro e w5 ⟨b, rfl, hD5⟩
  have hG5 := Lib.hid (grown_to hG4.out hD5.2.2)
  have hV5 := Lib.hid (hV4.out.drawn hD5.2.2 hgl3)
  have hS5 : St w5 w.heap.size A c xs := ⟨hD5.1, hD5.2.1⟩
  clear hD5 hG4 hV4
  cases b with
  | false =>
    go_wp2_with fail
    refine (l1_once w.heap.size A c xs 3 _ hS5.1 hS5.2 hl (by omega) (by omega)).mono ?_
    rintro e wa ⟨b, rfl, hDa⟩
    have hGa := Lib.hid (grown_to hG5.out hDa.2.2)
    have hVa := Lib.hid (hV5.out.drawn hDa.2.2 hgl3)
    cases b with
    | false =>
      have hF := Lib.hid (show TwoRows w wa (.slice (some ⟨a3, 0, none⟩) r.length c3) (.slice (some ⟨a4, 0, none⟩) r.length c4) from ⟨r, r, (hV3.out.drawn hGa.out hgl2).mono (by omega), hVa.out.mono (by omega), by omega, by omega, ht3.out, ht3.out, hB3.out.grown hGa.out hB3.out.size (fun k hk => by injection hk; omega)⟩)
      go_wp2_with fail
      exact bodyPost_ret (v := .tuple #[.slice (some ⟨a3, 0, none⟩) r.length c3, .slice (some ⟨a4, 0, none⟩) r.length c4]) (by simp [results, Tryd.results20, go_sem]) rfl ⟨_, _, rfl, hF.out⟩
    | true =>
      go_wp2_with fail
      refine (draw_any w.heap.size A c xs _ ⟨hDa.1, hDa.2.1⟩ hl).mono ?_
      rintro e wb ⟨x, rfl, hxt, hSb, hGb⟩
      have hGc := Lib.hid (grown_to hGa.out hGb)
      have hVb := Lib.hid (hVa.out.drawn hGb hgl3)
      have hzb := hGc.out.size
      clear hDa hGb
      unfold VV
      go_wp2_with (first | (at_builtin; refine wpList_append_own _ rfl (.tmp 24) (.tmp 27) _ rfl w3.heap.size 26 i0 _ 3 32 Tryd.underlying31 hi hz0 hz1 hz2 rfl (by decide) _ _ _ rfl ((show wb.ownsRow w3.heap.size 26 3 (.slice (some ⟨a4, 0, none⟩) r.length c4) _ _ from hVb.out).alloc _) ⟨wb.heap.size, 0, none⟩ 1 1 [.int .i64 x.k, .int .i64 x.n, .string x.t] rfl rfl (news_three _ _ _ _ _) (one_three _ _ _) (by unfold maxLen; omega) (by omega) (by simp; omega) ?_; intro v2 wc ho2 hg2 _; refine Hid.out ?_))
      refine Lib.hid ?_
      have hVc : VRow w3.heap.size wc v2 (r ++ [x]) := vrow_app ho2
      have hGd := grown_own (grown_alloc2 hGc.out _) hg2 (own_ge hVb.out)
      have hF := Lib.hid (show TwoRows w wc (.slice (some ⟨a3, 0, none⟩) r.length c3) v2 from ⟨r, r ++ [x], (hV3.out.drawn hGd hgl2).mono (by omega), hVc.mono (by omega), by omega, by simp; omega, ht3.out, fun v hv => by rcases List.mem_append.1 hv with h | h; exact ht3.out v h; simp at h; rw [h]; exact hxt, hB3.out.grown hGd hB3.out.size (fun k hk => by injection hk; omega)⟩)
      clear ho2 hg2 hVc hGd
      go_wp2_with fail
      exact bodyPost_ret (v := .tuple #[.slice (some ⟨a3, 0, none⟩) r.length c3, v2]) (by simp [results, Tryd.results20, go_sem]) rfl ⟨_, _, rfl, hF.out⟩
  | true =>
    go_wp2_with fail
    refine (l1_below w.heap.size A c xs 4 _ hS5.1 hS5.2 hl (by omega) (by omega)).mono ?_
    rintro e w6 ⟨m, rfl, hm, hD6⟩
    have hG6 := Lib.hid (grown_to hG5.out hD6.2.2)
    have hz6 := hG6.out.size
    clear hV5 hG5
    go_wp2_with fail
    refine (draw_row w.heap.size A c xs m _ ⟨hD6.1, hD6.2.1⟩ hl (by omega)).mono ?_
    rintro e w8 ⟨u, r8, rfl, ⟨a8, c8, rfl⟩, hV8, hr8, ht8, hS8, hG8⟩
    have hG8 := Lib.hid (grown_to hG6.out hG8)
    have hV8 := Lib.hid (hV8.mono hz6)
    have ht8 := Lib.hid ht8
    clear hD6 hG6
    go_wp2_with fail
    refine (l1_once w.heap.size A c xs 3 _ hS8.1 hS8.2 hl (by omega) (by omega)).mono ?_
    rintro e wa ⟨b, rfl, hDa⟩
    have hGa := Lib.hid (grown_to hG8.out hDa.2.2)
    have hVa := Lib.hid (hV8.out.drawn hDa.2.2 hgl3)
    cases b with
    | false =>
      have hF := Lib.hid (show TwoRows w wa (.slice (some ⟨a3, 0, none⟩) r.length c3) (.slice (some ⟨a8, 0, none⟩) r8.length c8) from ⟨r, r8, (hV3.out.drawn hGa.out hgl2).mono (by omega), hVa.out.mono (by omega), by omega, by omega, ht3.out, ht8.out, hB3.out.grown hGa.out hB3.out.size (fun k hk => by injection hk; omega)⟩)
      go_wp2_with fail
      exact bodyPost_ret (v := .tuple #[.slice (some ⟨a3, 0, none⟩) r.length c3, .slice (some ⟨a8, 0, none⟩) r8.length c8]) (by simp [results, Tryd.results20, go_sem]) rfl ⟨_, _, rfl, hF.out⟩
    | true =>
      go_wp2_with fail
      refine (draw_any w.heap.size A c xs _ ⟨hDa.1, hDa.2.1⟩ hl).mono ?_
      rintro e wb ⟨x, rfl, hxt, hSb, hGb⟩
      have hGc := Lib.hid (grown_to hGa.out hGb)
      have hVb := Lib.hid (hVa.out.drawn hGb hgl3)
      have hzb := hGc.out.size
      clear hDa hGb
      unfold VV
      go_wp2_with (first | (at_builtin; refine wpList_append_own _ rfl (.tmp 24) (.tmp 27) _ rfl w3.heap.size 26 i0 _ 3 32 Tryd.underlying31 hi hz0 hz1 hz2 rfl (by decide) _ _ _ rfl ((show wb.ownsRow w3.heap.size 26 3 (.slice (some ⟨a8, 0, none⟩) r8.length c8) _ _ from hVb.out).alloc _) ⟨wb.heap.size, 0, none⟩ 1 1 [.int .i64 x.k, .int .i64 x.n, .string x.t] rfl rfl (news_three _ _ _ _ _) (one_three _ _ _) (by unfold maxLen; omega) (by omega) (by simp; omega) ?_; intro v2 wc ho2 hg2 _; refine Hid.out ?_))
      refine Lib.hid ?_
      have hVc : VRow w3.heap.size wc v2 (r8 ++ [x]) := vrow_app ho2
      have hGd := grown_own (grown_alloc2 hGc.out _) hg2 (own_ge hVb.out)
      have hF := Lib.hid (show TwoRows w wc (.slice (some ⟨a3, 0, none⟩) r.length c3) v2 from ⟨r, r8 ++ [x], (hV3.out.drawn hGd hgl2).mono (by omega), hVc.mono (by omega), by omega, by simp; omega, ht3.out, fun v hv => by rcases List.mem_append.1 hv with h | h; exact ht8.out v h; simp at h; rw [h]; exact hxt, hB3.out.grown hGd hB3.out.size (fun k hk => by injection hk; omega)⟩)
      clear ho2 hg2 hVc hGd
      go_wp2_with fail
      exact bodyPost_ret (v := .tuple #[.slice (some ⟨a3, 0, none⟩) r.length c3, v2]) (by simp [results, Tryd.results20, go_sem]) rfl ⟨_, _, rfl, hF.out⟩
end Go.Proofs.YtakidcehebpmkaaDoor
