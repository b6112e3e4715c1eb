/-
  spec.l2Ok.
-/
import Derived.Test.YteoepnadjkjlmaaGreatSpecParts
import Derived.Deep.Cut
namespace Go.Proofs.YteoepnadjkjlmaaGreat
open Go.RowKit Go.Sort
set_option linter.unusedVariables false

theorem eqV10 (k n k' n' : Int) (t t' : ByteArray) (w : World) : (Op.equalIn 10000 79 (.agg #[.int .i64 k, .int .i64 n, .string t]) (.agg #[.int .i64 k', .int .i64 n', .string t'])).run Tryz.prog w = .ok (k == k' && n == n' && t.toList == t'.toList) w := by
  have u3 := Tryz.underlying2
  have a3 := Tryz.isAgg2
  have z3 := Tryz.sizeOf2
  have u9 := Tryz.underlying9
  have a9 := Tryz.isAgg9
  have z9 := Tryz.sizeOf9
  rw [show (10000 : Nat) = 9999 + 1 from rfl, run_equalIn_agg w 9999 79 _ _ structV heldV]
  simp only [Program.fieldsOf, Tryz.underlying79]
  go_simp
  by_cases h1 : k = k' <;> by_cases h2 : n = n' <;> by_cases h3 : t.toList = t'.toList <;> simp [h1, h2, h3]
theorem eqVz (v : GV) (w : World) : (binOp .eql 79 (.agg #[.int .i64 v.k, .int .i64 v.n, .string v.t]) (.agg #[.int .i64 0, .int .i64 0, .string ⟨#[]⟩])).run Tryz.prog w = .ok (.bool (zB v)) w := by
  rw [run_eql_struct, eqV10]; unfold zB; rw [show (⟨#[]⟩ : ByteArray).toList = [] from empty_list]; rfl
theorem neqVz (v : GV) (w : World) : (binOp .neq 79 (.agg #[.int .i64 v.k, .int .i64 v.n, .string v.t]) (.agg #[.int .i64 0, .int .i64 0, .string ⟨#[]⟩])).run Tryz.prog w = .ok (.bool (!zB v)) w := by
  rw [run_neq_struct, eqV10]; unfold zB; rw [show (⟨#[]⟩ : ByteArray).toList = [] from empty_list]; rfl
theorem okM_bad (n : Nat) {es rest : List GNode} {e : GNode} (h : es = e :: rest) (hs : ¬ e.size = (rest.length : Int)) : okM (n + 1) es = false := by
  subst h; rw [okM.eq_def]; dsimp only; rw [if_neg hs]
theorem okM_var (n : Nat) {es rest : List GNode} {e : GNode} (h : es = e :: rest) (hs : e.size = (rest.length : Int)) (hk : e.k = 1) : okM (n + 1) es = (decide (rest.length = 0) && varB e.name && zB e.v) := by
  subst h; rw [okM.eq_def]; dsimp only; rw [if_pos hs, if_pos hk]
theorem okM_con (n : Nat) {es rest : List GNode} {e : GNode} (h : es = e :: rest) (hs : e.size = (rest.length : Int)) (hk : e.k = 2) : okM (n + 1) es = (decide (rest.length = 0) && isT e.name [] && conB e.v) := by
  subst h; rw [okM.eq_def]; dsimp only; rw [if_pos hs, if_neg (by omega), if_pos hk]
theorem okM_any (n : Nat) {es rest : List GNode} {e : GNode} (h : es = e :: rest) (hs : e.size = (rest.length : Int)) (hk : e.k = 6) : okM (n + 1) es = (decide (rest.length = 0) && isT e.name [] && zB e.v) := by
  subst h; rw [okM.eq_def]; dsimp only; rw [if_pos hs, if_neg (by omega), if_neg (by omega), if_pos hk]
theorem okM_else (n : Nat) {es rest : List GNode} {e : GNode} (h : es = e :: rest) (k1 : ¬ e.k = 1) (k2 : ¬ e.k = 2) (k6 : ¬ e.k = 6) (k3 : ¬ e.k = 3) (k4 : ¬ e.k = 4) (k5 : ¬ e.k = 5) : okM (n + 1) es = false := by
  subst h; rw [okM.eq_def]; dsimp only
  rw [if_neg (show ¬ (e.k = 3 ∨ e.k = 4 ∨ e.k = 5) by omega), if_neg k1, if_neg k2, if_neg k6]
  split <;> rfl
theorem okM_short (n : Nat) {es rest : List GNode} {e : GNode} (h : es = e :: rest) (hk : e.k = 3 ∨ e.k = 4 ∨ e.k = 5) (hl : rest.length < 2) : okM (n + 1) es = false := by
  subst h
  match rest, hl with
  | [], _ => exact okM_op0 n e hk
  | [f], _ =>
    by_cases hs : e.size = (([f] : List GNode).length : Int)
    · rw [okM_op n e f [] hs hk, if_neg (by simp)]
    · exact okM_bad n rfl hs
theorem okM_opx (n : Nat) {es more : List GNode} {e f : GNode} (h : es = e :: f :: more) (hs : e.size = ((f :: more).length : Int)) (hk : e.k = 3 ∨ e.k = 4 ∨ e.k = 5) : okM (n + 1) es = if 1 ≤ more.length ∧ 0 ≤ f.size ∧ f.size ≤ (more.length : Int) - 1 ∧ isT e.name [] = true ∧ zB e.v = true then okM n ((es.drop 1).take (f.size.toNat + 1)) && okM n (es.drop (f.size.toNat + 2)) else false := by
  subst h; exact okM_op n e f more hs hk
theorem fitNodes_sub {es l : List GNode} (h : fitNodes es) (hs : ∀ x ∈ l, x ∈ es) (hl : l.length ≤ es.length) : fitNodes l := ⟨Nat.le_trans hl h.1, fun x hx => h.2 x (hs x hx)⟩
def OkPost (n : Nat) (es : List GNode) (w : World) (e : Ending) (w' : World) : Prop := e = .returned (.bool (okM n es)) ∧ Below w.heap.size w w'
theorem ok_yes {n : Nat} {es : List GNode} {w w' : World} {e : Ending} {b : Bool} (he : e = .returned (.bool b)) (h : okM n es = b) (hB : Below w.heap.size w w') : OkPost n es w e w' := ⟨by rw [he, h], hB⟩
theorem spec_value_is (b : Bool) (v : GV) (w : World) (ht : v.t.size ≤ maxLen) (h : valueOkB v.k v.n v.t = b) :
    Calls Tryz.prog 82 #[.agg #[.int .i64 v.k, .int .i64 v.n, .string v.t]] w fun e w' => e = .returned (.bool b) ∧ Below w.heap.size w w' := by subst h; exact spec_value v.k v.n v.t w ht
set_option maxRecDepth 100000 in
set_option maxHeartbeats 3200000 in
theorem spec_ok (n : Nat) : ∀ {lo : Nat} (A : Option Addr) (c : Nat) (es : List GNode) (w : World), es.length < n → es.length ≤ 1000 → CapOk es.length c → fitNodes es → NodesAt w lo w.heap.size A es →
    Calls Tryz.prog 68 #[.slice A es.length c] w (OkPost n es w) := by
  induction n with
  | zero => intro lo A c es w hn; omega
  | succ n ih =>
    intro lo A c es w hn hl hq hf hr
    have hE : es = [] ∨ ∃ e rest, es = e :: rest := by cases es with | nil => exact .inl rfl | cons e r => exact .inr ⟨e, r, rfl⟩
    rcases hE with rfl | ⟨e, rest, he⟩
    · go_enter Tryz.func68, Tryz.ntmps68
      go_wp2_with fail
      go_ret
      exact ok_yes rfl (by rw [okM.eq_def]) (Below.refl _ _)
    · have hlen : es.length = rest.length + 1 := by rw [he]; rfl
      obtain ⟨g, o, rfl, hg0, hg, h0, h1, h2, h3, h4, h5⟩ := hr.at_ (i := 0) (by omega)
      have hex : es[0]'(by omega) = e := by simp [he]
      rw [hex] at h0 h1 h2 h3 h4 h5
      clear hex
      simp only [Nat.zero_mul, Nat.add_zero] at h0 h1 h2 h3 h4 h5
      have hfe : fitNode e := hf.2 e (by rw [he]; exact List.mem_cons_self)
      obtain ⟨f0, f1, f2, f3, f4, f5⟩ := hfe
      have hz : ((es.length : Int) == 0) = false := beq_eq_false_iff_ne.2 (by omega)
      have hi0 : (0 : Int) < (es.length : Int) := by omega
      by_cases hsz : e.size = (es.length : Int) - 1
      · have HS := Lib.hid (show e.size = (rest.length : Int) by omega)
        have HE := Lib.hid he
        have HL := Lib.hid hlen
        have HR := Lib.hid hr
        clear he hlen hr
        have hsd : (e.size != (es.length : Int) - 1) = false := by simpa using hsz
        have HSZ := Lib.hid hsz
        clear hsz
        go_enter Tryz.func68, Tryz.ntmps68
        go_upto_region 5 with fail
        generalize hw1 : ((w.alloc (.cells #[.int .i64 e.k, .string e.name, .int .i64 e.v.k, .int .i64 e.v.n, .string e.v.t, .int .i64 e.size] 81)).alloc (.cells #[.int .i64 0, .int .i64 0, .string ⟨#[]⟩] 79)) = w1
        have hB1 : Below w.heap.size w w1 := by rw [← hw1]; exact ((Below.refl _ _).alloc (Nat.le_refl _) _).alloc (by simp) _
        have c0 : w1.cell? ⟨w.heap.size, 0, none⟩ = some (.int .i64 e.k) := by subst hw1; go_simp
        have c1 : w1.cell? ⟨w.heap.size, 1, none⟩ = some (.string e.name) := by subst hw1; go_simp
        have c2 : w1.cell? ⟨w.heap.size, 2, none⟩ = some (.int .i64 e.v.k) := by subst hw1; go_simp
        have c3 : w1.cell? ⟨w.heap.size, 3, none⟩ = some (.int .i64 e.v.n) := by subst hw1; go_simp
        have c4 : w1.cell? ⟨w.heap.size, 4, none⟩ = some (.string e.v.t) := by subst hw1; go_simp
        have z0 : w1.cell? ⟨w.heap.size + 1, 0, none⟩ = some (.int .i64 0) := by subst hw1; go_simp
        have z1 : w1.cell? ⟨w.heap.size + 1, 1, none⟩ = some (.int .i64 0) := by subst hw1; go_simp
        have z2 : w1.cell? ⟨w.heap.size + 1, 2, none⟩ = some (.string ⟨#[]⟩) := by subst hw1; go_simp
        clear hw1 h0 h1 h2 h3 h4 h5
        have HR1 := Lib.hid (HR.out.to_ hB1)
        have ez := fun W => eqVz e.v W
        have nz := fun W => neqVz e.v W
        by_cases k1 : e.k = 1
        · have HV := Lib.hid (okM_var n HE.out HS.out k1)
          have k1b : (e.k == 1) = true := beq_iff_eq.2 k1
          by_cases hl1 : rest.length = 0
          · have hld : ((es.length : Int) == 1) = true := beq_iff_eq.2 (by have := HL.out; omega)
            have HV2 := Lib.hid (show okM (n + 1) es = (varB e.name && zB e.v) by rw [HV.out, decide_eq_true hl1]; rfl)
            clear HV hl1
            obtain ⟨b, hb⟩ : ∃ b, nameB 65 90 e.name = b := ⟨_, rfl⟩
            have HB := Lib.hid hb
            clear hb
            cases b with
            | false =>
              go_wp2_with (go_at_call 64; refine (spec_name_is false _ _ _ _ f1 HB.out).mono ?_; rintro e w' ⟨rfl, rfl⟩)
              go_ret
              exact ok_yes rfl (by rw [HV2.out, varB, HB.out]; rfl) hB1
            | true =>
              go_wp2_with (go_at_call 64; refine (spec_name_is true _ _ _ _ f1 HB.out).mono ?_; rintro e w' ⟨rfl, rfl⟩)
              go_ret
              exact ok_yes rfl (by rw [HV2.out, varB, HB.out]; rfl) hB1
          · have hld : ((es.length : Int) == 1) = false := beq_eq_false_iff_ne.2 (by have := HL.out; omega)
            have HV2 := Lib.hid (show okM (n + 1) es = false by rw [HV.out, decide_eq_false hl1]; rfl)
            clear HV hl1
            go_wp2_with fail
            go_ret
            exact ok_yes rfl HV2.out hB1
        have k1b : (e.k == 1) = false := beq_eq_false_iff_ne.2 k1
        by_cases k2 : e.k = 2
        · have HV := Lib.hid (okM_con n HE.out HS.out k2)
          have k2b : (e.k == 2) = true := beq_iff_eq.2 k2
          by_cases hl1 : rest.length = 0
          · have hld : ((es.length : Int) == 1) = true := beq_iff_eq.2 (by have := HL.out; omega)
            have HV2 := Lib.hid (show okM (n + 1) es = (isT e.name [] && conB e.v) by rw [HV.out, decide_eq_true hl1]; rfl)
            clear HV hl1
            by_cases hn : (e.name.toList == []) = true
            · by_cases h3 : e.v.k = 3
              · have h3b : (e.v.k != 3) = false := by simp [h3]
                have HV3 := Lib.hid (show okM (n + 1) es = false by rw [HV2.out, conB, decide_eq_true h3]; simp)
                clear h3
                go_wp2_with fail
                go_ret
                exact ok_yes rfl HV3.out hB1
              · have h3b : (e.v.k != 3) = true := by simp [h3]
                obtain ⟨b, hb⟩ : ∃ b, valueOkB e.v.k e.v.n e.v.t = b := ⟨_, rfl⟩
                have HV3 := Lib.hid (show okM (n + 1) es = b by rw [HV2.out, conB, decide_eq_false h3, isT, hn, hb]; simp)
                have HB := Lib.hid hb
                clear hb h3
                go_wp2_with fail
                refine (spec_value_is b e.v _ f4 HB.out).mono ?_
                rintro e2 w2 ⟨rfl, hb2⟩
                have hB2 := below_next hB1 hb2 rfl rfl
                go_wp2_with fail
                go_ret
                exact ok_yes rfl HV3.out hB2
            · rw [Bool.not_eq_true] at hn
              have HV3 := Lib.hid (show okM (n + 1) es = false by rw [HV2.out, isT, hn]; rfl)
              go_wp2_with fail
              go_ret
              exact ok_yes rfl HV3.out hB1
          · have hld : ((es.length : Int) == 1) = false := beq_eq_false_iff_ne.2 (by have := HL.out; omega)
            have HV2 := Lib.hid (show okM (n + 1) es = false by rw [HV.out, decide_eq_false hl1]; rfl)
            clear HV hl1
            go_wp2_with fail
            go_ret
            exact ok_yes rfl HV2.out hB1
        have k2b : (e.k == 2) = false := beq_eq_false_iff_ne.2 k2
        by_cases k6 : e.k = 6
        · have HV := Lib.hid (okM_any n HE.out HS.out k6)
          have k6b : (e.k == 6) = true := beq_iff_eq.2 k6
          by_cases hl1 : rest.length = 0
          · have hld : ((es.length : Int) == 1) = true := beq_iff_eq.2 (by have := HL.out; omega)
            have HV2 := Lib.hid (show okM (n + 1) es = (isT e.name [] && zB e.v) by rw [HV.out, decide_eq_true hl1]; rfl)
            clear HV hl1
            by_cases hn : (e.name.toList == []) = true
            · have HV3 := Lib.hid (show okM (n + 1) es = zB e.v by rw [HV2.out, isT, hn]; rfl)
              go_wp2_with fail
              go_ret
              exact ok_yes rfl HV3.out hB1
            · rw [Bool.not_eq_true] at hn
              have HV3 := Lib.hid (show okM (n + 1) es = false by rw [HV2.out, isT, hn]; rfl)
              go_wp2_with fail
              go_ret
              exact ok_yes rfl HV3.out hB1
          · have hld : ((es.length : Int) == 1) = false := beq_eq_false_iff_ne.2 (by have := HL.out; omega)
            have HV2 := Lib.hid (show okM (n + 1) es = false by rw [HV.out, decide_eq_false hl1]; rfl)
            clear HV hl1
            go_wp2_with fail
            go_ret
            exact ok_yes rfl HV2.out hB1
        have k6b : (e.k == 6) = false := beq_eq_false_iff_ne.2 k6
        by_cases hop : e.k = 3 ∨ e.k = 4 ∨ e.k = 5
        · by_cases hl3 : rest.length < 2
          · have HV := Lib.hid (okM_short n HE.out hop hl3)
            have hld : (es.length : Int) < 3 := by have := HL.out; omega
            clear hl3 k1 k2 k6
            rcases hop with k3 | k3 | k3
            · have k3b : (e.k == 3) = true := beq_iff_eq.2 k3
              go_wp2_with fail
              go_ret
              exact ok_yes rfl HV.out hB1
            · have k3b : (e.k == 3) = false := beq_eq_false_iff_ne.2 (by omega)
              have k4b : (e.k == 4) = true := beq_iff_eq.2 k3
              go_wp2_with fail
              go_ret
              exact ok_yes rfl HV.out hB1
            · have k3b : (e.k == 3) = false := beq_eq_false_iff_ne.2 (by omega)
              have k4b : (e.k == 4) = false := beq_eq_false_iff_ne.2 (by omega)
              have k5b : (e.k == 5) = true := beq_iff_eq.2 k3
              go_wp2_with fail
              go_ret
              exact ok_yes rfl HV.out hB1
          · obtain ⟨f, more, hfm⟩ : ∃ f more, rest = f :: more := by
              cases rest with
              | nil => simp at hl3
              | cons f m => exact ⟨f, m, rfl⟩
            have he2 := HE.out
            have hs2 := HS.out
            have hml := HL.out
            rw [hfm] at he2 hs2 hml hl3
            simp only [List.length_cons] at hml hl3
            have HV := Lib.hid (okM_opx n he2 hs2 hop)
            have hld : ¬ (es.length : Int) < 3 := by omega
            have hi1 : (1 : Int) < (es.length : Int) := by omega
            have hf1 : es[1]? = some f := by rw [he2]; rfl
            obtain ⟨g', o', he', q1, q2, r0, r1, r2, r3, r4, r5⟩ := HR1.out.at_ (i := 1) (by omega)
            cases he'
            have hef : es[1]'(by omega) = f := by simp [he2]
            rw [hef, Nat.one_mul] at r5
            clear r0 r1 r2 r3 r4 hef
            have HF1 := Lib.hid hf1
            have hlm := Lib.hid hml
            have HFM := Lib.hid he2
            clear he2 hs2 hml hf1 k1 k2 k6
            have hkk := Lib.hid hop
            clear hop hfm
            by_cases hneg : f.size < 0
            · have HV2 := Lib.hid (show okM (n + 1) es = false by rw [HV.out, if_neg (by omega)])
              clear HV
              rcases hkk.out with k3 | k3 | k3
              · have k3b : (e.k == 3) = true := beq_iff_eq.2 k3
                go_wp2_with fail
                go_ret
                exact ok_yes rfl HV2.out hB1
              · have k3b : (e.k == 3) = false := beq_eq_false_iff_ne.2 (by omega)
                have k4b : (e.k == 4) = true := beq_iff_eq.2 k3
                go_wp2_with fail
                go_ret
                exact ok_yes rfl HV2.out hB1
              · have k3b : (e.k == 3) = false := beq_eq_false_iff_ne.2 (by omega)
                have k4b : (e.k == 4) = false := beq_eq_false_iff_ne.2 (by omega)
                have k5b : (e.k == 5) = true := beq_iff_eq.2 k3
                go_wp2_with fail
                go_ret
                exact ok_yes rfl HV2.out hB1
            · obtain ⟨s, hs⟩ : ∃ s : Nat, f.size = (s : Int) := ⟨f.size.toNat, by omega⟩
              rw [hs] at r5 hneg
              by_cases hbig : (es.length : Int) - 3 < (s : Int)
              · have HV2 := Lib.hid (show okM (n + 1) es = false by have := hlm.out; rw [HV.out, if_neg (by omega)])
                clear HV hs
                rcases hkk.out with k3 | k3 | k3
                · have k3b : (e.k == 3) = true := beq_iff_eq.2 k3
                  go_wp2_with fail
                  go_ret
                  exact ok_yes rfl HV2.out hB1
                · have k3b : (e.k == 3) = false := beq_eq_false_iff_ne.2 (by omega)
                  have k4b : (e.k == 4) = true := beq_iff_eq.2 k3
                  go_wp2_with fail
                  go_ret
                  exact ok_yes rfl HV2.out hB1
                · have k3b : (e.k == 3) = false := beq_eq_false_iff_ne.2 (by omega)
                  have k4b : (e.k == 4) = false := beq_eq_false_iff_ne.2 (by omega)
                  have k5b : (e.k == 5) = true := beq_iff_eq.2 k3
                  go_wp2_with fail
                  go_ret
                  exact ok_yes rfl HV2.out hB1
              · by_cases hn : (e.name.toList == []) = true
                · obtain ⟨zb, hzb⟩ : ∃ b, zB e.v = b := ⟨_, rfl⟩
                  have HZ := Lib.hid hzb
                  rw [hzb] at ez nz
                  clear hzb
                  cases zb with
                  | false =>
                    have HV2 := Lib.hid (show okM (n + 1) es = false by rw [HV.out, if_neg (by rw [HZ.out]; simp)])
                    clear HV hs
                    rcases hkk.out with k3 | k3 | k3
                    · have k3b : (e.k == 3) = true := beq_iff_eq.2 k3
                      go_wp2_with fail
                      go_ret
                      exact ok_yes rfl HV2.out hB1
                    · have k3b : (e.k == 3) = false := beq_eq_false_iff_ne.2 (by omega)
                      have k4b : (e.k == 4) = true := beq_iff_eq.2 k3
                      go_wp2_with fail
                      go_ret
                      exact ok_yes rfl HV2.out hB1
                    · have k3b : (e.k == 3) = false := beq_eq_false_iff_ne.2 (by omega)
                      have k4b : (e.k == 4) = false := beq_eq_false_iff_ne.2 (by omega)
                      have k5b : (e.k == 5) = true := beq_iff_eq.2 k3
                      go_wp2_with fail
                      go_ret
                      exact ok_yes rfl HV2.out hB1
                  | true =>
                    have HV2 := Lib.hid (show okM (n + 1) es = (okM n ((es.drop 1).take (s + 1)) && okM n (es.drop (s + 2))) by
                      have := hlm.out
                      rw [HV.out, if_pos ⟨by omega, by omega, by omega, hn, HZ.out⟩, hs, Int.toNat_natCast])
                    have HSS := Lib.hid hs
                    have HBG := Lib.hid hbig
                    clear HV hs
                    have hs3 : s + 3 ≤ es.length := by have := HBG.out; omega
                    obtain ⟨L, hL⟩ : ∃ L, (es.drop 1).take (s + 1) = L := ⟨_, rfl⟩
                    obtain ⟨R, hR⟩ : ∃ R, es.drop (s + 2) = R := ⟨_, rfl⟩
                    have hparts := fun W h => spec_parts (lo := lo) es s g o c W f HF1.out HSS.out hs3 hl hq.1 hq.2 h
                    rw [hL, hR] at hparts
                    have hv2 := HV2.out
                    rw [hL, hR] at hv2
                    have hLm : ∀ x ∈ L, x ∈ es := fun x hx => by rw [← hL] at hx; exact List.mem_of_mem_drop (List.mem_of_mem_take hx)
                    have hRm : ∀ x ∈ R, x ∈ es := fun x hx => by rw [← hR] at hx; exact List.mem_of_mem_drop hx
                    have hLl : L.length < es.length := by rw [← hL, List.length_take, List.length_drop]; omega
                    have hRl : R.length < es.length := by rw [← hR, List.length_drop]; omega
                    have fL := fitNodes_sub hf hLm (by omega)
                    have fR := fitNodes_sub hf hRm (by omega)
                    have HP := Lib.hid hparts
                    have HV3 := Lib.hid hv2
                    clear hparts hv2 hLm hRm hL hR HV2 HBG hs3
                    obtain ⟨b, hb⟩ : ∃ b, okM n L = b := ⟨_, rfl⟩
                    have HBL := Lib.hid hb
                    clear hb
                    rcases hkk.out with k3 | k3 | k3
                    · have k3b : (e.k == 3) = true := beq_iff_eq.2 k3
                      go_wp2_with fail
                      refine (HP.out _ HR1.out).mono ?_
                      rintro e2 w2 ⟨A1, A2, d1, d2, rfl, qa, qb, na, nb, hb2⟩
                      have hB2 := below_next hB1 hb2 rfl rfl
                      go_wp2_with fail
                      refine (ih A1 d1 L _ (by omega) (by omega) qa fL na).mono ?_
                      rintro e3 w3 ⟨rfl, hb3⟩
                      have hB3 := below_next hB2 hb3 rfl rfl
                      rw [HBL.out]
                      cases b with
                      | false =>
                        have HV4 := Lib.hid (show okM (n + 1) es = false by rw [HV3.out, HBL.out]; rfl)
                        go_wp2_with fail
                        go_ret
                        exact ok_yes rfl HV4.out hB3
                      | true =>
                        have HV4 := Lib.hid (show okM (n + 1) es = okM n R by rw [HV3.out, HBL.out]; rfl)
                        go_wp2_with fail
                        refine (ih A2 d2 R _ (by omega) (by omega) qb fR (nb.to_ hb3)).mono ?_
                        rintro e4 w4 ⟨rfl, hb4⟩
                        have hB4 := below_next hB3 hb4 rfl rfl
                        go_wp2_with fail
                        go_ret
                        exact ok_yes rfl HV4.out hB4
                    · have k3b : (e.k == 3) = false := beq_eq_false_iff_ne.2 (by omega)
                      have k4b : (e.k == 4) = true := beq_iff_eq.2 k3
                      go_wp2_with fail
                      refine (HP.out _ HR1.out).mono ?_
                      rintro e2 w2 ⟨A1, A2, d1, d2, rfl, qa, qb, na, nb, hb2⟩
                      have hB2 := below_next hB1 hb2 rfl rfl
                      go_wp2_with fail
                      refine (ih A1 d1 L _ (by omega) (by omega) qa fL na).mono ?_
                      rintro e3 w3 ⟨rfl, hb3⟩
                      have hB3 := below_next hB2 hb3 rfl rfl
                      rw [HBL.out]
                      cases b with
                      | false =>
                        have HV4 := Lib.hid (show okM (n + 1) es = false by rw [HV3.out, HBL.out]; rfl)
                        go_wp2_with fail
                        go_ret
                        exact ok_yes rfl HV4.out hB3
                      | true =>
                        have HV4 := Lib.hid (show okM (n + 1) es = okM n R by rw [HV3.out, HBL.out]; rfl)
                        go_wp2_with fail
                        refine (ih A2 d2 R _ (by omega) (by omega) qb fR (nb.to_ hb3)).mono ?_
                        rintro e4 w4 ⟨rfl, hb4⟩
                        have hB4 := below_next hB3 hb4 rfl rfl
                        go_wp2_with fail
                        go_ret
                        exact ok_yes rfl HV4.out hB4
                    · have k3b : (e.k == 3) = false := beq_eq_false_iff_ne.2 (by omega)
                      have k4b : (e.k == 4) = false := beq_eq_false_iff_ne.2 (by omega)
                      have k5b : (e.k == 5) = true := beq_iff_eq.2 k3
                      go_wp2_with fail
                      refine (HP.out _ HR1.out).mono ?_
                      rintro e2 w2 ⟨A1, A2, d1, d2, rfl, qa, qb, na, nb, hb2⟩
                      have hB2 := below_next hB1 hb2 rfl rfl
                      go_wp2_with fail
                      refine (ih A1 d1 L _ (by omega) (by omega) qa fL na).mono ?_
                      rintro e3 w3 ⟨rfl, hb3⟩
                      have hB3 := below_next hB2 hb3 rfl rfl
                      rw [HBL.out]
                      cases b with
                      | false =>
                        have HV4 := Lib.hid (show okM (n + 1) es = false by rw [HV3.out, HBL.out]; rfl)
                        go_wp2_with fail
                        go_ret
                        exact ok_yes rfl HV4.out hB3
                      | true =>
                        have HV4 := Lib.hid (show okM (n + 1) es = okM n R by rw [HV3.out, HBL.out]; rfl)
                        go_wp2_with fail
                        refine (ih A2 d2 R _ (by omega) (by omega) qb fR (nb.to_ hb3)).mono ?_
                        rintro e4 w4 ⟨rfl, hb4⟩
                        have hB4 := below_next hB3 hb4 rfl rfl
                        go_wp2_with fail
                        go_ret
                        exact ok_yes rfl HV4.out hB4
                · rw [Bool.not_eq_true] at hn
                  have HV2 := Lib.hid (show okM (n + 1) es = false by rw [HV.out, if_neg (by rw [isT, hn]; simp)])
                  clear HV hs
                  rcases hkk.out with k3 | k3 | k3
                  · have k3b : (e.k == 3) = true := beq_iff_eq.2 k3
                    go_wp2_with fail
                    go_ret
                    exact ok_yes rfl HV2.out hB1
                  · have k3b : (e.k == 3) = false := beq_eq_false_iff_ne.2 (by omega)
                    have k4b : (e.k == 4) = true := beq_iff_eq.2 k3
                    go_wp2_with fail
                    go_ret
                    exact ok_yes rfl HV2.out hB1
                  · have k3b : (e.k == 3) = false := beq_eq_false_iff_ne.2 (by omega)
                    have k4b : (e.k == 4) = false := beq_eq_false_iff_ne.2 (by omega)
                    have k5b : (e.k == 5) = true := beq_iff_eq.2 k3
                    go_wp2_with fail
                    go_ret
                    exact ok_yes rfl HV2.out hB1
        · have HV := Lib.hid (okM_else n HE.out k1 k2 k6 (fun h => hop (.inl h)) (fun h => hop (.inr (.inl h))) (fun h => hop (.inr (.inr h))))
          have k3b : (e.k == 3) = false := beq_eq_false_iff_ne.2 (fun h => hop (.inl h))
          have k4b : (e.k == 4) = false := beq_eq_false_iff_ne.2 (fun h => hop (.inr (.inl h)))
          have k5b : (e.k == 5) = false := beq_eq_false_iff_ne.2 (fun h => hop (.inr (.inr h)))
          clear hop k1 k2 k6
          go_wp2_with fail
          go_ret
          exact ok_yes rfl HV.out hB1
      · have HN := Lib.hid (show okM (n + 1) es = false from okM_bad n he (by omega))
        have hsd : (e.size != (es.length : Int) - 1) = true := by simpa using hsz
        clear he hsz hlen
        go_enter Tryz.func68, Tryz.ntmps68
        go_wp2_with fail
        go_ret
        exact ok_yes rfl HN.out (Below.refl _ _)
end Go.Proofs.YteoepnadjkjlmaaGreat
