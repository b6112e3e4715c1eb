/-
  Trees of expressions; impl.constantOk, impl.operator, impl.grow.
-/
import Derived.Test.YteoepnadjkjlmaaGreatValueOkZ
import Derived.Test.YteoepnadjkjlmaaGreatSzNodesZ
namespace Go.Proofs.YteoepnadjkjlmaaGreat
open Go.RowKit Go.Sort
set_option linter.unusedVariables false

inductive Tr where
  | var (s : ByteArray)
  | con (v : GV)
  | any
  | op (k : Int) (l r : Tr)
def TV : Tr → Value
  | .var s => .iface 125 (.string s)
  | .con v => .iface 126 (.agg #[.int .i64 v.k, .int .i64 v.n, .string v.t])
  | .any => .iface 128 (.agg #[])
  | .op k l r => .iface 131 (.agg #[.int .i64 k, TV l, TV r])
def conB (v : GV) : Bool := valueOkB v.k v.n v.t && !decide (v.k = 3)
def growM : Nat → List GNode → Option (Tr × List GNode)
  | 0, _ => none
  | _ + 1, [] => none
  | n + 1, x :: rest =>
    if x.k = 1 then (if varB x.name = true then some (.var x.name, rest) else none)
    else if x.k = 2 then (if conB x.v = true then some (.con x.v, rest) else none)
    else if x.k = 6 then some (.any, rest)
    else if x.k = 3 ∨ x.k = 4 ∨ x.k = 5 then
      match growM n rest with
      | none => none
      | some (l, r1) =>
        match growM n r1 with
        | none => none
        | some (r, r2) => some (.op x.k l r, r2)
    else none
set_option maxHeartbeats 800000 in
theorem impl_con (v : GV) (w : World) (ht : v.t.size ≤ maxLen) :
    Calls Tryz.prog 99 #[.agg #[.int .i64 v.k, .int .i64 v.n, .string v.t]] w fun e w' => e = .returned (.bool (conB v)) ∧ Below w.heap.size w w' := by
  have hB0 : Below w.heap.size w (w.alloc (.cells #[.int .i64 v.k, .int .i64 v.n, .string v.t] 79)) := (Below.refl _ _).alloc (Nat.le_refl _) _
  obtain ⟨b, hb⟩ : ∃ b, valueOkB v.k v.n v.t = b := ⟨_, rfl⟩
  have HB := Lib.hid hb
  go_enter Tryz.func99, Tryz.ntmps99
  go_wp2_with fail
  refine (impl_value v.k v.n v.t _ ht).mono ?_
  rintro e w1 ⟨rfl, hb1⟩
  rw [hb]
  have hB1 := below_next hB0 hb1 rfl rfl
  have hc0 : w1.cell? ⟨w.heap.size, 0, none⟩ = some (.int .i64 v.k) := (hb1.cell (p := ⟨w.heap.size, 0, none⟩) (by simp)).trans (by go_simp)
  clear hb hb1
  cases b with
  | false =>
    have H := Lib.hid (show conB v = false by unfold conB; rw [HB.out]; rfl)
    go_wp2_with fail
    go_ret
    exact ⟨ret_bool (by rw [H.out]), hB1⟩
  | true =>
    have H := Lib.hid (show conB v = !decide (v.k = 3) by unfold conB; rw [HB.out]; rfl)
    go_wp2_with fail
    go_ret
    exact ⟨ret_bool (by rw [H.out]; rfl), hB1⟩
def opS (k : Int) : ByteArray := if k = 3 then ⟨#[43]⟩ else if k = 4 then ⟨#[45]⟩ else if k = 5 then ⟨#[42]⟩ else ⟨#[]⟩
theorem impl_operator (k : Int) (w : World) :
    Calls Tryz.prog 100 #[.int .i64 k] w fun e w' => e = .returned (.string (opS k)) ∧ w = w' := by
  go_enter Tryz.func100, Tryz.ntmps100
  go_wp2
  all_goals go_ret
  all_goals refine ⟨?_, rfl⟩
  all_goals simp_all [opS]
  all_goals rfl
/-- What impl.grow answers. -/
def GrowPost (n : Nat) (lo : Nat) (w : World) (xs : List GNode) (e : Ending) (w' : World) : Prop :=
  Below w.heap.size w w' ∧ match growM n xs with
    | none => e = .returned (.tuple #[.nilIface, .slice none 0 0])
    | some (t, rest) => ∃ (A : Option Addr) (c : Nat), e = .returned (.tuple #[TV t, .slice A rest.length c]) ∧ rest.length ≤ c ∧ c ≤ 9223372036854775807 ∧ NodesAt w' lo w'.heap.size A rest

theorem grow_rest {w : World} {lo B g o c : Nat} {x : GNode} {rest : List GNode} {A' : Option Addr} (h : NodesAt w lo B (some ⟨g, o, none⟩) (x :: rest)) (hA : (if c = 1 then some (⟨g, o, none⟩ : Addr) else some ⟨g, o + 6, none⟩) = A') (hc : (x :: rest).length ≤ c) : NodesAt w lo B A' rest := by
  rcases h with h | ⟨g', o', he, h1, h2, h3⟩
  · cases h
  · cases he
    by_cases hc1 : c = 1
    · left
      simp only [List.length_cons] at hc
      exact List.eq_nil_of_length_eq_zero (by omega)
    · right
      rw [if_neg hc1] at hA
      refine ⟨g, o + 6, hA.symm, h1, h2, fun i y hy => ?_⟩
      have := h3 (i + 1) y (by simpa using hy)
      rwa [show o + (i + 1) * 6 = o + 6 + i * 6 by omega] at this
theorem growM_suffix (n : Nat) : ∀ (xs : List GNode) (t : Tr) (r : List GNode), growM n xs = some (t, r) → ∃ p, p ≠ [] ∧ xs = p ++ r := by
  induction n with
  | zero => intro xs t r h; simp [growM] at h
  | succ n ih =>
    intro xs t r h
    cases xs with
    | nil => simp [growM] at h
    | cons x rest =>
      unfold growM at h
      split at h
      · split at h
        · cases h; exact ⟨[x], by simp, rfl⟩
        · cases h
      · split at h
        · split at h
          · cases h; exact ⟨[x], by simp, rfl⟩
          · cases h
        · split at h
          · cases h; exact ⟨[x], by simp, rfl⟩
          · split at h
            · split at h
              · cases h
              · rename_i l r1 h1
                split at h
                · cases h
                · rename_i r' r2 h2
                  cases h
                  obtain ⟨p1, hp1, e1⟩ := ih _ _ _ h1
                  obtain ⟨p2, hp2, e2⟩ := ih _ _ _ h2
                  exact ⟨x :: (p1 ++ p2), by simp, by rw [e1, e2]; simp⟩
            · cases h
theorem TV_iface (t : Tr) : ∃ T v, TV t = .iface T v := by cases t <;> exact ⟨_, _, rfl⟩
theorem impl_var_is (b : Bool) (s : ByteArray) (w : World) (hs : s.size ≤ maxLen) (h : varB s = b) :
    Calls Tryz.prog 98 #[.string s] w fun e w' => e = .returned (.bool b) ∧ w = w' := by subst h; exact impl_var s w hs
theorem impl_con_is (b : Bool) (v : GV) (w : World) (ht : v.t.size ≤ maxLen) (h : conB v = b) :
    Calls Tryz.prog 99 #[.agg #[.int .i64 v.k, .int .i64 v.n, .string v.t]] w fun e w' => e = .returned (.bool b) ∧ Below w.heap.size w w' := by subst h; exact impl_con v w ht
theorem impl_operator_is (s : ByteArray) (k : Int) (w : World) (h : opS k = s) :
    Calls Tryz.prog 100 #[.int .i64 k] w fun e w' => e = .returned (.string s) ∧ w = w' := by subst h; exact impl_operator k w
theorem grow_some {n lo : Nat} {w w' : World} {xs rest : List GNode} {t : Tr} {A : Option Addr} {c : Nat} {e : Ending} (hB : Below w.heap.size w w') (h : growM n xs = some (t, rest)) (he : e = .returned (.tuple #[TV t, .slice A rest.length c])) (hc : rest.length ≤ c) (hc2 : c ≤ 9223372036854775807) (hr : NodesAt w' lo w'.heap.size A rest) : GrowPost n lo w xs e w' := by
  refine ⟨hB, ?_⟩
  rw [h]
  exact ⟨A, c, he, hc, hc2, hr⟩
theorem grow_none {n lo : Nat} {w w' : World} {xs : List GNode} {e : Ending} (hB : Below w.heap.size w w') (h : growM n xs = none) (he : e = .returned (.tuple #[.nilIface, .slice none 0 0])) : GrowPost n lo w xs e w' := by
  refine ⟨hB, ?_⟩
  rw [h]
  exact he
set_option maxRecDepth 100000 in
set_option maxHeartbeats 3200000 in
theorem impl_grow (n : Nat) : ∀ {lo : Nat} (A : Option Addr) (c : Nat) (xs : List GNode) (w : World), xs.length < n → xs.length ≤ 1000 → xs.length ≤ c → c ≤ 9223372036854775807 → fitNodes xs → NodesAt w lo w.heap.size A xs →
    Calls Tryz.prog 89 #[.slice A xs.length c] w (GrowPost n lo w xs) := by
  induction n with
  | zero => intro lo A c xs w hn; omega
  | succ n ih =>
    intro lo A c xs w hn hl hc hc2 hf hr
    cases xs with
    | nil =>
      go_enter Tryz.func89, Tryz.ntmps89
      go_wp2_with fail
      go_ret2
      exact ⟨Below.refl _ _, rfl⟩
    | cons x rest =>
      obtain ⟨g, o, rfl, hg0, hg, h0, h1, h2, h3, h4, h5⟩ := hr.at_ (i := 0) (by simp)
      simp only [List.getElem_cons_zero, Nat.zero_mul, Nat.add_zero] at h0 h1 h2 h3 h4 h5
      have hlen : ((x :: rest).length : Int) = (rest.length : Int) + 1 := by simp
      have hz : (((x :: rest).length : Int) == 0) = false := beq_eq_false_iff_ne.2 (by omega)
      go_enter Tryz.func89, Tryz.ntmps89
      go_wp2_with fail
      go_region
      generalize hA' : (if c = 1 then some (⟨g, o, none⟩ : Addr) else some ⟨g, o + 6, none⟩) = A'
      generalize hw1 : World.drew _ = w1
      have hr1 : NodesAt w lo w.heap.size A' rest := grow_rest hr hA' hc
      have hB1 : Below w.heap.size w w1 := by rw [← hw1]; exact ((Below.refl _ _).alloc (Nat.le_refl _) _).drew
      have c0 : w1.cell? ⟨w.heap.size, 0, none⟩ = some (.int .i64 x.k) := by subst hw1; go_simp
      have c1 : w1.cell? ⟨w.heap.size, 1, none⟩ = some (.string x.name) := by subst hw1; go_simp
      have c2 : w1.cell? ⟨w.heap.size, 2, none⟩ = some (.int .i64 x.v.k) := by subst hw1; go_simp
      have c3 : w1.cell? ⟨w.heap.size, 3, none⟩ = some (.int .i64 x.v.n) := by subst hw1; go_simp
      have c4 : w1.cell? ⟨w.heap.size, 4, none⟩ = some (.string x.v.t) := by subst hw1; go_simp
      have hs1 : w.heap.size < w1.heap.size := by subst hw1; go_simp
      clear hw1 h0 h1 h2 h3 h4 h5 hr
      have hfx : fitNode x := hf.2 x List.mem_cons_self
      obtain ⟨f0, f1, f2, f3, f4, f5⟩ := hfx
      have hr2 : NodesAt w1 lo w1.heap.size A' rest := hr1.to_ hB1
      by_cases k1 : x.k = 1
      · have k1b : (x.k == 1) = true := beq_iff_eq.2 k1
        obtain ⟨b, hb⟩ : ∃ b, varB x.name = b := ⟨_, rfl⟩
        have HB := Lib.hid hb
        clear hb
        go_wp2_with fail
        refine (impl_var_is b _ _ f1 HB.out).mono ?_
        rintro e w2 ⟨rfl, rfl⟩
        cases b with
        | true =>
          have H := Lib.hid (show growM (n + 1) (x :: rest) = some (.var x.name, rest) by unfold growM; rw [if_pos k1, if_pos HB.out])
          go_wp2_with fail
          go_ret2
          exact grow_some hB1 H.out rfl (by omega) (by omega) hr2
        | false =>
          have H := Lib.hid (show growM (n + 1) (x :: rest) = none by unfold growM; rw [if_pos k1, if_neg (by rw [HB.out]; decide)])
          go_wp2_with fail
          refine (impl_operator_is ⟨#[]⟩ _ _ rfl).mono ?_
          rintro e w2 ⟨rfl, rfl⟩
          go_wp2_with fail
          go_ret2
          exact grow_none hB1 H.out rfl
      · have k1b : (x.k == 1) = false := beq_eq_false_iff_ne.2 k1
        by_cases k2 : x.k = 2
        · have k2b : (x.k == 2) = true := beq_iff_eq.2 k2
          obtain ⟨b, hb⟩ : ∃ b, conB x.v = b := ⟨_, rfl⟩
          have HB := Lib.hid hb
          clear hb
          go_wp2_with fail
          refine (impl_con_is b x.v _ f4 HB.out).mono ?_
          rintro e w2 ⟨rfl, hb2⟩
          have hB2 := below_next hB1 hb2 rfl rfl
          have d0 := (hb2.cell (p := ⟨w.heap.size, 0, none⟩) hs1).trans c0
          have d2 := (hb2.cell (p := ⟨w.heap.size, 2, none⟩) hs1).trans c2
          have d3 := (hb2.cell (p := ⟨w.heap.size, 3, none⟩) hs1).trans c3
          have d4 := (hb2.cell (p := ⟨w.heap.size, 4, none⟩) hs1).trans c4
          have hr3 := hr2.to_ hb2
          clear hb2 hr2 c0 c1 c2 c3 c4
          cases b with
          | true =>
            have H := Lib.hid (show growM (n + 1) (x :: rest) = some (.con x.v, rest) by unfold growM; rw [if_neg k1, if_pos k2, if_pos HB.out])
            go_wp2_with fail
            go_ret2
            exact grow_some hB2 H.out rfl (by omega) (by omega) hr3
          | false =>
            have H := Lib.hid (show growM (n + 1) (x :: rest) = none by unfold growM; rw [if_neg k1, if_pos k2, if_neg (by rw [HB.out]; decide)])
            go_wp2_with fail
            refine (impl_operator_is ⟨#[]⟩ _ _ rfl).mono ?_
            rintro e w2 ⟨rfl, rfl⟩
            go_wp2_with fail
            go_ret2
            exact grow_none hB2 H.out rfl
        · have k2b : (x.k == 2) = false := beq_eq_false_iff_ne.2 k2
          by_cases k6 : x.k = 6
          · have k6b : (x.k == 6) = true := beq_iff_eq.2 k6
            have H := Lib.hid (show growM (n + 1) (x :: rest) = some (.any, rest) by unfold growM; rw [if_neg k1, if_neg k2, if_pos k6])
            go_wp2_with fail
            go_ret2
            exact grow_some hB1 H.out rfl (by omega) (by omega) hr2
          · have k6b : (x.k == 6) = false := beq_eq_false_iff_ne.2 k6
            by_cases k3 : x.k = 3 ∨ x.k = 4 ∨ x.k = 5
            · obtain ⟨u, hu⟩ : ∃ u : UInt8, opS x.k = ⟨#[u]⟩ := by
                rcases k3 with k | k | k <;> rw [k] <;> exact ⟨_, rfl⟩
              go_wp2_with fail
              refine (impl_operator_is ⟨#[u]⟩ _ _ hu).mono ?_
              rintro e w2 ⟨rfl, rfl⟩
              have hn1 : rest.length < n := by simp only [List.length_cons] at hn; omega
              have hl1 : rest.length ≤ 1000 := by simp only [List.length_cons] at hl; omega
              have hf1 : fitNodes rest := ⟨by have := hf.1; simp only [List.length_cons] at this; omega, fun y hy => hf.2 y (List.mem_cons_of_mem _ hy)⟩
              have hg1 : growM (n + 1) (x :: rest) = match growM n rest with
                  | none => none
                  | some (l, r1) =>
                    match growM n r1 with
                    | none => none
                    | some (r, r2) => some (.op x.k l r, r2) := by
                rw [growM, if_neg k1, if_neg k2, if_neg k6, if_pos k3]
              have HG := Lib.hid hg1
              clear hg1 k1 k2 k6 k3
              go_wp2_with fail
              refine (ih A' (c - 1) rest _ hn1 hl1 (by omega) (by omega) hf1 hr2).mono ?_
              rintro e w2 ⟨hb2, he⟩
              have hB2 := below_next hB1 hb2 rfl rfl
              have d0 := (hb2.cell (p := ⟨w.heap.size, 0, none⟩) hs1).trans c0
              have hs2 := Nat.lt_of_lt_of_le hs1 hb2.size
              cases hM : growM n rest with
              | none =>
                rw [hM] at he
                subst he
                have H := Lib.hid (show growM (n + 1) (x :: rest) = none by rw [HG.out, hM])
                clear hM
                go_wp2_with fail
                refine (ih (lo := lo) none 0 [] _ (by simp; omega) (by simp) (by simp) (by omega) ⟨by simp, fun y hy => by cases hy⟩ (.inl rfl)).mono ?_
                rintro e w3 ⟨hb3, he⟩
                have hB3 := below_next hB2 hb3 rfl rfl
                have : growM n [] = none := by cases n with
                  | zero => rfl
                  | succ n => rfl
                rw [this] at he
                subst he
                go_wp2_with fail
                go_ret2
                exact grow_none hB3 H.out rfl
              | some q =>
                obtain ⟨l, r1⟩ := q
                rw [hM] at he
                obtain ⟨A1, c1, rfl, hc1, hc1', hr3⟩ := he
                obtain ⟨p1, hp1, e1⟩ := growM_suffix _ _ _ _ hM
                have hlen1 : rest.length = p1.length + r1.length := by rw [e1]; simp
                have hf2 : fitNodes r1 := ⟨by have := hf1.1; omega, fun y hy => hf1.2 y (by rw [e1]; exact List.mem_append_right _ hy)⟩
                have HG2 := Lib.hid (show growM (n + 1) (x :: rest) = match growM n r1 with
                    | none => none
                    | some (r, r2) => some (.op x.k l r, r2) by rw [HG.out, hM])
                clear hM e1
                obtain ⟨T1, v1, hT1⟩ := TV_iface l
                have HT1 := Lib.hid hT1
                rw [hT1]
                clear hT1
                go_wp2_with fail
                refine (ih A1 c1 r1 _ (by omega) (by omega) (by omega) (by omega) hf2 hr3).mono ?_
                rintro e w3 ⟨hb3, he⟩
                have hB3 := below_next hB2 hb3 rfl rfl
                have e0 := (hb3.cell (p := ⟨w.heap.size, 0, none⟩) hs2).trans d0
                cases hM : growM n r1 with
                | none =>
                  rw [hM] at he
                  subst he
                  have H := Lib.hid (show growM (n + 1) (x :: rest) = none by rw [HG2.out, hM])
                  clear hM
                  go_wp2_with fail
                  go_ret2
                  exact grow_none hB3 H.out rfl
                | some q =>
                  obtain ⟨r, r2⟩ := q
                  rw [hM] at he
                  obtain ⟨A2, c2', rfl, hc2', hc2'', hr4⟩ := he
                  have H := Lib.hid (show growM (n + 1) (x :: rest) = some (.op x.k l r, r2) by rw [HG2.out, hM])
                  clear hM
                  obtain ⟨T2, v2, hT2⟩ := TV_iface r
                  have HT2 := Lib.hid hT2
                  rw [hT2]
                  clear hT2
                  go_wp2_with fail
                  go_ret2
                  exact grow_some hB3 H.out (by rw [TV, HT1.out, HT2.out]; rfl) (by omega) (by omega) hr4
            · have hu : opS x.k = ⟨#[]⟩ := by
                unfold opS
                rw [if_neg (fun h => k3 (.inl h)), if_neg (fun h => k3 (.inr (.inl h))), if_neg (fun h => k3 (.inr (.inr h)))]
              have H := Lib.hid (show growM (n + 1) (x :: rest) = none by unfold growM; rw [if_neg k1, if_neg k2, if_neg k6, if_neg k3])
              go_wp2_with fail
              refine (impl_operator_is ⟨#[]⟩ _ _ hu).mono ?_
              rintro e w2 ⟨rfl, rfl⟩
              go_wp2_with fail
              go_ret2
              exact grow_none hB1 H.out rfl
end Go.Proofs.YteoepnadjkjlmaaGreat
