/-
  Contracts of spec.l1Sign and spec.CompareValues. Contract of spec.CompareRows.
-/
import Derived.Test.YteoepnadjkjlmaaGreatTabOkMZ
namespace Go.Proofs.YteoepnadjkjlmaaGreat
open Go.RowKit
set_option linter.unusedVariables false

theorem sign_any (b : Bool) (w : World) :
    Calls Tryz.prog 84 #[.bool b] w fun e w' => e = .returned (.int .i64 (signB b)) ∧ w = w' := by
  cases b <;> (go_enter Tryz.func84, Tryz.ntmps84; go_wp2; go_ret; exact ⟨rfl, rfl⟩)

set_option maxHeartbeats 400000 in
theorem spec_compare (k n : Int) (t : ByteArray) (k' n' : Int) (t' : ByteArray) (w : World) :
    Calls Tryz.prog 83 #[.agg #[.int .i64 k, .int .i64 n, .string t], .agg #[.int .i64 k', .int .i64 n', .string t']] w fun e w' => e = .returned (.int .i64 (cmpV k n t k' n' t')) ∧ Below w.heap.size w w' := by
  by_cases hk : k = k'
  · subst hk
    by_cases hn : n = n'
    · subst hn
      by_cases ht : t = t'
      · subst ht
        have H := Lib.hid (cmpV_self k n t)
        go_enter Tryz.func83, Tryz.ntmps83
        go_wp2_with (go_at_call 84; refine (sign_any _ _).mono ?_; rintro e w' ⟨rfl, rfl⟩)
        go_ret
        exact ⟨ret_int (by rw [H.out]), ((Below.refl _ _).alloc (Nat.le_refl _) _).alloc (by simp) _⟩
      · have H := Lib.hid (cmpV_t k n t t' ht)
        have hb : (t.toList == t'.toList) = false := by
          rw [beq_eq_false_iff_ne]
          intro h
          rw [Lib.toList_data, Lib.toList_data] at h
          exact ht (ByteArray.ext (Array.toList_inj.1 h))
        clear ht
        go_enter Tryz.func83, Tryz.ntmps83
        go_wp2_with (go_at_call 84; refine (sign_any _ _).mono ?_; rintro e w' ⟨rfl, rfl⟩)
        go_ret
        exact ⟨ret_int (by rw [H.out]), ((Below.refl _ _).alloc (Nat.le_refl _) _).alloc (by simp) _⟩
    · have H := Lib.hid (cmpV_n k n n' t t' hn)
      have hb : (n != n') = true := by simp [hn]
      clear hn
      go_enter Tryz.func83, Tryz.ntmps83
      go_wp2_with (go_at_call 84; refine (sign_any _ _).mono ?_; rintro e w' ⟨rfl, rfl⟩)
      go_ret
      exact ⟨ret_int (by rw [H.out]), ((Below.refl _ _).alloc (Nat.le_refl _) _).alloc (by simp) _⟩
  · have H := Lib.hid (cmpV_k k n k' n' t t' hk)
    have hb : (k != k') = true := by simp [hk]
    clear hk
    go_enter Tryz.func83, Tryz.ntmps83
    go_wp2_with (go_at_call 84; refine (sign_any _ _).mono ?_; rintro e w' ⟨rfl, rfl⟩)
    go_ret
    exact ⟨ret_int (by rw [H.out]), ((Below.refl _ _).alloc (Nat.le_refl _) _).alloc (by simp) _⟩
end Go.Proofs.YteoepnadjkjlmaaGreat
namespace Go.Proofs.YteoepnadjkjlmaaGreat
open Go.RowKit
set_option linter.unusedVariables false

set_option maxHeartbeats 800000 in
theorem spec_rows (A A' : Option Addr) (c c' : Nat) (vs us : List GV) (w : World) (hr : RowAt w w.heap.size A vs) (hr' : RowAt w w.heap.size A' us) (hl : vs.length ≤ 1048576) (hl' : us.length ≤ 1048576) :
    Calls Tryz.prog 67 #[.slice A vs.length c, .slice A' us.length c'] w fun e w' => e = .returned (.int .i64 (cmpR vs us)) ∧ Below w.heap.size w w' := by
  go_enter Tryz.func67, Tryz.ntmps67
  go_wp2
  go_loopw [5] (fun i w' => ∃ k : Nat, k ≤ vs.length ∧ k ≤ us.length ∧ i = .int .i64 k ∧ Hid (cmpR (vs.drop k) (us.drop k) = cmpR vs us) ∧ Below w.heap.size w w') (fun i _ => vs.length - (intOf i).toNat)
  case atStart => exact ⟨0, Nat.zero_le _, Nat.zero_le _, rfl, Lib.hid rfl, Below.refl _ _⟩
  case round =>
    obtain ⟨k, hk, hk', rfl, hrec, hB⟩ := hrel
    by_cases hlt : k < vs.length
    · by_cases hlt' : k < us.length
      · have hstep := Lib.hid (cmpR_step hlt hlt')
        obtain ⟨g, o, rfl, hg, c0, c1, c2⟩ := (hr.below hB (Nat.le_refl _)).at_ hlt
        obtain ⟨g', o', rfl, hg', d0, d1, d2⟩ := (hr'.below hB (Nat.le_refl _)).at_ hlt'
        have hi0 : (0 : Int) ≤ (k : Int) := Int.natCast_nonneg _
        have hi1 : (k : Int) < (vs.length : Int) := by omega
        have hi2 : (k : Int) < (us.length : Int) := by omega
        go_wp2_with fail
        go_region_held3 (fun w' => w'.cell? ⟨g, o + k * 3, none⟩ = some (.int .i64 vs[k].k) ∧ w'.cell? ⟨g, o + k * 3 + 1, none⟩ = some (.int .i64 vs[k].n) ∧ w'.cell? ⟨g, o + k * 3 + 2, none⟩ = some (.string vs[k].t) ∧
            w'.cell? ⟨g', o' + k * 3, none⟩ = some (.int .i64 us[k].k) ∧ w'.cell? ⟨g', o' + k * 3 + 1, none⟩ = some (.int .i64 us[k].n) ∧ w'.cell? ⟨g', o' + k * 3 + 2, none⟩ = some (.string us[k].t) ∧ w.heap.size ≤ w'.heap.size ∧ Below w.heap.size w w')
          (first | (go_split_ands; exact ⟨by assumption, by assumption, by assumption, by assumption, by assumption, by assumption, hB.size, hB.drew⟩)
                 | (go_split_ands; refine ⟨?_, ?_, ?_, ?_, ?_, ?_, ?_, ?_⟩; all_goals first | (have := hbx.size; omega) | (rw [hcx _ _ (by omega)]; assumption) | exact below_next (by assumption) hbx rfl rfl))
          (first
            | (go_at_call 83; refine (spec_compare _ _ _ _ _ _ _).mono ?_; rintro e wx ⟨rfl, hbx⟩; obtain ⟨hcx, hfx⟩ := bcell hbx))
        have hB2 : Below w.heap.size w wx := by go_split_ands; assumption
        clear hcx hfx hbx c0 c1 c2 d0 d1 d2
        by_cases hc : cmpG vs[k] us[k] = 0
        · have hcb : (cmpV vs[k].k vs[k].n vs[k].t us[k].k us[k].n us[k].t != 0) = false := by simpa [cmpG] using hc
          have H := Lib.hid (show cmpR (vs.drop (k + 1)) (us.drop (k + 1)) = cmpR vs us by have h1 := hstep.out; rw [if_pos hc] at h1; rw [← h1]; exact hrec.out)
          clear hc
          go_wp2_with fail
          go_roundw
          case rel => exact ⟨k + 1, by omega, by omega, by go_num, H, hB2⟩
          case measure => simp [intOf]; omega
        · have hcb : (cmpV vs[k].k vs[k].n vs[k].t us[k].k us[k].n us[k].t != 0) = true := by simpa [cmpG] using hc
          have H := Lib.hid (show cmpR vs us = cmpV vs[k].k vs[k].n vs[k].t us[k].k us[k].n us[k].t by have h1 := hstep.out; rw [if_neg hc] at h1; rw [← hrec.out, h1]; rfl)
          clear hc
          go_wp2_with fail
          go_ret
          exact ⟨ret_int (by rw [H.out]), hB2⟩
      · have H := Lib.hid (show cmpR vs us = cmpI vs.length us.length by rw [← hrec.out, cmpR_end hk hk' (.inr (by omega))])
        by_cases he : vs.length = us.length
        · omega
        · have heb : ((vs.length : Int) == us.length) = false := by simp; omega
          have H2 := Lib.hid (show cmpI vs.length us.length = signB false by rw [cmpI_ne (by omega)]; congr 1; simp; omega)
          clear he
          go_wp2_with (go_at_call 84; refine (sign_any _ _).mono ?_; rintro e w' ⟨rfl, rfl⟩)
          go_ret
          exact ⟨ret_int (by rw [H.out, H2.out]; congr 1; simp; omega), hB⟩
    · have H := Lib.hid (show cmpR vs us = cmpI vs.length us.length by rw [← hrec.out, cmpR_end hk hk' (.inl (by omega))])
      by_cases he : vs.length = us.length
      · have heb : ((vs.length : Int) == us.length) = true := by simp; omega
        have H2 := Lib.hid (show cmpI vs.length us.length = 0 by rw [he]; exact cmpI_self _)
        have HE := Lib.hid he
        clear he
        go_wp2_with fail
        go_ret
        exact ⟨ret_int (by rw [H.out, H2.out]), hB⟩
      · have heb : ((vs.length : Int) == us.length) = false := by simp; omega
        have H2 := Lib.hid (show cmpI vs.length us.length = signB true by rw [cmpI_ne (by omega)]; congr 1; simp; omega)
        have hsh : vs.length < us.length := by omega
        clear he
        go_wp2_with (go_at_call 84; refine (sign_any _ _).mono ?_; rintro e w' ⟨rfl, rfl⟩)
        go_ret
        exact ⟨ret_int (by rw [H.out, H2.out]), hB⟩

end Go.Proofs.YteoepnadjkjlmaaGreat
