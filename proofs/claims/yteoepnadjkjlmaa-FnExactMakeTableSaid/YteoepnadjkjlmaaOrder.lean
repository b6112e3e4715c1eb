/-
  The comparison of rows is a total order.
-/
import Derived.Test.YteoepnadjkjlmaaRowCmpM
namespace Go.Proofs.Yteoepnadjkjlmaa
set_option linter.unusedVariables false

/-- A comparison that is a total order. -/
structure Good {α : Type} (c : α → α → Int) : Prop where
  eq : ∀ a b, c a b = 0 ↔ a = b
  anti : ∀ a b, c b a = - c a b
  trans : ∀ a b d, c a b < 0 → c b d < 0 → c a d < 0

theorem good_int : Good cmpI := by
  refine ⟨fun a b => ?_, fun a b => ?_, fun a b d h1 h2 => ?_⟩
  · unfold cmpI
    by_cases h1 : a < b
    · rw [if_pos h1]; omega
    · rw [if_neg h1]
      by_cases h2 : b < a
      · rw [if_pos h2]; omega
      · rw [if_neg h2]; omega
  · unfold cmpI
    by_cases h1 : a < b
    · rw [if_neg (by omega), if_pos h1, if_pos h1]; omega
    · by_cases h2 : b < a
      · rw [if_pos h2, if_neg h1, if_pos h2]
      · rw [if_neg h2, if_neg h1, if_neg h1, if_neg h2]; omega
  · unfold cmpI at *
    by_cases h3 : a < b
    · by_cases h4 : b < d
      · rw [if_pos (by omega)]; omega
      · rw [if_neg h4] at h2; split at h2 <;> omega
    · rw [if_neg h3] at h1; split at h1 <;> omega

theorem good_map {α β : Type} {c : β → β → Int} (h : Good c) (f : α → β) (hf : ∀ a b, f a = f b → a = b) : Good (fun a b => c (f a) (f b)) :=
  ⟨fun a b => ⟨fun he => hf a b ((h.eq _ _).1 he), fun he => by subst he; exact (h.eq _ _).2 rfl⟩, fun a b => h.anti _ _, fun a b d => h.trans _ _ _⟩

/-- First by c, then by e. -/
def lex2 {α β : Type} (c : α → α → Int) (e : β → β → Int) (x y : α × β) : Int := if c x.1 y.1 = 0 then e x.2 y.2 else c x.1 y.1
theorem good_lex2 {α β : Type} {c : α → α → Int} {e : β → β → Int} (hc : Good c) (he : Good e) : Good (lex2 c e) := by
  refine ⟨fun a b => ?_, fun a b => ?_, fun a b d h1 h2 => ?_⟩
  · unfold lex2
    by_cases h : c a.1 b.1 = 0
    · rw [if_pos h, he.eq]
      exact ⟨fun h' => Prod.ext ((hc.eq _ _).1 h) h', fun h' => by rw [h']⟩
    · rw [if_neg h]
      exact ⟨fun h' => absurd h' h, fun h' => by subst h'; exact absurd ((hc.eq _ _).2 rfl) h⟩
  · unfold lex2
    have h1 := hc.anti a.1 b.1
    by_cases h : c a.1 b.1 = 0
    · rw [if_pos h, if_pos (by omega)]; exact he.anti _ _
    · rw [if_neg h, if_neg (by omega)]; exact h1
  · unfold lex2 at *
    by_cases hab : c a.1 b.1 = 0
    · rw [if_pos hab] at h1
      have e1 := (hc.eq _ _).1 hab
      by_cases hbd : c b.1 d.1 = 0
      · rw [if_pos hbd] at h2
        rw [if_pos (by rw [e1]; exact hbd)]
        exact he.trans _ _ _ h1 h2
      · rw [if_neg hbd] at h2
        rw [e1, if_neg hbd]; exact h2
    · rw [if_neg hab] at h1
      by_cases hbd : c b.1 d.1 = 0
      · have e2 := (hc.eq _ _).1 hbd
        rw [← e2, if_neg hab]; exact h1
      · rw [if_neg hbd] at h2
        have h3 := hc.trans _ _ _ h1 h2
        rw [if_neg (by omega)]; exact h3

/-- Lists, element by element; a proper beginning is less. -/
def lexL {α : Type} (c : α → α → Int) : List α → List α → Int
  | [], [] => 0
  | [], _ :: _ => -1
  | _ :: _, [] => 1
  | a :: x, b :: y => if c a b = 0 then lexL c x y else c a b
theorem good_lexL {α : Type} {c : α → α → Int} (hc : Good c) : Good (lexL c) := by
  refine ⟨fun a => ?_, fun a => ?_, fun a => ?_⟩
  · induction a with
    | nil => intro b; cases b <;> simp [lexL]
    | cons x a ih =>
      intro b
      cases b with
      | nil => simp [lexL]
      | cons y b =>
        unfold lexL
        by_cases h : c x y = 0
        · rw [if_pos h, ih]
          have := (hc.eq _ _).1 h
          subst this
          simp
        · rw [if_neg h]
          exact ⟨fun h' => absurd h' h, fun h' => by cases h'; exact absurd ((hc.eq _ _).2 rfl) h⟩
  · induction a with
    | nil => intro b; cases b <;> simp [lexL]
    | cons x a ih =>
      intro b
      cases b with
      | nil => simp [lexL]
      | cons y b =>
        unfold lexL
        have h1 := hc.anti x y
        by_cases h : c x y = 0
        · rw [if_pos h, if_pos (by omega)]; exact ih b
        · rw [if_neg h, if_neg (by omega)]; exact h1
  · induction a with
    | nil =>
      intro b d h1 h2
      cases b with
      | nil => simp [lexL] at h1
      | cons y b =>
        cases d with
        | nil => simp [lexL] at h2
        | cons z d => simp [lexL]
    | cons x a ih =>
      intro b d h1 h2
      cases b with
      | nil => simp [lexL] at h1
      | cons y b =>
        cases d with
        | nil => simp [lexL] at h2
        | cons z d =>
          unfold lexL at h1 h2 ⊢
          by_cases hab : c x y = 0
          · rw [if_pos hab] at h1
            have e1 := (hc.eq _ _).1 hab
            by_cases hbd : c y z = 0
            · rw [if_pos hbd] at h2
              rw [if_pos (by rw [e1]; exact hbd)]
              exact ih _ _ h1 h2
            · rw [if_neg hbd] at h2
              rw [e1, if_neg hbd]; exact h2
          · rw [if_neg hab] at h1
            by_cases hbd : c y z = 0
            · have e2 := (hc.eq _ _).1 hbd
              rw [← e2, if_neg hab]; exact h1
            · rw [if_neg hbd] at h2
              have h3 := hc.trans _ _ _ h1 h2
              rw [if_neg (by omega)]; exact h3

def cmpU (a b : UInt8) : Int := cmpI a.toNat b.toNat
theorem good_u8 : Good cmpU := good_map good_int (fun a : UInt8 => (a.toNat : Int)) (fun a b h => UInt8.toNat_inj.1 (by omega))
theorem less_lex : ∀ x y : List UInt8, Op.bytesLess x y = decide (lexL cmpU x y < 0)
  | [], [] => by simp [Op.bytesLess, lexL]
  | [], _ :: _ => by simp [Op.bytesLess, lexL]
  | _ :: _, [] => by simp [Op.bytesLess, lexL]
  | a :: x, b :: y => by
    unfold lexL Op.bytesLess
    rw [less_lex x y]
    unfold cmpU cmpI
    by_cases h1 : a < b
    · have h1' : a.toNat < b.toNat := UInt8.lt_iff_toNat_lt.1 h1
      rw [if_pos (show (a.toNat : Int) < b.toNat by omega)]
      simp [h1]
    · have h1' : ¬ a.toNat < b.toNat := fun h => h1 (UInt8.lt_iff_toNat_lt.2 h)
      rw [if_neg (show ¬ (a.toNat : Int) < b.toNat by omega)]
      by_cases h2 : a = b
      · subst h2
        simp [h1]
      · have h2' : a.toNat ≠ b.toNat := fun h => h2 (UInt8.toNat_inj.1 h)
        rw [if_pos (show (b.toNat : Int) < a.toNat by omega)]
        simp [h1, h2]
theorem cmpT_eq (a b : ByteArray) : cmpT a b = if lexL cmpU a.data.toList b.data.toList < 0 then -1 else if a = b then 0 else 1 := by
  unfold cmpT ltT
  rw [less_lex, Lib.toList_data, Lib.toList_data]
  simp
theorem data_inj {a b : ByteArray} (h : a.data.toList = b.data.toList) : a = b := ByteArray.ext (Array.toList_inj.1 h)
theorem good_text : Good cmpT := by
  have hg := good_lexL good_u8
  refine ⟨fun a b => ?_, fun a b => ?_, fun a b d h1 h2 => ?_⟩
  · rw [cmpT_eq]
    by_cases h : lexL cmpU a.data.toList b.data.toList < 0
    · rw [if_pos h]
      exact ⟨fun h' => by omega, fun h' => by subst h'; have := (hg.eq a.data.toList a.data.toList).2 rfl; omega⟩
    · rw [if_neg h]
      by_cases he : a = b
      · simp [he]
      · simp [he]
  · rw [cmpT_eq, cmpT_eq]
    have h1 := hg.anti a.data.toList b.data.toList
    by_cases he : a = b
    · subst he
      have := (hg.eq a.data.toList a.data.toList).2 rfl
      rw [if_neg (by omega)]; simp
    · have h0 : lexL cmpU a.data.toList b.data.toList ≠ 0 := fun h => he (data_inj ((hg.eq _ _).1 h))
      by_cases h : lexL cmpU a.data.toList b.data.toList < 0
      · rw [if_pos h, if_neg (by omega), if_neg (fun h => he h.symm)]; omega
      · rw [if_neg h, if_pos (by omega), if_neg he]
  · rw [cmpT_eq] at *
    by_cases h3 : lexL cmpU a.data.toList b.data.toList < 0
    · by_cases h4 : lexL cmpU b.data.toList d.data.toList < 0
      · rw [if_pos (hg.trans _ _ _ h3 h4)]; omega
      · rw [if_neg h4] at h2; split at h2 <;> omega
    · rw [if_neg h3] at h1; split at h1 <;> omega

theorem cmpG_lex (a b : GV) : cmpG a b = lex2 cmpI (lex2 cmpI cmpT) (a.k, a.n, a.t) (b.k, b.n, b.t) := by
  unfold cmpG cmpV or3 lex2
  by_cases h : cmpI a.k b.k = 0
  · by_cases h2 : cmpI a.n b.n = 0 <;> simp [h, h2]
  · simp [h]
theorem good_cmpG : Good cmpG := by
  have h := good_map (good_lex2 good_int (good_lex2 good_int good_text)) (fun v : GV => (v.k, v.n, v.t)) (fun a b h => by
    cases a; cases b; simp at h; obtain ⟨rfl, rfl, rfl⟩ := h; rfl)
  have e : cmpG = fun a b => lex2 cmpI (lex2 cmpI cmpT) (a.k, a.n, a.t) (b.k, b.n, b.t) := by
    funext a b; exact cmpG_lex a b
  rw [e]; exact h
theorem cmpR_lex : ∀ a b : List GV, cmpR a b = lexL cmpG a b
  | [], [] => rfl
  | [], _ :: _ => rfl
  | _ :: _, [] => rfl
  | a :: x, b :: y => by unfold cmpR lexL; rw [cmpR_lex x y]
theorem good_cmpR : Good cmpR := by
  have e : cmpR = lexL cmpG := by funext a b; exact cmpR_lex a b
  rw [e]; exact good_lexL good_cmpG
end Go.Proofs.Yteoepnadjkjlmaa
