/-
  laws.eqRelS, at equal data. What the laws' marking of an argument keeps: numbers stay numbers, texts stay texts, slices stay as they are, and all other blocks.
-/
import Derived.Test.YtpipikjkhmhmhaaSzValZ
import Derived.Test.YtpipikjkhmhmhaaEqTabZ
import Derived.Test.YtpipikjkhmhmhaaTy
import Derived.Test.YtpipikjkhmhmhaaMarkAZ
namespace Go.Proofs.Ytpipikjkhmhmhaa
open Go.RowKit Go.Sort
set_option linter.unusedVariables false

set_option maxHeartbeats 1600000 in
theorem eq_Rel {lo lo' : Nat} (x : GRel) (A1 D1 : Option Addr) (c1 d1 : Nat) (w : World) (hk : costRel x ≤ 1048576) (s1 : ValueSsAt w lo w.heap.size A1 x.rows) (u1 : ValueSsAt w lo' w.heap.size D1 x.rows) :
    Calls Try.prog 61 #[.agg #[.string x.name, .slice A1 x.rows.length c1], .agg #[.string x.name, .slice D1 x.rows.length d1]] w (EqYes w) := by
  obtain ⟨hP, hQ, hB, hZ⟩ := two_new w #[.string x.name, .slice A1 x.rows.length c1] #[.string x.name, .slice D1 x.rows.length d1] 94
  have HP := Lib.hid hP
  have HQ := Lib.hid hQ
  have HZ := Lib.hid hZ
  clear hP hQ hZ
  unfold costRel at hk
  go_enter Try.func61, Try.ntmps61
  go_wp2_with fail
  refine (eq_ValueSs A1 D1 c1 d1 x.rows _ (by omega) (s1.to_ hB) (u1.to_ hB)).mono ?_
  rintro e w0 ⟨rfl, hb0⟩
  have B0 := below_next hB hb0 rfl rfl
  go_wp2_with fail
  go_ret
  exact ⟨rfl, B0⟩

set_option maxHeartbeats 1600000 in
theorem eq_Rels {lo lo' : Nat} (A D : Option Addr) (c d : Nat) (xs : List (GRel)) (w : World) (hk : costRels xs ≤ 1048576) (hr : RelsAt w lo w.heap.size A xs) (hu : RelsAt w lo' w.heap.size D xs) :
    Calls Try.prog 20 #[.slice A xs.length c, .slice D xs.length d] w (EqYes w) := by
  have hl : xs.length ≤ 1048576 := by unfold costRels at hk; omega
  have HR := Lib.hid hr
  have HU := Lib.hid hu
  have HK := Lib.hid hk
  clear hr hu hk
  go_enter Try.func20, Try.ntmps20
  go_wp2_with fail
  go_loopw [5] (fun i w' => ∃ k : Nat, k ≤ xs.length ∧ i = .int .i64 k ∧ Below w.heap.size w w') (fun i _ => xs.length - (intOf i).toNat)
  case atStart => exact ⟨0, Nat.zero_le _, rfl, Below.refl _ _⟩
  case round =>
    obtain ⟨k, hk, rfl, hB⟩ := hrel
    by_cases hlt : k < xs.length
    · obtain ⟨g, o, rfl, hg0, hg, he⟩ := (HR.out.to_ hB).at_ hlt
      obtain ⟨g', o', rfl, hg0', hg', he'⟩ := (HU.out.to_ hB).at_ hlt
      have hi0 : (0 : Int) ≤ (k : Int) := by omega
      have hi1 : (k : Int) < (xs.length : Int) := by omega
      have hck : costRel xs[k] ≤ 1048576 := by have h1 := HK.out; have h2 := sumC_mem costRel xs _ (List.getElem_mem hlt); unfold costRels at h1; omega
      obtain ⟨h0, h1⟩ := he
      obtain ⟨k0, k1⟩ := he'
      obtain ⟨A1, c1, ⟨h1y, q1⟩, s1⟩ := h1
      obtain ⟨D1, d1, ⟨k1y, q_1⟩, u1⟩ := k1
      have qa0 := cell_regrown h0
      have qb0 := cell_regrown k0
      have qa1 := cell_regrown h1y
      have qb1 := cell_regrown k1y
      clear h0 k0 h1y k1y
      go_wp2_with fail
      refine wp_region_quiet_below (by kernel_rfl) (by kernel_rfl) ?_
      repeat (go_big_quiet_step (first | (go_at_call 61; exact Calls.regrown_of (eq_Rel xs[k] A1 D1 c1 d1 _ hck (s1.to_ (below_regrown wr _ _)) (u1.to_ (below_regrown wr _ _))))))
      refine wpQuiet_nil ?_
      intro _ hw'
      obtain ⟨⟨dq, osq⟩, hw''⟩ := hw'
      subst hw''
      have hB2 := below_next hB (below_regrown wr dq osq) rfl rfl
      generalize grow (redrawn wr dq) osq = wx at *
      clear qa0 qb0 qa1 qb1
      go_wp2_with fail
      go_roundw
      case rel => exact ⟨k + 1, by omega, by go_num, hB2⟩
      case measure => simp [intOf]; omega
    · have hi1 : ¬ (k : Int) < (xs.length : Int) := by omega
      go_wp2_with fail
      go_ret
      exact ⟨rfl, hB⟩

end Go.Proofs.Ytpipikjkhmhmhaa
namespace Go.Proofs.Ytpipikjkhmhmhaa
open Go.RowKit Go.Sort
set_option linter.unusedVariables false

structure KK (w w' : World) (lo B : Nat) : Prop where
  os : w'.os = w.os
  tape : w'.tape = w.tape
  output : w'.output = w.output
  size : w.heap.size ≤ w'.heap.size
  out : ∀ b, b < w.heap.size → (b < lo ∨ B ≤ b) → w'.heap[b]? = w.heap[b]?
  int : ∀ b o z, lo ≤ b → b < B → w.cell? ⟨b, o, none⟩ = some (.int .i64 z) → ∃ z', w'.cell? ⟨b, o, none⟩ = some (.int .i64 z')
  str : ∀ b o t, lo ≤ b → b < B → w.cell? ⟨b, o, none⟩ = some (.string t) → ∃ t', w'.cell? ⟨b, o, none⟩ = some (.string t')
  sl : ∀ b o A n c, lo ≤ b → b < B → w.cell? ⟨b, o, none⟩ = some (.slice A n c) → w'.cell? ⟨b, o, none⟩ = some (.slice A n c)
  fr : ∀ b o, lo ≤ b → b < B → w'.frozen? ⟨b, o, none⟩ = w.frozen? ⟨b, o, none⟩
theorem KK.refl (w : World) (lo B : Nat) : KK w w lo B :=
  ⟨rfl, rfl, rfl, Nat.le_refl _, fun _ _ _ => rfl, fun _ _ z _ _ h => ⟨z, h⟩, fun _ _ t _ _ h => ⟨t, h⟩, fun _ _ _ _ _ _ _ h => h, fun _ _ _ _ => rfl⟩
theorem KK.trans {a b c : World} {lo B : Nat} (h : KK a b lo B) (k : KK b c lo B) : KK a c lo B :=
  ⟨k.os.trans h.os, k.tape.trans h.tape, k.output.trans h.output, Nat.le_trans h.size k.size, fun i hi ho => (k.out i (Nat.lt_of_lt_of_le hi h.size) ho).trans (h.out i hi ho),
   fun i o z h1 h2 hc => by obtain ⟨z', hz⟩ := h.int i o z h1 h2 hc; exact k.int i o z' h1 h2 hz,
   fun i o z h1 h2 hc => by obtain ⟨z', hz⟩ := h.str i o z h1 h2 hc; exact k.str i o z' h1 h2 hz,
   fun i o A n c h1 h2 hc => k.sl i o A n c h1 h2 (h.sl i o A n c h1 h2 hc), fun i o h1 h2 => (k.fr i o h1 h2).trans (h.fr i o h1 h2)⟩
theorem KK.below {w w' : World} {lo B : Nat} (h : Below w.heap.size w w') (hB : B ≤ w.heap.size) : KK w w' lo B :=
  ⟨h.os, h.tape, h.output, h.size, fun b hb _ => h.block b hb,
   fun b o z _ h2 hc => ⟨z, (h.cell (p := ⟨b, o, none⟩) (by show b < w.heap.size; omega)).trans hc⟩, fun b o z _ h2 hc => ⟨z, (h.cell (p := ⟨b, o, none⟩) (by show b < w.heap.size; omega)).trans hc⟩,
   fun b o A n c _ h2 hc => (h.cell (p := ⟨b, o, none⟩) (by show b < w.heap.size; omega)).trans hc, fun b o _ h2 => h.frozen (p := ⟨b, o, none⟩) (by show b < w.heap.size; omega)⟩
theorem kk_set {w : World} {lo B b o : Nat} {u v : Value} (h1 : lo ≤ b) (h2 : b < B) (hu : w.cell? ⟨b, o, none⟩ = some u)
    (hi : ∀ z, u = .int .i64 z → ∃ z', v = .int .i64 z') (ht : ∀ t, u = .string t → ∃ t', v = .string t') (hs : ∀ A n c, u ≠ .slice A n c) : KK w (w.setCell ⟨b, o, none⟩ v) lo B := by
  have hself : (w.setCell ⟨b, o, none⟩ v).cell? ⟨b, o, none⟩ = some v := World.cell?_setCell_same _ _ _ hu
  have hoth : ∀ b' o', ¬ (b' = b ∧ o' = o) → (w.setCell ⟨b, o, none⟩ v).cell? ⟨b', o', none⟩ = w.cell? ⟨b', o', none⟩ := fun b' o' hne => World.cell?_setCell_other _ _ _ _ (by intro e; simp only [Addr.mk.injEq] at e; exact hne ⟨e.1.symm, e.2.1.symm⟩)
  refine ⟨rfl, rfl, rfl, by simp [World.setCell], fun k hk hk2 => Below.heap_setCell w ⟨b, o, none⟩ v k (by show k ≠ b; omega), ?_, ?_, ?_, fun b' o' _ _ => by rw [World.frozen?_setCell]⟩
  · intro b' o' z _ _ hc
    by_cases e : b' = b ∧ o' = o
    · obtain ⟨rfl, rfl⟩ := e
      rw [hu] at hc; injection hc with hc
      obtain ⟨z', rfl⟩ := hi z hc
      exact ⟨z', hself⟩
    · exact ⟨z, (hoth b' o' e).trans hc⟩
  · intro b' o' z _ _ hc
    by_cases e : b' = b ∧ o' = o
    · obtain ⟨rfl, rfl⟩ := e
      rw [hu] at hc; injection hc with hc
      obtain ⟨z', rfl⟩ := ht z hc
      exact ⟨z', hself⟩
    · exact ⟨z, (hoth b' o' e).trans hc⟩
  · intro b' o' A n c _ _ hc
    by_cases e : b' = b ∧ o' = o
    · obtain ⟨rfl, rfl⟩ := e
      rw [hu] at hc; injection hc with hc
      exact absurd hc (hs A n c)
    · exact (hoth b' o' e).trans hc
theorem KK.setInt {w : World} {lo B b o : Nat} {z : Int} (h1 : lo ≤ b) (h2 : b < B) (hu : w.cell? ⟨b, o, none⟩ = some (.int .i64 z)) (z' : Int) : KK w (w.setCell ⟨b, o, none⟩ (.int .i64 z')) lo B :=
  kk_set h1 h2 hu (fun _ _ => ⟨z', rfl⟩) (fun _ e => by cases e) (fun _ _ _ e => by cases e)
theorem KK.setStr {w : World} {lo B b o : Nat} {z : ByteArray} (h1 : lo ≤ b) (h2 : b < B) (hu : w.cell? ⟨b, o, none⟩ = some (.string z)) (z' : ByteArray) : KK w (w.setCell ⟨b, o, none⟩ (.string z')) lo B :=
  kk_set h1 h2 hu (fun _ e => by cases e) (fun _ _ => ⟨z', rfl⟩) (fun _ _ _ e => by cases e)
theorem UF.kk {w w' : World} {lo B : Nat} (h : UF w lo B) (k : KK w w' lo B) : UF w' lo B := fun b h1 h2 o => (k.fr b o h1 h2).trans (h b h1 h2 o)
theorem mark_any (z : Int) (w : World) (h0 : 1 ≤ z) (h1 : z ≤ 1000000000) :
    Calls Try.prog 66 #[.int .i64 z] w fun e w' => ∃ T : ByteArray, e = .returned (.string T) ∧ Below w.heap.size w w' := by
  obtain ⟨n, rfl⟩ := Int.eq_ofNat_of_zero_le (show 0 ≤ z by omega)
  exact (mark_text n w (by omega) (by omega)).mono fun e w' ⟨he, hb⟩ => ⟨_, he, hb⟩
/-- What marking leaves. -/
def Marked (w : World) (k m : Int) (lo B : Nat) (e : Ending) (w' : World) : Prop := ∃ K : Int, e = .returned (.int .i64 K) ∧ k ≤ K ∧ K ≤ k + m ∧ KK w w' lo B
end Go.Proofs.Ytpipikjkhmhmhaa
