/-
  What the laws' marking of an argument keeps: numbers stay numbers, texts stay texts, slices stay as they are, and all other blocks.
-/
import Derived.Test.YtpipikjkhmhmhaaTy
import Derived.Test.YtpipikjkhmhmhaaMarkAZ
namespace Go.Proofs.Ytpipikjkhmhmhaa
open Go.RowKit Go.Sort
set_option linter.unusedVariables false

structure KK (w w' : World) (lo B : Nat) : Prop where
  os : w'.os = w.os
  tape : w'.tape = w.tape
  output : w'.output = w.output
  size : w.heap.size ≤ w'.heap.size
  out : ∀ b, b < w.heap.size → (b < lo ∨ B ≤ b) → w'.heap[b]? = w.heap[b]?
  int : ∀ b o z, lo ≤ b → b < B → w.cell? ⟨b, o, none⟩ = some (.int .i64 z) → ∃ z', w'.cell? ⟨b, o, none⟩ = some (.int .i64 z')
  str : ∀ b o t, lo ≤ b → b < B → w.cell? ⟨b, o, none⟩ = some (.string t) → ∃ t', w'.cell? ⟨b, o, none⟩ = some (.string t')
  sl : ∀ b o A n c, lo ≤ b → b < B → w.cell? ⟨b, o, none⟩ = some (.slice A n c) → w'.cell? ⟨b, o, none⟩ = some (.slice A n c)
  fr : ∀ b o, lo ≤ b → b < B → w'.frozen? ⟨b, o, none⟩ = w.frozen? ⟨b, o, none⟩
theorem KK.refl (w : World) (lo B : Nat) : KK w w lo B :=
  ⟨rfl, rfl, rfl, Nat.le_refl _, fun _ _ _ => rfl, fun _ _ z _ _ h => ⟨z, h⟩, fun _ _ t _ _ h => ⟨t, h⟩, fun _ _ _ _ _ _ _ h => h, fun _ _ _ _ => rfl⟩
theorem KK.trans {a b c : World} {lo B : Nat} (h : KK a b lo B) (k : KK b c lo B) : KK a c lo B :=
  ⟨k.os.trans h.os, k.tape.trans h.tape, k.output.trans h.output, Nat.le_trans h.size k.size, fun i hi ho => (k.out i (Nat.lt_of_lt_of_le hi h.size) ho).trans (h.out i hi ho),
   fun i o z h1 h2 hc => by obtain ⟨z', hz⟩ := h.int i o z h1 h2 hc; exact k.int i o z' h1 h2 hz,
   fun i o z h1 h2 hc => by obtain ⟨z', hz⟩ := h.str i o z h1 h2 hc; exact k.str i o z' h1 h2 hz,
   fun i o A n c h1 h2 hc => k.sl i o A n c h1 h2 (h.sl i o A n c h1 h2 hc), fun i o h1 h2 => (k.fr i o h1 h2).trans (h.fr i o h1 h2)⟩
theorem KK.below {w w' : World} {lo B : Nat} (h : Below w.heap.size w w') (hB : B ≤ w.heap.size) : KK w w' lo B :=
  ⟨h.os, h.tape, h.output, h.size, fun b hb _ => h.block b hb,
   fun b o z _ h2 hc => ⟨z, (h.cell (p := ⟨b, o, none⟩) (by show b < w.heap.size; omega)).trans hc⟩, fun b o z _ h2 hc => ⟨z, (h.cell (p := ⟨b, o, none⟩) (by show b < w.heap.size; omega)).trans hc⟩,
   fun b o A n c _ h2 hc => (h.cell (p := ⟨b, o, none⟩) (by show b < w.heap.size; omega)).trans hc, fun b o _ h2 => h.frozen (p := ⟨b, o, none⟩) (by show b < w.heap.size; omega)⟩
theorem kk_set {w : World} {lo B b o : Nat} {u v : Value} (h1 : lo ≤ b) (h2 : b < B) (hu : w.cell? ⟨b, o, none⟩ = some u)
    (hi : ∀ z, u = .int .i64 z → ∃ z', v = .int .i64 z') (ht : ∀ t, u = .string t → ∃ t', v = .string t') (hs : ∀ A n c, u ≠ .slice A n c) : KK w (w.setCell ⟨b, o, none⟩ v) lo B := by
  have hself : (w.setCell ⟨b, o, none⟩ v).cell? ⟨b, o, none⟩ = some v := World.cell?_setCell_same _ _ _ hu
  have hoth : ∀ b' o', ¬ (b' = b ∧ o' = o) → (w.setCell ⟨b, o, none⟩ v).cell? ⟨b', o', none⟩ = w.cell? ⟨b', o', none⟩ := fun b' o' hne => World.cell?_setCell_other _ _ _ _ (by intro e; simp only [Addr.mk.injEq] at e; exact hne ⟨e.1.symm, e.2.1.symm⟩)
  refine ⟨rfl, rfl, rfl, by simp [World.setCell], fun k hk hk2 => Below.heap_setCell w ⟨b, o, none⟩ v k (by show k ≠ b; omega), ?_, ?_, ?_, fun b' o' _ _ => by rw [World.frozen?_setCell]⟩
  · intro b' o' z _ _ hc
    by_cases e : b' = b ∧ o' = o
    · obtain ⟨rfl, rfl⟩ := e
      rw [hu] at hc; injection hc with hc
      obtain ⟨z', rfl⟩ := hi z hc
      exact ⟨z', hself⟩
    · exact ⟨z, (hoth b' o' e).trans hc⟩
  · intro b' o' z _ _ hc
    by_cases e : b' = b ∧ o' = o
    · obtain ⟨rfl, rfl⟩ := e
      rw [hu] at hc; injection hc with hc
      obtain ⟨z', rfl⟩ := ht z hc
      exact ⟨z', hself⟩
    · exact ⟨z, (hoth b' o' e).trans hc⟩
  · intro b' o' A n c _ _ hc
    by_cases e : b' = b ∧ o' = o
    · obtain ⟨rfl, rfl⟩ := e
      rw [hu] at hc; injection hc with hc
      exact absurd hc (hs A n c)
    · exact (hoth b' o' e).trans hc
theorem KK.setInt {w : World} {lo B b o : Nat} {z : Int} (h1 : lo ≤ b) (h2 : b < B) (hu : w.cell? ⟨b, o, none⟩ = some (.int .i64 z)) (z' : Int) : KK w (w.setCell ⟨b, o, none⟩ (.int .i64 z')) lo B :=
  kk_set h1 h2 hu (fun _ _ => ⟨z', rfl⟩) (fun _ e => by cases e) (fun _ _ _ e => by cases e)
theorem KK.setStr {w : World} {lo B b o : Nat} {z : ByteArray} (h1 : lo ≤ b) (h2 : b < B) (hu : w.cell? ⟨b, o, none⟩ = some (.string z)) (z' : ByteArray) : KK w (w.setCell ⟨b, o, none⟩ (.string z')) lo B :=
  kk_set h1 h2 hu (fun _ e => by cases e) (fun _ _ => ⟨z', rfl⟩) (fun _ _ _ e => by cases e)
theorem UF.kk {w w' : World} {lo B : Nat} (h : UF w lo B) (k : KK w w' lo B) : UF w' lo B := fun b h1 h2 o => (k.fr b o h1 h2).trans (h b h1 h2 o)
theorem mark_any (z : Int) (w : World) (h0 : 1 ≤ z) (h1 : z ≤ 1000000000) :
    Calls Try.prog 66 #[.int .i64 z] w fun e w' => ∃ T : ByteArray, e = .returned (.string T) ∧ Below w.heap.size w w' := by
  obtain ⟨n, rfl⟩ := Int.eq_ofNat_of_zero_le (show 0 ≤ z by omega)
  exact (mark_text n w (by omega) (by omega)).mono fun e w' ⟨he, hb⟩ => ⟨_, he, hb⟩
/-- What marking leaves. -/
def Marked (w : World) (k m : Int) (lo B : Nat) (e : Ending) (w' : World) : Prop := ∃ K : Int, e = .returned (.int .i64 K) ∧ k ≤ K ∧ K ≤ k + m ∧ KK w w' lo B
end Go.Proofs.Ytpipikjkhmhmhaa
