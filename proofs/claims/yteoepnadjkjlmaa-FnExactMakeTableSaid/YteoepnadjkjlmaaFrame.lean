/-
  Small words for memory: what a call that changes no old block leaves alone.
-/
import Derived.Test.YteoepnadjkjlmaaChecked
import Derived.WalkKit
import Derived.ProofKit
import Derived.Below
import Derived.Lib.Hide
namespace Go.Proofs.Yteoepnadjkjlmaa
open Go.RowKit

theorem bcell {W w1 : World} {B : Nat} (hb : Below B W w1) : (∀ b o, b < B → w1.cell? ⟨b, o, none⟩ = W.cell? ⟨b, o, none⟩) ∧ (∀ b o, b < B → w1.frozen? ⟨b, o, none⟩ = W.frozen? ⟨b, o, none⟩) :=
  ⟨fun b o h => hb.cell (p := ⟨b, o, none⟩) h, fun b o h => hb.frozen (p := ⟨b, o, none⟩) h⟩
theorem below_next {a b c : World} {m n : Nat} (h : Below m a b) (k : Below n b c) (hm : a.heap.size = m) (hn : b.heap.size = n) : Below m a c := by
  subst hm hn
  exact h.trans (k.mono h.size)
end Go.Proofs.Yteoepnadjkjlmaa
