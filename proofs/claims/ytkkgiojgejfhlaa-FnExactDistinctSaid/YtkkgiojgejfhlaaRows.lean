/-
  No cell of these rows narrows 'for every input' (looked for: loops, veiled, ifaces, maps, wideKeys, modest, calm, conditions, laid).
  DERIVED. THE GIVEN ROWS OF THIS SEAT. 3 by the template 'for every input the law returns true; each argument reads behind the call as it read before'; 0 by the template 'total and deterministic' (their statements: YtkkgiojgejfhlaaTotals.lean).
  GIVEN WITH THE SEED: the statements are not yours to turn. If you find one false, say at which input.
  Laid BY PROGRAM, IN A SANDBOX (cutbox-rows.mjs): the forced cells as the released guide's own fill.sh prints them over the translation 63f92d235a0c34f1… (all of the seat's roots in one cut). By AI agents, Wed Nov 11 2026. No macro, syntax, notation, axiom, sorry.
-/
import Derived.Test.YtkkgiojgejfhlaaChecked
import GoSem.Claim
import GoSem.ClaimJoined
import GoSem.ClaimMapViews
import Derived.JoinedTies
import Derived.KernelRfl
namespace Go.Proofs.Ytkkgiojgejfhlaa
/- THE CELL 'sum', in the pinned program and in every row, IS THE sha256 OF THE DUMP (.gsa) THAT YtkkgiojgejfhlaaProg.lean LOADS. Nothing in Lean hashes anything: it is a label: what it is worth is what the hold of that sum in a sandbox is worth. -/
noncomputable def Try.pinned : Pinned := { name := "ytkkgiojgejfhlaa", sum := "63f92d235a0c34f1057f71bca2e632c644a0ed9d1a2ecbc6923990a2deea9c35", checked := Try.checked }
namespace Rows
def none {H : Type} : Left H := { results := [], args := [] }

/-- 'laws.FnExactDiffOk': WHATEVER THE INPUT: true; the input reads as it did. -/
def fnExactDiffOkSpec : ChangeSpec := { name := "fnExactDiffOk", fn := fun _ => fun
  | [d] => { results := [.lit (.bool true)], args := [d] }
  | _ => none }
def fnExactDiffOkRow : OpenClaim := { program := "ytkkgiojgejfhlaa", sum := "63f92d235a0c34f1057f71bca2e632c644a0ed9d1a2ecbc6923990a2deea9c35", func := "loop.example/g00030/laws.FnExactDiffOk", spec := "fnExactDiffOk", apart := false }
def FnExactDiffOkSaid : Prop := fnExactDiffOkRow.holds Try.pinned (OpenSpec.ofChange fnExactDiffOkSpec)

/-- ITS FALSE NEIGHBOUR: 'it returns false'. Refute it at one input. -/
def fnExactDiffOkWrong : ChangeSpec := { name := "fnExactDiffOk", fn := fun _ => fun
  | [d] => { results := [.lit (.bool false)], args := [d] }
  | _ => none }
def FnExactDiffOkWrongFalsely : Prop := fnExactDiffOkRow.holds Try.pinned (OpenSpec.ofChange fnExactDiffOkWrong)

/-- 'laws.FnExactNegDiff': WHATEVER THE INPUT: true; the input reads as it did. -/
def fnExactNegDiffSpec : ChangeSpec := { name := "fnExactNegDiff", fn := fun _ => fun
  | [d] => { results := [.lit (.bool true)], args := [d] }
  | _ => none }
def fnExactNegDiffRow : OpenClaim := { program := "ytkkgiojgejfhlaa", sum := "63f92d235a0c34f1057f71bca2e632c644a0ed9d1a2ecbc6923990a2deea9c35", func := "loop.example/g00030/laws.FnExactNegDiff", spec := "fnExactNegDiff", apart := false }
def FnExactNegDiffSaid : Prop := fnExactNegDiffRow.holds Try.pinned (OpenSpec.ofChange fnExactNegDiffSpec)

/-- ITS FALSE NEIGHBOUR: 'it returns false'. Refute it at one input. -/
def fnExactNegDiffWrong : ChangeSpec := { name := "fnExactNegDiff", fn := fun _ => fun
  | [d] => { results := [.lit (.bool false)], args := [d] }
  | _ => none }
def FnExactNegDiffWrongFalsely : Prop := fnExactNegDiffRow.holds Try.pinned (OpenSpec.ofChange fnExactNegDiffWrong)

/-- 'laws.FnExactDistinct': WHATEVER THE INPUT: true; the input reads as it did. -/
def fnExactDistinctSpec : ChangeSpec := { name := "fnExactDistinct", fn := fun _ => fun
  | [d] => { results := [.lit (.bool true)], args := [d] }
  | _ => none }
def fnExactDistinctRow : OpenClaim := { program := "ytkkgiojgejfhlaa", sum := "63f92d235a0c34f1057f71bca2e632c644a0ed9d1a2ecbc6923990a2deea9c35", func := "loop.example/g00030/laws.FnExactDistinct", spec := "fnExactDistinct", apart := false }
def FnExactDistinctSaid : Prop := fnExactDistinctRow.holds Try.pinned (OpenSpec.ofChange fnExactDistinctSpec)

/-- ITS FALSE NEIGHBOUR: 'it returns false'. Refute it at one input. -/
def fnExactDistinctWrong : ChangeSpec := { name := "fnExactDistinct", fn := fun _ => fun
  | [d] => { results := [.lit (.bool false)], args := [d] }
  | _ => none }
def FnExactDistinctWrongFalsely : Prop := fnExactDistinctRow.holds Try.pinned (OpenSpec.ofChange fnExactDistinctWrong)

/- THE SECOND FORM. 'bulk': how many values and letters a reading holds, each counted each time it is reached (what is shared counts as often as it is met; a slice's spare places count too). A statement '..UptoSaid' is the law's where the arguments, and the package variables that the reading takes, are together of bulk at most 1048576: NARROWER than '..Said'. Prove '..Said' where nothing that the law and all that it calls make is longer than what came in: it says more and counts as full. Else prove '..UptoSaid'. A law counts once. -/
mutual
def uptoBulk {H : Type} : DataW H → Nat
  | .lit (.string bytes) => bytes.length + 1
  | .lit _ => 1
  | .nil => 1
  | .ptr d => uptoBulk d + 1
  | .slice elems spare => uptoBulkAll elems + uptoBulkAll spare + 1
  | .agg parts => uptoBulkAll parts + 1
  | .iface _ d => uptoBulk d + 1
  | .map entries => uptoBulkEntries entries + 1
  | .held _ => 1
def uptoBulkAll {H : Type} : List (DataW H) → Nat
  | [] => 0
  | d :: r => uptoBulk d + uptoBulkAll r
def uptoBulkEntries {H : Type} : List (Lit × DataW H) → Nat
  | [] => 0
  | x :: r => uptoBulkEntry x + uptoBulkEntries r
def uptoBulkEntry {H : Type} : Lit × DataW H → Nat
  | (.string bytes, d) => bytes.length + uptoBulk d + 1
  | (_, d) => uptoBulk d + 1
 end
def uptoSmall : (H : Type) → List (DataW H) → Bool := fun _ ds => decide (uptoBulkAll ds ≤ 1048576)
def OpenSpec.upto (s : _root_.Go.ChangeSpec) : _root_.Go.OpenSpec := { _root_.Go.OpenSpec.ofChange s with cond := some uptoSmall }

/-- 'laws.FnExactDiffOk', WHERE WHAT IT READS IS OF BULK AT MOST 1048576: true; the input reads as it did. -/
def fnExactDiffOkUptoRow : OpenClaim := { program := "ytkkgiojgejfhlaa", sum := "63f92d235a0c34f1057f71bca2e632c644a0ed9d1a2ecbc6923990a2deea9c35", func := "loop.example/g00030/laws.FnExactDiffOk", spec := "fnExactDiffOk", apart := false, narrowed := true }
def FnExactDiffOkUptoSaid : Prop := fnExactDiffOkUptoRow.holds Try.pinned (OpenSpec.upto fnExactDiffOkSpec)

/-- 'laws.FnExactNegDiff', WHERE WHAT IT READS IS OF BULK AT MOST 1048576: true; the input reads as it did. -/
def fnExactNegDiffUptoRow : OpenClaim := { program := "ytkkgiojgejfhlaa", sum := "63f92d235a0c34f1057f71bca2e632c644a0ed9d1a2ecbc6923990a2deea9c35", func := "loop.example/g00030/laws.FnExactNegDiff", spec := "fnExactNegDiff", apart := false, narrowed := true }
def FnExactNegDiffUptoSaid : Prop := fnExactNegDiffUptoRow.holds Try.pinned (OpenSpec.upto fnExactNegDiffSpec)

/-- 'laws.FnExactDistinct', WHERE WHAT IT READS IS OF BULK AT MOST 1048576: true; the input reads as it did. -/
def fnExactDistinctUptoRow : OpenClaim := { program := "ytkkgiojgejfhlaa", sum := "63f92d235a0c34f1057f71bca2e632c644a0ed9d1a2ecbc6923990a2deea9c35", func := "loop.example/g00030/laws.FnExactDistinct", spec := "fnExactDistinct", apart := false, narrowed := true }
def FnExactDistinctUptoSaid : Prop := fnExactDistinctUptoRow.holds Try.pinned (OpenSpec.upto fnExactDistinctSpec)

end Rows
end Go.Proofs.Ytkkgiojgejfhlaa
