/-
  No cell of these rows narrows 'for every input' (looked for: loops, veiled, ifaces, maps, wideKeys, modest, calm, conditions, laid).
  DERIVED. THE GIVEN ROWS OF THIS SEAT. 4 by the template 'for every input the law returns true; each argument reads behind the call as it read before'; 0 by the template 'total and deterministic' (their statements: YtpipikjkhmhmhaaTotals.lean).
  GIVEN WITH THE SEED: the statements are not yours to turn. If you find one false, say at which input.
  Laid BY PROGRAM, IN A SANDBOX (cutbox-rows.mjs): the forced cells as the released guide's own fill.sh prints them over the translation e18c573946c31c25… (all of the seat's roots in one cut). By AI agents, Wed Nov 11 2026. No macro, syntax, notation, axiom, sorry.
-/
import Derived.Test.YtpipikjkhmhmhaaChecked
import GoSem.Claim
import GoSem.ClaimJoined
import GoSem.ClaimMapViews
import Derived.JoinedTies
import Derived.KernelRfl
namespace Go.Proofs.Ytpipikjkhmhmhaa
/- THE CELL 'sum', in the pinned program and in every row, IS THE sha256 OF THE DUMP (.gsa) THAT YtpipikjkhmhmhaaProg.lean LOADS. Nothing in Lean hashes anything: it is a label: what it is worth is what the hold of that sum in a sandbox is worth. -/
noncomputable def Try.pinned : Pinned := { name := "ytpipikjkhmhmhaa", sum := "e18c573946c31c25898c745ece8f059bf186f8a8af56d32980756e39959cf24f", checked := Try.checked }
namespace Rows
def none {H : Type} : Left H := { results := [], args := [] }

/-- 'laws.FnJoinSums': WHATEVER THE INPUT: true; the input reads as it did. -/
def fnJoinSumsSpec : ChangeSpec := { name := "fnJoinSums", fn := fun _ => fun
  | [d1, d2] => { results := [.lit (.bool true)], args := [d1, d2] }
  | _ => none }
def fnJoinSumsRow : OpenClaim := { program := "ytpipikjkhmhmhaa", sum := "e18c573946c31c25898c745ece8f059bf186f8a8af56d32980756e39959cf24f", func := "loop.example/g00030/laws.FnJoinSums", spec := "fnJoinSums", unfollowed := true, recurses := true, plainKeys := false, apart := false }
def FnJoinSumsSaid : Prop := fnJoinSumsRow.holds Try.pinned (OpenSpec.ofChange fnJoinSumsSpec)

/-- ITS FALSE NEIGHBOUR: 'it returns false'. Refute it at one input. -/
def fnJoinSumsWrong : ChangeSpec := { name := "fnJoinSums", fn := fun _ => fun
  | [d1, d2] => { results := [.lit (.bool false)], args := [d1, d2] }
  | _ => none }
def FnJoinSumsWrongFalsely : Prop := fnJoinSumsRow.holds Try.pinned (OpenSpec.ofChange fnJoinSumsWrong)

/-- 'laws.FnExactDbOk': WHATEVER THE INPUT: true; the input reads as it did. -/
def fnExactDbOkSpec : ChangeSpec := { name := "fnExactDbOk", fn := fun _ => fun
  | [d] => { results := [.lit (.bool true)], args := [d] }
  | _ => none }
def fnExactDbOkRow : OpenClaim := { program := "ytpipikjkhmhmhaa", sum := "e18c573946c31c25898c745ece8f059bf186f8a8af56d32980756e39959cf24f", func := "loop.example/g00030/laws.FnExactDbOk", spec := "fnExactDbOk", plainKeys := false, apart := false }
def FnExactDbOkSaid : Prop := fnExactDbOkRow.holds Try.pinned (OpenSpec.ofChange fnExactDbOkSpec)

/-- ITS FALSE NEIGHBOUR: 'it returns false'. Refute it at one input. -/
def fnExactDbOkWrong : ChangeSpec := { name := "fnExactDbOk", fn := fun _ => fun
  | [d] => { results := [.lit (.bool false)], args := [d] }
  | _ => none }
def FnExactDbOkWrongFalsely : Prop := fnExactDbOkRow.holds Try.pinned (OpenSpec.ofChange fnExactDbOkWrong)

/-- 'laws.FnExactRowsOf': WHATEVER THE INPUT: true; the input reads as it did. -/
def fnExactRowsOfSpec : ChangeSpec := { name := "fnExactRowsOf", fn := fun _ => fun
  | [d1, d2] => { results := [.lit (.bool true)], args := [d1, d2] }
  | _ => none }
def fnExactRowsOfRow : OpenClaim := { program := "ytpipikjkhmhmhaa", sum := "e18c573946c31c25898c745ece8f059bf186f8a8af56d32980756e39959cf24f", func := "loop.example/g00030/laws.FnExactRowsOf", spec := "fnExactRowsOf", plainKeys := false, apart := false }
def FnExactRowsOfSaid : Prop := fnExactRowsOfRow.holds Try.pinned (OpenSpec.ofChange fnExactRowsOfSpec)

/-- ITS FALSE NEIGHBOUR: 'it returns false'. Refute it at one input. -/
def fnExactRowsOfWrong : ChangeSpec := { name := "fnExactRowsOf", fn := fun _ => fun
  | [d1, d2] => { results := [.lit (.bool false)], args := [d1, d2] }
  | _ => none }
def FnExactRowsOfWrongFalsely : Prop := fnExactRowsOfRow.holds Try.pinned (OpenSpec.ofChange fnExactRowsOfWrong)

/-- 'laws.FnExactReckon': WHATEVER THE INPUT: true; the input reads as it did. -/
def fnExactReckonSpec : ChangeSpec := { name := "fnExactReckon", fn := fun _ => fun
  | [d1, d2, d3] => { results := [.lit (.bool true)], args := [d1, d2, d3] }
  | _ => none }
def fnExactReckonRow : OpenClaim := { program := "ytpipikjkhmhmhaa", sum := "e18c573946c31c25898c745ece8f059bf186f8a8af56d32980756e39959cf24f", func := "loop.example/g00030/laws.FnExactReckon", spec := "fnExactReckon", unfollowed := true, recurses := true, plainKeys := false, apart := false }
def FnExactReckonSaid : Prop := fnExactReckonRow.holds Try.pinned (OpenSpec.ofChange fnExactReckonSpec)

/-- ITS FALSE NEIGHBOUR: 'it returns false'. Refute it at one input. -/
def fnExactReckonWrong : ChangeSpec := { name := "fnExactReckon", fn := fun _ => fun
  | [d1, d2, d3] => { results := [.lit (.bool false)], args := [d1, d2, d3] }
  | _ => none }
def FnExactReckonWrongFalsely : Prop := fnExactReckonRow.holds Try.pinned (OpenSpec.ofChange fnExactReckonWrong)

/- THE SECOND FORM. 'bulk': how many values and letters a reading holds, each counted each time it is reached (what is shared counts as often as it is met; a slice's spare places count too). A statement '..UptoSaid' is the law's where the arguments, and the package variables that the reading takes, are together of bulk at most 1048576: NARROWER than '..Said'. Prove '..Said' where nothing that the law and all that it calls make is longer than what came in: it says more and counts as full. Else prove '..UptoSaid'. A law counts once. -/
mutual
def uptoBulk {H : Type} : DataW H → Nat
  | .lit (.string bytes) => bytes.length + 1
  | .lit _ => 1
  | .nil => 1
  | .ptr d => uptoBulk d + 1
  | .slice elems spare => uptoBulkAll elems + uptoBulkAll spare + 1
  | .agg parts => uptoBulkAll parts + 1
  | .iface _ d => uptoBulk d + 1
  | .map entries => uptoBulkEntries entries + 1
  | .held _ => 1
def uptoBulkAll {H : Type} : List (DataW H) → Nat
  | [] => 0
  | d :: r => uptoBulk d + uptoBulkAll r
def uptoBulkEntries {H : Type} : List (Lit × DataW H) → Nat
  | [] => 0
  | x :: r => uptoBulkEntry x + uptoBulkEntries r
def uptoBulkEntry {H : Type} : Lit × DataW H → Nat
  | (.string bytes, d) => bytes.length + uptoBulk d + 1
  | (_, d) => uptoBulk d + 1
 end
def uptoSmall : (H : Type) → List (DataW H) → Bool := fun _ ds => decide (uptoBulkAll ds ≤ 1048576)
def OpenSpec.upto (s : _root_.Go.ChangeSpec) : _root_.Go.OpenSpec := { _root_.Go.OpenSpec.ofChange s with cond := some uptoSmall }

/-- 'laws.FnJoinSums', WHERE WHAT IT READS IS OF BULK AT MOST 1048576: true; the input reads as it did. -/
def fnJoinSumsUptoRow : OpenClaim := { program := "ytpipikjkhmhmhaa", sum := "e18c573946c31c25898c745ece8f059bf186f8a8af56d32980756e39959cf24f", func := "loop.example/g00030/laws.FnJoinSums", spec := "fnJoinSums", unfollowed := true, recurses := true, plainKeys := false, apart := false, narrowed := true }
def FnJoinSumsUptoSaid : Prop := fnJoinSumsUptoRow.holds Try.pinned (OpenSpec.upto fnJoinSumsSpec)

/-- 'laws.FnExactDbOk', WHERE WHAT IT READS IS OF BULK AT MOST 1048576: true; the input reads as it did. -/
def fnExactDbOkUptoRow : OpenClaim := { program := "ytpipikjkhmhmhaa", sum := "e18c573946c31c25898c745ece8f059bf186f8a8af56d32980756e39959cf24f", func := "loop.example/g00030/laws.FnExactDbOk", spec := "fnExactDbOk", plainKeys := false, apart := false, narrowed := true }
def FnExactDbOkUptoSaid : Prop := fnExactDbOkUptoRow.holds Try.pinned (OpenSpec.upto fnExactDbOkSpec)

/-- 'laws.FnExactRowsOf', WHERE WHAT IT READS IS OF BULK AT MOST 1048576: true; the input reads as it did. -/
def fnExactRowsOfUptoRow : OpenClaim := { program := "ytpipikjkhmhmhaa", sum := "e18c573946c31c25898c745ece8f059bf186f8a8af56d32980756e39959cf24f", func := "loop.example/g00030/laws.FnExactRowsOf", spec := "fnExactRowsOf", plainKeys := false, apart := false, narrowed := true }
def FnExactRowsOfUptoSaid : Prop := fnExactRowsOfUptoRow.holds Try.pinned (OpenSpec.upto fnExactRowsOfSpec)

/-- 'laws.FnExactReckon', WHERE WHAT IT READS IS OF BULK AT MOST 1048576: true; the input reads as it did. -/
def fnExactReckonUptoRow : OpenClaim := { program := "ytpipikjkhmhmhaa", sum := "e18c573946c31c25898c745ece8f059bf186f8a8af56d32980756e39959cf24f", func := "loop.example/g00030/laws.FnExactReckon", spec := "fnExactReckon", unfollowed := true, recurses := true, plainKeys := false, apart := false, narrowed := true }
def FnExactReckonUptoSaid : Prop := fnExactReckonUptoRow.holds Try.pinned (OpenSpec.upto fnExactReckonSpec)

end Rows
end Go.Proofs.Ytpipikjkhmhmhaa
