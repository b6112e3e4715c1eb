/-
  No cell of these rows narrows 'for every input' (looked for: loops, veiled, ifaces, maps, wideKeys, modest, calm, conditions, laid).
  DERIVED. THE GIVEN ROWS OF THIS SEAT. 8 by the template 'for every input the law returns true; each argument reads behind the call as it read before'; 0 by the template 'total and deterministic' (their statements: YtemcpdpbikgfcaaTotals.lean).
  GIVEN WITH THE SEED: the statements are not yours to turn. If you find one false, say at which input.
  Laid BY PROGRAM, IN A SANDBOX (cutbox-rows.mjs): the forced cells as the released guide's own fill.sh prints them over the translation 285d61f58a95e762… (all of the seat's roots in one cut). By AI agents, Wed Nov 11 2026. No macro, syntax, notation, axiom, sorry.
-/
import Derived.Test.YtemcpdpbikgfcaaChecked
import GoSem.Claim
import GoSem.ClaimJoined
import GoSem.ClaimMapViews
import Derived.JoinedTies
import Derived.KernelRfl
namespace Go.Proofs.Ytemcpdpbikgfcaa
/- THE CELL 'sum', in the pinned program and in every row, IS THE sha256 OF THE DUMP (.gsa) THAT YtemcpdpbikgfcaaProg.lean LOADS. Nothing in Lean hashes anything: it is a label: what it is worth is what the hold of that sum in a sandbox is worth. -/
noncomputable def Try.pinned : Pinned := { name := "ytemcpdpbikgfcaa", sum := "285d61f58a95e76244daea1c58452d6e1082300a1b8c1bb91666352ab5580eac", checked := Try.checked }
namespace Rows
def none {H : Type} : Left H := { results := [], args := [] }

/-- 'laws.FnExactAddDiffs': WHATEVER THE INPUT: true; the input reads as it did. -/
def fnExactAddDiffsSpec : ChangeSpec := { name := "fnExactAddDiffs", fn := fun _ => fun
  | [d1, d2] => { results := [.lit (.bool true)], args := [d1, d2] }
  | _ => none }
def fnExactAddDiffsRow : OpenClaim := { program := "ytemcpdpbikgfcaa", sum := "285d61f58a95e76244daea1c58452d6e1082300a1b8c1bb91666352ab5580eac", func := "loop.example/g00030/laws.FnExactAddDiffs", spec := "fnExactAddDiffs", unfollowed := true, recurses := true, plainKeys := false, apart := false }
def FnExactAddDiffsSaid : Prop := fnExactAddDiffsRow.holds Try.pinned (OpenSpec.ofChange fnExactAddDiffsSpec)

/-- ITS FALSE NEIGHBOUR: 'it returns false'. Refute it at one input. -/
def fnExactAddDiffsWrong : ChangeSpec := { name := "fnExactAddDiffs", fn := fun _ => fun
  | [d1, d2] => { results := [.lit (.bool false)], args := [d1, d2] }
  | _ => none }
def FnExactAddDiffsWrongFalsely : Prop := fnExactAddDiffsRow.holds Try.pinned (OpenSpec.ofChange fnExactAddDiffsWrong)

/-- 'laws.FnExactDiffOf': WHATEVER THE INPUT: true; the input reads as it did. -/
def fnExactDiffOfSpec : ChangeSpec := { name := "fnExactDiffOf", fn := fun _ => fun
  | [d1, d2] => { results := [.lit (.bool true)], args := [d1, d2] }
  | _ => none }
def fnExactDiffOfRow : OpenClaim := { program := "ytemcpdpbikgfcaa", sum := "285d61f58a95e76244daea1c58452d6e1082300a1b8c1bb91666352ab5580eac", func := "loop.example/g00030/laws.FnExactDiffOf", spec := "fnExactDiffOf", unfollowed := true, recurses := true, plainKeys := false, apart := false }
def FnExactDiffOfSaid : Prop := fnExactDiffOfRow.holds Try.pinned (OpenSpec.ofChange fnExactDiffOfSpec)

/-- ITS FALSE NEIGHBOUR: 'it returns false'. Refute it at one input. -/
def fnExactDiffOfWrong : ChangeSpec := { name := "fnExactDiffOf", fn := fun _ => fun
  | [d1, d2] => { results := [.lit (.bool false)], args := [d1, d2] }
  | _ => none }
def FnExactDiffOfWrongFalsely : Prop := fnExactDiffOfRow.holds Try.pinned (OpenSpec.ofChange fnExactDiffOfWrong)

/-- 'laws.FnExactFlips': WHATEVER THE INPUT: true; the input reads as it did. -/
def fnExactFlipsSpec : ChangeSpec := { name := "fnExactFlips", fn := fun _ => fun
  | [d1, d2] => { results := [.lit (.bool true)], args := [d1, d2] }
  | _ => none }
def fnExactFlipsRow : OpenClaim := { program := "ytemcpdpbikgfcaa", sum := "285d61f58a95e76244daea1c58452d6e1082300a1b8c1bb91666352ab5580eac", func := "loop.example/g00030/laws.FnExactFlips", spec := "fnExactFlips", unfollowed := true, recurses := true, plainKeys := false, apart := false }
def FnExactFlipsSaid : Prop := fnExactFlipsRow.holds Try.pinned (OpenSpec.ofChange fnExactFlipsSpec)

/-- ITS FALSE NEIGHBOUR: 'it returns false'. Refute it at one input. -/
def fnExactFlipsWrong : ChangeSpec := { name := "fnExactFlips", fn := fun _ => fun
  | [d1, d2] => { results := [.lit (.bool false)], args := [d1, d2] }
  | _ => none }
def FnExactFlipsWrongFalsely : Prop := fnExactFlipsRow.holds Try.pinned (OpenSpec.ofChange fnExactFlipsWrong)

/-- 'laws.FnExactJoinDiffs': WHATEVER THE INPUT: true; the input reads as it did. -/
def fnExactJoinDiffsSpec : ChangeSpec := { name := "fnExactJoinDiffs", fn := fun _ => fun
  | [d1, d2, d3] => { results := [.lit (.bool true)], args := [d1, d2, d3] }
  | _ => none }
def fnExactJoinDiffsRow : OpenClaim := { program := "ytemcpdpbikgfcaa", sum := "285d61f58a95e76244daea1c58452d6e1082300a1b8c1bb91666352ab5580eac", func := "loop.example/g00030/laws.FnExactJoinDiffs", spec := "fnExactJoinDiffs", unfollowed := true, recurses := true, plainKeys := false, apart := false }
def FnExactJoinDiffsSaid : Prop := fnExactJoinDiffsRow.holds Try.pinned (OpenSpec.ofChange fnExactJoinDiffsSpec)

/-- ITS FALSE NEIGHBOUR: 'it returns false'. Refute it at one input. -/
def fnExactJoinDiffsWrong : ChangeSpec := { name := "fnExactJoinDiffs", fn := fun _ => fun
  | [d1, d2, d3] => { results := [.lit (.bool false)], args := [d1, d2, d3] }
  | _ => none }
def FnExactJoinDiffsWrongFalsely : Prop := fnExactJoinDiffsRow.holds Try.pinned (OpenSpec.ofChange fnExactJoinDiffsWrong)

/-- 'laws.FnExactProject': WHATEVER THE INPUT: true; the input reads as it did. -/
def fnExactProjectSpec : ChangeSpec := { name := "fnExactProject", fn := fun _ => fun
  | [d1, d2] => { results := [.lit (.bool true)], args := [d1, d2] }
  | _ => none }
def fnExactProjectRow : OpenClaim := { program := "ytemcpdpbikgfcaa", sum := "285d61f58a95e76244daea1c58452d6e1082300a1b8c1bb91666352ab5580eac", func := "loop.example/g00030/laws.FnExactProject", spec := "fnExactProject", unfollowed := true, recurses := true, plainKeys := false, apart := false }
def FnExactProjectSaid : Prop := fnExactProjectRow.holds Try.pinned (OpenSpec.ofChange fnExactProjectSpec)

/-- ITS FALSE NEIGHBOUR: 'it returns false'. Refute it at one input. -/
def fnExactProjectWrong : ChangeSpec := { name := "fnExactProject", fn := fun _ => fun
  | [d1, d2] => { results := [.lit (.bool false)], args := [d1, d2] }
  | _ => none }
def FnExactProjectWrongFalsely : Prop := fnExactProjectRow.holds Try.pinned (OpenSpec.ofChange fnExactProjectWrong)

/-- 'laws.FnFlips': WHATEVER THE INPUT: true; the input reads as it did. -/
def fnFlipsSpec : ChangeSpec := { name := "fnFlips", fn := fun _ => fun
  | [d] => { results := [.lit (.bool true)], args := [d] }
  | _ => none }
def fnFlipsRow : OpenClaim := { program := "ytemcpdpbikgfcaa", sum := "285d61f58a95e76244daea1c58452d6e1082300a1b8c1bb91666352ab5580eac", func := "loop.example/g00030/laws.FnFlips", spec := "fnFlips", unfollowed := true, recurses := true, plainKeys := false, apart := false }
def FnFlipsSaid : Prop := fnFlipsRow.holds Try.pinned (OpenSpec.ofChange fnFlipsSpec)

/-- ITS FALSE NEIGHBOUR: 'it returns false'. Refute it at one input. -/
def fnFlipsWrong : ChangeSpec := { name := "fnFlips", fn := fun _ => fun
  | [d] => { results := [.lit (.bool false)], args := [d] }
  | _ => none }
def FnFlipsWrongFalsely : Prop := fnFlipsRow.holds Try.pinned (OpenSpec.ofChange fnFlipsWrong)

/-- 'laws.FnJoinSums': WHATEVER THE INPUT: true; the input reads as it did. -/
def fnJoinSumsSpec : ChangeSpec := { name := "fnJoinSums", fn := fun _ => fun
  | [d1, d2] => { results := [.lit (.bool true)], args := [d1, d2] }
  | _ => none }
def fnJoinSumsRow : OpenClaim := { program := "ytemcpdpbikgfcaa", sum := "285d61f58a95e76244daea1c58452d6e1082300a1b8c1bb91666352ab5580eac", func := "loop.example/g00030/laws.FnJoinSums", spec := "fnJoinSums", unfollowed := true, recurses := true, plainKeys := false, apart := false }
def FnJoinSumsSaid : Prop := fnJoinSumsRow.holds Try.pinned (OpenSpec.ofChange fnJoinSumsSpec)

/-- ITS FALSE NEIGHBOUR: 'it returns false'. Refute it at one input. -/
def fnJoinSumsWrong : ChangeSpec := { name := "fnJoinSums", fn := fun _ => fun
  | [d1, d2] => { results := [.lit (.bool false)], args := [d1, d2] }
  | _ => none }
def FnJoinSumsWrongFalsely : Prop := fnJoinSumsRow.holds Try.pinned (OpenSpec.ofChange fnJoinSumsWrong)

/-- 'laws.FnDiffSums': WHATEVER THE INPUT: true; the input reads as it did. -/
def fnDiffSumsSpec : ChangeSpec := { name := "fnDiffSums", fn := fun _ => fun
  | [d] => { results := [.lit (.bool true)], args := [d] }
  | _ => none }
def fnDiffSumsRow : OpenClaim := { program := "ytemcpdpbikgfcaa", sum := "285d61f58a95e76244daea1c58452d6e1082300a1b8c1bb91666352ab5580eac", func := "loop.example/g00030/laws.FnDiffSums", spec := "fnDiffSums", unfollowed := true, recurses := true, plainKeys := false, apart := false }
def FnDiffSumsSaid : Prop := fnDiffSumsRow.holds Try.pinned (OpenSpec.ofChange fnDiffSumsSpec)

/-- ITS FALSE NEIGHBOUR: 'it returns false'. Refute it at one input. -/
def fnDiffSumsWrong : ChangeSpec := { name := "fnDiffSums", fn := fun _ => fun
  | [d] => { results := [.lit (.bool false)], args := [d] }
  | _ => none }
def FnDiffSumsWrongFalsely : Prop := fnDiffSumsRow.holds Try.pinned (OpenSpec.ofChange fnDiffSumsWrong)

/- THE SECOND FORM. 'bulk': how many values and letters a reading holds, each counted each time it is reached (what is shared counts as often as it is met; a slice's spare places count too). A statement '..UptoSaid' is the law's where the arguments, and the package variables that the reading takes, are together of bulk at most 1048576: NARROWER than '..Said'. Prove '..Said' where nothing that the law and all that it calls make is longer than what came in: it says more and counts as full. Else prove '..UptoSaid'. A law counts once. -/
mutual
def uptoBulk {H : Type} : DataW H → Nat
  | .lit (.string bytes) => bytes.length + 1
  | .lit _ => 1
  | .nil => 1
  | .ptr d => uptoBulk d + 1
  | .slice elems spare => uptoBulkAll elems + uptoBulkAll spare + 1
  | .agg parts => uptoBulkAll parts + 1
  | .iface _ d => uptoBulk d + 1
  | .map entries => uptoBulkEntries entries + 1
  | .held _ => 1
def uptoBulkAll {H : Type} : List (DataW H) → Nat
  | [] => 0
  | d :: r => uptoBulk d + uptoBulkAll r
def uptoBulkEntries {H : Type} : List (Lit × DataW H) → Nat
  | [] => 0
  | x :: r => uptoBulkEntry x + uptoBulkEntries r
def uptoBulkEntry {H : Type} : Lit × DataW H → Nat
  | (.string bytes, d) => bytes.length + uptoBulk d + 1
  | (_, d) => uptoBulk d + 1
 end
def uptoSmall : (H : Type) → List (DataW H) → Bool := fun _ ds => decide (uptoBulkAll ds ≤ 1048576)
def OpenSpec.upto (s : _root_.Go.ChangeSpec) : _root_.Go.OpenSpec := { _root_.Go.OpenSpec.ofChange s with cond := some uptoSmall }

/-- 'laws.FnExactAddDiffs', WHERE WHAT IT READS IS OF BULK AT MOST 1048576: true; the input reads as it did. -/
def fnExactAddDiffsUptoRow : OpenClaim := { program := "ytemcpdpbikgfcaa", sum := "285d61f58a95e76244daea1c58452d6e1082300a1b8c1bb91666352ab5580eac", func := "loop.example/g00030/laws.FnExactAddDiffs", spec := "fnExactAddDiffs", unfollowed := true, recurses := true, plainKeys := false, apart := false, narrowed := true }
def FnExactAddDiffsUptoSaid : Prop := fnExactAddDiffsUptoRow.holds Try.pinned (OpenSpec.upto fnExactAddDiffsSpec)

/-- 'laws.FnExactDiffOf', WHERE WHAT IT READS IS OF BULK AT MOST 1048576: true; the input reads as it did. -/
def fnExactDiffOfUptoRow : OpenClaim := { program := "ytemcpdpbikgfcaa", sum := "285d61f58a95e76244daea1c58452d6e1082300a1b8c1bb91666352ab5580eac", func := "loop.example/g00030/laws.FnExactDiffOf", spec := "fnExactDiffOf", unfollowed := true, recurses := true, plainKeys := false, apart := false, narrowed := true }
def FnExactDiffOfUptoSaid : Prop := fnExactDiffOfUptoRow.holds Try.pinned (OpenSpec.upto fnExactDiffOfSpec)

/-- 'laws.FnExactFlips', WHERE WHAT IT READS IS OF BULK AT MOST 1048576: true; the input reads as it did. -/
def fnExactFlipsUptoRow : OpenClaim := { program := "ytemcpdpbikgfcaa", sum := "285d61f58a95e76244daea1c58452d6e1082300a1b8c1bb91666352ab5580eac", func := "loop.example/g00030/laws.FnExactFlips", spec := "fnExactFlips", unfollowed := true, recurses := true, plainKeys := false, apart := false, narrowed := true }
def FnExactFlipsUptoSaid : Prop := fnExactFlipsUptoRow.holds Try.pinned (OpenSpec.upto fnExactFlipsSpec)

/-- 'laws.FnExactJoinDiffs', WHERE WHAT IT READS IS OF BULK AT MOST 1048576: true; the input reads as it did. -/
def fnExactJoinDiffsUptoRow : OpenClaim := { program := "ytemcpdpbikgfcaa", sum := "285d61f58a95e76244daea1c58452d6e1082300a1b8c1bb91666352ab5580eac", func := "loop.example/g00030/laws.FnExactJoinDiffs", spec := "fnExactJoinDiffs", unfollowed := true, recurses := true, plainKeys := false, apart := false, narrowed := true }
def FnExactJoinDiffsUptoSaid : Prop := fnExactJoinDiffsUptoRow.holds Try.pinned (OpenSpec.upto fnExactJoinDiffsSpec)

/-- 'laws.FnExactProject', WHERE WHAT IT READS IS OF BULK AT MOST 1048576: true; the input reads as it did. -/
def fnExactProjectUptoRow : OpenClaim := { program := "ytemcpdpbikgfcaa", sum := "285d61f58a95e76244daea1c58452d6e1082300a1b8c1bb91666352ab5580eac", func := "loop.example/g00030/laws.FnExactProject", spec := "fnExactProject", unfollowed := true, recurses := true, plainKeys := false, apart := false, narrowed := true }
def FnExactProjectUptoSaid : Prop := fnExactProjectUptoRow.holds Try.pinned (OpenSpec.upto fnExactProjectSpec)

/-- 'laws.FnFlips', WHERE WHAT IT READS IS OF BULK AT MOST 1048576: true; the input reads as it did. -/
def fnFlipsUptoRow : OpenClaim := { program := "ytemcpdpbikgfcaa", sum := "285d61f58a95e76244daea1c58452d6e1082300a1b8c1bb91666352ab5580eac", func := "loop.example/g00030/laws.FnFlips", spec := "fnFlips", unfollowed := true, recurses := true, plainKeys := false, apart := false, narrowed := true }
def FnFlipsUptoSaid : Prop := fnFlipsUptoRow.holds Try.pinned (OpenSpec.upto fnFlipsSpec)

/-- 'laws.FnJoinSums', WHERE WHAT IT READS IS OF BULK AT MOST 1048576: true; the input reads as it did. -/
def fnJoinSumsUptoRow : OpenClaim := { program := "ytemcpdpbikgfcaa", sum := "285d61f58a95e76244daea1c58452d6e1082300a1b8c1bb91666352ab5580eac", func := "loop.example/g00030/laws.FnJoinSums", spec := "fnJoinSums", unfollowed := true, recurses := true, plainKeys := false, apart := false, narrowed := true }
def FnJoinSumsUptoSaid : Prop := fnJoinSumsUptoRow.holds Try.pinned (OpenSpec.upto fnJoinSumsSpec)

/-- 'laws.FnDiffSums', WHERE WHAT IT READS IS OF BULK AT MOST 1048576: true; the input reads as it did. -/
def fnDiffSumsUptoRow : OpenClaim := { program := "ytemcpdpbikgfcaa", sum := "285d61f58a95e76244daea1c58452d6e1082300a1b8c1bb91666352ab5580eac", func := "loop.example/g00030/laws.FnDiffSums", spec := "fnDiffSums", unfollowed := true, recurses := true, plainKeys := false, apart := false, narrowed := true }
def FnDiffSumsUptoSaid : Prop := fnDiffSumsUptoRow.holds Try.pinned (OpenSpec.upto fnDiffSumsSpec)

end Rows
end Go.Proofs.Ytemcpdpbikgfcaa
