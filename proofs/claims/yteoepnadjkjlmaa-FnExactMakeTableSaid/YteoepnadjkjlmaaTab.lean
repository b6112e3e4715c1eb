/-
  Tables in memory: all together.
-/
import Derived.Test.YteoepnadjkjlmaaSzT
import Derived.Test.YteoepnadjkjlmaaEqT
namespace Go.Proofs.Yteoepnadjkjlmaa
open Go.RowKit
set_option linter.unusedVariables false

end Go.Proofs.Yteoepnadjkjlmaa
