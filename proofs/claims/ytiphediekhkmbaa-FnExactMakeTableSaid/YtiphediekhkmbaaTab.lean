/-
  Tables in memory: all together.
-/
import Derived.Test.YtiphediekhkmbaaSzT
import Derived.Test.YtiphediekhkmbaaEqT
namespace Go.Proofs.Ytiphediekhkmbaa
open Go.RowKit
set_option linter.unusedVariables false

end Go.Proofs.Ytiphediekhkmbaa
