/-
  What the call Mul of package wide answers: the product modulo 2^128.
  No condition beside that each word lies below 2^64.
-/
import Derived.Test.YtolicfackceomaaWideA
namespace Go.Proofs.Ytolicfackceomaa.Wd
open Go.RowKit
set_option linter.unusedVariables false

end Go.Proofs.Ytolicfackceomaa.Wd
