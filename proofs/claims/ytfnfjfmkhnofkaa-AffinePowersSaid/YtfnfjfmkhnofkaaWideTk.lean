/-
  What Same of the reference of layer 1 answers at two lists of the same bytes: true.
-/
import Derived.Test.YtfnfjfmkhnofkaaWideD
import Derived.BigQuiet
namespace Go.Proofs.Ytfnfjfmkhnofkaa.Wd
open Go.RowKit
set_option linter.unusedVariables false

end Go.Proofs.Ytfnfjfmkhnofkaa.Wd
