/-
  What Right of the reference of layer 1 answers at the place 128; Right and Left by value.
-/
import Derived.Test.YtfnfjfmkhnofkaaWideTh
namespace Go.Proofs.Ytfnfjfmkhnofkaa.Wd
open Go.RowKit
set_option linter.unusedVariables false

end Go.Proofs.Ytfnfjfmkhnofkaa.Wd
