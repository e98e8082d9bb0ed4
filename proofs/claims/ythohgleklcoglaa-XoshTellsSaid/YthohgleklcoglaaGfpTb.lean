/-
  What the calls Trim, Parts and Of of the reference of layer 2, and Word of the reference of layer 1, answer.
-/
import Derived.Test.YthohgleklcoglaaGfpTa
namespace Go.Proofs.Ythohgleklcoglaa
open Go.RowKit G
set_option linter.unusedVariables false

end Go.Proofs.Ythohgleklcoglaa
