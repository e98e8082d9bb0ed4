/-
  What the calls Trim, Parts and Of of the reference of layer 2, and Word of the reference of layer 1, answer.
-/
import Derived.Test.YteldmnjgjijocaaGfpTa
namespace Go.Proofs.Yteldmnjgjijocaa
open Go.RowKit G
set_option linter.unusedVariables false

end Go.Proofs.Yteldmnjgjijocaa
