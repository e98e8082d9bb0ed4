/-
  In the place of XPhP0 in a seat that holds layer 2's texts.
-/
import Derived.Test.YtdmoedjjbhkdmaaGfpJa
import Derived.Test.YtdmoedjjbhkdmaaPhB0
import Derived.Lib.SmallJoins
import Derived.WideKeyArgs
import Derived.ChangeSlices
import Derived.ChangeSame
import Derived.Laws.IdiomArrays
