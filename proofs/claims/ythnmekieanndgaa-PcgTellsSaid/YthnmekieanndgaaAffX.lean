/-
  What the calls of package affine answer, of the landed program; and that what the statements call awakes nothing.
-/
import Derived.Test.YthnmekieanndgaaAffXi
import Derived.Test.YthnmekieanndgaaAffXp
import Derived.Test.YthnmekieanndgaaAffJ
namespace Go.Proofs.Ythnmekieanndgaa
open Go.RowKit G
set_option linter.unusedVariables false

theorem ax : AX where
  one := xOne
  at_ := fun m h l x W hm i => xAtM m h l x W hm i
  thn := fun m n W hm hn => xThenM m n W hm hn
  pow := fun m h l n W hm i => xPowM m h l n W hm i
  invY := fun m W hm h => xInvY m W hm h
  invN := fun m W hm h => xInvN m W hm h
  oddY := fun h l n W i hn => xOddY h l n W i hn
  oddN := fun h l n W i hn => xOddN h l n W i hn
end Go.Proofs.Ythnmekieanndgaa
