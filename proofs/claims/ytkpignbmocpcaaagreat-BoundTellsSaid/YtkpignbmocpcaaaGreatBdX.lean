/-
  What the calls of package bound answer, as the statements' walks ask it.
-/
import Derived.Test.YtkpignbmocpcaaaGreatBdXc
namespace Go.Proofs.YtkpignbmocpcaaaGreat
open Go.RowKit
set_option linter.unusedVariables false
set_option maxRecDepth 100000

theorem bnd : BX where
  acc x b hx hb w := bAccept hx hb w
  rng v b hv hb w := bRange hv hb w
  nil b w hb := bNextNil b w
  zero d w := bNextZero d w
  take d c n f s t b w h hf hp ht h0 hb hk := bNextTake h hf hp ht h0 hb hk
  five d c n f s w h hp hk := bPermFive' (n := 5) rfl h hp hk
  long d w := bPermLong d w
  one d w := bPermOne' (n := 1) rfl d w
end Go.Proofs.YtkpignbmocpcaaaGreat
