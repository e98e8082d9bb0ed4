/-
  What the calls of package philox answer; awake of layer 11's statements answers true.
-/
import Derived.Test.YtfockbhicmdehaaPhXe
import Derived.Test.YtfockbhicmdehaaPhJ
namespace Go.Proofs.Ytfockbhicmdehaa
open Go.RowKit
set_option linter.unusedVariables false

theorem hx : HX where
  round := fun x k h hk => xRound x k h hk
  unround := fun x k h hk => xUnround x k h hk
  next := fun k hk => xNext k hk
  mixY := fun x k n h hk hn => xMixY x k h hk n hn
  mixN := fun x k n _ _ hn => xMixN x k n hn
  unmixY := fun x k n h hk hn => xUnmixY x k h hk n hn
  unmixN := fun x k n _ _ hn => xUnmixN x k n hn
  out := fun x k h hk => xOut x k h hk
theorem awake11h : Hid (∀ W, Calls Try.prog 7 #[] W (Bl true W)) := Lib.hid (fun W => awake11 hx W)
end Go.Proofs.Ytfockbhicmdehaa
