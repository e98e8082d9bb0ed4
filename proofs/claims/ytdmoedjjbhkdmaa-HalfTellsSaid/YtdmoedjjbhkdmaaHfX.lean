/-
  What the calls of package half answer; awake of layer 12's statements answers true.
-/
import Derived.Test.YtdmoedjjbhkdmaaHfXe
import Derived.Test.YtdmoedjjbhkdmaaHfXf
import Derived.Test.YtdmoedjjbhkdmaaHfJ
namespace Go.Proofs.Ytdmoedjjbhkdmaa
open Go.RowKit
set_option linter.unusedVariables false

theorem hf : HF where
  block := fun c hc => xBlock c hc
  number := fun b hb => xNumber b hb
  word := fun x hx => xWordH x hx
  step := fun x hx => xStepH x hx
  back := fun x hx => xBackH x hx
  jump := fun x n hx hn => xJumpH x n hx hn
  wordsN := fun x many W _ h => xWordsHN x many W h
  wordsY := fun x n W hx hn => xWordsHY x n W hx hn
theorem awake12h : Hid (∀ W, Calls Try.prog 8 #[] W (Bl true W)) := Lib.hid (fun W => awake12 hf W)
end Go.Proofs.Ytdmoedjjbhkdmaa
