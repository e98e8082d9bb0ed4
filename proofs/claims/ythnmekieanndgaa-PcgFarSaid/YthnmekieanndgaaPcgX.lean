/-
  What the calls of package pcg answer, of the program; and that what the statements call awakes nothing.
-/
import Derived.Test.YthnmekieanndgaaPcgXb
import Derived.Test.YthnmekieanndgaaPcgJ
namespace Go.Proofs.Ythnmekieanndgaa
open Go.RowKit G
set_option linter.unusedVariables false

theorem px : PX where
  right := fun s W hs => xRightP s W hs
  map := fun s W hs => xMapP s W hs
  at_ := fun m h l x W hm i => ax.at_ m h l x W hm i
  word := fun s W hs => xWordP s W hs
  step := fun s W hs => xStepP s W hs
  back := fun s W hs => xBackP s W hs
  jumpY := fun s h l n W hs o i => xJumpY s h l n W hs o i
  jumpN := fun s h l n W hs o i => xJumpN s h l W hs o
  wordsN := fun s many W hs o => xWordsN s many W hs o
  wordsA := fun s many W hs o h => xWordsA s many W hs o h
  wordsY := fun s n W hs o hn => xWordsY s n W hs o hn
theorem awake10h : Hid (∀ W : World, Calls Try.prog 8 #[] W (Bl true W)) := Lib.hid fun W => awake10 px W
end Go.Proofs.Ythnmekieanndgaa
