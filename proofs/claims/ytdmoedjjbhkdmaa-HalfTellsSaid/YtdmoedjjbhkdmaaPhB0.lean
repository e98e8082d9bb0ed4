/-
  In the place of XPhB0 in a seat that holds layer 2's texts.
-/
import Derived.Test.YtdmoedjjbhkdmaaUnA
import Derived.Test.YtdmoedjjbhkdmaaGfpJa
import Derived.WalkKit
import Derived.ProofKit
import Derived.OpenShut
import Derived.Handy
import Derived.Lib.Hide
import Derived.Deep.QuietTactic
import Derived.BigQuiet
import Derived.Laws.BitsAllLaws
import Derived.Deep.LoopGhost
import Derived.Deep.RegionWith
import Derived.Deep.RegionHeld3
import Derived.Deep.DeepCutAuto
import Derived.WalkMore
