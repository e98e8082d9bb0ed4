/-
  awake of layer 9's statements answers true, from what affine's calls answer.
-/
import Derived.Test.YthnmekieanndgaaAffBackW
namespace Go.Proofs.Ythnmekieanndgaa
open Go.RowKit G
set_option linter.unusedVariables false
set_option maxRecDepth 100000

def mK : Mp := ⟨3, 1⟩
theorem mK_ok : mK.Ok := ⟨by decide, by decide⟩
theorem wn0 (n : Nat) (h : n < 18446744073709551616) : Wn 0 (n : Int) n := ⟨by omega, by omega, by omega, by omega, by omega⟩
end Go.Proofs.Ythnmekieanndgaa
