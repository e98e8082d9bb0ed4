/-
  The walk of AffineBack, from what affine's calls answer.
-/
import Derived.Test.YthnmekieanndgaaAffThenW
import Derived.Deep.DeepCutAuto
namespace Go.Proofs.Ythnmekieanndgaa
open Go.RowKit G
set_option linter.unusedVariables false
set_option maxRecDepth 100000

/-- A call that tells a map, or a number, and an error's number: its words named. -/
abbrev TME (f : FuncId) (args : Array Value) (p q r s k : Int) : Prop := ∀ W : World, Calls Try.prog f args W (fun e w' => e = .returned (.tuple #[.agg #[.int .u64 p, .int .u64 q, .int .u64 r, .int .u64 s], .int .i64 k]) ∧ Below W.heap.size W w')
abbrev TNE (f : FuncId) (args : Array Value) (h l k : Int) : Prop := ∀ W : World, Calls Try.prog f args W (fun e w' => e = .returned (.tuple #[.agg #[.int .u64 h, .int .u64 l], .int .i64 k]) ∧ Below W.heap.size W w')
end Go.Proofs.Ythnmekieanndgaa
