/-
  No cell of these rows narrows 'for every input' (looked for: loops, veiled, ifaces, maps, wideKeys, modest, calm, conditions, laid).
  DERIVED. THE GIVEN ROWS OF THIS SEAT. 4 by the template 'for every input the law returns true; each argument reads behind the call as it read before'; 0 by the template 'total and deterministic' (their statements: YtmfgpijaplokiaaTotals.lean).
  GIVEN WITH THE SEED: the statements are not yours to turn. If you find one false, say at which input.
  Laid BY PROGRAM, IN A SANDBOX (cutbox-rows.mjs): the forced cells as the released guide's own fill.sh prints them over the translation 15bc0a34e87256fe… (all of the seat's roots in one cut). By AI agents, Wed Nov 11 2026. No macro, syntax, notation, axiom, sorry.
-/
import Derived.Test.YtmfgpijaplokiaaChecked
import GoSem.Claim
import GoSem.ClaimJoined
import GoSem.ClaimMapViews
import Derived.JoinedTies
import Derived.KernelRfl
namespace Go.Proofs.Ytmfgpijaplokiaa
/- THE CELL 'sum', in the pinned program and in every row, IS THE sha256 OF THE DUMP (.gsa) THAT YtmfgpijaplokiaaProg.lean LOADS. Nothing in Lean hashes anything: it is a label: what it is worth is what the hold of that sum in a sandbox is worth. -/
noncomputable def Try.pinned : Pinned := { name := "ytmfgpijaplokiaa", sum := "15bc0a34e87256fe89405ed3656658aec12542eb167b43949ece4b683c04ccc7", checked := Try.checked }
namespace Rows
def none {H : Type} : Left H := { results := [], args := [] }

/-- 'knucklebonelaw02.GfpTells': WHATEVER THE INPUT: true; the input reads as it did. -/
def gfpTellsSpec : ChangeSpec := { name := "gfpTells", fn := fun _ => fun
  | [d1, d2, d3] => { results := [.lit (.bool true)], args := [d1, d2, d3] }
  | _ => none }
def gfpTellsRow : OpenClaim := { program := "ytmfgpijaplokiaa", sum := "15bc0a34e87256fe89405ed3656658aec12542eb167b43949ece4b683c04ccc7", func := "knucklebone/knucklebonelaw02.GfpTells", spec := "gfpTells", unfollowed := true, recurses := true, apart := false }
def GfpTellsSaid : Prop := gfpTellsRow.holds Try.pinned (OpenSpec.ofChange gfpTellsSpec)

/-- ITS FALSE NEIGHBOUR: 'it returns false'. Refute it at one input. -/
def gfpTellsWrong : ChangeSpec := { name := "gfpTells", fn := fun _ => fun
  | [d1, d2, d3] => { results := [.lit (.bool false)], args := [d1, d2, d3] }
  | _ => none }
def GfpTellsWrongFalsely : Prop := gfpTellsRow.holds Try.pinned (OpenSpec.ofChange gfpTellsWrong)

/-- 'knucklebonelaw02.GfpRing': WHATEVER THE INPUT: true; the input reads as it did. -/
def gfpRingSpec : ChangeSpec := { name := "gfpRing", fn := fun _ => fun
  | [d1, d2, d3] => { results := [.lit (.bool true)], args := [d1, d2, d3] }
  | _ => none }
def gfpRingRow : OpenClaim := { program := "ytmfgpijaplokiaa", sum := "15bc0a34e87256fe89405ed3656658aec12542eb167b43949ece4b683c04ccc7", func := "knucklebone/knucklebonelaw02.GfpRing", spec := "gfpRing", unfollowed := true, recurses := true, apart := false }
def GfpRingSaid : Prop := gfpRingRow.holds Try.pinned (OpenSpec.ofChange gfpRingSpec)

/-- ITS FALSE NEIGHBOUR: 'it returns false'. Refute it at one input. -/
def gfpRingWrong : ChangeSpec := { name := "gfpRing", fn := fun _ => fun
  | [d1, d2, d3] => { results := [.lit (.bool false)], args := [d1, d2, d3] }
  | _ => none }
def GfpRingWrongFalsely : Prop := gfpRingRow.holds Try.pinned (OpenSpec.ofChange gfpRingWrong)

/-- 'knucklebonelaw02.GfpSquares': WHATEVER THE INPUT: true; the input reads as it did. -/
def gfpSquaresSpec : ChangeSpec := { name := "gfpSquares", fn := fun _ => fun
  | [d1, d2, d3] => { results := [.lit (.bool true)], args := [d1, d2, d3] }
  | _ => none }
def gfpSquaresRow : OpenClaim := { program := "ytmfgpijaplokiaa", sum := "15bc0a34e87256fe89405ed3656658aec12542eb167b43949ece4b683c04ccc7", func := "knucklebone/knucklebonelaw02.GfpSquares", spec := "gfpSquares", unfollowed := true, recurses := true, apart := false }
def GfpSquaresSaid : Prop := gfpSquaresRow.holds Try.pinned (OpenSpec.ofChange gfpSquaresSpec)

/-- ITS FALSE NEIGHBOUR: 'it returns false'. Refute it at one input. -/
def gfpSquaresWrong : ChangeSpec := { name := "gfpSquares", fn := fun _ => fun
  | [d1, d2, d3] => { results := [.lit (.bool false)], args := [d1, d2, d3] }
  | _ => none }
def GfpSquaresWrongFalsely : Prop := gfpSquaresRow.holds Try.pinned (OpenSpec.ofChange gfpSquaresWrong)

/-- 'knucklebonelaw02.GfpDegrees': WHATEVER THE INPUT: true; the input reads as it did. -/
def gfpDegreesSpec : ChangeSpec := { name := "gfpDegrees", fn := fun _ => fun
  | [d1, d2, d3] => { results := [.lit (.bool true)], args := [d1, d2, d3] }
  | _ => none }
def gfpDegreesRow : OpenClaim := { program := "ytmfgpijaplokiaa", sum := "15bc0a34e87256fe89405ed3656658aec12542eb167b43949ece4b683c04ccc7", func := "knucklebone/knucklebonelaw02.GfpDegrees", spec := "gfpDegrees", unfollowed := true, recurses := true, apart := false }
def GfpDegreesSaid : Prop := gfpDegreesRow.holds Try.pinned (OpenSpec.ofChange gfpDegreesSpec)

/-- ITS FALSE NEIGHBOUR: 'it returns false'. Refute it at one input. -/
def gfpDegreesWrong : ChangeSpec := { name := "gfpDegrees", fn := fun _ => fun
  | [d1, d2, d3] => { results := [.lit (.bool false)], args := [d1, d2, d3] }
  | _ => none }
def GfpDegreesWrongFalsely : Prop := gfpDegreesRow.holds Try.pinned (OpenSpec.ofChange gfpDegreesWrong)

/- THE SECOND FORM. 'bulk': how many values and letters a reading holds, each counted each time it is reached (what is shared counts as often as it is met; a slice's spare places count too). A statement '..UptoSaid' is the law's where the arguments, and the package variables that the reading takes, are together of bulk at most 1048576: NARROWER than '..Said'. Prove '..Said' where nothing that the law and all that it calls make is longer than what came in: it says more and counts as full. Else prove '..UptoSaid'. A law counts once. -/
mutual
def uptoBulk {H : Type} : DataW H → Nat
  | .lit (.string bytes) => bytes.length + 1
  | .lit _ => 1
  | .nil => 1
  | .ptr d => uptoBulk d + 1
  | .slice elems spare => uptoBulkAll elems + uptoBulkAll spare + 1
  | .agg parts => uptoBulkAll parts + 1
  | .iface _ d => uptoBulk d + 1
  | .map entries => uptoBulkEntries entries + 1
  | .held _ => 1
def uptoBulkAll {H : Type} : List (DataW H) → Nat
  | [] => 0
  | d :: r => uptoBulk d + uptoBulkAll r
def uptoBulkEntries {H : Type} : List (Lit × DataW H) → Nat
  | [] => 0
  | x :: r => uptoBulkEntry x + uptoBulkEntries r
def uptoBulkEntry {H : Type} : Lit × DataW H → Nat
  | (.string bytes, d) => bytes.length + uptoBulk d + 1
  | (_, d) => uptoBulk d + 1
 end
def uptoSmall : (H : Type) → List (DataW H) → Bool := fun _ ds => decide (uptoBulkAll ds ≤ 1048576)
def OpenSpec.upto (s : _root_.Go.ChangeSpec) : _root_.Go.OpenSpec := { _root_.Go.OpenSpec.ofChange s with cond := some uptoSmall }

/-- 'knucklebonelaw02.GfpTells', WHERE WHAT IT READS IS OF BULK AT MOST 1048576: true; the input reads as it did. -/
def gfpTellsUptoRow : OpenClaim := { program := "ytmfgpijaplokiaa", sum := "15bc0a34e87256fe89405ed3656658aec12542eb167b43949ece4b683c04ccc7", func := "knucklebone/knucklebonelaw02.GfpTells", spec := "gfpTells", unfollowed := true, recurses := true, apart := false, narrowed := true }
def GfpTellsUptoSaid : Prop := gfpTellsUptoRow.holds Try.pinned (OpenSpec.upto gfpTellsSpec)

/-- 'knucklebonelaw02.GfpRing', WHERE WHAT IT READS IS OF BULK AT MOST 1048576: true; the input reads as it did. -/
def gfpRingUptoRow : OpenClaim := { program := "ytmfgpijaplokiaa", sum := "15bc0a34e87256fe89405ed3656658aec12542eb167b43949ece4b683c04ccc7", func := "knucklebone/knucklebonelaw02.GfpRing", spec := "gfpRing", unfollowed := true, recurses := true, apart := false, narrowed := true }
def GfpRingUptoSaid : Prop := gfpRingUptoRow.holds Try.pinned (OpenSpec.upto gfpRingSpec)

/-- 'knucklebonelaw02.GfpSquares', WHERE WHAT IT READS IS OF BULK AT MOST 1048576: true; the input reads as it did. -/
def gfpSquaresUptoRow : OpenClaim := { program := "ytmfgpijaplokiaa", sum := "15bc0a34e87256fe89405ed3656658aec12542eb167b43949ece4b683c04ccc7", func := "knucklebone/knucklebonelaw02.GfpSquares", spec := "gfpSquares", unfollowed := true, recurses := true, apart := false, narrowed := true }
def GfpSquaresUptoSaid : Prop := gfpSquaresUptoRow.holds Try.pinned (OpenSpec.upto gfpSquaresSpec)

/-- 'knucklebonelaw02.GfpDegrees', WHERE WHAT IT READS IS OF BULK AT MOST 1048576: true; the input reads as it did. -/
def gfpDegreesUptoRow : OpenClaim := { program := "ytmfgpijaplokiaa", sum := "15bc0a34e87256fe89405ed3656658aec12542eb167b43949ece4b683c04ccc7", func := "knucklebone/knucklebonelaw02.GfpDegrees", spec := "gfpDegrees", unfollowed := true, recurses := true, apart := false, narrowed := true }
def GfpDegreesUptoSaid : Prop := gfpDegreesUptoRow.holds Try.pinned (OpenSpec.upto gfpDegreesSpec)

end Rows
end Go.Proofs.Ytmfgpijaplokiaa
