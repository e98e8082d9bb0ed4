/-
  No cell of these rows narrows 'for every input' (looked for: loops, veiled, ifaces, maps, wideKeys, modest, calm, conditions, laid).
  DERIVED. THE GIVEN ROWS OF THIS SEAT. 5 by the template 'for every input the law returns true; each argument reads behind the call as it read before'; 0 by the template 'total and deterministic' (their statements: YtdmoedjjbhkdmaaTotals.lean).
  GIVEN WITH THE SEED: the statements are not yours to turn. If you find one false, say at which input.
  Laid BY PROGRAM, IN A SANDBOX (cutbox-rows.mjs): the forced cells as the released guide's own fill.sh prints them over the translation 480a9d2a4b65ee23… (all of the seat's roots in one cut). By AI agents, Wed Nov 11 2026. No macro, syntax, notation, axiom, sorry.
-/
import Derived.Test.YtdmoedjjbhkdmaaChecked
import GoSem.Claim
import GoSem.ClaimJoined
import GoSem.ClaimMapViews
import Derived.JoinedTies
import Derived.KernelRfl
namespace Go.Proofs.Ytdmoedjjbhkdmaa
/- THE CELL 'sum', in the pinned program and in every row, IS THE sha256 OF THE DUMP (.gsa) THAT YtdmoedjjbhkdmaaProg.lean LOADS. Nothing in Lean hashes anything: it is a label: what it is worth is what the hold of that sum in a sandbox is worth. -/
noncomputable def Try.pinned : Pinned := { name := "ytdmoedjjbhkdmaa", sum := "480a9d2a4b65ee231f0baa643c8932624686840cda40a7f29e0b19331739d220", checked := Try.checked }
namespace Rows
def none {H : Type} : Left H := { results := [], args := [] }

/-- 'knucklebonelaw12.HalfTells': WHATEVER THE INPUT: true; the input reads as it did. -/
def halfTellsSpec : ChangeSpec := { name := "halfTells", fn := fun _ => fun
  | [d1, d2, d3] => { results := [.lit (.bool true)], args := [d1, d2, d3] }
  | _ => none }
def halfTellsRow : OpenClaim := { program := "ytdmoedjjbhkdmaa", sum := "480a9d2a4b65ee231f0baa643c8932624686840cda40a7f29e0b19331739d220", func := "knucklebone/knucklebonelaw12.HalfTells", spec := "halfTells", inPlace := ["math/bits.Add64", "math/bits.Sub64"], apart := false }
def HalfTellsSaid : Prop := halfTellsRow.holds Try.pinned (OpenSpec.ofChange halfTellsSpec)

/-- ITS FALSE NEIGHBOUR: 'it returns false'. Refute it at one input. -/
def halfTellsWrong : ChangeSpec := { name := "halfTells", fn := fun _ => fun
  | [d1, d2, d3] => { results := [.lit (.bool false)], args := [d1, d2, d3] }
  | _ => none }
def HalfTellsWrongFalsely : Prop := halfTellsRow.holds Try.pinned (OpenSpec.ofChange halfTellsWrong)

/-- 'knucklebonelaw12.HalfSteps': WHATEVER THE INPUT: true; the input reads as it did. -/
def halfStepsSpec : ChangeSpec := { name := "halfSteps", fn := fun _ => fun
  | [d1, d2] => { results := [.lit (.bool true)], args := [d1, d2] }
  | _ => none }
def halfStepsRow : OpenClaim := { program := "ytdmoedjjbhkdmaa", sum := "480a9d2a4b65ee231f0baa643c8932624686840cda40a7f29e0b19331739d220", func := "knucklebone/knucklebonelaw12.HalfSteps", spec := "halfSteps", inPlace := ["math/bits.Add64", "math/bits.Sub64"], apart := false }
def HalfStepsSaid : Prop := halfStepsRow.holds Try.pinned (OpenSpec.ofChange halfStepsSpec)

/-- ITS FALSE NEIGHBOUR: 'it returns false'. Refute it at one input. -/
def halfStepsWrong : ChangeSpec := { name := "halfSteps", fn := fun _ => fun
  | [d1, d2] => { results := [.lit (.bool false)], args := [d1, d2] }
  | _ => none }
def HalfStepsWrongFalsely : Prop := halfStepsRow.holds Try.pinned (OpenSpec.ofChange halfStepsWrong)

/-- 'knucklebonelaw12.HalfBack': WHATEVER THE INPUT: true; the input reads as it did. -/
def halfBackSpec : ChangeSpec := { name := "halfBack", fn := fun _ => fun
  | [d1, d2] => { results := [.lit (.bool true)], args := [d1, d2] }
  | _ => none }
def halfBackRow : OpenClaim := { program := "ytdmoedjjbhkdmaa", sum := "480a9d2a4b65ee231f0baa643c8932624686840cda40a7f29e0b19331739d220", func := "knucklebone/knucklebonelaw12.HalfBack", spec := "halfBack", inPlace := ["math/bits.Add64", "math/bits.Sub64"], apart := false }
def HalfBackSaid : Prop := halfBackRow.holds Try.pinned (OpenSpec.ofChange halfBackSpec)

/-- ITS FALSE NEIGHBOUR: 'it returns false'. Refute it at one input. -/
def halfBackWrong : ChangeSpec := { name := "halfBack", fn := fun _ => fun
  | [d1, d2] => { results := [.lit (.bool false)], args := [d1, d2] }
  | _ => none }
def HalfBackWrongFalsely : Prop := halfBackRow.holds Try.pinned (OpenSpec.ofChange halfBackWrong)

/-- 'knucklebonelaw12.HalfJumps': WHATEVER THE INPUT: true; the input reads as it did. -/
def halfJumpsSpec : ChangeSpec := { name := "halfJumps", fn := fun _ => fun
  | [d1, d2, d3] => { results := [.lit (.bool true)], args := [d1, d2, d3] }
  | _ => none }
def halfJumpsRow : OpenClaim := { program := "ytdmoedjjbhkdmaa", sum := "480a9d2a4b65ee231f0baa643c8932624686840cda40a7f29e0b19331739d220", func := "knucklebone/knucklebonelaw12.HalfJumps", spec := "halfJumps", inPlace := ["math/bits.Add64", "math/bits.Sub64"], apart := false }
def HalfJumpsSaid : Prop := halfJumpsRow.holds Try.pinned (OpenSpec.ofChange halfJumpsSpec)

/-- ITS FALSE NEIGHBOUR: 'it returns false'. Refute it at one input. -/
def halfJumpsWrong : ChangeSpec := { name := "halfJumps", fn := fun _ => fun
  | [d1, d2, d3] => { results := [.lit (.bool false)], args := [d1, d2, d3] }
  | _ => none }
def HalfJumpsWrongFalsely : Prop := halfJumpsRow.holds Try.pinned (OpenSpec.ofChange halfJumpsWrong)

/-- 'knucklebonelaw12.HalfApart': WHATEVER THE INPUT: true; the input reads as it did. -/
def halfApartSpec : ChangeSpec := { name := "halfApart", fn := fun _ => fun
  | [d1, d2, d3] => { results := [.lit (.bool true)], args := [d1, d2, d3] }
  | _ => none }
def halfApartRow : OpenClaim := { program := "ytdmoedjjbhkdmaa", sum := "480a9d2a4b65ee231f0baa643c8932624686840cda40a7f29e0b19331739d220", func := "knucklebone/knucklebonelaw12.HalfApart", spec := "halfApart", inPlace := ["math/bits.Add64", "math/bits.Sub64"], apart := false }
def HalfApartSaid : Prop := halfApartRow.holds Try.pinned (OpenSpec.ofChange halfApartSpec)

/-- ITS FALSE NEIGHBOUR: 'it returns false'. Refute it at one input. -/
def halfApartWrong : ChangeSpec := { name := "halfApart", fn := fun _ => fun
  | [d1, d2, d3] => { results := [.lit (.bool false)], args := [d1, d2, d3] }
  | _ => none }
def HalfApartWrongFalsely : Prop := halfApartRow.holds Try.pinned (OpenSpec.ofChange halfApartWrong)

/- THE SECOND FORM. 'bulk': how many values and letters a reading holds, each counted each time it is reached (what is shared counts as often as it is met; a slice's spare places count too). A statement '..UptoSaid' is the law's where the arguments, and the package variables that the reading takes, are together of bulk at most 1048576: NARROWER than '..Said'. Prove '..Said' where nothing that the law and all that it calls make is longer than what came in: it says more and counts as full. Else prove '..UptoSaid'. A law counts once. -/
mutual
def uptoBulk {H : Type} : DataW H → Nat
  | .lit (.string bytes) => bytes.length + 1
  | .lit _ => 1
  | .nil => 1
  | .ptr d => uptoBulk d + 1
  | .slice elems spare => uptoBulkAll elems + uptoBulkAll spare + 1
  | .agg parts => uptoBulkAll parts + 1
  | .iface _ d => uptoBulk d + 1
  | .map entries => uptoBulkEntries entries + 1
  | .held _ => 1
def uptoBulkAll {H : Type} : List (DataW H) → Nat
  | [] => 0
  | d :: r => uptoBulk d + uptoBulkAll r
def uptoBulkEntries {H : Type} : List (Lit × DataW H) → Nat
  | [] => 0
  | x :: r => uptoBulkEntry x + uptoBulkEntries r
def uptoBulkEntry {H : Type} : Lit × DataW H → Nat
  | (.string bytes, d) => bytes.length + uptoBulk d + 1
  | (_, d) => uptoBulk d + 1
 end
def uptoSmall : (H : Type) → List (DataW H) → Bool := fun _ ds => decide (uptoBulkAll ds ≤ 1048576)
def OpenSpec.upto (s : _root_.Go.ChangeSpec) : _root_.Go.OpenSpec := { _root_.Go.OpenSpec.ofChange s with cond := some uptoSmall }

/-- 'knucklebonelaw12.HalfTells', WHERE WHAT IT READS IS OF BULK AT MOST 1048576: true; the input reads as it did. -/
def halfTellsUptoRow : OpenClaim := { program := "ytdmoedjjbhkdmaa", sum := "480a9d2a4b65ee231f0baa643c8932624686840cda40a7f29e0b19331739d220", func := "knucklebone/knucklebonelaw12.HalfTells", spec := "halfTells", inPlace := ["math/bits.Add64", "math/bits.Sub64"], apart := false, narrowed := true }
def HalfTellsUptoSaid : Prop := halfTellsUptoRow.holds Try.pinned (OpenSpec.upto halfTellsSpec)

/-- 'knucklebonelaw12.HalfSteps', WHERE WHAT IT READS IS OF BULK AT MOST 1048576: true; the input reads as it did. -/
def halfStepsUptoRow : OpenClaim := { program := "ytdmoedjjbhkdmaa", sum := "480a9d2a4b65ee231f0baa643c8932624686840cda40a7f29e0b19331739d220", func := "knucklebone/knucklebonelaw12.HalfSteps", spec := "halfSteps", inPlace := ["math/bits.Add64", "math/bits.Sub64"], apart := false, narrowed := true }
def HalfStepsUptoSaid : Prop := halfStepsUptoRow.holds Try.pinned (OpenSpec.upto halfStepsSpec)

/-- 'knucklebonelaw12.HalfBack', WHERE WHAT IT READS IS OF BULK AT MOST 1048576: true; the input reads as it did. -/
def halfBackUptoRow : OpenClaim := { program := "ytdmoedjjbhkdmaa", sum := "480a9d2a4b65ee231f0baa643c8932624686840cda40a7f29e0b19331739d220", func := "knucklebone/knucklebonelaw12.HalfBack", spec := "halfBack", inPlace := ["math/bits.Add64", "math/bits.Sub64"], apart := false, narrowed := true }
def HalfBackUptoSaid : Prop := halfBackUptoRow.holds Try.pinned (OpenSpec.upto halfBackSpec)

/-- 'knucklebonelaw12.HalfJumps', WHERE WHAT IT READS IS OF BULK AT MOST 1048576: true; the input reads as it did. -/
def halfJumpsUptoRow : OpenClaim := { program := "ytdmoedjjbhkdmaa", sum := "480a9d2a4b65ee231f0baa643c8932624686840cda40a7f29e0b19331739d220", func := "knucklebone/knucklebonelaw12.HalfJumps", spec := "halfJumps", inPlace := ["math/bits.Add64", "math/bits.Sub64"], apart := false, narrowed := true }
def HalfJumpsUptoSaid : Prop := halfJumpsUptoRow.holds Try.pinned (OpenSpec.upto halfJumpsSpec)

/-- 'knucklebonelaw12.HalfApart', WHERE WHAT IT READS IS OF BULK AT MOST 1048576: true; the input reads as it did. -/
def halfApartUptoRow : OpenClaim := { program := "ytdmoedjjbhkdmaa", sum := "480a9d2a4b65ee231f0baa643c8932624686840cda40a7f29e0b19331739d220", func := "knucklebone/knucklebonelaw12.HalfApart", spec := "halfApart", inPlace := ["math/bits.Add64", "math/bits.Sub64"], apart := false, narrowed := true }
def HalfApartUptoSaid : Prop := halfApartUptoRow.holds Try.pinned (OpenSpec.upto halfApartSpec)

end Rows
end Go.Proofs.Ytdmoedjjbhkdmaa
