/-
  No cell of these rows narrows 'for every input' (looked for: loops, veiled, ifaces, maps, wideKeys, modest, calm, conditions, laid).
  DERIVED. THE GIVEN ROWS OF THIS SEAT. 4 by the template 'for every input the law returns true; each argument reads behind the call as it read before'; 0 by the template 'total and deterministic' (their statements: YthohgleklcoglaaTotals.lean).
  GIVEN WITH THE SEED: the statements are not yours to turn. If you find one false, say at which input.
  Laid BY PROGRAM, IN A SANDBOX (cutbox-rows.mjs): the forced cells as the released guide's own fill.sh prints them over the translation 270ae36af971f149… (all of the seat's roots in one cut). By AI agents, Wed Nov 11 2026. No macro, syntax, notation, axiom, sorry.
-/
import Derived.Test.YthohgleklcoglaaChecked
import GoSem.Claim
import GoSem.ClaimJoined
import GoSem.ClaimMapViews
import Derived.JoinedTies
import Derived.KernelRfl
namespace Go.Proofs.Ythohgleklcoglaa
/- THE CELL 'sum', in the pinned program and in every row, IS THE sha256 OF THE DUMP (.gsa) THAT YthohgleklcoglaaProg.lean LOADS. Nothing in Lean hashes anything: it is a label: what it is worth is what the hold of that sum in a sandbox is worth. -/
noncomputable def Try.pinned : Pinned := { name := "ythohgleklcoglaa", sum := "270ae36af971f149bae10a82ddabd8f00c0c104bfa4ee1220f7ac7a06dadb245", checked := Try.checked }
namespace Rows
def none {H : Type} : Left H := { results := [], args := [] }

/-- 'knucklebonelaw07.XoshTells': WHATEVER THE INPUT: true; the input reads as it did. -/
def xoshTellsSpec : ChangeSpec := { name := "xoshTells", fn := fun _ => fun
  | [d1, d2] => { results := [.lit (.bool true)], args := [d1, d2] }
  | _ => none }
def xoshTellsRow : OpenClaim := { program := "ythohgleklcoglaa", sum := "270ae36af971f149bae10a82ddabd8f00c0c104bfa4ee1220f7ac7a06dadb245", func := "knucklebone/knucklebonelaw07.XoshTells", spec := "xoshTells", unfollowed := true, recurses := true, apart := false }
def XoshTellsSaid : Prop := xoshTellsRow.holds Try.pinned (OpenSpec.ofChange xoshTellsSpec)

/-- ITS FALSE NEIGHBOUR: 'it returns false'. Refute it at one input. -/
def xoshTellsWrong : ChangeSpec := { name := "xoshTells", fn := fun _ => fun
  | [d1, d2] => { results := [.lit (.bool false)], args := [d1, d2] }
  | _ => none }
def XoshTellsWrongFalsely : Prop := xoshTellsRow.holds Try.pinned (OpenSpec.ofChange xoshTellsWrong)

/-- 'knucklebonelaw07.XoshBack': WHATEVER THE INPUT: true; the input reads as it did. -/
def xoshBackSpec : ChangeSpec := { name := "xoshBack", fn := fun _ => fun
  | [d] => { results := [.lit (.bool true)], args := [d] }
  | _ => none }
def xoshBackRow : OpenClaim := { program := "ythohgleklcoglaa", sum := "270ae36af971f149bae10a82ddabd8f00c0c104bfa4ee1220f7ac7a06dadb245", func := "knucklebone/knucklebonelaw07.XoshBack", spec := "xoshBack", unfollowed := true, recurses := true, apart := false }
def XoshBackSaid : Prop := xoshBackRow.holds Try.pinned (OpenSpec.ofChange xoshBackSpec)

/-- ITS FALSE NEIGHBOUR: 'it returns false'. Refute it at one input. -/
def xoshBackWrong : ChangeSpec := { name := "xoshBack", fn := fun _ => fun
  | [d] => { results := [.lit (.bool false)], args := [d] }
  | _ => none }
def XoshBackWrongFalsely : Prop := xoshBackRow.holds Try.pinned (OpenSpec.ofChange xoshBackWrong)

/-- 'knucklebonelaw07.XoshLinear': WHATEVER THE INPUT: true; the input reads as it did. -/
def xoshLinearSpec : ChangeSpec := { name := "xoshLinear", fn := fun _ => fun
  | [d1, d2, d3] => { results := [.lit (.bool true)], args := [d1, d2, d3] }
  | _ => none }
def xoshLinearRow : OpenClaim := { program := "ythohgleklcoglaa", sum := "270ae36af971f149bae10a82ddabd8f00c0c104bfa4ee1220f7ac7a06dadb245", func := "knucklebone/knucklebonelaw07.XoshLinear", spec := "xoshLinear", unfollowed := true, recurses := true, apart := false }
def XoshLinearSaid : Prop := xoshLinearRow.holds Try.pinned (OpenSpec.ofChange xoshLinearSpec)

/-- ITS FALSE NEIGHBOUR: 'it returns false'. Refute it at one input. -/
def xoshLinearWrong : ChangeSpec := { name := "xoshLinear", fn := fun _ => fun
  | [d1, d2, d3] => { results := [.lit (.bool false)], args := [d1, d2, d3] }
  | _ => none }
def XoshLinearWrongFalsely : Prop := xoshLinearRow.holds Try.pinned (OpenSpec.ofChange xoshLinearWrong)

/-- 'knucklebonelaw07.XoshParts': WHATEVER THE INPUT: true; the input reads as it did. -/
def xoshPartsSpec : ChangeSpec := { name := "xoshParts", fn := fun _ => fun
  | [d1, d2, d3] => { results := [.lit (.bool true)], args := [d1, d2, d3] }
  | _ => none }
def xoshPartsRow : OpenClaim := { program := "ythohgleklcoglaa", sum := "270ae36af971f149bae10a82ddabd8f00c0c104bfa4ee1220f7ac7a06dadb245", func := "knucklebone/knucklebonelaw07.XoshParts", spec := "xoshParts", unfollowed := true, recurses := true, apart := false }
def XoshPartsSaid : Prop := xoshPartsRow.holds Try.pinned (OpenSpec.ofChange xoshPartsSpec)

/-- ITS FALSE NEIGHBOUR: 'it returns false'. Refute it at one input. -/
def xoshPartsWrong : ChangeSpec := { name := "xoshParts", fn := fun _ => fun
  | [d1, d2, d3] => { results := [.lit (.bool false)], args := [d1, d2, d3] }
  | _ => none }
def XoshPartsWrongFalsely : Prop := xoshPartsRow.holds Try.pinned (OpenSpec.ofChange xoshPartsWrong)

/- THE SECOND FORM. 'bulk': how many values and letters a reading holds, each counted each time it is reached (what is shared counts as often as it is met; a slice's spare places count too). A statement '..UptoSaid' is the law's where the arguments, and the package variables that the reading takes, are together of bulk at most 1048576: NARROWER than '..Said'. Prove '..Said' where nothing that the law and all that it calls make is longer than what came in: it says more and counts as full. Else prove '..UptoSaid'. A law counts once. -/
mutual
def uptoBulk {H : Type} : DataW H → Nat
  | .lit (.string bytes) => bytes.length + 1
  | .lit _ => 1
  | .nil => 1
  | .ptr d => uptoBulk d + 1
  | .slice elems spare => uptoBulkAll elems + uptoBulkAll spare + 1
  | .agg parts => uptoBulkAll parts + 1
  | .iface _ d => uptoBulk d + 1
  | .map entries => uptoBulkEntries entries + 1
  | .held _ => 1
def uptoBulkAll {H : Type} : List (DataW H) → Nat
  | [] => 0
  | d :: r => uptoBulk d + uptoBulkAll r
def uptoBulkEntries {H : Type} : List (Lit × DataW H) → Nat
  | [] => 0
  | x :: r => uptoBulkEntry x + uptoBulkEntries r
def uptoBulkEntry {H : Type} : Lit × DataW H → Nat
  | (.string bytes, d) => bytes.length + uptoBulk d + 1
  | (_, d) => uptoBulk d + 1
 end
def uptoSmall : (H : Type) → List (DataW H) → Bool := fun _ ds => decide (uptoBulkAll ds ≤ 1048576)
def OpenSpec.upto (s : _root_.Go.ChangeSpec) : _root_.Go.OpenSpec := { _root_.Go.OpenSpec.ofChange s with cond := some uptoSmall }

/-- 'knucklebonelaw07.XoshTells', WHERE WHAT IT READS IS OF BULK AT MOST 1048576: true; the input reads as it did. -/
def xoshTellsUptoRow : OpenClaim := { program := "ythohgleklcoglaa", sum := "270ae36af971f149bae10a82ddabd8f00c0c104bfa4ee1220f7ac7a06dadb245", func := "knucklebone/knucklebonelaw07.XoshTells", spec := "xoshTells", unfollowed := true, recurses := true, apart := false, narrowed := true }
def XoshTellsUptoSaid : Prop := xoshTellsUptoRow.holds Try.pinned (OpenSpec.upto xoshTellsSpec)

/-- 'knucklebonelaw07.XoshBack', WHERE WHAT IT READS IS OF BULK AT MOST 1048576: true; the input reads as it did. -/
def xoshBackUptoRow : OpenClaim := { program := "ythohgleklcoglaa", sum := "270ae36af971f149bae10a82ddabd8f00c0c104bfa4ee1220f7ac7a06dadb245", func := "knucklebone/knucklebonelaw07.XoshBack", spec := "xoshBack", unfollowed := true, recurses := true, apart := false, narrowed := true }
def XoshBackUptoSaid : Prop := xoshBackUptoRow.holds Try.pinned (OpenSpec.upto xoshBackSpec)

/-- 'knucklebonelaw07.XoshLinear', WHERE WHAT IT READS IS OF BULK AT MOST 1048576: true; the input reads as it did. -/
def xoshLinearUptoRow : OpenClaim := { program := "ythohgleklcoglaa", sum := "270ae36af971f149bae10a82ddabd8f00c0c104bfa4ee1220f7ac7a06dadb245", func := "knucklebone/knucklebonelaw07.XoshLinear", spec := "xoshLinear", unfollowed := true, recurses := true, apart := false, narrowed := true }
def XoshLinearUptoSaid : Prop := xoshLinearUptoRow.holds Try.pinned (OpenSpec.upto xoshLinearSpec)

/-- 'knucklebonelaw07.XoshParts', WHERE WHAT IT READS IS OF BULK AT MOST 1048576: true; the input reads as it did. -/
def xoshPartsUptoRow : OpenClaim := { program := "ythohgleklcoglaa", sum := "270ae36af971f149bae10a82ddabd8f00c0c104bfa4ee1220f7ac7a06dadb245", func := "knucklebone/knucklebonelaw07.XoshParts", spec := "xoshParts", unfollowed := true, recurses := true, apart := false, narrowed := true }
def XoshPartsUptoSaid : Prop := xoshPartsUptoRow.holds Try.pinned (OpenSpec.upto xoshPartsSpec)

end Rows
end Go.Proofs.Ythohgleklcoglaa
