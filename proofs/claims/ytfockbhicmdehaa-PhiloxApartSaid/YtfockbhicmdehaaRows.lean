/-
  No cell of these rows narrows 'for every input' (looked for: loops, veiled, ifaces, maps, wideKeys, modest, calm, conditions, laid).
  DERIVED. THE GIVEN ROWS OF THIS SEAT. 4 by the template 'for every input the law returns true; each argument reads behind the call as it read before'; 0 by the template 'total and deterministic' (their statements: YtfockbhicmdehaaTotals.lean).
  GIVEN WITH THE SEED: the statements are not yours to turn. If you find one false, say at which input.
  Laid BY PROGRAM, IN A SANDBOX (cutbox-rows.mjs): the forced cells as the released guide's own fill.sh prints them over the translation 6254a628882b7078… (all of the seat's roots in one cut). By AI agents, Wed Nov 11 2026. No macro, syntax, notation, axiom, sorry.
-/
import Derived.Test.YtfockbhicmdehaaChecked
import GoSem.Claim
import GoSem.ClaimJoined
import GoSem.ClaimMapViews
import Derived.JoinedTies
import Derived.KernelRfl
namespace Go.Proofs.Ytfockbhicmdehaa
/- THE CELL 'sum', in the pinned program and in every row, IS THE sha256 OF THE DUMP (.gsa) THAT YtfockbhicmdehaaProg.lean LOADS. Nothing in Lean hashes anything: it is a label: what it is worth is what the hold of that sum in a sandbox is worth. -/
noncomputable def Try.pinned : Pinned := { name := "ytfockbhicmdehaa", sum := "6254a628882b7078b6cd8947497ade3c1aead56e7c4e6ced8d343d8a05e1067c", checked := Try.checked }
namespace Rows
def none {H : Type} : Left H := { results := [], args := [] }

/-- 'knucklebonelaw11.PhiloxTells': WHATEVER THE INPUT: true; the input reads as it did. -/
def philoxTellsSpec : ChangeSpec := { name := "philoxTells", fn := fun _ => fun
  | [d1, d2, d3] => { results := [.lit (.bool true)], args := [d1, d2, d3] }
  | _ => none }
def philoxTellsRow : OpenClaim := { program := "ytfockbhicmdehaa", sum := "6254a628882b7078b6cd8947497ade3c1aead56e7c4e6ced8d343d8a05e1067c", func := "knucklebone/knucklebonelaw11.PhiloxTells", spec := "philoxTells", unfollowed := true, recurses := true, apart := false }
def PhiloxTellsSaid : Prop := philoxTellsRow.holds Try.pinned (OpenSpec.ofChange philoxTellsSpec)

/-- ITS FALSE NEIGHBOUR: 'it returns false'. Refute it at one input. -/
def philoxTellsWrong : ChangeSpec := { name := "philoxTells", fn := fun _ => fun
  | [d1, d2, d3] => { results := [.lit (.bool false)], args := [d1, d2, d3] }
  | _ => none }
def PhiloxTellsWrongFalsely : Prop := philoxTellsRow.holds Try.pinned (OpenSpec.ofChange philoxTellsWrong)

/-- 'knucklebonelaw11.PhiloxBack': WHATEVER THE INPUT: true; the input reads as it did. -/
def philoxBackSpec : ChangeSpec := { name := "philoxBack", fn := fun _ => fun
  | [d1, d2, d3] => { results := [.lit (.bool true)], args := [d1, d2, d3] }
  | _ => none }
def philoxBackRow : OpenClaim := { program := "ytfockbhicmdehaa", sum := "6254a628882b7078b6cd8947497ade3c1aead56e7c4e6ced8d343d8a05e1067c", func := "knucklebone/knucklebonelaw11.PhiloxBack", spec := "philoxBack", unfollowed := true, recurses := true, apart := false }
def PhiloxBackSaid : Prop := philoxBackRow.holds Try.pinned (OpenSpec.ofChange philoxBackSpec)

/-- ITS FALSE NEIGHBOUR: 'it returns false'. Refute it at one input. -/
def philoxBackWrong : ChangeSpec := { name := "philoxBack", fn := fun _ => fun
  | [d1, d2, d3] => { results := [.lit (.bool false)], args := [d1, d2, d3] }
  | _ => none }
def PhiloxBackWrongFalsely : Prop := philoxBackRow.holds Try.pinned (OpenSpec.ofChange philoxBackWrong)

/-- 'knucklebonelaw11.PhiloxApart': WHATEVER THE INPUT: true; the input reads as it did. -/
def philoxApartSpec : ChangeSpec := { name := "philoxApart", fn := fun _ => fun
  | [d1, d2, d3] => { results := [.lit (.bool true)], args := [d1, d2, d3] }
  | _ => none }
def philoxApartRow : OpenClaim := { program := "ytfockbhicmdehaa", sum := "6254a628882b7078b6cd8947497ade3c1aead56e7c4e6ced8d343d8a05e1067c", func := "knucklebone/knucklebonelaw11.PhiloxApart", spec := "philoxApart", unfollowed := true, recurses := true, apart := false }
def PhiloxApartSaid : Prop := philoxApartRow.holds Try.pinned (OpenSpec.ofChange philoxApartSpec)

/-- ITS FALSE NEIGHBOUR: 'it returns false'. Refute it at one input. -/
def philoxApartWrong : ChangeSpec := { name := "philoxApart", fn := fun _ => fun
  | [d1, d2, d3] => { results := [.lit (.bool false)], args := [d1, d2, d3] }
  | _ => none }
def PhiloxApartWrongFalsely : Prop := philoxApartRow.holds Try.pinned (OpenSpec.ofChange philoxApartWrong)

/-- 'knucklebonelaw11.PhiloxParts': WHATEVER THE INPUT: true; the input reads as it did. -/
def philoxPartsSpec : ChangeSpec := { name := "philoxParts", fn := fun _ => fun
  | [d1, d2, d3, d4] => { results := [.lit (.bool true)], args := [d1, d2, d3, d4] }
  | _ => none }
def philoxPartsRow : OpenClaim := { program := "ytfockbhicmdehaa", sum := "6254a628882b7078b6cd8947497ade3c1aead56e7c4e6ced8d343d8a05e1067c", func := "knucklebone/knucklebonelaw11.PhiloxParts", spec := "philoxParts", unfollowed := true, recurses := true, apart := false }
def PhiloxPartsSaid : Prop := philoxPartsRow.holds Try.pinned (OpenSpec.ofChange philoxPartsSpec)

/-- ITS FALSE NEIGHBOUR: 'it returns false'. Refute it at one input. -/
def philoxPartsWrong : ChangeSpec := { name := "philoxParts", fn := fun _ => fun
  | [d1, d2, d3, d4] => { results := [.lit (.bool false)], args := [d1, d2, d3, d4] }
  | _ => none }
def PhiloxPartsWrongFalsely : Prop := philoxPartsRow.holds Try.pinned (OpenSpec.ofChange philoxPartsWrong)

/- THE SECOND FORM. 'bulk': how many values and letters a reading holds, each counted each time it is reached (what is shared counts as often as it is met; a slice's spare places count too). A statement '..UptoSaid' is the law's where the arguments, and the package variables that the reading takes, are together of bulk at most 1048576: NARROWER than '..Said'. Prove '..Said' where nothing that the law and all that it calls make is longer than what came in: it says more and counts as full. Else prove '..UptoSaid'. A law counts once. -/
mutual
def uptoBulk {H : Type} : DataW H → Nat
  | .lit (.string bytes) => bytes.length + 1
  | .lit _ => 1
  | .nil => 1
  | .ptr d => uptoBulk d + 1
  | .slice elems spare => uptoBulkAll elems + uptoBulkAll spare + 1
  | .agg parts => uptoBulkAll parts + 1
  | .iface _ d => uptoBulk d + 1
  | .map entries => uptoBulkEntries entries + 1
  | .held _ => 1
def uptoBulkAll {H : Type} : List (DataW H) → Nat
  | [] => 0
  | d :: r => uptoBulk d + uptoBulkAll r
def uptoBulkEntries {H : Type} : List (Lit × DataW H) → Nat
  | [] => 0
  | x :: r => uptoBulkEntry x + uptoBulkEntries r
def uptoBulkEntry {H : Type} : Lit × DataW H → Nat
  | (.string bytes, d) => bytes.length + uptoBulk d + 1
  | (_, d) => uptoBulk d + 1
 end
def uptoSmall : (H : Type) → List (DataW H) → Bool := fun _ ds => decide (uptoBulkAll ds ≤ 1048576)
def OpenSpec.upto (s : _root_.Go.ChangeSpec) : _root_.Go.OpenSpec := { _root_.Go.OpenSpec.ofChange s with cond := some uptoSmall }

/-- 'knucklebonelaw11.PhiloxTells', WHERE WHAT IT READS IS OF BULK AT MOST 1048576: true; the input reads as it did. -/
def philoxTellsUptoRow : OpenClaim := { program := "ytfockbhicmdehaa", sum := "6254a628882b7078b6cd8947497ade3c1aead56e7c4e6ced8d343d8a05e1067c", func := "knucklebone/knucklebonelaw11.PhiloxTells", spec := "philoxTells", unfollowed := true, recurses := true, apart := false, narrowed := true }
def PhiloxTellsUptoSaid : Prop := philoxTellsUptoRow.holds Try.pinned (OpenSpec.upto philoxTellsSpec)

/-- 'knucklebonelaw11.PhiloxBack', WHERE WHAT IT READS IS OF BULK AT MOST 1048576: true; the input reads as it did. -/
def philoxBackUptoRow : OpenClaim := { program := "ytfockbhicmdehaa", sum := "6254a628882b7078b6cd8947497ade3c1aead56e7c4e6ced8d343d8a05e1067c", func := "knucklebone/knucklebonelaw11.PhiloxBack", spec := "philoxBack", unfollowed := true, recurses := true, apart := false, narrowed := true }
def PhiloxBackUptoSaid : Prop := philoxBackUptoRow.holds Try.pinned (OpenSpec.upto philoxBackSpec)

/-- 'knucklebonelaw11.PhiloxApart', WHERE WHAT IT READS IS OF BULK AT MOST 1048576: true; the input reads as it did. -/
def philoxApartUptoRow : OpenClaim := { program := "ytfockbhicmdehaa", sum := "6254a628882b7078b6cd8947497ade3c1aead56e7c4e6ced8d343d8a05e1067c", func := "knucklebone/knucklebonelaw11.PhiloxApart", spec := "philoxApart", unfollowed := true, recurses := true, apart := false, narrowed := true }
def PhiloxApartUptoSaid : Prop := philoxApartUptoRow.holds Try.pinned (OpenSpec.upto philoxApartSpec)

/-- 'knucklebonelaw11.PhiloxParts', WHERE WHAT IT READS IS OF BULK AT MOST 1048576: true; the input reads as it did. -/
def philoxPartsUptoRow : OpenClaim := { program := "ytfockbhicmdehaa", sum := "6254a628882b7078b6cd8947497ade3c1aead56e7c4e6ced8d343d8a05e1067c", func := "knucklebone/knucklebonelaw11.PhiloxParts", spec := "philoxParts", unfollowed := true, recurses := true, apart := false, narrowed := true }
def PhiloxPartsUptoSaid : Prop := philoxPartsUptoRow.holds Try.pinned (OpenSpec.upto philoxPartsSpec)

end Rows
end Go.Proofs.Ytfockbhicmdehaa
