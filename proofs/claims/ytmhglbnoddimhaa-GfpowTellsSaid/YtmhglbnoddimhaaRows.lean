/-
  No cell of these rows narrows 'for every input' (looked for: loops, veiled, ifaces, maps, wideKeys, modest, calm, conditions, laid).
  DERIVED. THE GIVEN ROWS OF THIS SEAT. 5 by the template 'for every input the law returns true; each argument reads behind the call as it read before'; 0 by the template 'total and deterministic' (their statements: YtmhglbnoddimhaaTotals.lean).
  GIVEN WITH THE SEED: the statements are not yours to turn. If you find one false, say at which input.
  Laid BY PROGRAM, IN A SANDBOX (cutbox-rows.mjs): the forced cells as the released guide's own fill.sh prints them over the translation 059a956d7b45c494… (all of the seat's roots in one cut). By AI agents, Wed Nov 11 2026. No macro, syntax, notation, axiom, sorry.
-/
import Derived.Test.YtmhglbnoddimhaaChecked
import GoSem.Claim
import GoSem.ClaimJoined
import GoSem.ClaimMapViews
import Derived.JoinedTies
import Derived.KernelRfl
namespace Go.Proofs.Ytmhglbnoddimhaa
/- THE CELL 'sum', in the pinned program and in every row, IS THE sha256 OF THE DUMP (.gsa) THAT YtmhglbnoddimhaaProg.lean LOADS. Nothing in Lean hashes anything: it is a label: what it is worth is what the hold of that sum in a sandbox is worth. -/
noncomputable def Try.pinned : Pinned := { name := "ytmhglbnoddimhaa", sum := "059a956d7b45c49404697b2c27459280fd78ba363e94bdb8e583ab5c07bca617", checked := Try.checked }
namespace Rows
def none {H : Type} : Left H := { results := [], args := [] }

/-- 'knucklebonelaw04.GfpowTells': WHATEVER THE INPUT: true; the input reads as it did. -/
def gfpowTellsSpec : ChangeSpec := { name := "gfpowTells", fn := fun _ => fun
  | [d1, d2, d3, d4] => { results := [.lit (.bool true)], args := [d1, d2, d3, d4] }
  | _ => none }
def gfpowTellsRow : OpenClaim := { program := "ytmhglbnoddimhaa", sum := "059a956d7b45c49404697b2c27459280fd78ba363e94bdb8e583ab5c07bca617", func := "knucklebone/knucklebonelaw04.GfpowTells", spec := "gfpowTells", unfollowed := true, recurses := true, apart := false }
def GfpowTellsSaid : Prop := gfpowTellsRow.holds Try.pinned (OpenSpec.ofChange gfpowTellsSpec)

/-- ITS FALSE NEIGHBOUR: 'it returns false'. Refute it at one input. -/
def gfpowTellsWrong : ChangeSpec := { name := "gfpowTells", fn := fun _ => fun
  | [d1, d2, d3, d4] => { results := [.lit (.bool false)], args := [d1, d2, d3, d4] }
  | _ => none }
def GfpowTellsWrongFalsely : Prop := gfpowTellsRow.holds Try.pinned (OpenSpec.ofChange gfpowTellsWrong)

/-- 'knucklebonelaw04.GfpowPlain': WHATEVER THE INPUT: true; the input reads as it did. -/
def gfpowPlainSpec : ChangeSpec := { name := "gfpowPlain", fn := fun _ => fun
  | [d1, d2, d3] => { results := [.lit (.bool true)], args := [d1, d2, d3] }
  | _ => none }
def gfpowPlainRow : OpenClaim := { program := "ytmhglbnoddimhaa", sum := "059a956d7b45c49404697b2c27459280fd78ba363e94bdb8e583ab5c07bca617", func := "knucklebone/knucklebonelaw04.GfpowPlain", spec := "gfpowPlain", unfollowed := true, recurses := true, apart := false }
def GfpowPlainSaid : Prop := gfpowPlainRow.holds Try.pinned (OpenSpec.ofChange gfpowPlainSpec)

/-- ITS FALSE NEIGHBOUR: 'it returns false'. Refute it at one input. -/
def gfpowPlainWrong : ChangeSpec := { name := "gfpowPlain", fn := fun _ => fun
  | [d1, d2, d3] => { results := [.lit (.bool false)], args := [d1, d2, d3] }
  | _ => none }
def GfpowPlainWrongFalsely : Prop := gfpowPlainRow.holds Try.pinned (OpenSpec.ofChange gfpowPlainWrong)

/-- 'knucklebonelaw04.GfpowAdds': WHATEVER THE INPUT: true; the input reads as it did. -/
def gfpowAddsSpec : ChangeSpec := { name := "gfpowAdds", fn := fun _ => fun
  | [d1, d2, d3, d4] => { results := [.lit (.bool true)], args := [d1, d2, d3, d4] }
  | _ => none }
def gfpowAddsRow : OpenClaim := { program := "ytmhglbnoddimhaa", sum := "059a956d7b45c49404697b2c27459280fd78ba363e94bdb8e583ab5c07bca617", func := "knucklebone/knucklebonelaw04.GfpowAdds", spec := "gfpowAdds", unfollowed := true, recurses := true, apart := false }
def GfpowAddsSaid : Prop := gfpowAddsRow.holds Try.pinned (OpenSpec.ofChange gfpowAddsSpec)

/-- ITS FALSE NEIGHBOUR: 'it returns false'. Refute it at one input. -/
def gfpowAddsWrong : ChangeSpec := { name := "gfpowAdds", fn := fun _ => fun
  | [d1, d2, d3, d4] => { results := [.lit (.bool false)], args := [d1, d2, d3, d4] }
  | _ => none }
def GfpowAddsWrongFalsely : Prop := gfpowAddsRow.holds Try.pinned (OpenSpec.ofChange gfpowAddsWrong)

/-- 'knucklebonelaw04.GfpowParts': WHATEVER THE INPUT: true; the input reads as it did. -/
def gfpowPartsSpec : ChangeSpec := { name := "gfpowParts", fn := fun _ => fun
  | [d1, d2, d3] => { results := [.lit (.bool true)], args := [d1, d2, d3] }
  | _ => none }
def gfpowPartsRow : OpenClaim := { program := "ytmhglbnoddimhaa", sum := "059a956d7b45c49404697b2c27459280fd78ba363e94bdb8e583ab5c07bca617", func := "knucklebone/knucklebonelaw04.GfpowParts", spec := "gfpowParts", unfollowed := true, recurses := true, apart := false }
def GfpowPartsSaid : Prop := gfpowPartsRow.holds Try.pinned (OpenSpec.ofChange gfpowPartsSpec)

/-- ITS FALSE NEIGHBOUR: 'it returns false'. Refute it at one input. -/
def gfpowPartsWrong : ChangeSpec := { name := "gfpowParts", fn := fun _ => fun
  | [d1, d2, d3] => { results := [.lit (.bool false)], args := [d1, d2, d3] }
  | _ => none }
def GfpowPartsWrongFalsely : Prop := gfpowPartsRow.holds Try.pinned (OpenSpec.ofChange gfpowPartsWrong)

/-- 'knucklebonelaw04.GfpowField': WHATEVER THE INPUT: true; the input reads as it did. -/
def gfpowFieldSpec : ChangeSpec := { name := "gfpowField", fn := fun _ => fun
  | [d1, d2] => { results := [.lit (.bool true)], args := [d1, d2] }
  | _ => none }
def gfpowFieldRow : OpenClaim := { program := "ytmhglbnoddimhaa", sum := "059a956d7b45c49404697b2c27459280fd78ba363e94bdb8e583ab5c07bca617", func := "knucklebone/knucklebonelaw04.GfpowField", spec := "gfpowField", inPlace := ["math/bits.Sub64"], unfollowed := true, recurses := true, apart := false }
def GfpowFieldSaid : Prop := gfpowFieldRow.holds Try.pinned (OpenSpec.ofChange gfpowFieldSpec)

/-- ITS FALSE NEIGHBOUR: 'it returns false'. Refute it at one input. -/
def gfpowFieldWrong : ChangeSpec := { name := "gfpowField", fn := fun _ => fun
  | [d1, d2] => { results := [.lit (.bool false)], args := [d1, d2] }
  | _ => none }
def GfpowFieldWrongFalsely : Prop := gfpowFieldRow.holds Try.pinned (OpenSpec.ofChange gfpowFieldWrong)

/- THE SECOND FORM. 'bulk': how many values and letters a reading holds, each counted each time it is reached (what is shared counts as often as it is met; a slice's spare places count too). A statement '..UptoSaid' is the law's where the arguments, and the package variables that the reading takes, are together of bulk at most 1048576: NARROWER than '..Said'. Prove '..Said' where nothing that the law and all that it calls make is longer than what came in: it says more and counts as full. Else prove '..UptoSaid'. A law counts once. -/
mutual
def uptoBulk {H : Type} : DataW H → Nat
  | .lit (.string bytes) => bytes.length + 1
  | .lit _ => 1
  | .nil => 1
  | .ptr d => uptoBulk d + 1
  | .slice elems spare => uptoBulkAll elems + uptoBulkAll spare + 1
  | .agg parts => uptoBulkAll parts + 1
  | .iface _ d => uptoBulk d + 1
  | .map entries => uptoBulkEntries entries + 1
  | .held _ => 1
def uptoBulkAll {H : Type} : List (DataW H) → Nat
  | [] => 0
  | d :: r => uptoBulk d + uptoBulkAll r
def uptoBulkEntries {H : Type} : List (Lit × DataW H) → Nat
  | [] => 0
  | x :: r => uptoBulkEntry x + uptoBulkEntries r
def uptoBulkEntry {H : Type} : Lit × DataW H → Nat
  | (.string bytes, d) => bytes.length + uptoBulk d + 1
  | (_, d) => uptoBulk d + 1
 end
def uptoSmall : (H : Type) → List (DataW H) → Bool := fun _ ds => decide (uptoBulkAll ds ≤ 1048576)
def OpenSpec.upto (s : _root_.Go.ChangeSpec) : _root_.Go.OpenSpec := { _root_.Go.OpenSpec.ofChange s with cond := some uptoSmall }

/-- 'knucklebonelaw04.GfpowTells', WHERE WHAT IT READS IS OF BULK AT MOST 1048576: true; the input reads as it did. -/
def gfpowTellsUptoRow : OpenClaim := { program := "ytmhglbnoddimhaa", sum := "059a956d7b45c49404697b2c27459280fd78ba363e94bdb8e583ab5c07bca617", func := "knucklebone/knucklebonelaw04.GfpowTells", spec := "gfpowTells", unfollowed := true, recurses := true, apart := false, narrowed := true }
def GfpowTellsUptoSaid : Prop := gfpowTellsUptoRow.holds Try.pinned (OpenSpec.upto gfpowTellsSpec)

/-- 'knucklebonelaw04.GfpowPlain', WHERE WHAT IT READS IS OF BULK AT MOST 1048576: true; the input reads as it did. -/
def gfpowPlainUptoRow : OpenClaim := { program := "ytmhglbnoddimhaa", sum := "059a956d7b45c49404697b2c27459280fd78ba363e94bdb8e583ab5c07bca617", func := "knucklebone/knucklebonelaw04.GfpowPlain", spec := "gfpowPlain", unfollowed := true, recurses := true, apart := false, narrowed := true }
def GfpowPlainUptoSaid : Prop := gfpowPlainUptoRow.holds Try.pinned (OpenSpec.upto gfpowPlainSpec)

/-- 'knucklebonelaw04.GfpowAdds', WHERE WHAT IT READS IS OF BULK AT MOST 1048576: true; the input reads as it did. -/
def gfpowAddsUptoRow : OpenClaim := { program := "ytmhglbnoddimhaa", sum := "059a956d7b45c49404697b2c27459280fd78ba363e94bdb8e583ab5c07bca617", func := "knucklebone/knucklebonelaw04.GfpowAdds", spec := "gfpowAdds", unfollowed := true, recurses := true, apart := false, narrowed := true }
def GfpowAddsUptoSaid : Prop := gfpowAddsUptoRow.holds Try.pinned (OpenSpec.upto gfpowAddsSpec)

/-- 'knucklebonelaw04.GfpowParts', WHERE WHAT IT READS IS OF BULK AT MOST 1048576: true; the input reads as it did. -/
def gfpowPartsUptoRow : OpenClaim := { program := "ytmhglbnoddimhaa", sum := "059a956d7b45c49404697b2c27459280fd78ba363e94bdb8e583ab5c07bca617", func := "knucklebone/knucklebonelaw04.GfpowParts", spec := "gfpowParts", unfollowed := true, recurses := true, apart := false, narrowed := true }
def GfpowPartsUptoSaid : Prop := gfpowPartsUptoRow.holds Try.pinned (OpenSpec.upto gfpowPartsSpec)

/-- 'knucklebonelaw04.GfpowField', WHERE WHAT IT READS IS OF BULK AT MOST 1048576: true; the input reads as it did. -/
def gfpowFieldUptoRow : OpenClaim := { program := "ytmhglbnoddimhaa", sum := "059a956d7b45c49404697b2c27459280fd78ba363e94bdb8e583ab5c07bca617", func := "knucklebone/knucklebonelaw04.GfpowField", spec := "gfpowField", inPlace := ["math/bits.Sub64"], unfollowed := true, recurses := true, apart := false, narrowed := true }
def GfpowFieldUptoSaid : Prop := gfpowFieldUptoRow.holds Try.pinned (OpenSpec.upto gfpowFieldSpec)

end Rows
end Go.Proofs.Ytmhglbnoddimhaa
