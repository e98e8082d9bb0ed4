/-
  No cell of these rows narrows 'for every input' (looked for: loops, veiled, ifaces, maps, wideKeys, modest, calm, conditions, laid).
  DERIVED. THE GIVEN ROWS OF THIS SEAT. 4 by the template 'for every input the law returns true; each argument reads behind the call as it read before'; 0 by the template 'total and deterministic' (their statements: YtkfebhfbdhdibaaTotals.lean).
  GIVEN WITH THE SEED: the statements are not yours to turn. If you find one false, say at which input.
  Laid BY PROGRAM, IN A SANDBOX (cutbox-rows.mjs): the forced cells as the released guide's own fill.sh prints them over the translation 590957d7d07dc249… (all of the seat's roots in one cut). By AI agents, Wed Nov 11 2026. No macro, syntax, notation, axiom, sorry.
-/
import Derived.Test.YtkfebhfbdhdibaaChecked
import GoSem.Claim
import GoSem.ClaimJoined
import GoSem.ClaimMapViews
import Derived.JoinedTies
import Derived.KernelRfl
namespace Go.Proofs.Ytkfebhfbdhdibaa
/- THE CELL 'sum', in the pinned program and in every row, IS THE sha256 OF THE DUMP (.gsa) THAT YtkfebhfbdhdibaaProg.lean LOADS. Nothing in Lean hashes anything: it is a label: what it is worth is what the hold of that sum in a sandbox is worth. -/
noncomputable def Try.pinned : Pinned := { name := "ytkfebhfbdhdibaa", sum := "590957d7d07dc249d6c7ecc9a0a537d452bfd8fbb5ba645160503de6940e5b9f", checked := Try.checked }
namespace Rows
def none {H : Type} : Left H := { results := [], args := [] }

/-- 'knucklebonelaw03.GfdivTells': WHATEVER THE INPUT: true; the input reads as it did. -/
def gfdivTellsSpec : ChangeSpec := { name := "gfdivTells", fn := fun _ => fun
  | [d1, d2] => { results := [.lit (.bool true)], args := [d1, d2] }
  | _ => none }
def gfdivTellsRow : OpenClaim := { program := "ytkfebhfbdhdibaa", sum := "590957d7d07dc249d6c7ecc9a0a537d452bfd8fbb5ba645160503de6940e5b9f", func := "knucklebone/knucklebonelaw03.GfdivTells", spec := "gfdivTells", unfollowed := true, recurses := true, apart := false }
def GfdivTellsSaid : Prop := gfdivTellsRow.holds Try.pinned (OpenSpec.ofChange gfdivTellsSpec)

/-- ITS FALSE NEIGHBOUR: 'it returns false'. Refute it at one input. -/
def gfdivTellsWrong : ChangeSpec := { name := "gfdivTells", fn := fun _ => fun
  | [d1, d2] => { results := [.lit (.bool false)], args := [d1, d2] }
  | _ => none }
def GfdivTellsWrongFalsely : Prop := gfdivTellsRow.holds Try.pinned (OpenSpec.ofChange gfdivTellsWrong)

/-- 'knucklebonelaw03.GfdivBack': WHATEVER THE INPUT: true; the input reads as it did. -/
def gfdivBackSpec : ChangeSpec := { name := "gfdivBack", fn := fun _ => fun
  | [d1, d2, d3] => { results := [.lit (.bool true)], args := [d1, d2, d3] }
  | _ => none }
def gfdivBackRow : OpenClaim := { program := "ytkfebhfbdhdibaa", sum := "590957d7d07dc249d6c7ecc9a0a537d452bfd8fbb5ba645160503de6940e5b9f", func := "knucklebone/knucklebonelaw03.GfdivBack", spec := "gfdivBack", unfollowed := true, recurses := true, apart := false }
def GfdivBackSaid : Prop := gfdivBackRow.holds Try.pinned (OpenSpec.ofChange gfdivBackSpec)

/-- ITS FALSE NEIGHBOUR: 'it returns false'. Refute it at one input. -/
def gfdivBackWrong : ChangeSpec := { name := "gfdivBack", fn := fun _ => fun
  | [d1, d2, d3] => { results := [.lit (.bool false)], args := [d1, d2, d3] }
  | _ => none }
def GfdivBackWrongFalsely : Prop := gfdivBackRow.holds Try.pinned (OpenSpec.ofChange gfdivBackWrong)

/-- 'knucklebonelaw03.GfdivGcd': WHATEVER THE INPUT: true; the input reads as it did. -/
def gfdivGcdSpec : ChangeSpec := { name := "gfdivGcd", fn := fun _ => fun
  | [d1, d2, d3] => { results := [.lit (.bool true)], args := [d1, d2, d3] }
  | _ => none }
def gfdivGcdRow : OpenClaim := { program := "ytkfebhfbdhdibaa", sum := "590957d7d07dc249d6c7ecc9a0a537d452bfd8fbb5ba645160503de6940e5b9f", func := "knucklebone/knucklebonelaw03.GfdivGcd", spec := "gfdivGcd", unfollowed := true, recurses := true, apart := false }
def GfdivGcdSaid : Prop := gfdivGcdRow.holds Try.pinned (OpenSpec.ofChange gfdivGcdSpec)

/-- ITS FALSE NEIGHBOUR: 'it returns false'. Refute it at one input. -/
def gfdivGcdWrong : ChangeSpec := { name := "gfdivGcd", fn := fun _ => fun
  | [d1, d2, d3] => { results := [.lit (.bool false)], args := [d1, d2, d3] }
  | _ => none }
def GfdivGcdWrongFalsely : Prop := gfdivGcdRow.holds Try.pinned (OpenSpec.ofChange gfdivGcdWrong)

/-- 'knucklebonelaw03.GfdivRests': WHATEVER THE INPUT: true; the input reads as it did. -/
def gfdivRestsSpec : ChangeSpec := { name := "gfdivRests", fn := fun _ => fun
  | [d1, d2, d3] => { results := [.lit (.bool true)], args := [d1, d2, d3] }
  | _ => none }
def gfdivRestsRow : OpenClaim := { program := "ytkfebhfbdhdibaa", sum := "590957d7d07dc249d6c7ecc9a0a537d452bfd8fbb5ba645160503de6940e5b9f", func := "knucklebone/knucklebonelaw03.GfdivRests", spec := "gfdivRests", unfollowed := true, recurses := true, apart := false }
def GfdivRestsSaid : Prop := gfdivRestsRow.holds Try.pinned (OpenSpec.ofChange gfdivRestsSpec)

/-- ITS FALSE NEIGHBOUR: 'it returns false'. Refute it at one input. -/
def gfdivRestsWrong : ChangeSpec := { name := "gfdivRests", fn := fun _ => fun
  | [d1, d2, d3] => { results := [.lit (.bool false)], args := [d1, d2, d3] }
  | _ => none }
def GfdivRestsWrongFalsely : Prop := gfdivRestsRow.holds Try.pinned (OpenSpec.ofChange gfdivRestsWrong)

/- THE SECOND FORM. 'bulk': how many values and letters a reading holds, each counted each time it is reached (what is shared counts as often as it is met; a slice's spare places count too). A statement '..UptoSaid' is the law's where the arguments, and the package variables that the reading takes, are together of bulk at most 1048576: NARROWER than '..Said'. Prove '..Said' where nothing that the law and all that it calls make is longer than what came in: it says more and counts as full. Else prove '..UptoSaid'. A law counts once. -/
mutual
def uptoBulk {H : Type} : DataW H → Nat
  | .lit (.string bytes) => bytes.length + 1
  | .lit _ => 1
  | .nil => 1
  | .ptr d => uptoBulk d + 1
  | .slice elems spare => uptoBulkAll elems + uptoBulkAll spare + 1
  | .agg parts => uptoBulkAll parts + 1
  | .iface _ d => uptoBulk d + 1
  | .map entries => uptoBulkEntries entries + 1
  | .held _ => 1
def uptoBulkAll {H : Type} : List (DataW H) → Nat
  | [] => 0
  | d :: r => uptoBulk d + uptoBulkAll r
def uptoBulkEntries {H : Type} : List (Lit × DataW H) → Nat
  | [] => 0
  | x :: r => uptoBulkEntry x + uptoBulkEntries r
def uptoBulkEntry {H : Type} : Lit × DataW H → Nat
  | (.string bytes, d) => bytes.length + uptoBulk d + 1
  | (_, d) => uptoBulk d + 1
 end
def uptoSmall : (H : Type) → List (DataW H) → Bool := fun _ ds => decide (uptoBulkAll ds ≤ 1048576)
def OpenSpec.upto (s : _root_.Go.ChangeSpec) : _root_.Go.OpenSpec := { _root_.Go.OpenSpec.ofChange s with cond := some uptoSmall }

/-- 'knucklebonelaw03.GfdivTells', WHERE WHAT IT READS IS OF BULK AT MOST 1048576: true; the input reads as it did. -/
def gfdivTellsUptoRow : OpenClaim := { program := "ytkfebhfbdhdibaa", sum := "590957d7d07dc249d6c7ecc9a0a537d452bfd8fbb5ba645160503de6940e5b9f", func := "knucklebone/knucklebonelaw03.GfdivTells", spec := "gfdivTells", unfollowed := true, recurses := true, apart := false, narrowed := true }
def GfdivTellsUptoSaid : Prop := gfdivTellsUptoRow.holds Try.pinned (OpenSpec.upto gfdivTellsSpec)

/-- 'knucklebonelaw03.GfdivBack', WHERE WHAT IT READS IS OF BULK AT MOST 1048576: true; the input reads as it did. -/
def gfdivBackUptoRow : OpenClaim := { program := "ytkfebhfbdhdibaa", sum := "590957d7d07dc249d6c7ecc9a0a537d452bfd8fbb5ba645160503de6940e5b9f", func := "knucklebone/knucklebonelaw03.GfdivBack", spec := "gfdivBack", unfollowed := true, recurses := true, apart := false, narrowed := true }
def GfdivBackUptoSaid : Prop := gfdivBackUptoRow.holds Try.pinned (OpenSpec.upto gfdivBackSpec)

/-- 'knucklebonelaw03.GfdivGcd', WHERE WHAT IT READS IS OF BULK AT MOST 1048576: true; the input reads as it did. -/
def gfdivGcdUptoRow : OpenClaim := { program := "ytkfebhfbdhdibaa", sum := "590957d7d07dc249d6c7ecc9a0a537d452bfd8fbb5ba645160503de6940e5b9f", func := "knucklebone/knucklebonelaw03.GfdivGcd", spec := "gfdivGcd", unfollowed := true, recurses := true, apart := false, narrowed := true }
def GfdivGcdUptoSaid : Prop := gfdivGcdUptoRow.holds Try.pinned (OpenSpec.upto gfdivGcdSpec)

/-- 'knucklebonelaw03.GfdivRests', WHERE WHAT IT READS IS OF BULK AT MOST 1048576: true; the input reads as it did. -/
def gfdivRestsUptoRow : OpenClaim := { program := "ytkfebhfbdhdibaa", sum := "590957d7d07dc249d6c7ecc9a0a537d452bfd8fbb5ba645160503de6940e5b9f", func := "knucklebone/knucklebonelaw03.GfdivRests", spec := "gfdivRests", unfollowed := true, recurses := true, apart := false, narrowed := true }
def GfdivRestsUptoSaid : Prop := gfdivRestsUptoRow.holds Try.pinned (OpenSpec.upto gfdivRestsSpec)

end Rows
end Go.Proofs.Ytkfebhfbdhdibaa
