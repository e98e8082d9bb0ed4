/-
  No cell of these rows narrows 'for every input' (looked for: loops, veiled, ifaces, maps, wideKeys, modest, calm, conditions, laid).
  DERIVED. THE GIVEN ROWS OF THIS SEAT. 4 by the template 'for every input the law returns true; each argument reads behind the call as it read before'; 0 by the template 'total and deterministic' (their statements: YtfnfjfmkhnofkaaTotals.lean).
  GIVEN WITH THE SEED: the statements are not yours to turn. If you find one false, say at which input.
  Laid BY PROGRAM, IN A SANDBOX (cutbox-rows.mjs): the forced cells as the released guide's own fill.sh prints them over the translation 704fc1d4792782ea… (all of the seat's roots in one cut). By AI agents, Wed Nov 11 2026. No macro, syntax, notation, axiom, sorry.
-/
import Derived.Test.YtfnfjfmkhnofkaaChecked
import GoSem.Claim
import GoSem.ClaimJoined
import GoSem.ClaimMapViews
import Derived.JoinedTies
import Derived.KernelRfl
namespace Go.Proofs.Ytfnfjfmkhnofkaa
/- THE CELL 'sum', in the pinned program and in every row, IS THE sha256 OF THE DUMP (.gsa) THAT YtfnfjfmkhnofkaaProg.lean LOADS. Nothing in Lean hashes anything: it is a label: what it is worth is what the hold of that sum in a sandbox is worth. -/
noncomputable def Try.pinned : Pinned := { name := "ytfnfjfmkhnofkaa", sum := "704fc1d4792782ea59b6d43fae17ba984765914951a510385524aa18c5dc48c4", checked := Try.checked }
namespace Rows
def none {H : Type} : Left H := { results := [], args := [] }

/-- 'knucklebonelaw09.AffineTells': WHATEVER THE INPUT: true; the input reads as it did. -/
def affineTellsSpec : ChangeSpec := { name := "affineTells", fn := fun _ => fun
  | [d1, d2, d3] => { results := [.lit (.bool true)], args := [d1, d2, d3] }
  | _ => none }
def affineTellsRow : OpenClaim := { program := "ytfnfjfmkhnofkaa", sum := "704fc1d4792782ea59b6d43fae17ba984765914951a510385524aa18c5dc48c4", func := "knucklebone/knucklebonelaw09.AffineTells", spec := "affineTells", inPlace := ["math/bits.Sub64", "math/bits.Add64"], unfollowed := true, recurses := true, apart := false }
def AffineTellsSaid : Prop := affineTellsRow.holds Try.pinned (OpenSpec.ofChange affineTellsSpec)

/-- ITS FALSE NEIGHBOUR: 'it returns false'. Refute it at one input. -/
def affineTellsWrong : ChangeSpec := { name := "affineTells", fn := fun _ => fun
  | [d1, d2, d3] => { results := [.lit (.bool false)], args := [d1, d2, d3] }
  | _ => none }
def AffineTellsWrongFalsely : Prop := affineTellsRow.holds Try.pinned (OpenSpec.ofChange affineTellsWrong)

/-- 'knucklebonelaw09.AffineThen': WHATEVER THE INPUT: true; the input reads as it did. -/
def affineThenSpec : ChangeSpec := { name := "affineThen", fn := fun _ => fun
  | [d1, d2, d3, d4] => { results := [.lit (.bool true)], args := [d1, d2, d3, d4] }
  | _ => none }
def affineThenRow : OpenClaim := { program := "ytfnfjfmkhnofkaa", sum := "704fc1d4792782ea59b6d43fae17ba984765914951a510385524aa18c5dc48c4", func := "knucklebone/knucklebonelaw09.AffineThen", spec := "affineThen", inPlace := ["math/bits.Sub64", "math/bits.Add64"], unfollowed := true, recurses := true, apart := false }
def AffineThenSaid : Prop := affineThenRow.holds Try.pinned (OpenSpec.ofChange affineThenSpec)

/-- ITS FALSE NEIGHBOUR: 'it returns false'. Refute it at one input. -/
def affineThenWrong : ChangeSpec := { name := "affineThen", fn := fun _ => fun
  | [d1, d2, d3, d4] => { results := [.lit (.bool false)], args := [d1, d2, d3, d4] }
  | _ => none }
def AffineThenWrongFalsely : Prop := affineThenRow.holds Try.pinned (OpenSpec.ofChange affineThenWrong)

/-- 'knucklebonelaw09.AffinePowers': WHATEVER THE INPUT: true; the input reads as it did. -/
def affinePowersSpec : ChangeSpec := { name := "affinePowers", fn := fun _ => fun
  | [d1, d2, d3, d4] => { results := [.lit (.bool true)], args := [d1, d2, d3, d4] }
  | _ => none }
def affinePowersRow : OpenClaim := { program := "ytfnfjfmkhnofkaa", sum := "704fc1d4792782ea59b6d43fae17ba984765914951a510385524aa18c5dc48c4", func := "knucklebone/knucklebonelaw09.AffinePowers", spec := "affinePowers", inPlace := ["math/bits.Sub64", "math/bits.Add64"], unfollowed := true, recurses := true, apart := false }
def AffinePowersSaid : Prop := affinePowersRow.holds Try.pinned (OpenSpec.ofChange affinePowersSpec)

/-- ITS FALSE NEIGHBOUR: 'it returns false'. Refute it at one input. -/
def affinePowersWrong : ChangeSpec := { name := "affinePowers", fn := fun _ => fun
  | [d1, d2, d3, d4] => { results := [.lit (.bool false)], args := [d1, d2, d3, d4] }
  | _ => none }
def AffinePowersWrongFalsely : Prop := affinePowersRow.holds Try.pinned (OpenSpec.ofChange affinePowersWrong)

/-- 'knucklebonelaw09.AffineBack': WHATEVER THE INPUT: true; the input reads as it did. -/
def affineBackSpec : ChangeSpec := { name := "affineBack", fn := fun _ => fun
  | [d1, d2] => { results := [.lit (.bool true)], args := [d1, d2] }
  | _ => none }
def affineBackRow : OpenClaim := { program := "ytfnfjfmkhnofkaa", sum := "704fc1d4792782ea59b6d43fae17ba984765914951a510385524aa18c5dc48c4", func := "knucklebone/knucklebonelaw09.AffineBack", spec := "affineBack", inPlace := ["math/bits.Sub64", "math/bits.Add64"], unfollowed := true, recurses := true, apart := false }
def AffineBackSaid : Prop := affineBackRow.holds Try.pinned (OpenSpec.ofChange affineBackSpec)

/-- ITS FALSE NEIGHBOUR: 'it returns false'. Refute it at one input. -/
def affineBackWrong : ChangeSpec := { name := "affineBack", fn := fun _ => fun
  | [d1, d2] => { results := [.lit (.bool false)], args := [d1, d2] }
  | _ => none }
def AffineBackWrongFalsely : Prop := affineBackRow.holds Try.pinned (OpenSpec.ofChange affineBackWrong)

/- THE SECOND FORM. 'bulk': how many values and letters a reading holds, each counted each time it is reached (what is shared counts as often as it is met; a slice's spare places count too). A statement '..UptoSaid' is the law's where the arguments, and the package variables that the reading takes, are together of bulk at most 1048576: NARROWER than '..Said'. Prove '..Said' where nothing that the law and all that it calls make is longer than what came in: it says more and counts as full. Else prove '..UptoSaid'. A law counts once. -/
mutual
def uptoBulk {H : Type} : DataW H → Nat
  | .lit (.string bytes) => bytes.length + 1
  | .lit _ => 1
  | .nil => 1
  | .ptr d => uptoBulk d + 1
  | .slice elems spare => uptoBulkAll elems + uptoBulkAll spare + 1
  | .agg parts => uptoBulkAll parts + 1
  | .iface _ d => uptoBulk d + 1
  | .map entries => uptoBulkEntries entries + 1
  | .held _ => 1
def uptoBulkAll {H : Type} : List (DataW H) → Nat
  | [] => 0
  | d :: r => uptoBulk d + uptoBulkAll r
def uptoBulkEntries {H : Type} : List (Lit × DataW H) → Nat
  | [] => 0
  | x :: r => uptoBulkEntry x + uptoBulkEntries r
def uptoBulkEntry {H : Type} : Lit × DataW H → Nat
  | (.string bytes, d) => bytes.length + uptoBulk d + 1
  | (_, d) => uptoBulk d + 1
 end
def uptoSmall : (H : Type) → List (DataW H) → Bool := fun _ ds => decide (uptoBulkAll ds ≤ 1048576)
def OpenSpec.upto (s : _root_.Go.ChangeSpec) : _root_.Go.OpenSpec := { _root_.Go.OpenSpec.ofChange s with cond := some uptoSmall }

/-- 'knucklebonelaw09.AffineTells', WHERE WHAT IT READS IS OF BULK AT MOST 1048576: true; the input reads as it did. -/
def affineTellsUptoRow : OpenClaim := { program := "ytfnfjfmkhnofkaa", sum := "704fc1d4792782ea59b6d43fae17ba984765914951a510385524aa18c5dc48c4", func := "knucklebone/knucklebonelaw09.AffineTells", spec := "affineTells", inPlace := ["math/bits.Sub64", "math/bits.Add64"], unfollowed := true, recurses := true, apart := false, narrowed := true }
def AffineTellsUptoSaid : Prop := affineTellsUptoRow.holds Try.pinned (OpenSpec.upto affineTellsSpec)

/-- 'knucklebonelaw09.AffineThen', WHERE WHAT IT READS IS OF BULK AT MOST 1048576: true; the input reads as it did. -/
def affineThenUptoRow : OpenClaim := { program := "ytfnfjfmkhnofkaa", sum := "704fc1d4792782ea59b6d43fae17ba984765914951a510385524aa18c5dc48c4", func := "knucklebone/knucklebonelaw09.AffineThen", spec := "affineThen", inPlace := ["math/bits.Sub64", "math/bits.Add64"], unfollowed := true, recurses := true, apart := false, narrowed := true }
def AffineThenUptoSaid : Prop := affineThenUptoRow.holds Try.pinned (OpenSpec.upto affineThenSpec)

/-- 'knucklebonelaw09.AffinePowers', WHERE WHAT IT READS IS OF BULK AT MOST 1048576: true; the input reads as it did. -/
def affinePowersUptoRow : OpenClaim := { program := "ytfnfjfmkhnofkaa", sum := "704fc1d4792782ea59b6d43fae17ba984765914951a510385524aa18c5dc48c4", func := "knucklebone/knucklebonelaw09.AffinePowers", spec := "affinePowers", inPlace := ["math/bits.Sub64", "math/bits.Add64"], unfollowed := true, recurses := true, apart := false, narrowed := true }
def AffinePowersUptoSaid : Prop := affinePowersUptoRow.holds Try.pinned (OpenSpec.upto affinePowersSpec)

/-- 'knucklebonelaw09.AffineBack', WHERE WHAT IT READS IS OF BULK AT MOST 1048576: true; the input reads as it did. -/
def affineBackUptoRow : OpenClaim := { program := "ytfnfjfmkhnofkaa", sum := "704fc1d4792782ea59b6d43fae17ba984765914951a510385524aa18c5dc48c4", func := "knucklebone/knucklebonelaw09.AffineBack", spec := "affineBack", inPlace := ["math/bits.Sub64", "math/bits.Add64"], unfollowed := true, recurses := true, apart := false, narrowed := true }
def AffineBackUptoSaid : Prop := affineBackUptoRow.holds Try.pinned (OpenSpec.upto affineBackSpec)

end Rows
end Go.Proofs.Ytfnfjfmkhnofkaa
