/-
  No cell of these rows narrows 'for every input' (looked for: loops, veiled, ifaces, maps, wideKeys, modest, calm, conditions, laid).
  DERIVED. THE GIVEN ROWS OF THIS SEAT. 5 by the template 'for every input the law returns true; each argument reads behind the call as it read before'; 0 by the template 'total and deterministic' (their statements: YthnmekieanndgaaTotals.lean).
  GIVEN WITH THE SEED: the statements are not yours to turn. If you find one false, say at which input.
  Laid BY PROGRAM, IN A SANDBOX (cutbox-rows.mjs): the forced cells as the released guide's own fill.sh prints them over the translation d002eccdd52784dd… (all of the seat's roots in one cut). By AI agents, Wed Nov 11 2026. No macro, syntax, notation, axiom, sorry.
-/
import Derived.Test.YthnmekieanndgaaChecked
import GoSem.Claim
import GoSem.ClaimJoined
import GoSem.ClaimMapViews
import Derived.JoinedTies
import Derived.KernelRfl
namespace Go.Proofs.Ythnmekieanndgaa
/- THE CELL 'sum', in the pinned program and in every row, IS THE sha256 OF THE DUMP (.gsa) THAT YthnmekieanndgaaProg.lean LOADS. Nothing in Lean hashes anything: it is a label: what it is worth is what the hold of that sum in a sandbox is worth. -/
noncomputable def Try.pinned : Pinned := { name := "ythnmekieanndgaa", sum := "d002eccdd52784dd282ba34edaa913045f9761d52592e9e82d9defc7bdda8293", checked := Try.checked }
namespace Rows
def none {H : Type} : Left H := { results := [], args := [] }

/-- 'knucklebonelaw10.PcgTells': WHATEVER THE INPUT: true; the input reads as it did. -/
def pcgTellsSpec : ChangeSpec := { name := "pcgTells", fn := fun _ => fun
  | [d1, d2, d3] => { results := [.lit (.bool true)], args := [d1, d2, d3] }
  | _ => none }
def pcgTellsRow : OpenClaim := { program := "ythnmekieanndgaa", sum := "d002eccdd52784dd282ba34edaa913045f9761d52592e9e82d9defc7bdda8293", func := "knucklebone/knucklebonelaw10.PcgTells", spec := "pcgTells", inPlace := ["math/bits.Add64", "math/bits.Sub64"], unfollowed := true, recurses := true, apart := false }
def PcgTellsSaid : Prop := pcgTellsRow.holds Try.pinned (OpenSpec.ofChange pcgTellsSpec)

/-- ITS FALSE NEIGHBOUR: 'it returns false'. Refute it at one input. -/
def pcgTellsWrong : ChangeSpec := { name := "pcgTells", fn := fun _ => fun
  | [d1, d2, d3] => { results := [.lit (.bool false)], args := [d1, d2, d3] }
  | _ => none }
def PcgTellsWrongFalsely : Prop := pcgTellsRow.holds Try.pinned (OpenSpec.ofChange pcgTellsWrong)

/-- 'knucklebonelaw10.PcgFar': WHATEVER THE INPUT: true; the input reads as it did. -/
def pcgFarSpec : ChangeSpec := { name := "pcgFar", fn := fun _ => fun
  | [d1, d2] => { results := [.lit (.bool true)], args := [d1, d2] }
  | _ => none }
def pcgFarRow : OpenClaim := { program := "ythnmekieanndgaa", sum := "d002eccdd52784dd282ba34edaa913045f9761d52592e9e82d9defc7bdda8293", func := "knucklebone/knucklebonelaw10.PcgFar", spec := "pcgFar", inPlace := ["math/bits.Add64", "math/bits.Sub64"], unfollowed := true, recurses := true, apart := false }
def PcgFarSaid : Prop := pcgFarRow.holds Try.pinned (OpenSpec.ofChange pcgFarSpec)

/-- ITS FALSE NEIGHBOUR: 'it returns false'. Refute it at one input. -/
def pcgFarWrong : ChangeSpec := { name := "pcgFar", fn := fun _ => fun
  | [d1, d2] => { results := [.lit (.bool false)], args := [d1, d2] }
  | _ => none }
def PcgFarWrongFalsely : Prop := pcgFarRow.holds Try.pinned (OpenSpec.ofChange pcgFarWrong)

/-- 'knucklebonelaw10.PcgBack': WHATEVER THE INPUT: true; the input reads as it did. -/
def pcgBackSpec : ChangeSpec := { name := "pcgBack", fn := fun _ => fun
  | [d] => { results := [.lit (.bool true)], args := [d] }
  | _ => none }
def pcgBackRow : OpenClaim := { program := "ythnmekieanndgaa", sum := "d002eccdd52784dd282ba34edaa913045f9761d52592e9e82d9defc7bdda8293", func := "knucklebone/knucklebonelaw10.PcgBack", spec := "pcgBack", inPlace := ["math/bits.Add64", "math/bits.Sub64"], unfollowed := true, recurses := true, apart := false }
def PcgBackSaid : Prop := pcgBackRow.holds Try.pinned (OpenSpec.ofChange pcgBackSpec)

/-- ITS FALSE NEIGHBOUR: 'it returns false'. Refute it at one input. -/
def pcgBackWrong : ChangeSpec := { name := "pcgBack", fn := fun _ => fun
  | [d] => { results := [.lit (.bool false)], args := [d] }
  | _ => none }
def PcgBackWrongFalsely : Prop := pcgBackRow.holds Try.pinned (OpenSpec.ofChange pcgBackWrong)

/-- 'knucklebonelaw10.PcgJumps': WHATEVER THE INPUT: true; the input reads as it did. -/
def pcgJumpsSpec : ChangeSpec := { name := "pcgJumps", fn := fun _ => fun
  | [d1, d2, d3] => { results := [.lit (.bool true)], args := [d1, d2, d3] }
  | _ => none }
def pcgJumpsRow : OpenClaim := { program := "ythnmekieanndgaa", sum := "d002eccdd52784dd282ba34edaa913045f9761d52592e9e82d9defc7bdda8293", func := "knucklebone/knucklebonelaw10.PcgJumps", spec := "pcgJumps", inPlace := ["math/bits.Add64", "math/bits.Sub64"], unfollowed := true, recurses := true, apart := false }
def PcgJumpsSaid : Prop := pcgJumpsRow.holds Try.pinned (OpenSpec.ofChange pcgJumpsSpec)

/-- ITS FALSE NEIGHBOUR: 'it returns false'. Refute it at one input. -/
def pcgJumpsWrong : ChangeSpec := { name := "pcgJumps", fn := fun _ => fun
  | [d1, d2, d3] => { results := [.lit (.bool false)], args := [d1, d2, d3] }
  | _ => none }
def PcgJumpsWrongFalsely : Prop := pcgJumpsRow.holds Try.pinned (OpenSpec.ofChange pcgJumpsWrong)

/-- 'knucklebonelaw10.PcgApart': WHATEVER THE INPUT: true; the input reads as it did. -/
def pcgApartSpec : ChangeSpec := { name := "pcgApart", fn := fun _ => fun
  | [d1, d2, d3] => { results := [.lit (.bool true)], args := [d1, d2, d3] }
  | _ => none }
def pcgApartRow : OpenClaim := { program := "ythnmekieanndgaa", sum := "d002eccdd52784dd282ba34edaa913045f9761d52592e9e82d9defc7bdda8293", func := "knucklebone/knucklebonelaw10.PcgApart", spec := "pcgApart", inPlace := ["math/bits.Add64", "math/bits.Sub64"], unfollowed := true, recurses := true, apart := false }
def PcgApartSaid : Prop := pcgApartRow.holds Try.pinned (OpenSpec.ofChange pcgApartSpec)

/-- ITS FALSE NEIGHBOUR: 'it returns false'. Refute it at one input. -/
def pcgApartWrong : ChangeSpec := { name := "pcgApart", fn := fun _ => fun
  | [d1, d2, d3] => { results := [.lit (.bool false)], args := [d1, d2, d3] }
  | _ => none }
def PcgApartWrongFalsely : Prop := pcgApartRow.holds Try.pinned (OpenSpec.ofChange pcgApartWrong)

/- THE SECOND FORM. 'bulk': how many values and letters a reading holds, each counted each time it is reached (what is shared counts as often as it is met; a slice's spare places count too). A statement '..UptoSaid' is the law's where the arguments, and the package variables that the reading takes, are together of bulk at most 1048576: NARROWER than '..Said'. Prove '..Said' where nothing that the law and all that it calls make is longer than what came in: it says more and counts as full. Else prove '..UptoSaid'. A law counts once. -/
mutual
def uptoBulk {H : Type} : DataW H → Nat
  | .lit (.string bytes) => bytes.length + 1
  | .lit _ => 1
  | .nil => 1
  | .ptr d => uptoBulk d + 1
  | .slice elems spare => uptoBulkAll elems + uptoBulkAll spare + 1
  | .agg parts => uptoBulkAll parts + 1
  | .iface _ d => uptoBulk d + 1
  | .map entries => uptoBulkEntries entries + 1
  | .held _ => 1
def uptoBulkAll {H : Type} : List (DataW H) → Nat
  | [] => 0
  | d :: r => uptoBulk d + uptoBulkAll r
def uptoBulkEntries {H : Type} : List (Lit × DataW H) → Nat
  | [] => 0
  | x :: r => uptoBulkEntry x + uptoBulkEntries r
def uptoBulkEntry {H : Type} : Lit × DataW H → Nat
  | (.string bytes, d) => bytes.length + uptoBulk d + 1
  | (_, d) => uptoBulk d + 1
 end
def uptoSmall : (H : Type) → List (DataW H) → Bool := fun _ ds => decide (uptoBulkAll ds ≤ 1048576)
def OpenSpec.upto (s : _root_.Go.ChangeSpec) : _root_.Go.OpenSpec := { _root_.Go.OpenSpec.ofChange s with cond := some uptoSmall }

/-- 'knucklebonelaw10.PcgTells', WHERE WHAT IT READS IS OF BULK AT MOST 1048576: true; the input reads as it did. -/
def pcgTellsUptoRow : OpenClaim := { program := "ythnmekieanndgaa", sum := "d002eccdd52784dd282ba34edaa913045f9761d52592e9e82d9defc7bdda8293", func := "knucklebone/knucklebonelaw10.PcgTells", spec := "pcgTells", inPlace := ["math/bits.Add64", "math/bits.Sub64"], unfollowed := true, recurses := true, apart := false, narrowed := true }
def PcgTellsUptoSaid : Prop := pcgTellsUptoRow.holds Try.pinned (OpenSpec.upto pcgTellsSpec)

/-- 'knucklebonelaw10.PcgFar', WHERE WHAT IT READS IS OF BULK AT MOST 1048576: true; the input reads as it did. -/
def pcgFarUptoRow : OpenClaim := { program := "ythnmekieanndgaa", sum := "d002eccdd52784dd282ba34edaa913045f9761d52592e9e82d9defc7bdda8293", func := "knucklebone/knucklebonelaw10.PcgFar", spec := "pcgFar", inPlace := ["math/bits.Add64", "math/bits.Sub64"], unfollowed := true, recurses := true, apart := false, narrowed := true }
def PcgFarUptoSaid : Prop := pcgFarUptoRow.holds Try.pinned (OpenSpec.upto pcgFarSpec)

/-- 'knucklebonelaw10.PcgBack', WHERE WHAT IT READS IS OF BULK AT MOST 1048576: true; the input reads as it did. -/
def pcgBackUptoRow : OpenClaim := { program := "ythnmekieanndgaa", sum := "d002eccdd52784dd282ba34edaa913045f9761d52592e9e82d9defc7bdda8293", func := "knucklebone/knucklebonelaw10.PcgBack", spec := "pcgBack", inPlace := ["math/bits.Add64", "math/bits.Sub64"], unfollowed := true, recurses := true, apart := false, narrowed := true }
def PcgBackUptoSaid : Prop := pcgBackUptoRow.holds Try.pinned (OpenSpec.upto pcgBackSpec)

/-- 'knucklebonelaw10.PcgJumps', WHERE WHAT IT READS IS OF BULK AT MOST 1048576: true; the input reads as it did. -/
def pcgJumpsUptoRow : OpenClaim := { program := "ythnmekieanndgaa", sum := "d002eccdd52784dd282ba34edaa913045f9761d52592e9e82d9defc7bdda8293", func := "knucklebone/knucklebonelaw10.PcgJumps", spec := "pcgJumps", inPlace := ["math/bits.Add64", "math/bits.Sub64"], unfollowed := true, recurses := true, apart := false, narrowed := true }
def PcgJumpsUptoSaid : Prop := pcgJumpsUptoRow.holds Try.pinned (OpenSpec.upto pcgJumpsSpec)

/-- 'knucklebonelaw10.PcgApart', WHERE WHAT IT READS IS OF BULK AT MOST 1048576: true; the input reads as it did. -/
def pcgApartUptoRow : OpenClaim := { program := "ythnmekieanndgaa", sum := "d002eccdd52784dd282ba34edaa913045f9761d52592e9e82d9defc7bdda8293", func := "knucklebone/knucklebonelaw10.PcgApart", spec := "pcgApart", inPlace := ["math/bits.Add64", "math/bits.Sub64"], unfollowed := true, recurses := true, apart := false, narrowed := true }
def PcgApartUptoSaid : Prop := pcgApartUptoRow.holds Try.pinned (OpenSpec.upto pcgApartSpec)

end Rows
end Go.Proofs.Ythnmekieanndgaa
