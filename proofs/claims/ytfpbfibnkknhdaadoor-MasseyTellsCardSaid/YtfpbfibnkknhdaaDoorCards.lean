/-
  DERIVED. GIVEN WITH THE SEED: THE CARDS: each row of YtfpbfibnkknhdaaDoorRows.lean that lists a variable, with what it lists TIED to the program's text (the seventh form; the later family's looks); each row that meets fmt, with fmt's text TOLD by the authors' own Lean function (tested against real Go, not proved from fmt's source: count such statements apart). THE CARD IS WHAT COUNTS. Prove the row's statement (the work); the ties are given (YtfpbfibnkknhdaaDoorTie.lean); close each card by the builder's one call (the guide's Derived/Test/ToyasCard.lean, 'card_holds'). Laid BY PROGRAM, IN A SANDBOX (cutbox-door.mjs). By AI agents, Wed Nov 11 2026. No macro, syntax, notation, axiom, sorry.
-/
import Derived.Test.YtfpbfibnkknhdaaDoorRows
import GoSem.ClaimSeven
namespace Go.Proofs.YtfpbfibnkknhdaaDoor
namespace Rows

/-- THE TIED CARD OF 'knucklebonelaw05.MasseyTells'. -/
def masseyTellsCard : Claim7 := { stood := { row := masseyTellsRow, standIns := [], harness := (true, "220de160f7d64f691337ff3e50da9822fc4c4a616905053f0070798a098506c9"), looks := false }, kinds := [], alts := [], laidByText := true, laidKinds := [.data], laidTests := true, laidLooks := .later }
def MasseyTellsCardSaid : Prop := Claim7.holds Tryd.pinned (.plain (OpenSpec.ofChange masseyTellsSpec)) masseyTellsCard

/-- THE TIED CARD OF 'knucklebonelaw05.MasseyRule'. -/
def masseyRuleCard : Claim7 := { stood := { row := masseyRuleRow, standIns := [], harness := (true, "220de160f7d64f691337ff3e50da9822fc4c4a616905053f0070798a098506c9"), looks := false }, kinds := [], alts := [], laidByText := true, laidKinds := [.data], laidTests := true, laidLooks := .later }
def MasseyRuleCardSaid : Prop := Claim7.holds Tryd.pinned (.plain (OpenSpec.ofChange masseyRuleSpec)) masseyRuleCard

/-- THE TIED CARD OF 'knucklebonelaw05.MasseyGoes'. -/
def masseyGoesCard : Claim7 := { stood := { row := masseyGoesRow, standIns := [], harness := (true, "220de160f7d64f691337ff3e50da9822fc4c4a616905053f0070798a098506c9"), looks := false }, kinds := [], alts := [], laidByText := true, laidKinds := [.data], laidTests := true, laidLooks := .later }
def MasseyGoesCardSaid : Prop := Claim7.holds Tryd.pinned (.plain (OpenSpec.ofChange masseyGoesSpec)) masseyGoesCard

/-- THE TIED CARD OF 'knucklebonelaw05.MasseyNone'. -/
def masseyNoneCard : Claim7 := { stood := { row := masseyNoneRow, standIns := [], harness := (true, "220de160f7d64f691337ff3e50da9822fc4c4a616905053f0070798a098506c9"), looks := false }, kinds := [], alts := [], laidByText := true, laidKinds := [.data], laidTests := true, laidLooks := .later }
def MasseyNoneCardSaid : Prop := Claim7.holds Tryd.pinned (.plain (OpenSpec.ofChange masseyNoneSpec)) masseyNoneCard

/-- THE SECOND FORM's CARD OF 'knucklebonelaw05.MasseyTells'. -/
def masseyTellsUptoCard : Claim7 := { stood := { row := masseyTellsUptoRow, standIns := [], harness := (true, "220de160f7d64f691337ff3e50da9822fc4c4a616905053f0070798a098506c9"), looks := false }, kinds := [], alts := [], laidByText := true, laidKinds := [.data], laidTests := true, laidLooks := .later }
def MasseyTellsUptoCardSaid : Prop := Claim7.holds Tryd.pinned (.plain (OpenSpec.upto masseyTellsSpec)) masseyTellsUptoCard

/-- THE SECOND FORM's CARD OF 'knucklebonelaw05.MasseyRule'. -/
def masseyRuleUptoCard : Claim7 := { stood := { row := masseyRuleUptoRow, standIns := [], harness := (true, "220de160f7d64f691337ff3e50da9822fc4c4a616905053f0070798a098506c9"), looks := false }, kinds := [], alts := [], laidByText := true, laidKinds := [.data], laidTests := true, laidLooks := .later }
def MasseyRuleUptoCardSaid : Prop := Claim7.holds Tryd.pinned (.plain (OpenSpec.upto masseyRuleSpec)) masseyRuleUptoCard

/-- THE SECOND FORM's CARD OF 'knucklebonelaw05.MasseyGoes'. -/
def masseyGoesUptoCard : Claim7 := { stood := { row := masseyGoesUptoRow, standIns := [], harness := (true, "220de160f7d64f691337ff3e50da9822fc4c4a616905053f0070798a098506c9"), looks := false }, kinds := [], alts := [], laidByText := true, laidKinds := [.data], laidTests := true, laidLooks := .later }
def MasseyGoesUptoCardSaid : Prop := Claim7.holds Tryd.pinned (.plain (OpenSpec.upto masseyGoesSpec)) masseyGoesUptoCard

/-- THE SECOND FORM's CARD OF 'knucklebonelaw05.MasseyNone'. -/
def masseyNoneUptoCard : Claim7 := { stood := { row := masseyNoneUptoRow, standIns := [], harness := (true, "220de160f7d64f691337ff3e50da9822fc4c4a616905053f0070798a098506c9"), looks := false }, kinds := [], alts := [], laidByText := true, laidKinds := [.data], laidTests := true, laidLooks := .later }
def MasseyNoneUptoCardSaid : Prop := Claim7.holds Tryd.pinned (.plain (OpenSpec.upto masseyNoneSpec)) masseyNoneUptoCard
end Rows
end Go.Proofs.YtfpbfibnkknhdaaDoor
