/-
  DERIVED. GIVEN WITH THE SEED: THE CARDS: each row of YtemgoikghaiamaaDoorRows.lean that lists a variable, with what it lists TIED to the program's text (the seventh form; the later family's looks); each row that meets fmt, with fmt's text TOLD by the authors' own Lean function (tested against real Go, not proved from fmt's source: count such statements apart). THE CARD IS WHAT COUNTS. Prove the row's statement (the work); the ties are given (YtemgoikghaiamaaDoorTie.lean); close each card by the builder's one call (the guide's Derived/Test/ToyasCard.lean, 'card_holds'). Laid BY PROGRAM, IN A SANDBOX (cutbox-door.mjs). By AI agents, Wed Nov 11 2026. No macro, syntax, notation, axiom, sorry.
-/
import Derived.Test.YtemgoikghaiamaaDoorRows
import GoSem.ClaimSeven
namespace Go.Proofs.YtemgoikghaiamaaDoor
namespace Rows

/-- THE TIED CARD OF 'knucklebonelaw08.XjumpTells'. -/
def xjumpTellsCard : Claim7 := { stood := { row := xjumpTellsRow, standIns := [], harness := (true, "4f000d72f911e3991187970ad5d22dce1b2aefb66786bbd7d0d9f35ae59f8a2b"), looks := false }, kinds := [], alts := [], laidByText := true, laidKinds := [.data], laidTests := true, laidLooks := .later }
def XjumpTellsCardSaid : Prop := Claim7.holds Tryd.pinned (.plain (OpenSpec.ofChange xjumpTellsSpec)) xjumpTellsCard

/-- THE TIED CARD OF 'knucklebonelaw08.XjumpSteps'. -/
def xjumpStepsCard : Claim7 := { stood := { row := xjumpStepsRow, standIns := [], harness := (true, "4f000d72f911e3991187970ad5d22dce1b2aefb66786bbd7d0d9f35ae59f8a2b"), looks := false }, kinds := [], alts := [], laidByText := true, laidKinds := [.data], laidTests := true, laidLooks := .later }
def XjumpStepsCardSaid : Prop := Claim7.holds Tryd.pinned (.plain (OpenSpec.ofChange xjumpStepsSpec)) xjumpStepsCard

/-- THE TIED CARD OF 'knucklebonelaw08.XjumpAdds'. -/
def xjumpAddsCard : Claim7 := { stood := { row := xjumpAddsRow, standIns := [], harness := (true, "4f000d72f911e3991187970ad5d22dce1b2aefb66786bbd7d0d9f35ae59f8a2b"), looks := false }, kinds := [], alts := [], laidByText := true, laidKinds := [.data], laidTests := true, laidLooks := .later }
def XjumpAddsCardSaid : Prop := Claim7.holds Tryd.pinned (.plain (OpenSpec.ofChange xjumpAddsSpec)) xjumpAddsCard

/-- THE TIED CARD OF 'knucklebonelaw08.XjumpRule'. -/
def xjumpRuleCard : Claim7 := { stood := { row := xjumpRuleRow, standIns := [], harness := (true, "4f000d72f911e3991187970ad5d22dce1b2aefb66786bbd7d0d9f35ae59f8a2b"), looks := false }, kinds := [], alts := [], laidByText := true, laidKinds := [.data], laidTests := true, laidLooks := .later }
def XjumpRuleCardSaid : Prop := Claim7.holds Tryd.pinned (.plain (OpenSpec.ofChange xjumpRuleSpec)) xjumpRuleCard

/-- THE TIED CARD OF 'knucklebonelaw08.XjumpApart'. -/
def xjumpApartCard : Claim7 := { stood := { row := xjumpApartRow, standIns := [], harness := (true, "4f000d72f911e3991187970ad5d22dce1b2aefb66786bbd7d0d9f35ae59f8a2b"), looks := false }, kinds := [], alts := [], laidByText := true, laidKinds := [.data], laidTests := true, laidLooks := .later }
def XjumpApartCardSaid : Prop := Claim7.holds Tryd.pinned (.plain (OpenSpec.ofChange xjumpApartSpec)) xjumpApartCard

/-- THE SECOND FORM's CARD OF 'knucklebonelaw08.XjumpTells'. -/
def xjumpTellsUptoCard : Claim7 := { stood := { row := xjumpTellsUptoRow, standIns := [], harness := (true, "4f000d72f911e3991187970ad5d22dce1b2aefb66786bbd7d0d9f35ae59f8a2b"), looks := false }, kinds := [], alts := [], laidByText := true, laidKinds := [.data], laidTests := true, laidLooks := .later }
def XjumpTellsUptoCardSaid : Prop := Claim7.holds Tryd.pinned (.plain (OpenSpec.upto xjumpTellsSpec)) xjumpTellsUptoCard

/-- THE SECOND FORM's CARD OF 'knucklebonelaw08.XjumpSteps'. -/
def xjumpStepsUptoCard : Claim7 := { stood := { row := xjumpStepsUptoRow, standIns := [], harness := (true, "4f000d72f911e3991187970ad5d22dce1b2aefb66786bbd7d0d9f35ae59f8a2b"), looks := false }, kinds := [], alts := [], laidByText := true, laidKinds := [.data], laidTests := true, laidLooks := .later }
def XjumpStepsUptoCardSaid : Prop := Claim7.holds Tryd.pinned (.plain (OpenSpec.upto xjumpStepsSpec)) xjumpStepsUptoCard

/-- THE SECOND FORM's CARD OF 'knucklebonelaw08.XjumpAdds'. -/
def xjumpAddsUptoCard : Claim7 := { stood := { row := xjumpAddsUptoRow, standIns := [], harness := (true, "4f000d72f911e3991187970ad5d22dce1b2aefb66786bbd7d0d9f35ae59f8a2b"), looks := false }, kinds := [], alts := [], laidByText := true, laidKinds := [.data], laidTests := true, laidLooks := .later }
def XjumpAddsUptoCardSaid : Prop := Claim7.holds Tryd.pinned (.plain (OpenSpec.upto xjumpAddsSpec)) xjumpAddsUptoCard

/-- THE SECOND FORM's CARD OF 'knucklebonelaw08.XjumpRule'. -/
def xjumpRuleUptoCard : Claim7 := { stood := { row := xjumpRuleUptoRow, standIns := [], harness := (true, "4f000d72f911e3991187970ad5d22dce1b2aefb66786bbd7d0d9f35ae59f8a2b"), looks := false }, kinds := [], alts := [], laidByText := true, laidKinds := [.data], laidTests := true, laidLooks := .later }
def XjumpRuleUptoCardSaid : Prop := Claim7.holds Tryd.pinned (.plain (OpenSpec.upto xjumpRuleSpec)) xjumpRuleUptoCard

/-- THE SECOND FORM's CARD OF 'knucklebonelaw08.XjumpApart'. -/
def xjumpApartUptoCard : Claim7 := { stood := { row := xjumpApartUptoRow, standIns := [], harness := (true, "4f000d72f911e3991187970ad5d22dce1b2aefb66786bbd7d0d9f35ae59f8a2b"), looks := false }, kinds := [], alts := [], laidByText := true, laidKinds := [.data], laidTests := true, laidLooks := .later }
def XjumpApartUptoCardSaid : Prop := Claim7.holds Tryd.pinned (.plain (OpenSpec.upto xjumpApartSpec)) xjumpApartUptoCard
end Rows
end Go.Proofs.YtemgoikghaiamaaDoor
