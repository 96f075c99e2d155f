/-
  DERIVED. GIVEN WITH THE SEED: THE CARDS: each row of YtpgnlfdindmopaaGreatDoorRows.lean that lists a variable, with what it lists TIED to the program's text (the seventh form; the later family's looks); each row that meets fmt, with fmt's text TOLD by the authors' own Lean function (tested against real Go, not proved from fmt's source: count such statements apart). THE CARD IS WHAT COUNTS. Prove the row's statement (the work); the ties are given (YtpgnlfdindmopaaGreatDoorTie.lean); close each card by the builder's one call (the guide's Derived/Test/ToyasCard.lean, 'card_holds'). Laid BY PROGRAM, IN A SANDBOX (cutbox-door.mjs). By AI agents, Wed Nov 11 2026. No macro, syntax, notation, axiom, sorry.
-/
import Derived.Test.YtpgnlfdindmopaaGreatDoorRows
import GoSem.ClaimSeven
namespace Go.Proofs.YtpgnlfdindmopaaGreatDoor
namespace Rows

/-- THE TIED CARD OF 'fullinglaw6.InterpTraps'. -/
def interpTrapsCard : Claim7 := { stood := { row := interpTrapsRow, standIns := [], harness := (true, "0ca77da16b8b48083c8e59ee52e3be23af530ea81217af1b070a494a4dc0cdd2"), looks := false }, kinds := [], alts := [], laidByText := true, laidKinds := [.data, .data, .data, .data, .data, .data], laidTests := true, laidLooks := .later }
def InterpTrapsCardSaid : Prop := Claim7.holds Tryz.pinned (.plain (OpenSpec.ofChange interpTrapsSpec)) interpTrapsCard

/-- THE TIED CARD OF 'fullinglaw7.IRLoops'. -/
def iRLoopsCard : Claim7 := { stood := { row := iRLoopsRow, standIns := [], harness := (true, "0ca77da16b8b48083c8e59ee52e3be23af530ea81217af1b070a494a4dc0cdd2"), looks := false }, kinds := [], alts := [], laidByText := true, laidKinds := [.data, .data, .data, .data, .data, .data], laidTests := true, laidLooks := .later }
def IRLoopsCardSaid : Prop := Claim7.holds Tryz.pinned (.plain (OpenSpec.ofChange iRLoopsSpec)) iRLoopsCard

/-- THE TIED CARD OF 'fullinglaw8.LowerExamples'. -/
def lowerExamplesCard : Claim7 := { stood := { row := lowerExamplesRow, standIns := [], harness := (true, "0ca77da16b8b48083c8e59ee52e3be23af530ea81217af1b070a494a4dc0cdd2"), looks := false }, kinds := [], alts := [], laidByText := true, laidKinds := [.data, .data, .data, .data, .data, .data], laidTests := true, laidLooks := .later }
def LowerExamplesCardSaid : Prop := Claim7.holds Tryz.pinned (.plain (OpenSpec.ofChange lowerExamplesSpec)) lowerExamplesCard

/-- THE TIED CARD OF 'fullinglaw8.LowerGuards'. -/
def lowerGuardsCard : Claim7 := { stood := { row := lowerGuardsRow, standIns := [], harness := (true, "0ca77da16b8b48083c8e59ee52e3be23af530ea81217af1b070a494a4dc0cdd2"), looks := false }, kinds := [], alts := [], laidByText := true, laidKinds := [.data, .data, .data, .data, .data, .data], laidTests := true, laidLooks := .later }
def LowerGuardsCardSaid : Prop := Claim7.holds Tryz.pinned (.plain (OpenSpec.ofChange lowerGuardsSpec)) lowerGuardsCard

/-- THE SECOND FORM's CARD OF 'fullinglaw6.InterpTraps'. -/
def interpTrapsUptoCard : Claim7 := { stood := { row := interpTrapsUptoRow, standIns := [], harness := (true, "0ca77da16b8b48083c8e59ee52e3be23af530ea81217af1b070a494a4dc0cdd2"), looks := false }, kinds := [], alts := [], laidByText := true, laidKinds := [.data, .data, .data, .data, .data, .data], laidTests := true, laidLooks := .later }
def InterpTrapsUptoCardSaid : Prop := Claim7.holds Tryz.pinned (.plain (OpenSpec.upto interpTrapsSpec)) interpTrapsUptoCard

/-- THE SECOND FORM's CARD OF 'fullinglaw7.IRLoops'. -/
def iRLoopsUptoCard : Claim7 := { stood := { row := iRLoopsUptoRow, standIns := [], harness := (true, "0ca77da16b8b48083c8e59ee52e3be23af530ea81217af1b070a494a4dc0cdd2"), looks := false }, kinds := [], alts := [], laidByText := true, laidKinds := [.data, .data, .data, .data, .data, .data], laidTests := true, laidLooks := .later }
def IRLoopsUptoCardSaid : Prop := Claim7.holds Tryz.pinned (.plain (OpenSpec.upto iRLoopsSpec)) iRLoopsUptoCard

/-- THE SECOND FORM's CARD OF 'fullinglaw8.LowerExamples'. -/
def lowerExamplesUptoCard : Claim7 := { stood := { row := lowerExamplesUptoRow, standIns := [], harness := (true, "0ca77da16b8b48083c8e59ee52e3be23af530ea81217af1b070a494a4dc0cdd2"), looks := false }, kinds := [], alts := [], laidByText := true, laidKinds := [.data, .data, .data, .data, .data, .data], laidTests := true, laidLooks := .later }
def LowerExamplesUptoCardSaid : Prop := Claim7.holds Tryz.pinned (.plain (OpenSpec.upto lowerExamplesSpec)) lowerExamplesUptoCard

/-- THE SECOND FORM's CARD OF 'fullinglaw8.LowerGuards'. -/
def lowerGuardsUptoCard : Claim7 := { stood := { row := lowerGuardsUptoRow, standIns := [], harness := (true, "0ca77da16b8b48083c8e59ee52e3be23af530ea81217af1b070a494a4dc0cdd2"), looks := false }, kinds := [], alts := [], laidByText := true, laidKinds := [.data, .data, .data, .data, .data, .data], laidTests := true, laidLooks := .later }
def LowerGuardsUptoCardSaid : Prop := Claim7.holds Tryz.pinned (.plain (OpenSpec.upto lowerGuardsSpec)) lowerGuardsUptoCard
end Rows
end Go.Proofs.YtpgnlfdindmopaaGreatDoor
