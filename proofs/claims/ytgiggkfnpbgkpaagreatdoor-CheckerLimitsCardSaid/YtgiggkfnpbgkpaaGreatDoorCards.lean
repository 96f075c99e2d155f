/-
  DERIVED. GIVEN WITH THE SEED: THE CARDS: each row of YtgiggkfnpbgkpaaGreatDoorRows.lean that lists a variable, with what it lists TIED to the program's text (the seventh form; the later family's looks); each row that meets fmt, with fmt's text TOLD by the authors' own Lean function (tested against real Go, not proved from fmt's source: count such statements apart). THE CARD IS WHAT COUNTS. Prove the row's statement (the work); the ties are given (YtgiggkfnpbgkpaaGreatDoorTie.lean); close each card by the builder's one call (the guide's Derived/Test/ToyasCard.lean, 'card_holds'). Laid BY PROGRAM, IN A SANDBOX (cutbox-door.mjs). By AI agents, Wed Nov 11 2026. No macro, syntax, notation, axiom, sorry.
-/
import Derived.Test.YtgiggkfnpbgkpaaGreatDoorRows
import GoSem.ClaimSeven
namespace Go.Proofs.YtgiggkfnpbgkpaaGreatDoor
namespace Rows

/-- THE TIED CARD OF 'fullinglaw3.ParserExpressions'. -/
def parserExpressionsCard : Claim7 := { stood := { row := parserExpressionsRow, standIns := [], harness := (true, "34cd3dcf542cba4d39473ee6d476a16f1de456fa79da42c4a8bf110308d8de1f"), looks := false }, kinds := [], alts := [], laidByText := true, laidKinds := [.data, .data, .data, .data, .data, .data], laidTests := true, laidLooks := .later }
def ParserExpressionsCardSaid : Prop := Claim7.holds Tryz.pinned (.plain (OpenSpec.ofChange parserExpressionsSpec)) parserExpressionsCard

/-- THE TIED CARD OF 'fullinglaw3.ParserReference'. -/
def parserReferenceCard : Claim7 := { stood := { row := parserReferenceRow, standIns := [], harness := (true, "34cd3dcf542cba4d39473ee6d476a16f1de456fa79da42c4a8bf110308d8de1f"), looks := false }, kinds := [], alts := [], laidByText := true, laidKinds := [.data, .data, .data, .data, .data, .data], laidTests := true, laidLooks := .later }
def ParserReferenceCardSaid : Prop := Claim7.holds Tryz.pinned (.plain (OpenSpec.ofChange parserReferenceSpec)) parserReferenceCard

/-- THE TIED CARD OF 'fullinglaw3.ParserSequence'. -/
def parserSequenceCard : Claim7 := { stood := { row := parserSequenceRow, standIns := [], harness := (true, "34cd3dcf542cba4d39473ee6d476a16f1de456fa79da42c4a8bf110308d8de1f"), looks := false }, kinds := [], alts := [], laidByText := true, laidKinds := [.data, .data, .data, .data, .data, .data], laidTests := true, laidLooks := .later }
def ParserSequenceCardSaid : Prop := Claim7.holds Tryz.pinned (.plain (OpenSpec.ofChange parserSequenceSpec)) parserSequenceCard

/-- THE TIED CARD OF 'fullinglaw3.ParserTruncated'. -/
def parserTruncatedCard : Claim7 := { stood := { row := parserTruncatedRow, standIns := [], harness := (true, "34cd3dcf542cba4d39473ee6d476a16f1de456fa79da42c4a8bf110308d8de1f"), looks := false }, kinds := [], alts := [], laidByText := true, laidKinds := [.data, .data, .data, .data, .data, .data], laidTests := true, laidLooks := .later }
def ParserTruncatedCardSaid : Prop := Claim7.holds Tryz.pinned (.plain (OpenSpec.ofChange parserTruncatedSpec)) parserTruncatedCard

/-- THE TIED CARD OF 'fullinglaw4.CheckerLimits'. -/
def checkerLimitsCard : Claim7 := { stood := { row := checkerLimitsRow, standIns := [], harness := (true, "34cd3dcf542cba4d39473ee6d476a16f1de456fa79da42c4a8bf110308d8de1f"), looks := false }, kinds := [], alts := [], laidByText := true, laidKinds := [.data, .data, .data, .data, .data, .data], laidTests := true, laidLooks := .later }
def CheckerLimitsCardSaid : Prop := Claim7.holds Tryz.pinned (.plain (OpenSpec.ofChange checkerLimitsSpec)) checkerLimitsCard

/-- THE TIED CARD OF 'fullinglaw4.CheckerOrder'. -/
def checkerOrderCard : Claim7 := { stood := { row := checkerOrderRow, standIns := [], harness := (true, "34cd3dcf542cba4d39473ee6d476a16f1de456fa79da42c4a8bf110308d8de1f"), looks := false }, kinds := [], alts := [], laidByText := true, laidKinds := [.data, .data, .data, .data, .data, .data], laidTests := true, laidLooks := .later }
def CheckerOrderCardSaid : Prop := Claim7.holds Tryz.pinned (.plain (OpenSpec.ofChange checkerOrderSpec)) checkerOrderCard

/-- THE TIED CARD OF 'fullinglaw4.CheckerReference'. -/
def checkerReferenceCard : Claim7 := { stood := { row := checkerReferenceRow, standIns := [], harness := (true, "34cd3dcf542cba4d39473ee6d476a16f1de456fa79da42c4a8bf110308d8de1f"), looks := false }, kinds := [], alts := [], laidByText := true, laidKinds := [.data, .data, .data, .data, .data, .data], laidTests := true, laidLooks := .later }
def CheckerReferenceCardSaid : Prop := Claim7.holds Tryz.pinned (.plain (OpenSpec.ofChange checkerReferenceSpec)) checkerReferenceCard

/-- THE TIED CARD OF 'fullinglaw4.CheckerSingleError'. -/
def checkerSingleErrorCard : Claim7 := { stood := { row := checkerSingleErrorRow, standIns := [], harness := (true, "34cd3dcf542cba4d39473ee6d476a16f1de456fa79da42c4a8bf110308d8de1f"), looks := false }, kinds := [], alts := [], laidByText := true, laidKinds := [.data, .data, .data, .data, .data, .data], laidTests := true, laidLooks := .later }
def CheckerSingleErrorCardSaid : Prop := Claim7.holds Tryz.pinned (.plain (OpenSpec.ofChange checkerSingleErrorSpec)) checkerSingleErrorCard

/-- THE TIED CARD OF 'fullinglaw5.PrinterExamples'. -/
def printerExamplesCard : Claim7 := { stood := { row := printerExamplesRow, standIns := [], harness := (true, "34cd3dcf542cba4d39473ee6d476a16f1de456fa79da42c4a8bf110308d8de1f"), looks := false }, kinds := [], alts := [], laidByText := true, laidKinds := [.data, .data, .data, .data, .data, .data, .data], laidTests := true, laidLooks := .later }
def PrinterExamplesCardSaid : Prop := Claim7.holds Tryz.pinned (.plain (OpenSpec.ofChange printerExamplesSpec)) printerExamplesCard

/-- THE TIED CARD OF 'fullinglaw5.PrinterExpressions'. -/
def printerExpressionsCard : Claim7 := { stood := { row := printerExpressionsRow, standIns := [], harness := (true, "34cd3dcf542cba4d39473ee6d476a16f1de456fa79da42c4a8bf110308d8de1f"), looks := false }, kinds := [], alts := [], laidByText := true, laidKinds := [.data, .data, .data, .data, .data, .data, .data], laidTests := true, laidLooks := .later }
def PrinterExpressionsCardSaid : Prop := Claim7.holds Tryz.pinned (.plain (OpenSpec.ofChange printerExpressionsSpec)) printerExpressionsCard

/-- THE TIED CARD OF 'fullinglaw5.PrinterNonempty'. -/
def printerNonemptyCard : Claim7 := { stood := { row := printerNonemptyRow, standIns := [], harness := (true, "34cd3dcf542cba4d39473ee6d476a16f1de456fa79da42c4a8bf110308d8de1f"), looks := false }, kinds := [], alts := [], laidByText := true, laidKinds := [.data, .data, .data, .data, .data, .data, .data], laidTests := true, laidLooks := .later }
def PrinterNonemptyCardSaid : Prop := Claim7.holds Tryz.pinned (.plain (OpenSpec.ofChange printerNonemptySpec)) printerNonemptyCard

/-- THE TIED CARD OF 'fullinglaw5.PrinterReference'. -/
def printerReferenceCard : Claim7 := { stood := { row := printerReferenceRow, standIns := [], harness := (true, "34cd3dcf542cba4d39473ee6d476a16f1de456fa79da42c4a8bf110308d8de1f"), looks := false }, kinds := [], alts := [], laidByText := true, laidKinds := [.data, .data, .data, .data, .data, .data, .data], laidTests := true, laidLooks := .later }
def PrinterReferenceCardSaid : Prop := Claim7.holds Tryz.pinned (.plain (OpenSpec.ofChange printerReferenceSpec)) printerReferenceCard

/-- THE TIED CARD OF 'fullinglaw5.PrinterRoundTrip'. -/
def printerRoundTripCard : Claim7 := { stood := { row := printerRoundTripRow, standIns := [], harness := (true, "34cd3dcf542cba4d39473ee6d476a16f1de456fa79da42c4a8bf110308d8de1f"), looks := false }, kinds := [], alts := [], laidByText := true, laidKinds := [.data, .data, .data, .data, .data, .data, .data], laidTests := true, laidLooks := .later }
def PrinterRoundTripCardSaid : Prop := Claim7.holds Tryz.pinned (.plain (OpenSpec.ofChange printerRoundTripSpec)) printerRoundTripCard

/-- THE SECOND FORM's CARD OF 'fullinglaw3.ParserExpressions'. -/
def parserExpressionsUptoCard : Claim7 := { stood := { row := parserExpressionsUptoRow, standIns := [], harness := (true, "34cd3dcf542cba4d39473ee6d476a16f1de456fa79da42c4a8bf110308d8de1f"), looks := false }, kinds := [], alts := [], laidByText := true, laidKinds := [.data, .data, .data, .data, .data, .data], laidTests := true, laidLooks := .later }
def ParserExpressionsUptoCardSaid : Prop := Claim7.holds Tryz.pinned (.plain (OpenSpec.upto parserExpressionsSpec)) parserExpressionsUptoCard

/-- THE SECOND FORM's CARD OF 'fullinglaw3.ParserReference'. -/
def parserReferenceUptoCard : Claim7 := { stood := { row := parserReferenceUptoRow, standIns := [], harness := (true, "34cd3dcf542cba4d39473ee6d476a16f1de456fa79da42c4a8bf110308d8de1f"), looks := false }, kinds := [], alts := [], laidByText := true, laidKinds := [.data, .data, .data, .data, .data, .data], laidTests := true, laidLooks := .later }
def ParserReferenceUptoCardSaid : Prop := Claim7.holds Tryz.pinned (.plain (OpenSpec.upto parserReferenceSpec)) parserReferenceUptoCard

/-- THE SECOND FORM's CARD OF 'fullinglaw3.ParserSequence'. -/
def parserSequenceUptoCard : Claim7 := { stood := { row := parserSequenceUptoRow, standIns := [], harness := (true, "34cd3dcf542cba4d39473ee6d476a16f1de456fa79da42c4a8bf110308d8de1f"), looks := false }, kinds := [], alts := [], laidByText := true, laidKinds := [.data, .data, .data, .data, .data, .data], laidTests := true, laidLooks := .later }
def ParserSequenceUptoCardSaid : Prop := Claim7.holds Tryz.pinned (.plain (OpenSpec.upto parserSequenceSpec)) parserSequenceUptoCard

/-- THE SECOND FORM's CARD OF 'fullinglaw3.ParserTruncated'. -/
def parserTruncatedUptoCard : Claim7 := { stood := { row := parserTruncatedUptoRow, standIns := [], harness := (true, "34cd3dcf542cba4d39473ee6d476a16f1de456fa79da42c4a8bf110308d8de1f"), looks := false }, kinds := [], alts := [], laidByText := true, laidKinds := [.data, .data, .data, .data, .data, .data], laidTests := true, laidLooks := .later }
def ParserTruncatedUptoCardSaid : Prop := Claim7.holds Tryz.pinned (.plain (OpenSpec.upto parserTruncatedSpec)) parserTruncatedUptoCard

/-- THE SECOND FORM's CARD OF 'fullinglaw4.CheckerLimits'. -/
def checkerLimitsUptoCard : Claim7 := { stood := { row := checkerLimitsUptoRow, standIns := [], harness := (true, "34cd3dcf542cba4d39473ee6d476a16f1de456fa79da42c4a8bf110308d8de1f"), looks := false }, kinds := [], alts := [], laidByText := true, laidKinds := [.data, .data, .data, .data, .data, .data], laidTests := true, laidLooks := .later }
def CheckerLimitsUptoCardSaid : Prop := Claim7.holds Tryz.pinned (.plain (OpenSpec.upto checkerLimitsSpec)) checkerLimitsUptoCard

/-- THE SECOND FORM's CARD OF 'fullinglaw4.CheckerOrder'. -/
def checkerOrderUptoCard : Claim7 := { stood := { row := checkerOrderUptoRow, standIns := [], harness := (true, "34cd3dcf542cba4d39473ee6d476a16f1de456fa79da42c4a8bf110308d8de1f"), looks := false }, kinds := [], alts := [], laidByText := true, laidKinds := [.data, .data, .data, .data, .data, .data], laidTests := true, laidLooks := .later }
def CheckerOrderUptoCardSaid : Prop := Claim7.holds Tryz.pinned (.plain (OpenSpec.upto checkerOrderSpec)) checkerOrderUptoCard

/-- THE SECOND FORM's CARD OF 'fullinglaw4.CheckerReference'. -/
def checkerReferenceUptoCard : Claim7 := { stood := { row := checkerReferenceUptoRow, standIns := [], harness := (true, "34cd3dcf542cba4d39473ee6d476a16f1de456fa79da42c4a8bf110308d8de1f"), looks := false }, kinds := [], alts := [], laidByText := true, laidKinds := [.data, .data, .data, .data, .data, .data], laidTests := true, laidLooks := .later }
def CheckerReferenceUptoCardSaid : Prop := Claim7.holds Tryz.pinned (.plain (OpenSpec.upto checkerReferenceSpec)) checkerReferenceUptoCard

/-- THE SECOND FORM's CARD OF 'fullinglaw4.CheckerSingleError'. -/
def checkerSingleErrorUptoCard : Claim7 := { stood := { row := checkerSingleErrorUptoRow, standIns := [], harness := (true, "34cd3dcf542cba4d39473ee6d476a16f1de456fa79da42c4a8bf110308d8de1f"), looks := false }, kinds := [], alts := [], laidByText := true, laidKinds := [.data, .data, .data, .data, .data, .data], laidTests := true, laidLooks := .later }
def CheckerSingleErrorUptoCardSaid : Prop := Claim7.holds Tryz.pinned (.plain (OpenSpec.upto checkerSingleErrorSpec)) checkerSingleErrorUptoCard

/-- THE SECOND FORM's CARD OF 'fullinglaw5.PrinterExamples'. -/
def printerExamplesUptoCard : Claim7 := { stood := { row := printerExamplesUptoRow, standIns := [], harness := (true, "34cd3dcf542cba4d39473ee6d476a16f1de456fa79da42c4a8bf110308d8de1f"), looks := false }, kinds := [], alts := [], laidByText := true, laidKinds := [.data, .data, .data, .data, .data, .data, .data], laidTests := true, laidLooks := .later }
def PrinterExamplesUptoCardSaid : Prop := Claim7.holds Tryz.pinned (.plain (OpenSpec.upto printerExamplesSpec)) printerExamplesUptoCard

/-- THE SECOND FORM's CARD OF 'fullinglaw5.PrinterExpressions'. -/
def printerExpressionsUptoCard : Claim7 := { stood := { row := printerExpressionsUptoRow, standIns := [], harness := (true, "34cd3dcf542cba4d39473ee6d476a16f1de456fa79da42c4a8bf110308d8de1f"), looks := false }, kinds := [], alts := [], laidByText := true, laidKinds := [.data, .data, .data, .data, .data, .data, .data], laidTests := true, laidLooks := .later }
def PrinterExpressionsUptoCardSaid : Prop := Claim7.holds Tryz.pinned (.plain (OpenSpec.upto printerExpressionsSpec)) printerExpressionsUptoCard

/-- THE SECOND FORM's CARD OF 'fullinglaw5.PrinterNonempty'. -/
def printerNonemptyUptoCard : Claim7 := { stood := { row := printerNonemptyUptoRow, standIns := [], harness := (true, "34cd3dcf542cba4d39473ee6d476a16f1de456fa79da42c4a8bf110308d8de1f"), looks := false }, kinds := [], alts := [], laidByText := true, laidKinds := [.data, .data, .data, .data, .data, .data, .data], laidTests := true, laidLooks := .later }
def PrinterNonemptyUptoCardSaid : Prop := Claim7.holds Tryz.pinned (.plain (OpenSpec.upto printerNonemptySpec)) printerNonemptyUptoCard

/-- THE SECOND FORM's CARD OF 'fullinglaw5.PrinterReference'. -/
def printerReferenceUptoCard : Claim7 := { stood := { row := printerReferenceUptoRow, standIns := [], harness := (true, "34cd3dcf542cba4d39473ee6d476a16f1de456fa79da42c4a8bf110308d8de1f"), looks := false }, kinds := [], alts := [], laidByText := true, laidKinds := [.data, .data, .data, .data, .data, .data, .data], laidTests := true, laidLooks := .later }
def PrinterReferenceUptoCardSaid : Prop := Claim7.holds Tryz.pinned (.plain (OpenSpec.upto printerReferenceSpec)) printerReferenceUptoCard

/-- THE SECOND FORM's CARD OF 'fullinglaw5.PrinterRoundTrip'. -/
def printerRoundTripUptoCard : Claim7 := { stood := { row := printerRoundTripUptoRow, standIns := [], harness := (true, "34cd3dcf542cba4d39473ee6d476a16f1de456fa79da42c4a8bf110308d8de1f"), looks := false }, kinds := [], alts := [], laidByText := true, laidKinds := [.data, .data, .data, .data, .data, .data, .data], laidTests := true, laidLooks := .later }
def PrinterRoundTripUptoCardSaid : Prop := Claim7.holds Tryz.pinned (.plain (OpenSpec.upto printerRoundTripSpec)) printerRoundTripUptoCard
end Rows
end Go.Proofs.YtgiggkfnpbgkpaaGreatDoor
