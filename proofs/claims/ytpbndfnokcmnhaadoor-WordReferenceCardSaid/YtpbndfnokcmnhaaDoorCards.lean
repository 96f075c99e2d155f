/-
  DERIVED. GIVEN WITH THE SEED: THE CARDS: each row of YtpbndfnokcmnhaaDoorRows.lean that lists a variable, with what it lists TIED to the program's text (the seventh form; the later family's looks); each row that meets fmt, with fmt's text TOLD by the authors' own Lean function (tested against real Go, not proved from fmt's source: count such statements apart). THE CARD IS WHAT COUNTS. Prove the row's statement (the work); the ties are given (YtpbndfnokcmnhaaDoorTie.lean); close each card by the builder's one call (the guide's Derived/Test/ToyasCard.lean, 'card_holds'). Laid BY PROGRAM, IN A SANDBOX (cutbox-door.mjs). By AI agents, Wed Nov 11 2026. No macro, syntax, notation, axiom, sorry.
-/
import Derived.Test.YtpbndfnokcmnhaaDoorRows
import GoSem.ClaimSeven
namespace Go.Proofs.YtpbndfnokcmnhaaDoor
namespace Rows

/-- THE TIED CARD OF 'fullinglaw1.WordExamples'. -/
def wordExamplesCard : Claim7 := { stood := { row := wordExamplesRow, standIns := [], harness := (true, "62d85de6330eb9fb781ddd0c561e380b89e3b715982d28b0f22415bf31cdf5ad"), looks := false }, kinds := [], alts := [], laidByText := true, laidKinds := [.data, .data, .data], laidTests := true, laidLooks := .later }
def WordExamplesCardSaid : Prop := Claim7.holds Tryd.pinned (.plain (OpenSpec.ofChange wordExamplesSpec)) wordExamplesCard

/-- THE TIED CARD OF 'fullinglaw1.WordReference'. -/
def wordReferenceCard : Claim7 := { stood := { row := wordReferenceRow, standIns := [], harness := (true, "62d85de6330eb9fb781ddd0c561e380b89e3b715982d28b0f22415bf31cdf5ad"), looks := false }, kinds := [], alts := [], laidByText := true, laidKinds := [.data, .data, .data], laidTests := true, laidLooks := .later }
def WordReferenceCardSaid : Prop := Claim7.holds Tryd.pinned (.plain (OpenSpec.ofChange wordReferenceSpec)) wordReferenceCard

/-- THE TIED CARD OF 'fullinglaw1.WordRingLaws'. -/
def wordRingLawsCard : Claim7 := { stood := { row := wordRingLawsRow, standIns := [], harness := (true, "62d85de6330eb9fb781ddd0c561e380b89e3b715982d28b0f22415bf31cdf5ad"), looks := false }, kinds := [], alts := [], laidByText := true, laidKinds := [.data, .data, .data], laidTests := true, laidLooks := .later }
def WordRingLawsCardSaid : Prop := Claim7.holds Tryd.pinned (.plain (OpenSpec.ofChange wordRingLawsSpec)) wordRingLawsCard

/-- THE TIED CARD OF 'fullinglaw1.WordDivision'. -/
def wordDivisionCard : Claim7 := { stood := { row := wordDivisionRow, standIns := [], harness := (true, "62d85de6330eb9fb781ddd0c561e380b89e3b715982d28b0f22415bf31cdf5ad"), looks := false }, kinds := [], alts := [], laidByText := true, laidKinds := [.data, .data, .data], laidTests := true, laidLooks := .later }
def WordDivisionCardSaid : Prop := Claim7.holds Tryd.pinned (.plain (OpenSpec.ofChange wordDivisionSpec)) wordDivisionCard

/-- THE TIED CARD OF 'fullinglaw1.WordBitwise'. -/
def wordBitwiseCard : Claim7 := { stood := { row := wordBitwiseRow, standIns := [], harness := (true, "62d85de6330eb9fb781ddd0c561e380b89e3b715982d28b0f22415bf31cdf5ad"), looks := false }, kinds := [], alts := [], laidByText := true, laidKinds := [.data, .data, .data], laidTests := true, laidLooks := .later }
def WordBitwiseCardSaid : Prop := Claim7.holds Tryd.pinned (.plain (OpenSpec.ofChange wordBitwiseSpec)) wordBitwiseCard

/-- THE TIED CARD OF 'fullinglaw1.WordComparison'. -/
def wordComparisonCard : Claim7 := { stood := { row := wordComparisonRow, standIns := [], harness := (true, "62d85de6330eb9fb781ddd0c561e380b89e3b715982d28b0f22415bf31cdf5ad"), looks := false }, kinds := [], alts := [], laidByText := true, laidKinds := [.data, .data, .data], laidTests := true, laidLooks := .later }
def WordComparisonCardSaid : Prop := Claim7.holds Tryd.pinned (.plain (OpenSpec.ofChange wordComparisonSpec)) wordComparisonCard

/-- THE TIED CARD OF 'fullinglaw1.WordRoundTrip'. -/
def wordRoundTripCard : Claim7 := { stood := { row := wordRoundTripRow, standIns := [], harness := (true, "62d85de6330eb9fb781ddd0c561e380b89e3b715982d28b0f22415bf31cdf5ad"), looks := false }, kinds := [], alts := [], laidByText := true, laidKinds := [.data, .data, .data], laidTests := true, laidLooks := .later }
def WordRoundTripCardSaid : Prop := Claim7.holds Tryd.pinned (.plain (OpenSpec.ofChange wordRoundTripSpec)) wordRoundTripCard

/-- THE TIED CARD OF 'fullinglaw1.WordShiftsCompose'. -/
def wordShiftsComposeCard : Claim7 := { stood := { row := wordShiftsComposeRow, standIns := [], harness := (true, "62d85de6330eb9fb781ddd0c561e380b89e3b715982d28b0f22415bf31cdf5ad"), looks := false }, kinds := [], alts := [], laidByText := true, laidKinds := [.data, .data, .data], laidTests := true, laidLooks := .later }
def WordShiftsComposeCardSaid : Prop := Claim7.holds Tryd.pinned (.plain (OpenSpec.ofChange wordShiftsComposeSpec)) wordShiftsComposeCard

/-- THE TIED CARD OF 'fullinglaw1.WordArithmeticShift'. -/
def wordArithmeticShiftCard : Claim7 := { stood := { row := wordArithmeticShiftRow, standIns := [], harness := (true, "62d85de6330eb9fb781ddd0c561e380b89e3b715982d28b0f22415bf31cdf5ad"), looks := false }, kinds := [], alts := [], laidByText := true, laidKinds := [.data, .data, .data], laidTests := true, laidLooks := .later }
def WordArithmeticShiftCardSaid : Prop := Claim7.holds Tryd.pinned (.plain (OpenSpec.ofChange wordArithmeticShiftSpec)) wordArithmeticShiftCard

/-- THE TIED CARD OF 'fullinglaw1.WordUndefined'. -/
def wordUndefinedCard : Claim7 := { stood := { row := wordUndefinedRow, standIns := [], harness := (true, "62d85de6330eb9fb781ddd0c561e380b89e3b715982d28b0f22415bf31cdf5ad"), looks := false }, kinds := [], alts := [], laidByText := true, laidKinds := [.data, .data, .data], laidTests := true, laidLooks := .later }
def WordUndefinedCardSaid : Prop := Claim7.holds Tryd.pinned (.plain (OpenSpec.ofChange wordUndefinedSpec)) wordUndefinedCard

/-- THE SECOND FORM's CARD OF 'fullinglaw1.WordExamples'. -/
def wordExamplesUptoCard : Claim7 := { stood := { row := wordExamplesUptoRow, standIns := [], harness := (true, "62d85de6330eb9fb781ddd0c561e380b89e3b715982d28b0f22415bf31cdf5ad"), looks := false }, kinds := [], alts := [], laidByText := true, laidKinds := [.data, .data, .data], laidTests := true, laidLooks := .later }
def WordExamplesUptoCardSaid : Prop := Claim7.holds Tryd.pinned (.plain (OpenSpec.upto wordExamplesSpec)) wordExamplesUptoCard

/-- THE SECOND FORM's CARD OF 'fullinglaw1.WordReference'. -/
def wordReferenceUptoCard : Claim7 := { stood := { row := wordReferenceUptoRow, standIns := [], harness := (true, "62d85de6330eb9fb781ddd0c561e380b89e3b715982d28b0f22415bf31cdf5ad"), looks := false }, kinds := [], alts := [], laidByText := true, laidKinds := [.data, .data, .data], laidTests := true, laidLooks := .later }
def WordReferenceUptoCardSaid : Prop := Claim7.holds Tryd.pinned (.plain (OpenSpec.upto wordReferenceSpec)) wordReferenceUptoCard

/-- THE SECOND FORM's CARD OF 'fullinglaw1.WordRingLaws'. -/
def wordRingLawsUptoCard : Claim7 := { stood := { row := wordRingLawsUptoRow, standIns := [], harness := (true, "62d85de6330eb9fb781ddd0c561e380b89e3b715982d28b0f22415bf31cdf5ad"), looks := false }, kinds := [], alts := [], laidByText := true, laidKinds := [.data, .data, .data], laidTests := true, laidLooks := .later }
def WordRingLawsUptoCardSaid : Prop := Claim7.holds Tryd.pinned (.plain (OpenSpec.upto wordRingLawsSpec)) wordRingLawsUptoCard

/-- THE SECOND FORM's CARD OF 'fullinglaw1.WordDivision'. -/
def wordDivisionUptoCard : Claim7 := { stood := { row := wordDivisionUptoRow, standIns := [], harness := (true, "62d85de6330eb9fb781ddd0c561e380b89e3b715982d28b0f22415bf31cdf5ad"), looks := false }, kinds := [], alts := [], laidByText := true, laidKinds := [.data, .data, .data], laidTests := true, laidLooks := .later }
def WordDivisionUptoCardSaid : Prop := Claim7.holds Tryd.pinned (.plain (OpenSpec.upto wordDivisionSpec)) wordDivisionUptoCard

/-- THE SECOND FORM's CARD OF 'fullinglaw1.WordBitwise'. -/
def wordBitwiseUptoCard : Claim7 := { stood := { row := wordBitwiseUptoRow, standIns := [], harness := (true, "62d85de6330eb9fb781ddd0c561e380b89e3b715982d28b0f22415bf31cdf5ad"), looks := false }, kinds := [], alts := [], laidByText := true, laidKinds := [.data, .data, .data], laidTests := true, laidLooks := .later }
def WordBitwiseUptoCardSaid : Prop := Claim7.holds Tryd.pinned (.plain (OpenSpec.upto wordBitwiseSpec)) wordBitwiseUptoCard

/-- THE SECOND FORM's CARD OF 'fullinglaw1.WordComparison'. -/
def wordComparisonUptoCard : Claim7 := { stood := { row := wordComparisonUptoRow, standIns := [], harness := (true, "62d85de6330eb9fb781ddd0c561e380b89e3b715982d28b0f22415bf31cdf5ad"), looks := false }, kinds := [], alts := [], laidByText := true, laidKinds := [.data, .data, .data], laidTests := true, laidLooks := .later }
def WordComparisonUptoCardSaid : Prop := Claim7.holds Tryd.pinned (.plain (OpenSpec.upto wordComparisonSpec)) wordComparisonUptoCard

/-- THE SECOND FORM's CARD OF 'fullinglaw1.WordRoundTrip'. -/
def wordRoundTripUptoCard : Claim7 := { stood := { row := wordRoundTripUptoRow, standIns := [], harness := (true, "62d85de6330eb9fb781ddd0c561e380b89e3b715982d28b0f22415bf31cdf5ad"), looks := false }, kinds := [], alts := [], laidByText := true, laidKinds := [.data, .data, .data], laidTests := true, laidLooks := .later }
def WordRoundTripUptoCardSaid : Prop := Claim7.holds Tryd.pinned (.plain (OpenSpec.upto wordRoundTripSpec)) wordRoundTripUptoCard

/-- THE SECOND FORM's CARD OF 'fullinglaw1.WordShiftsCompose'. -/
def wordShiftsComposeUptoCard : Claim7 := { stood := { row := wordShiftsComposeUptoRow, standIns := [], harness := (true, "62d85de6330eb9fb781ddd0c561e380b89e3b715982d28b0f22415bf31cdf5ad"), looks := false }, kinds := [], alts := [], laidByText := true, laidKinds := [.data, .data, .data], laidTests := true, laidLooks := .later }
def WordShiftsComposeUptoCardSaid : Prop := Claim7.holds Tryd.pinned (.plain (OpenSpec.upto wordShiftsComposeSpec)) wordShiftsComposeUptoCard

/-- THE SECOND FORM's CARD OF 'fullinglaw1.WordArithmeticShift'. -/
def wordArithmeticShiftUptoCard : Claim7 := { stood := { row := wordArithmeticShiftUptoRow, standIns := [], harness := (true, "62d85de6330eb9fb781ddd0c561e380b89e3b715982d28b0f22415bf31cdf5ad"), looks := false }, kinds := [], alts := [], laidByText := true, laidKinds := [.data, .data, .data], laidTests := true, laidLooks := .later }
def WordArithmeticShiftUptoCardSaid : Prop := Claim7.holds Tryd.pinned (.plain (OpenSpec.upto wordArithmeticShiftSpec)) wordArithmeticShiftUptoCard

/-- THE SECOND FORM's CARD OF 'fullinglaw1.WordUndefined'. -/
def wordUndefinedUptoCard : Claim7 := { stood := { row := wordUndefinedUptoRow, standIns := [], harness := (true, "62d85de6330eb9fb781ddd0c561e380b89e3b715982d28b0f22415bf31cdf5ad"), looks := false }, kinds := [], alts := [], laidByText := true, laidKinds := [.data, .data, .data], laidTests := true, laidLooks := .later }
def WordUndefinedUptoCardSaid : Prop := Claim7.holds Tryd.pinned (.plain (OpenSpec.upto wordUndefinedSpec)) wordUndefinedUptoCard
end Rows
end Go.Proofs.YtpbndfnokcmnhaaDoor
