/-
  DERIVED. GIVEN WITH THE SEED: THE CARDS: each row of YthenjclfpecalaaGreatDoorRows.lean that lists a variable, with what it lists TIED to the program's text (the seventh form; the later family's looks); each row that meets fmt, with fmt's text TOLD by the authors' own Lean function (tested against real Go, not proved from fmt's source: count such statements apart). THE CARD IS WHAT COUNTS. Prove the row's statement (the work); the ties are given (YthenjclfpecalaaGreatDoorTie.lean); close each card by the builder's one call (the guide's Derived/Test/ToyasCard.lean, 'card_holds'). Laid BY PROGRAM, IN A SANDBOX (cutbox-door.mjs). By AI agents, Wed Nov 11 2026. No macro, syntax, notation, axiom, sorry.
-/
import Derived.Test.YthenjclfpecalaaGreatDoorRows
import GoSem.ClaimSeven
namespace Go.Proofs.YthenjclfpecalaaGreatDoor
namespace Rows

/-- THE TIED CARD OF 'fullinglaw6.InterpSorts'. -/
def interpSortsCard : Claim7 := { stood := { row := interpSortsRow, standIns := [], harness := (true, "a6fe0f25b6416178698b65e2f56a76ced908e0b94344a6bba8bbf69c66be2601"), looks := false }, kinds := [], alts := [], laidByText := true, laidKinds := [.data, .data, .data, .data, .data, .data], laidTests := true, laidLooks := .later }
def InterpSortsCardSaid : Prop := Claim7.holds Tryz.pinned (.plain (OpenSpec.ofChange interpSortsSpec)) interpSortsCard

/-- THE TIED CARD OF 'fullinglaw6.InterpLaziness'. -/
def interpLazinessCard : Claim7 := { stood := { row := interpLazinessRow, standIns := [], harness := (true, "a6fe0f25b6416178698b65e2f56a76ced908e0b94344a6bba8bbf69c66be2601"), looks := false }, kinds := [], alts := [], laidByText := true, laidKinds := [.data, .data, .data, .data, .data, .data], laidTests := true, laidLooks := .later }
def InterpLazinessCardSaid : Prop := Claim7.holds Tryz.pinned (.plain (OpenSpec.ofChange interpLazinessSpec)) interpLazinessCard

/-- THE TIED CARD OF 'fullinglaw6.InterpTraps'. -/
def interpTrapsCard : Claim7 := { stood := { row := interpTrapsRow, standIns := [], harness := (true, "a6fe0f25b6416178698b65e2f56a76ced908e0b94344a6bba8bbf69c66be2601"), looks := false }, kinds := [], alts := [], laidByText := true, laidKinds := [.data, .data, .data, .data, .data, .data], laidTests := true, laidLooks := .later }
def InterpTrapsCardSaid : Prop := Claim7.holds Tryz.pinned (.plain (OpenSpec.ofChange interpTrapsSpec)) interpTrapsCard

/-- THE TIED CARD OF 'fullinglaw7.IRExamples'. -/
def iRExamplesCard : Claim7 := { stood := { row := iRExamplesRow, standIns := [], harness := (true, "a6fe0f25b6416178698b65e2f56a76ced908e0b94344a6bba8bbf69c66be2601"), looks := false }, kinds := [], alts := [], laidByText := true, laidKinds := [.data, .data, .data, .data, .data, .data], laidTests := true, laidLooks := .later }
def IRExamplesCardSaid : Prop := Claim7.holds Tryz.pinned (.plain (OpenSpec.ofChange iRExamplesSpec)) iRExamplesCard

/-- THE TIED CARD OF 'fullinglaw7.IRLoops'. -/
def iRLoopsCard : Claim7 := { stood := { row := iRLoopsRow, standIns := [], harness := (true, "a6fe0f25b6416178698b65e2f56a76ced908e0b94344a6bba8bbf69c66be2601"), looks := false }, kinds := [], alts := [], laidByText := true, laidKinds := [.data, .data, .data, .data, .data, .data], laidTests := true, laidLooks := .later }
def IRLoopsCardSaid : Prop := Claim7.holds Tryz.pinned (.plain (OpenSpec.ofChange iRLoopsSpec)) iRLoopsCard

/-- THE SECOND FORM's CARD OF 'fullinglaw6.InterpSorts'. -/
def interpSortsUptoCard : Claim7 := { stood := { row := interpSortsUptoRow, standIns := [], harness := (true, "a6fe0f25b6416178698b65e2f56a76ced908e0b94344a6bba8bbf69c66be2601"), looks := false }, kinds := [], alts := [], laidByText := true, laidKinds := [.data, .data, .data, .data, .data, .data], laidTests := true, laidLooks := .later }
def InterpSortsUptoCardSaid : Prop := Claim7.holds Tryz.pinned (.plain (OpenSpec.upto interpSortsSpec)) interpSortsUptoCard

/-- THE SECOND FORM's CARD OF 'fullinglaw6.InterpLaziness'. -/
def interpLazinessUptoCard : Claim7 := { stood := { row := interpLazinessUptoRow, standIns := [], harness := (true, "a6fe0f25b6416178698b65e2f56a76ced908e0b94344a6bba8bbf69c66be2601"), looks := false }, kinds := [], alts := [], laidByText := true, laidKinds := [.data, .data, .data, .data, .data, .data], laidTests := true, laidLooks := .later }
def InterpLazinessUptoCardSaid : Prop := Claim7.holds Tryz.pinned (.plain (OpenSpec.upto interpLazinessSpec)) interpLazinessUptoCard

/-- THE SECOND FORM's CARD OF 'fullinglaw6.InterpTraps'. -/
def interpTrapsUptoCard : Claim7 := { stood := { row := interpTrapsUptoRow, standIns := [], harness := (true, "a6fe0f25b6416178698b65e2f56a76ced908e0b94344a6bba8bbf69c66be2601"), looks := false }, kinds := [], alts := [], laidByText := true, laidKinds := [.data, .data, .data, .data, .data, .data], laidTests := true, laidLooks := .later }
def InterpTrapsUptoCardSaid : Prop := Claim7.holds Tryz.pinned (.plain (OpenSpec.upto interpTrapsSpec)) interpTrapsUptoCard

/-- THE SECOND FORM's CARD OF 'fullinglaw7.IRExamples'. -/
def iRExamplesUptoCard : Claim7 := { stood := { row := iRExamplesUptoRow, standIns := [], harness := (true, "a6fe0f25b6416178698b65e2f56a76ced908e0b94344a6bba8bbf69c66be2601"), looks := false }, kinds := [], alts := [], laidByText := true, laidKinds := [.data, .data, .data, .data, .data, .data], laidTests := true, laidLooks := .later }
def IRExamplesUptoCardSaid : Prop := Claim7.holds Tryz.pinned (.plain (OpenSpec.upto iRExamplesSpec)) iRExamplesUptoCard

/-- THE SECOND FORM's CARD OF 'fullinglaw7.IRLoops'. -/
def iRLoopsUptoCard : Claim7 := { stood := { row := iRLoopsUptoRow, standIns := [], harness := (true, "a6fe0f25b6416178698b65e2f56a76ced908e0b94344a6bba8bbf69c66be2601"), looks := false }, kinds := [], alts := [], laidByText := true, laidKinds := [.data, .data, .data, .data, .data, .data], laidTests := true, laidLooks := .later }
def IRLoopsUptoCardSaid : Prop := Claim7.holds Tryz.pinned (.plain (OpenSpec.upto iRLoopsSpec)) iRLoopsUptoCard
end Rows
end Go.Proofs.YthenjclfpecalaaGreatDoor
