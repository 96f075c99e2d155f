/- CheckerLimits: the closed facts on the program that its row asks for. -/
import Derived.Test.YtgiggkfnpbgkpaaGreatDoorCards
import Derived.JoinedCond
import Derived.KernelRfl
namespace Go.Proofs.YtgiggkfnpbgkpaaGreatDoor
open Go
theorem climClosed : joinedFacts Tryz.pinned.checked.prog 7 Tryz.f7 (OpenSpec.ofChange Rows.checkerLimitsSpec).bare Rows.checkerLimitsRow = true := by kernel_rfl
end Go.Proofs.YtgiggkfnpbgkpaaGreatDoor
