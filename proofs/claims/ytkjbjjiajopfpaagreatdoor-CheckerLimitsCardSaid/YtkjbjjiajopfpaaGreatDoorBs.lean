/- Stage 3: the walk of the statements' SameExpr on equal expressions. -/
import Derived.Test.YtkjbjjiajopfpaaGreatDoorBc
import Derived.Deep.RegionWith
import Derived.Deep.LoopGhost
import Derived.Test.YtkjbjjiajopfpaaGreatDoorBe
import Derived.Test.YtkjbjjiajopfpaaGreatDoorBf
import Derived.Deep.QuietTactic
import Derived.BigQuiet
namespace Go.Proofs.YtkjbjjiajopfpaaGreatDoor
open Go.RowKit (wrap64 intOf)
open Go Go.RowKit WM LX PX

set_option maxRecDepth 100000
set_option maxHeartbeats 4000000
/-- At most n levels of kids, few at each. -/
def KD : Nat → PE → Prop
  | 0, .mk _ _ _ _ kids => kids = []
  | n + 1, .mk _ _ _ _ kids => kids.length ≤ 1000 ∧ ∀ k ∈ kids, KD n k
def SeR (B : Nat) (w : World) (len k : Nat) (i : Value) (wr : World) : Prop := ∃ j : Nat, j + k = len ∧ i = .int .i64 (j : Int) ∧ Below B w wr
theorem KD.few {n : Nat} {kind m : Int} {name : List UInt8} {op : Int} {kids : List PE} (h : KD n (.mk kind m name op kids)) : kids.length ≤ 1000 := by
  cases n with
  | zero => rw [show kids = [] from h]; decide
  | succ n => exact h.1
theorem KD.kid {n : Nat} {kind m : Int} {name : List UInt8} {op : Int} {kids : List PE} (h : KD n (.mk kind m name op kids)) {i : Nat} {e : PE} (he : kids[i]? = some e) : ∃ d, n = d + 1 ∧ KD d e := by
  cases n with
  | zero => rw [show kids = [] from h] at he; simp at he
  | succ n => exact ⟨n, rfl, h.2 e (List.mem_of_getElem? he)⟩
end Go.Proofs.YtkjbjjiajopfpaaGreatDoor
/- Stage 3: the walks of the statements' sameTexts and, on empty lists, SameStmts. -/
namespace Go.Proofs.YtkjbjjiajopfpaaGreatDoor
open Go.RowKit (wrap64 intOf)
open Go Go.RowKit WM LX PX

set_option maxRecDepth 100000
set_option maxHeartbeats 4000000
end Go.Proofs.YtkjbjjiajopfpaaGreatDoor
