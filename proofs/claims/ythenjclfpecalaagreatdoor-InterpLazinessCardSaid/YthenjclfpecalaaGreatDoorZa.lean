/- Stage 6, plain mathematics: the outcomes of Laziness. -/
import Derived.Test.YthenjclfpecalaaGreatDoorI2
import Derived.Test.YthenjclfpecalaaGreatDoorI1
namespace Go.Proofs.YthenjclfpecalaaGreatDoor.IX
open Go Go.RowKit WM LX PX CX

set_option maxRecDepth 100000
theorem nz_of (c : Int) (h : c ≠ 0) : (∃ n : Nat, c = Int.ofNat (n + 1)) ∨ ∃ n : Nat, c = Int.negSucc n := by
  cases c with
  | ofNat n => cases n with
    | zero => exact absurd rfl h
    | succ n => exact .inl ⟨n, rfl⟩
  | negSucc n => exact .inr ⟨n, rfl⟩
theorem il_f0 (x : Int) : goF 30 ilP [102] [0, x] 0 = some ⟨2, 1, [], 0⟩ := by kernel_rfl
theorem il_g0 (x : Int) : goF 30 ilP [103] [0, x] 0 = some ⟨1, 0, [], x⟩ := by kernel_rfl
theorem il_f1 (c x : Int) (h : c ≠ 0) : goF 30 ilP [102] [c, x] 0 = some ⟨1, 0, [], x⟩ := by
  rcases nz_of c h with ⟨n, rfl⟩ | ⟨n, rfl⟩ <;> kernel_rfl
theorem il_g1 (c x : Int) (h : c ≠ 0) : goF 30 ilP [103] [c, x] 0 = some ⟨2, 2, [], 0⟩ := by
  rcases nz_of c h with ⟨n, rfl⟩ | ⟨n, rfl⟩ <;> kernel_rfl
theorem il_h (c x : Int) : goF 30 ilP [104] [c, x] 0 = some ⟨2, 2, [], 0⟩ := by kernel_rfl
theorem il_k (c x : Int) : goF 30 ilP [107] [c, x] 0 = some ⟨2, 1, [], 0⟩ := by kernel_rfl
/-- What f, g answer. -/
def ilF (c x : Int) : OC := if c = 0 then ⟨2, 1, [], 0⟩ else ⟨1, 0, [], x⟩
def ilG (c x : Int) : OC := if c = 0 then ⟨1, 0, [], x⟩ else ⟨2, 2, [], 0⟩
end Go.Proofs.YthenjclfpecalaaGreatDoor.IX
