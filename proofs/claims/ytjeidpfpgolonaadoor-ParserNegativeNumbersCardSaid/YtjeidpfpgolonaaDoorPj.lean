/- Stage 3: all of the expressions' walks, by induction on the fuel. -/
import Derived.Test.YtjeidpfpgolonaaDoorPh
namespace Go.Proofs.YtjeidpfpgolonaaDoor
open Go.RowKit (wrap64 intOf)
open Go Go.RowKit WM LX PX

theorem binary_zero (ts : List Tk) (p : Nat) : WBi ts p 0 := fun _ _ _ _ _ _ h => absurd h (by omega)
/-- ALL WALKS OF EXPRESSIONS, for every fuel that is enough. -/
theorem expr_all (ts : List Tk) (p : Nat) (n : Nat) : WEx ts p n ∧ (∀ m, m ≤ n → WBi ts p m) ∧ WPr ts p n ∧ WPi ts p n := by
  induction n with
  | zero => exact ⟨fun _ _ _ _ h => absurd h (by omega), fun m hm => Nat.le_zero.1 hm ▸ binary_zero ts p, fun _ _ _ _ h => absurd h (by omega), fun _ _ _ _ h => absurd h (by omega)⟩
  | succ n ih =>
    obtain ⟨he, hb, hp, hi⟩ := ih
    refine ⟨expression_step ts p n (hb n (Nat.le_refl _)) he, fun m hm => ?_, prefixed_step ts p n hp hi, primary_step ts p n he⟩
    by_cases h : m ≤ n
    · exact hb m h
    · obtain rfl : m = n + 1 := by omega
      exact binary_step ts p n hp hb
theorem expression_any (ts : List Tk) (p n : Nat) : WEx ts p n := (expr_all ts p n).1
end Go.Proofs.YtjeidpfpgolonaaDoor
