/- Stage 1: the walk of WordExamples: it returns true and makes only new memory. -/
import Derived.Test.YtpbndfnokcmnhaaDoorWt
namespace Go.Proofs.YtpbndfnokcmnhaaDoor
open Go Go.RowKit WM

theorem ex1 : (binF 7 (-7) 2 == -3) = true := by decide +kernel
theorem ex2 : (binF 8 (-7) 2 == -1) = true := by decide +kernel
theorem ex3 : (binF 12 1 64 == 1) = true := by decide +kernel
theorem ex4 : (binF 7 (-9223372036854775808) (-1) == -9223372036854775808) = true := by decide +kernel
theorem ex5 : (binF 8 5 0 == 0) = true := by decide +kernel
abbrev minText : ByteArray := ⟨#[45, 57, 50, 50, 51, 51, 55, 50, 48, 51, 54, 56, 53, 52, 55, 55, 53, 56, 48, 56]⟩
theorem parse_min (w : World) (B : Nat) (hB : B ≤ w.heap.size) (ht : Tab B w) :
    Calls Tryd.prog 13 #[.string minText] w fun e w' => e = .returned (.tuple #[.int .i64 (-9223372036854775808), .bool true]) ∧ Below B w w' :=
  (parse_any minText (by decide) w B hB ht).mono fun e w' ⟨h1, h2⟩ => ⟨h1.trans (by rw [show minText.data.toList = [45, 57, 50, 50, 51, 51, 55, 50, 48, 51, 54, 56, 53, 52, 55, 55, 53, 56, 48, 56] from rfl, parse_minB, parse_minV]), h2⟩
theorem parse_zero (w : World) (B : Nat) (hB : B ≤ w.heap.size) (ht : Tab B w) :
    Calls Tryd.prog 13 #[.string ⟨#[45, 48]⟩] w fun e w' => e = .returned (.tuple #[.int .i64 0, .bool false]) ∧ Below B w w' :=
  (parse_any ⟨#[45, 48]⟩ (by decide) w B hB ht).mono fun e w' ⟨h1, h2⟩ => ⟨h1.trans (by rw [show (⟨#[45, 48]⟩ : ByteArray).data.toList = [45, 48] from rfl, parse_zeroB, parse_zeroV]), h2⟩
theorem text_min (w : World) (B : Nat) (hB : B ≤ w.heap.size) (ht : Tab B w) :
    Calls Tryd.prog 15 #[.int .i64 (-9223372036854775808)] w fun e w' => e = .returned (.string minText) ∧ Below B w w' :=
  (text_any _ min_in B w hB ht).mono fun e w' ⟨h1, h2⟩ => ⟨h1.trans (by rw [itoa_min]), h2⟩

set_option maxRecDepth 100000
theorem examples_any (w : World) (B : Nat) (hB : B ≤ w.heap.size) (ht : Tab B w) :
    Calls Tryd.prog 3 #[] w fun e w' => e = .returned (.bool true) ∧ Below B w w' := by
  have e1 := ex1; have e2 := ex2; have e3 := ex3; have e4 := ex4; have e5 := ex5
  go_enter Tryd.func3, Tryd.ntmps3
  go_wp2_with (go_at_call 13; ((with_reducible refine (parse_min _ B hB ht).mono ?_); rintro e w1 ⟨rfl, hb1⟩))
  have hB1 := Nat.le_trans hB hb1.size
  have ht1 := ht.on hb1
  go_wp2_with (first
    | (go_at_call 13; ((with_reducible refine (parse_zero _ B hB1 ht1).mono ?_); rintro e w2 ⟨rfl, hb2⟩))
    | (go_at_call 14; ((with_reducible refine (bin_any _ _ _ _).mono ?_); rintro e w' ⟨rfl, rfl⟩)))
  have hB2 := Nat.le_trans hB1 hb2.size
  have ht2 := ht1.on hb2
  go_wp2_with (go_at_call 15; ((with_reducible refine (text_min _ B hB2 ht2).mono ?_); rintro e w3 ⟨rfl, hb3⟩))
  go_ret
  exact ⟨rfl, (hb1.trans hb2).trans hb3⟩
end Go.Proofs.YtpbndfnokcmnhaaDoor
