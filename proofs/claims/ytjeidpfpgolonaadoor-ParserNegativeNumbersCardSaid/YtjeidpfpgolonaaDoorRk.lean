/- The walks of the statements' own helpers Pick and Word: a number in the range; some word. -/
import Derived.Test.YtjeidpfpgolonaaDoorWr
import Derived.Test.YtjeidpfpgolonaaDoorChecked
import Derived.WalkKit
import Derived.Lib.Hide
import Derived.Below
namespace Go.Proofs.YtjeidpfpgolonaaDoor
open Go Go.RowKit WM

theorem emod_of_tmod (n m : Int) (hm : 0 < m) : (0 ≤ n.tmod m → n.tmod m = n % m) ∧ (n.tmod m < 0 → n.tmod m + m = n % m) := by
  have h := Int.tmod_eq_emod (a := n) (b := m)
  have h0 := Int.emod_nonneg n (b := m) (by omega)
  have h1 := Int.emod_lt_of_pos n hm
  have hna : (m.natAbs : Int) = m := by omega
  by_cases hc : 0 ≤ n ∨ m ∣ n
  · rw [if_pos hc] at h; omega
  · rw [if_neg hc, hna] at h; omega
theorem pick_any (n m k : Int) (hm : 0 < m) (hm2 : m ≤ 1000) (hk : n % m = k) (w : World) :
    Calls Tryd.prog 15 #[.int .i64 n, .int .i64 m] w fun e w' => e = .returned (.int .i64 k) ∧ w = w' := by
  obtain ⟨hp, hn⟩ := emod_of_tmod n m hm
  have h1 := Int.tmod_lt_of_pos n hm
  have h2 := Int.tmod_lt_of_pos (-n) hm
  rw [Int.neg_tmod] at h2
  have hne : (m == 0) = false := by rw [beq_eq_false_iff_ne]; omega
  by_cases hc : n.tmod m < 0
  · have hk' := (hn hc).trans hk
    have HK := Lib.hid hk'
    clear hk hk' hp hn
    have hb1 : 0 ≤ n.tmod m + m := by omega
    go_enter Tryd.func15, Tryd.ntmps15
    go_wp2_with fail
    go_ret
    exact ⟨by rw [← HK.out]; rfl, rfl⟩
  · have hk' := (hp (by omega)).trans hk
    have HK := Lib.hid hk'
    clear hk hk' hp hn
    go_enter Tryd.func15, Tryd.ntmps15
    go_wp2_with fail
    go_ret
    exact ⟨by rw [← HK.out]; rfl, rfl⟩

/-- Some word, and only new memory. -/
def SomeW (B : Nat) (w : World) (e : Ending) (w' : World) : Prop := ∃ v : Int, inW v ∧ e = .returned (.int .i64 v) ∧ Below B w w'
theorem someW {B : Nat} {w w' : World} {v : Int} (hv : inW v) (hb : Below B w w') : SomeW B w (.returned (.int .i64 v)) w' := ⟨v, hv, rfl, hb⟩
theorem inW_lit {a : Int} (h : decide (-9223372036854775808 ≤ a) = true) (h' : decide (a ≤ 9223372036854775807) = true) : inW a := ⟨of_decide_eq_true h, of_decide_eq_true h'⟩
theorem word_0 (n raw : Int) (HK : Hid (n % 24 = 0)) (w : World) (B : Nat) (hB : B ≤ w.heap.size) :
    Calls Tryd.prog 56 #[.int .i64 n, .int .i64 raw] w (SomeW B w) := by
  go_enter Tryd.func56, Tryd.ntmps56
  go_wp2_with (go_at_call 15; ((with_reducible refine (pick_any _ 24 _ (by decide) (by decide) HK.out _).mono ?_); rintro e w' ⟨rfl, rfl⟩))
  go_ret
  exact someW (inW_lit rfl rfl) ((Below.refl _ _).alloc hB _)
theorem word_1 (n raw : Int) (HK : Hid (n % 24 = 1)) (w : World) (B : Nat) (hB : B ≤ w.heap.size) :
    Calls Tryd.prog 56 #[.int .i64 n, .int .i64 raw] w (SomeW B w) := by
  go_enter Tryd.func56, Tryd.ntmps56
  go_wp2_with (go_at_call 15; ((with_reducible refine (pick_any _ 24 _ (by decide) (by decide) HK.out _).mono ?_); rintro e w' ⟨rfl, rfl⟩))
  go_ret
  exact someW (inW_lit rfl rfl) ((Below.refl _ _).alloc hB _)
theorem word_2 (n raw : Int) (HK : Hid (n % 24 = 2)) (w : World) (B : Nat) (hB : B ≤ w.heap.size) :
    Calls Tryd.prog 56 #[.int .i64 n, .int .i64 raw] w (SomeW B w) := by
  go_enter Tryd.func56, Tryd.ntmps56
  go_wp2_with (go_at_call 15; ((with_reducible refine (pick_any _ 24 _ (by decide) (by decide) HK.out _).mono ?_); rintro e w' ⟨rfl, rfl⟩))
  go_ret
  exact someW (inW_lit rfl rfl) ((Below.refl _ _).alloc hB _)
theorem word_3 (n raw : Int) (HK : Hid (n % 24 = 3)) (w : World) (B : Nat) (hB : B ≤ w.heap.size) :
    Calls Tryd.prog 56 #[.int .i64 n, .int .i64 raw] w (SomeW B w) := by
  go_enter Tryd.func56, Tryd.ntmps56
  go_wp2_with (go_at_call 15; ((with_reducible refine (pick_any _ 24 _ (by decide) (by decide) HK.out _).mono ?_); rintro e w' ⟨rfl, rfl⟩))
  go_ret
  exact someW (inW_lit rfl rfl) ((Below.refl _ _).alloc hB _)
theorem word_4 (n raw : Int) (HK : Hid (n % 24 = 4)) (w : World) (B : Nat) (hB : B ≤ w.heap.size) :
    Calls Tryd.prog 56 #[.int .i64 n, .int .i64 raw] w (SomeW B w) := by
  go_enter Tryd.func56, Tryd.ntmps56
  go_wp2_with (go_at_call 15; ((with_reducible refine (pick_any _ 24 _ (by decide) (by decide) HK.out _).mono ?_); rintro e w' ⟨rfl, rfl⟩))
  go_ret
  exact someW (inW_lit rfl rfl) ((Below.refl _ _).alloc hB _)
theorem word_5 (n raw : Int) (HK : Hid (n % 24 = 5)) (w : World) (B : Nat) (hB : B ≤ w.heap.size) :
    Calls Tryd.prog 56 #[.int .i64 n, .int .i64 raw] w (SomeW B w) := by
  go_enter Tryd.func56, Tryd.ntmps56
  go_wp2_with (go_at_call 15; ((with_reducible refine (pick_any _ 24 _ (by decide) (by decide) HK.out _).mono ?_); rintro e w' ⟨rfl, rfl⟩))
  go_ret
  exact someW (inW_lit rfl rfl) ((Below.refl _ _).alloc hB _)
theorem word_6 (n raw : Int) (HK : Hid (n % 24 = 6)) (w : World) (B : Nat) (hB : B ≤ w.heap.size) :
    Calls Tryd.prog 56 #[.int .i64 n, .int .i64 raw] w (SomeW B w) := by
  go_enter Tryd.func56, Tryd.ntmps56
  go_wp2_with (go_at_call 15; ((with_reducible refine (pick_any _ 24 _ (by decide) (by decide) HK.out _).mono ?_); rintro e w' ⟨rfl, rfl⟩))
  go_ret
  exact someW (inW_lit rfl rfl) ((Below.refl _ _).alloc hB _)
theorem word_7 (n raw : Int) (HK : Hid (n % 24 = 7)) (w : World) (B : Nat) (hB : B ≤ w.heap.size) :
    Calls Tryd.prog 56 #[.int .i64 n, .int .i64 raw] w (SomeW B w) := by
  go_enter Tryd.func56, Tryd.ntmps56
  go_wp2_with (go_at_call 15; ((with_reducible refine (pick_any _ 24 _ (by decide) (by decide) HK.out _).mono ?_); rintro e w' ⟨rfl, rfl⟩))
  go_ret
  exact someW (inW_lit rfl rfl) ((Below.refl _ _).alloc hB _)
theorem word_8 (n raw : Int) (HK : Hid (n % 24 = 8)) (w : World) (B : Nat) (hB : B ≤ w.heap.size) :
    Calls Tryd.prog 56 #[.int .i64 n, .int .i64 raw] w (SomeW B w) := by
  go_enter Tryd.func56, Tryd.ntmps56
  go_wp2_with (go_at_call 15; ((with_reducible refine (pick_any _ 24 _ (by decide) (by decide) HK.out _).mono ?_); rintro e w' ⟨rfl, rfl⟩))
  go_ret
  exact someW (inW_lit rfl rfl) ((Below.refl _ _).alloc hB _)
theorem word_9 (n raw : Int) (HK : Hid (n % 24 = 9)) (w : World) (B : Nat) (hB : B ≤ w.heap.size) :
    Calls Tryd.prog 56 #[.int .i64 n, .int .i64 raw] w (SomeW B w) := by
  go_enter Tryd.func56, Tryd.ntmps56
  go_wp2_with (go_at_call 15; ((with_reducible refine (pick_any _ 24 _ (by decide) (by decide) HK.out _).mono ?_); rintro e w' ⟨rfl, rfl⟩))
  go_ret
  exact someW (inW_lit rfl rfl) ((Below.refl _ _).alloc hB _)
theorem word_mid (n raw j k : Int) (HK : Hid (n % 24 = k)) (HJ : Hid (wrap64 (n.tdiv 24) % 17 = j)) (h1 : 10 ≤ k) (h2 : k < 22) (hj0 : 0 ≤ j) (hj1 : j < 17) (w : World) (B : Nat) (hB : B ≤ w.heap.size) :
    Calls Tryd.prog 56 #[.int .i64 n, .int .i64 raw] w (SomeW B w) := by
  go_enter Tryd.func56, Tryd.ntmps56
  go_wp2_with (go_at_call 15; ((with_reducible refine (pick_any _ 24 _ (by decide) (by decide) HK.out _).mono ?_); rintro e w' ⟨rfl, rfl⟩))
  go_wp2_with (go_at_call 15; ((with_reducible refine (pick_any _ 17 _ (by decide) (by decide) HJ.out _).mono ?_); rintro e w' ⟨rfl, rfl⟩))
  go_ret
  exact someW (by unfold inW; omega) ((Below.refl _ _).alloc hB _)
theorem word_raw (n raw k : Int) (HK : Hid (n % 24 = k)) (h1 : 22 ≤ k) (hraw : inW raw) (w : World) (B : Nat) (hB : B ≤ w.heap.size) :
    Calls Tryd.prog 56 #[.int .i64 n, .int .i64 raw] w (SomeW B w) := by
  go_enter Tryd.func56, Tryd.ntmps56
  go_wp2_with (go_at_call 15; ((with_reducible refine (pick_any _ 24 _ (by decide) (by decide) HK.out _).mono ?_); rintro e w' ⟨rfl, rfl⟩))
  go_ret
  exact someW hraw ((Below.refl _ _).alloc hB _)
theorem word_any (n raw : Int) (hraw : inW raw) (w : World) (B : Nat) (hB : B ≤ w.heap.size) :
    Calls Tryd.prog 56 #[.int .i64 n, .int .i64 raw] w (SomeW B w) := by
  have hcases : n % 24 = 0 ∨ n % 24 = 1 ∨ n % 24 = 2 ∨ n % 24 = 3 ∨ n % 24 = 4 ∨ n % 24 = 5 ∨ n % 24 = 6 ∨ n % 24 = 7 ∨ n % 24 = 8 ∨ n % 24 = 9 ∨ (10 ≤ n % 24 ∧ n % 24 < 22) ∨ 22 ≤ n % 24 := by omega
  rcases hcases with h | h | h | h | h | h | h | h | h | h | ⟨h, h'⟩ | h
  · exact word_0 n raw (Lib.hid h) w B hB
  · exact word_1 n raw (Lib.hid h) w B hB
  · exact word_2 n raw (Lib.hid h) w B hB
  · exact word_3 n raw (Lib.hid h) w B hB
  · exact word_4 n raw (Lib.hid h) w B hB
  · exact word_5 n raw (Lib.hid h) w B hB
  · exact word_6 n raw (Lib.hid h) w B hB
  · exact word_7 n raw (Lib.hid h) w B hB
  · exact word_8 n raw (Lib.hid h) w B hB
  · exact word_9 n raw (Lib.hid h) w B hB
  · exact word_mid n raw _ _ (Lib.hid rfl) (Lib.hid rfl) h h' (by omega) (by omega) w B hB
  · exact word_raw n raw _ (Lib.hid rfl) h hraw w B hB
end Go.Proofs.YtjeidpfpgolonaaDoor
