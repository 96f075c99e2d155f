/- Stage 1: the walks of the reference's Text, Unary and Binary: they return the same as the plain functions. -/
import Derived.Test.YtpbndfnokcmnhaaDoorWf
namespace Go.Proofs.YtpbndfnokcmnhaaDoor
open Go Go.RowKit WM

theorem fmt_at (u : Int) (m : Nat) (h : u = (m : Int)) (h1 : u ≤ 18446744073709551615) (w : World) (B : Nat) (hB : B ≤ w.heap.size) :
    Calls Tryd.prog 31 #[.int .u64 u] w (StrB B (Lib.decDigits m) w) := by
  subst h
  exact fmt_any 19 m (by omega) h1 (by omega) w B hB
theorem rtext_neg (n : Int) (hn : inW n) (hneg : n < 0) (w : World) (B : Nat) (hB : B ≤ w.heap.size) :
    Calls Tryd.prog 21 #[.int .i64 n] w (StrB B (Lib.itoa n) w) := by
  have hi : Lib.itoa n = [45] ++ Lib.decDigits n.natAbs := by unfold Lib.itoa; rw [if_pos hneg]; rfl
  have hl := itoa_len n hn
  rw [hi] at hl ⊢
  have hll : (Lib.decDigits n.natAbs).length ≤ 100 := by simp at hl; omega
  unfold inW at hn
  have hu : -(n + 1) + 1 = (n.natAbs : Int) := by omega
  have HU := Lib.hid hu
  clear hu hl hi
  go_enter Tryd.func21, Tryd.ntmps21
  go_wp2_with (go_at_call 31; ((with_reducible refine (fmt_at _ _ HU.out (by omega) _ _ (Nat.le_refl _)).mono ?_); rintro e w1 ⟨rfl, hb1⟩))
  go_ret
  exact strB (ByteArray.mk_append_mk [45] _) (hb1.mono hB)
theorem rtext_pos (n : Int) (hn : inW n) (hneg : 0 ≤ n) (w : World) (B : Nat) (hB : B ≤ w.heap.size) :
    Calls Tryd.prog 21 #[.int .i64 n] w (StrB B (Lib.itoa n) w) := by
  have hi : Lib.itoa n = Lib.decDigits n.toNat := by unfold Lib.itoa; rw [if_neg (by omega)]
  rw [hi]
  unfold inW at hn
  have hu : n = (n.toNat : Int) := by omega
  have HU := Lib.hid hu
  clear hu hi
  go_enter Tryd.func21, Tryd.ntmps21
  go_wp2_with (go_at_call 31; ((with_reducible refine (fmt_at _ _ HU.out (by omega) _ _ (Nat.le_refl _)).mono ?_); rintro e w1 ⟨rfl, hb1⟩))
  go_ret
  exact strB rfl (hb1.mono hB)
theorem rtext_any (n : Int) (hn : inW n) (w : World) (B : Nat) (hB : B ≤ w.heap.size) :
    Calls Tryd.prog 21 #[.int .i64 n] w (StrB B (Lib.itoa n) w) := by
  by_cases h : n < 0
  · exact rtext_neg n hn h w B hB
  · exact rtext_pos n hn (by omega) w B hB
theorem rbool_any (p : Bool) (w : World) : Calls Tryd.prog 30 #[.bool p] w fun e w' => e = .returned (.int .i64 (tr p)) ∧ w = w' := by
  cases p
  all_goals
    go_enter Tryd.func30, Tryd.ntmps30
    go_wp2
    go_ret
    exact ⟨rfl, rfl⟩
theorem div_m1 (a : Int) : divF a (-1) = wrap64 (-a) := by unfold divF; rw [if_neg (by omega), Int.tdiv_neg, Int.tdiv_one]
theorem rdiv_any (a b : Int) (w : World) : Calls Tryd.prog 29 #[.int .i64 a, .int .i64 b] w fun e w' => e = .returned (.int .i64 (divF a b)) ∧ w = w' := by
  by_cases h0 : b = 0
  · subst h0
    go_enter Tryd.func29, Tryd.ntmps29
    go_wp2_with fail
    go_ret
    exact ⟨rfl, rfl⟩
  by_cases h1 : b = -1
  · subst h1
    rw [div_m1]
    go_enter Tryd.func29, Tryd.ntmps29
    go_wp2_with fail
    go_ret
    exact ⟨rfl, rfl⟩
  · have hd : divF a b = wrap64 (a.tdiv b) := by unfold divF; rw [if_neg h0]
    rw [hd]
    have g0 : (b == 0) = false := by simpa using h0
    have g1 : (b == -1) = false := by simpa using h1
    clear h1 hd
    go_enter Tryd.func29, Tryd.ntmps29
    go_wp2_with fail
    go_ret
    exact ⟨rfl, rfl⟩
theorem run_any (op a : Int) (w : World) : Calls Tryd.prog 19 #[.int .i64 op, .int .i64 a] w fun e w' => e = .returned (.int .i64 (unF op a)) ∧ w = w' := by
  by_cases h20 : op = 20
  · subst h20
    go_enter Tryd.func19, Tryd.ntmps19
    go_wp2_with fail
    go_ret
    exact ⟨by simp [unF], rfl⟩
  by_cases h21 : op = 21
  · subst h21
    go_enter Tryd.func19, Tryd.ntmps19
    go_wp2_with fail
    go_ret
    exact ⟨rfl, rfl⟩
  have hz : unF op a = 0 := un_other op a h20 h21
  rw [hz]
  have g20 : (op == 20) = false := by simpa using h20
  have g21 : (op == 21) = false := by simpa using h21
  clear h20 h21 hz
  go_enter Tryd.func19, Tryd.ntmps19
  go_wp2_with fail
  go_ret
  exact ⟨rfl, rfl⟩

theorem rcount (b : Int) : IntKind.u64.wrap (bits .and .i64 b 63) = shc b := by
  have h := shc_and b
  have h2 : bits .and .i64 b 63 = b % 64 := by
    rw [bits_and, ← b9]
    have h1 : (bv b &&& bv 63).toNat = (b % 64).toNat := by
      unfold bv
      rw [BitVec.toNat_and, BitVec.toNat_ofInt, BitVec.toNat_ofInt]
      have h63 : ((63 : Int) % ((2 ^ 64 : Nat) : Int)).toNat = 2 ^ 6 - 1 := by decide
      have e2 : ((2 ^ 64 : Nat) : Int) = 18446744073709551616 := by decide
      rw [h63, Nat.and_two_pow_sub_one_eq_mod, e2]; omega
    rw [b9, BitVec.toInt_eq_toNat_bmod, h1, Int.bmod_def]; omega
  rw [h2, u64wrap]; unfold shc; omega
theorem rrem (a b : Int) (ha : inW a) (hb : b ≠ 0) : wrap64 (a - wrap64 (divF a b * b)) = remF a b := by
  have h := div_back a b ha hb
  have h1 := rem_in a b ha
  rw [b4, b6, b7, b8] at h
  unfold inW at h1 ha
  unfold wrap64 at *
  omega
set_option maxRecDepth 100000
theorem rbin_4 (a b : Int) (w : World) : Calls Tryd.prog 20 #[.int .i64 4, .int .i64 a, .int .i64 b] w fun e w' => e = .returned (.int .i64 (binF 4 a b)) ∧ w = w' := by
  have hs := shc_in b
  have hr := rcount b
  go_enter Tryd.func20, Tryd.ntmps20
  go_wp2_with (first
    | (go_at_call 29; ((with_reducible refine (rdiv_any _ _ _).mono ?_); rintro e w' ⟨rfl, rfl⟩))
    | (go_at_call 30; ((with_reducible refine (rbool_any _ _).mono ?_); rintro e w' ⟨rfl, rfl⟩)))
  go_ret
  exact ⟨rfl, rfl⟩
theorem rbin_5 (a b : Int) (w : World) : Calls Tryd.prog 20 #[.int .i64 5, .int .i64 a, .int .i64 b] w fun e w' => e = .returned (.int .i64 (binF 5 a b)) ∧ w = w' := by
  have hs := shc_in b
  have hr := rcount b
  go_enter Tryd.func20, Tryd.ntmps20
  go_wp2_with (first
    | (go_at_call 29; ((with_reducible refine (rdiv_any _ _ _).mono ?_); rintro e w' ⟨rfl, rfl⟩))
    | (go_at_call 30; ((with_reducible refine (rbool_any _ _).mono ?_); rintro e w' ⟨rfl, rfl⟩)))
  go_ret
  exact ⟨rfl, rfl⟩
theorem rbin_6 (a b : Int) (w : World) : Calls Tryd.prog 20 #[.int .i64 6, .int .i64 a, .int .i64 b] w fun e w' => e = .returned (.int .i64 (binF 6 a b)) ∧ w = w' := by
  have hs := shc_in b
  have hr := rcount b
  go_enter Tryd.func20, Tryd.ntmps20
  go_wp2_with (first
    | (go_at_call 29; ((with_reducible refine (rdiv_any _ _ _).mono ?_); rintro e w' ⟨rfl, rfl⟩))
    | (go_at_call 30; ((with_reducible refine (rbool_any _ _).mono ?_); rintro e w' ⟨rfl, rfl⟩)))
  go_ret
  exact ⟨rfl, rfl⟩
theorem rbin_7 (a b : Int) (w : World) : Calls Tryd.prog 20 #[.int .i64 7, .int .i64 a, .int .i64 b] w fun e w' => e = .returned (.int .i64 (binF 7 a b)) ∧ w = w' := by
  have hs := shc_in b
  have hr := rcount b
  go_enter Tryd.func20, Tryd.ntmps20
  go_wp2_with (first
    | (go_at_call 29; ((with_reducible refine (rdiv_any _ _ _).mono ?_); rintro e w' ⟨rfl, rfl⟩))
    | (go_at_call 30; ((with_reducible refine (rbool_any _ _).mono ?_); rintro e w' ⟨rfl, rfl⟩)))
  go_ret
  exact ⟨rfl, rfl⟩
theorem rbin_9 (a b : Int) (w : World) : Calls Tryd.prog 20 #[.int .i64 9, .int .i64 a, .int .i64 b] w fun e w' => e = .returned (.int .i64 (binF 9 a b)) ∧ w = w' := by
  have hs := shc_in b
  have hr := rcount b
  go_enter Tryd.func20, Tryd.ntmps20
  go_wp2_with (first
    | (go_at_call 29; ((with_reducible refine (rdiv_any _ _ _).mono ?_); rintro e w' ⟨rfl, rfl⟩))
    | (go_at_call 30; ((with_reducible refine (rbool_any _ _).mono ?_); rintro e w' ⟨rfl, rfl⟩)))
  go_ret
  exact ⟨rfl, rfl⟩
theorem rbin_10 (a b : Int) (w : World) : Calls Tryd.prog 20 #[.int .i64 10, .int .i64 a, .int .i64 b] w fun e w' => e = .returned (.int .i64 (binF 10 a b)) ∧ w = w' := by
  have hs := shc_in b
  have hr := rcount b
  go_enter Tryd.func20, Tryd.ntmps20
  go_wp2_with (first
    | (go_at_call 29; ((with_reducible refine (rdiv_any _ _ _).mono ?_); rintro e w' ⟨rfl, rfl⟩))
    | (go_at_call 30; ((with_reducible refine (rbool_any _ _).mono ?_); rintro e w' ⟨rfl, rfl⟩)))
  go_ret
  exact ⟨rfl, rfl⟩
theorem rbin_11 (a b : Int) (w : World) : Calls Tryd.prog 20 #[.int .i64 11, .int .i64 a, .int .i64 b] w fun e w' => e = .returned (.int .i64 (binF 11 a b)) ∧ w = w' := by
  have hs := shc_in b
  have hr := rcount b
  go_enter Tryd.func20, Tryd.ntmps20
  go_wp2_with (first
    | (go_at_call 29; ((with_reducible refine (rdiv_any _ _ _).mono ?_); rintro e w' ⟨rfl, rfl⟩))
    | (go_at_call 30; ((with_reducible refine (rbool_any _ _).mono ?_); rintro e w' ⟨rfl, rfl⟩)))
  go_ret
  exact ⟨rfl, rfl⟩
theorem rbin_12 (a b : Int) (w : World) : Calls Tryd.prog 20 #[.int .i64 12, .int .i64 a, .int .i64 b] w fun e w' => e = .returned (.int .i64 (binF 12 a b)) ∧ w = w' := by
  have hs := shc_in b
  have hr := rcount b
  go_enter Tryd.func20, Tryd.ntmps20
  go_wp2_with (first
    | (go_at_call 29; ((with_reducible refine (rdiv_any _ _ _).mono ?_); rintro e w' ⟨rfl, rfl⟩))
    | (go_at_call 30; ((with_reducible refine (rbool_any _ _).mono ?_); rintro e w' ⟨rfl, rfl⟩)))
  go_ret
  exact ⟨rfl, rfl⟩
theorem rbin_13 (a b : Int) (w : World) : Calls Tryd.prog 20 #[.int .i64 13, .int .i64 a, .int .i64 b] w fun e w' => e = .returned (.int .i64 (binF 13 a b)) ∧ w = w' := by
  have hs := shc_in b
  have hr := rcount b
  go_enter Tryd.func20, Tryd.ntmps20
  go_wp2_with (first
    | (go_at_call 29; ((with_reducible refine (rdiv_any _ _ _).mono ?_); rintro e w' ⟨rfl, rfl⟩))
    | (go_at_call 30; ((with_reducible refine (rbool_any _ _).mono ?_); rintro e w' ⟨rfl, rfl⟩)))
  go_ret
  exact ⟨rfl, rfl⟩
theorem rbin_14 (a b : Int) (w : World) : Calls Tryd.prog 20 #[.int .i64 14, .int .i64 a, .int .i64 b] w fun e w' => e = .returned (.int .i64 (binF 14 a b)) ∧ w = w' := by
  have hs := shc_in b
  have hr := rcount b
  go_enter Tryd.func20, Tryd.ntmps20
  go_wp2_with (first
    | (go_at_call 29; ((with_reducible refine (rdiv_any _ _ _).mono ?_); rintro e w' ⟨rfl, rfl⟩))
    | (go_at_call 30; ((with_reducible refine (rbool_any _ _).mono ?_); rintro e w' ⟨rfl, rfl⟩)))
  go_ret
  exact ⟨rfl, rfl⟩
theorem rbin_15 (a b : Int) (w : World) : Calls Tryd.prog 20 #[.int .i64 15, .int .i64 a, .int .i64 b] w fun e w' => e = .returned (.int .i64 (binF 15 a b)) ∧ w = w' := by
  have hs := shc_in b
  have hr := rcount b
  go_enter Tryd.func20, Tryd.ntmps20
  go_wp2_with (first
    | (go_at_call 29; ((with_reducible refine (rdiv_any _ _ _).mono ?_); rintro e w' ⟨rfl, rfl⟩))
    | (go_at_call 30; ((with_reducible refine (rbool_any _ _).mono ?_); rintro e w' ⟨rfl, rfl⟩)))
  go_ret
  exact ⟨rfl, rfl⟩
theorem rbin_16 (a b : Int) (w : World) : Calls Tryd.prog 20 #[.int .i64 16, .int .i64 a, .int .i64 b] w fun e w' => e = .returned (.int .i64 (binF 16 a b)) ∧ w = w' := by
  have hs := shc_in b
  have hr := rcount b
  go_enter Tryd.func20, Tryd.ntmps20
  go_wp2_with (first
    | (go_at_call 29; ((with_reducible refine (rdiv_any _ _ _).mono ?_); rintro e w' ⟨rfl, rfl⟩))
    | (go_at_call 30; ((with_reducible refine (rbool_any _ _).mono ?_); rintro e w' ⟨rfl, rfl⟩)))
  go_ret
  exact ⟨rfl, rfl⟩
theorem rbin_17 (a b : Int) (w : World) : Calls Tryd.prog 20 #[.int .i64 17, .int .i64 a, .int .i64 b] w fun e w' => e = .returned (.int .i64 (binF 17 a b)) ∧ w = w' := by
  have hs := shc_in b
  have hr := rcount b
  go_enter Tryd.func20, Tryd.ntmps20
  go_wp2_with (first
    | (go_at_call 29; ((with_reducible refine (rdiv_any _ _ _).mono ?_); rintro e w' ⟨rfl, rfl⟩))
    | (go_at_call 30; ((with_reducible refine (rbool_any _ _).mono ?_); rintro e w' ⟨rfl, rfl⟩)))
  go_ret
  exact ⟨rfl, rfl⟩
theorem rbin_18 (a b : Int) (w : World) : Calls Tryd.prog 20 #[.int .i64 18, .int .i64 a, .int .i64 b] w fun e w' => e = .returned (.int .i64 (binF 18 a b)) ∧ w = w' := by
  have hs := shc_in b
  have hr := rcount b
  go_enter Tryd.func20, Tryd.ntmps20
  go_wp2_with (first
    | (go_at_call 29; ((with_reducible refine (rdiv_any _ _ _).mono ?_); rintro e w' ⟨rfl, rfl⟩))
    | (go_at_call 30; ((with_reducible refine (rbool_any _ _).mono ?_); rintro e w' ⟨rfl, rfl⟩)))
  go_ret
  exact ⟨rfl, rfl⟩
theorem rbin_19 (a b : Int) (w : World) : Calls Tryd.prog 20 #[.int .i64 19, .int .i64 a, .int .i64 b] w fun e w' => e = .returned (.int .i64 (binF 19 a b)) ∧ w = w' := by
  have hs := shc_in b
  have hr := rcount b
  go_enter Tryd.func20, Tryd.ntmps20
  go_wp2_with (first
    | (go_at_call 29; ((with_reducible refine (rdiv_any _ _ _).mono ?_); rintro e w' ⟨rfl, rfl⟩))
    | (go_at_call 30; ((with_reducible refine (rbool_any _ _).mono ?_); rintro e w' ⟨rfl, rfl⟩)))
  go_ret
  exact ⟨rfl, rfl⟩
theorem rbin_8z (a : Int) (w : World) : Calls Tryd.prog 20 #[.int .i64 8, .int .i64 a, .int .i64 0] w fun e w' => e = .returned (.int .i64 (binF 8 a 0)) ∧ w = w' := by
  rw [rem0]
  go_enter Tryd.func20, Tryd.ntmps20
  go_wp2_with fail
  go_ret
  exact ⟨rfl, rfl⟩
theorem rbin_8 (a b : Int) (ha : inW a) (w : World) : Calls Tryd.prog 20 #[.int .i64 8, .int .i64 a, .int .i64 b] w fun e w' => e = .returned (.int .i64 (binF 8 a b)) ∧ w = w' := by
  by_cases hb : b = 0
  · subst hb; exact rbin_8z a w
  have e1 : wrap64 (a - wrap64 (divF a b * b)) = binF 8 a b := by rw [b8]; exact rrem a b ha hb
  have hs := shc_in b
  have hr := rcount b
  have g0 : (b == 0) = false := by simpa using hb
  clear ha hb
  go_enter Tryd.func20, Tryd.ntmps20
  go_wp2_with (first
    | (go_at_call 29; ((with_reducible refine (rdiv_any _ _ _).mono ?_); rintro e w' ⟨rfl, rfl⟩))
    | (go_at_call 30; ((with_reducible refine (rbool_any _ _).mono ?_); rintro e w' ⟨rfl, rfl⟩)))
  go_ret
  exact ⟨by rw [← e1]; rfl, rfl⟩
theorem rbin_any (op a b : Int) (ha : inW a) (w : World) : Calls Tryd.prog 20 #[.int .i64 op, .int .i64 a, .int .i64 b] w fun e w' => e = .returned (.int .i64 (binF op a b)) ∧ w = w' := by
  by_cases h4 : op = 4
  · subst h4; exact rbin_4 a b w
  by_cases h5 : op = 5
  · subst h5; exact rbin_5 a b w
  by_cases h6 : op = 6
  · subst h6; exact rbin_6 a b w
  by_cases h7 : op = 7
  · subst h7; exact rbin_7 a b w
  by_cases h8 : op = 8
  · subst h8; exact rbin_8 a b ha w
  by_cases h9 : op = 9
  · subst h9; exact rbin_9 a b w
  by_cases h10 : op = 10
  · subst h10; exact rbin_10 a b w
  by_cases h11 : op = 11
  · subst h11; exact rbin_11 a b w
  by_cases h12 : op = 12
  · subst h12; exact rbin_12 a b w
  by_cases h13 : op = 13
  · subst h13; exact rbin_13 a b w
  by_cases h14 : op = 14
  · subst h14; exact rbin_14 a b w
  by_cases h15 : op = 15
  · subst h15; exact rbin_15 a b w
  by_cases h16 : op = 16
  · subst h16; exact rbin_16 a b w
  by_cases h17 : op = 17
  · subst h17; exact rbin_17 a b w
  by_cases h18 : op = 18
  · subst h18; exact rbin_18 a b w
  by_cases h19 : op = 19
  · subst h19; exact rbin_19 a b w
  have hz : binF op a b = 0 := bin_other op a b (by omega)
  rw [hz]
  have hs := shc_in b
  have hr := rcount b
  have g4 : (op == 4) = false := by simpa using h4
  have g5 : (op == 5) = false := by simpa using h5
  have g6 : (op == 6) = false := by simpa using h6
  have g7 : (op == 7) = false := by simpa using h7
  have g8 : (op == 8) = false := by simpa using h8
  have g9 : (op == 9) = false := by simpa using h9
  have g10 : (op == 10) = false := by simpa using h10
  have g11 : (op == 11) = false := by simpa using h11
  have g12 : (op == 12) = false := by simpa using h12
  have g13 : (op == 13) = false := by simpa using h13
  have g14 : (op == 14) = false := by simpa using h14
  have g15 : (op == 15) = false := by simpa using h15
  have g16 : (op == 16) = false := by simpa using h16
  have g17 : (op == 17) = false := by simpa using h17
  have g18 : (op == 18) = false := by simpa using h18
  have g19 : (op == 19) = false := by simpa using h19
  clear h4
  clear h5
  clear h6
  clear h7
  clear h8
  clear h9
  clear h10
  clear h11
  clear h12
  clear h13
  clear h14
  clear h15
  clear h16
  clear h17
  clear h18
  clear h19
  clear hz ha
  go_enter Tryd.func20, Tryd.ntmps20
  go_wp2_with fail
  go_ret
  exact ⟨rfl, rfl⟩
end Go.Proofs.YtpbndfnokcmnhaaDoor
