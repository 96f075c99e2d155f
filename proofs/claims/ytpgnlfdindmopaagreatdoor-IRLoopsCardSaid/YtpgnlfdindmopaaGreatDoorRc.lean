/- Stage 7: the walks of hasOperandCount, operandSort, resultSort, selectionSort. -/
import Derived.Test.YtpgnlfdindmopaaGreatDoorRb
namespace Go.Proofs.YtpgnlfdindmopaaGreatDoor
open Go.RowKit (wrap64 intOf)
open Go Go.RowKit WM LX PX CX GX

set_option maxRecDepth 100000
set_option maxHeartbeats 4000000
theorem cnt_30 (n : Nat) : cnL 30 n = (decide (1 ≤ n) && decide (n ≤ 7)) := rfl
theorem cnt_31 (n : Nat) : cnL 31 n = (decide (n = 2 * (n / 2) + 1) && (decide (1 ≤ n / 2) && decide (n / 2 ≤ 16))) := rfl
theorem cnt_of {op : Int} (n : Nat) (h : op ≠ 30) (h' : op ≠ 31) : cnL op n = (arB op && decide ((n : Int) = arN op)) := by unfold cnL; rw [if_neg h, if_neg h']
theorem icnt_any (op imm : Int) (A : Option Addr) (n c : Nat) (hn : n ≤ 4611686018427387904) (w : World) : Calls Tryz.prog 137 #[.agg #[.int .i64 op, .int .i64 imm, .slice A n c]] w (RetN (.bool (cnL op n)) w) := by
  have h0 : (0 : Int) ≤ (n : Int) := by omega
  by_cases h30 : op = 30
  · subst h30
    have H := Lib.hid (cnt_30 n)
    obtain ⟨b, hb⟩ : ∃ b, cnL 30 n = b := ⟨_, rfl⟩
    rw [hb] at H ⊢
    clear hb
    go_enter Tryz.func137, Tryz.ntmps137
    go_wp2_with fail
    all_goals
      go_ret
      refine retN (congrArg Value.bool ?_) ((Below.refl _ _).alloc (Nat.le_refl _) _)
      (try simp only [decide_eq_true_eq, decide_eq_false_iff_not, ge_iff_le] at *)
      rw [H.out, Bool.eq_iff_iff]
      simp
      omega
  · by_cases h31 : op = 31
    · subst h31
      have H := Lib.hid (cnt_31 n)
      obtain ⟨b, hb⟩ : ∃ b, cnL 31 n = b := ⟨_, rfl⟩
      rw [hb] at H ⊢
      clear hb h30
      obtain ⟨m, hm⟩ : ∃ m, n / 2 = m := ⟨_, rfl⟩
      have hvc := vc_any 31 imm A n c (by omega) (w.alloc (.cells #[.int .i64 31, .int .i64 imm, .slice A n c] 49))
      rw [hm] at H hvc
      have HM := Lib.hid hm
      have hm2 : (m : Int) ≤ 2305843009213693952 := by omega
      have hm0 : (0 : Int) ≤ (m : Int) := by omega
      have HV := Lib.hid hvc
      clear hvc hm
      go_enter Tryz.func137, Tryz.ntmps137
      go_wp2_with fail
      refine HV.out.mono ?_
      rintro e w2 ⟨rfl, hb2⟩
      have k2 := (Blk.new w 49 #[.int .i64 31, .int .i64 imm, .slice A n c]).on hb2 (by simp)
      obtain ⟨x0, x1, x2, _⟩ := k2.cells3
      have HB := Lib.hid (((Below.refl _ _).alloc (Nat.le_refl _) _).trans (below_down hb2 (by simp)) : Below w.heap.size w w2)
      clear hb2 k2
      go_wp2_with fail
      all_goals
        go_ret
        refine retN (congrArg Value.bool ?_) HB.out
        (try simp only [decide_eq_true_eq, decide_eq_false_iff_not, ge_iff_le, beq_iff_eq, beq_eq_false_iff_ne, ne_eq] at *)
        rw [H.out, Bool.eq_iff_iff]
        simp
        omega
    · have H := Lib.hid (cnt_of n h30 h31)
      obtain ⟨b, hb⟩ : ∃ b, cnL op n = b := ⟨_, rfl⟩
      rw [hb] at H ⊢
      clear hb
      have e1 : (op == 30) = false := beq_eq_false_iff_ne.2 h30
      have e2 : (op == 31) = false := beq_eq_false_iff_ne.2 h31
      clear h30 h31
      obtain ⟨x, hx⟩ : ∃ x, arN op = x := ⟨_, rfl⟩
      obtain ⟨y, hy⟩ : ∃ y, arB op = y := ⟨_, rfl⟩
      have har := ar_any op (w.alloc (.cells #[.int .i64 op, .int .i64 imm, .slice A n c] 49))
      rw [hx, hy] at H har
      have HV := Lib.hid har
      clear har hx hy
      cases y with
      | false =>
        go_enter Tryz.func137, Tryz.ntmps137
        go_wp2_with fail
        refine HV.out.mono ?_
        rintro e w2 ⟨rfl, rfl⟩
        go_wp2_with fail
        go_ret
        exact retN (congrArg Value.bool H.out.symm) ((Below.refl _ _).alloc (Nat.le_refl _) _)
      | true =>
        go_enter Tryz.func137, Tryz.ntmps137
        go_wp2_with fail
        refine HV.out.mono ?_
        rintro e w2 ⟨rfl, rfl⟩
        go_wp2_with fail
        go_ret
        exact retN (congrArg Value.bool (by rw [H.out, Bool.eq_iff_iff]; simp)) ((Below.refl _ _).alloc (Nat.le_refl _) _)
theorem ss_any (a b d : Nat) (w : World) : Calls Tryz.prog 93 #[.int .u8 (a : Int), .int .u8 (b : Int), .int .u8 (d : Int)] w fun e w' => e = .returned (.int .u8 (selS a b d : Int)) ∧ w = w' := by
  obtain ⟨r, hr⟩ : ∃ r, selS a b d = r := ⟨_, rfl⟩
  rw [hr]
  have H := Lib.hid hr
  clear hr
  by_cases h1 : a = 1
  · subst h1
    by_cases h2 : b = d
    · subst h2
      go_enter Tryz.func93, Tryz.ntmps93
      go_wp2_with fail
      all_goals
        go_ret
        refine ⟨ret_u8 ?_, rfl⟩
        try simp only [beq_iff_eq, beq_eq_false_iff_ne, ne_eq] at *
        rw [← H.out]; unfold selS; (repeat' split) <;> omega
    · have e1 : ((b : Int) != (d : Int)) = true := by rw [bne_iff_ne]; omega
      go_enter Tryz.func93, Tryz.ntmps93
      go_wp2_with fail
      all_goals
        go_ret
        refine ⟨ret_u8 ?_, rfl⟩
        rw [← H.out]; unfold selS; (repeat' split) <;> omega
  · have e1 : ((a : Int) != 1) = true := by rw [bne_iff_ne]; omega
    go_enter Tryz.func93, Tryz.ntmps93
    go_wp2_with fail
    all_goals
      go_ret
      refine ⟨ret_u8 ?_, rfl⟩
      rw [← H.out]; unfold selS; (repeat' split) <;> omega
theorem rs_any (op imm : Int) (v : Value) (hi0 : 0 ≤ imm ∨ op ≠ 3) (w : World) : Calls Tryz.prog 96 #[.agg #[.int .i64 op, .int .i64 imm, v]] w (RetN (.int .u8 (resL op imm : Int)) w) := by
  obtain ⟨r, hr⟩ : ∃ r, resL op imm = r := ⟨_, rfl⟩
  rw [hr]
  have H := Lib.hid hr
  have HI := Lib.hid hi0
  clear hr hi0
  have hv1 := fun W => vs_any (imm % 16) W
  have hv2 := fun W => vs_any imm W
  have HV := Lib.hid (And.intro hv1 hv2)
  clear hv1 hv2
  by_cases h3 : op = 3
  · subst h3
    have hi : 0 ≤ imm := HI.out.resolve_right (fun h => h rfl)
    go_enter Tryz.func96, Tryz.ntmps96
    go_wp2_with fail
    refine (HV.out.1 _).mono ?_
    rintro e w' ⟨rfl, rfl⟩
    go_wp2_with fail
    go_ret
    exact retN (by rw [← H.out]; rfl) ((Below.refl _ _).alloc (Nat.le_refl _) _)
  · by_cases h25 : op = 25
    · subst h25
      go_enter Tryz.func96, Tryz.ntmps96
      go_wp2_with fail
      refine (HV.out.2 _).mono ?_
      rintro e w' ⟨rfl, rfl⟩
      go_wp2_with fail
      go_ret
      exact retN (by rw [← H.out]; rfl) ((Below.refl _ _).alloc (Nat.le_refl _) _)
    · have e1 : (op == 3) = false := beq_eq_false_iff_ne.2 h3
      have e2 : (op == 25) = false := beq_eq_false_iff_ne.2 h25
      have HH := Lib.hid (And.intro h3 h25)
      clear h3 h25
      go_enter Tryz.func96, Tryz.ntmps96
      go_wp2_with fail
      all_goals
        go_ret
        refine retN (congrArg (Value.int .u8) ?_) ((Below.refl _ _).alloc (Nat.le_refl _) _)
        obtain ⟨h3, h25⟩ := HH.out
        try simp only [beq_iff_eq, beq_eq_false_iff_ne, ne_eq] at *
        rw [← H.out]; unfold resL; (repeat' split) <;> omega
end Go.Proofs.YtpgnlfdindmopaaGreatDoor
