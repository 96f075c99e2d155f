/- Stage 7: the walks of operandSort and hasEarlierOperands. -/
import Derived.Test.YtpgnlfdindmopaaGreatDoorRc
namespace Go.Proofs.YtpgnlfdindmopaaGreatDoor
open Go.RowKit (wrap64 intOf)
open Go Go.RowKit WM LX PX CX GX

set_option maxRecDepth 100000
set_option maxHeartbeats 4000000
theorem os_any (op imm : Int) (A : Option Addr) (n c at' : Nat) (hn : n ≤ 4611686018427387904) (ha : at' ≤ 4611686018427387904) (w : World) : Calls Tryz.prog 94 #[.agg #[.int .i64 op, .int .i64 imm, .slice A n c], .int .i64 (at' : Int)] w (RetN (.int .u8 (opL op (n / 2) at' : Int)) w) := by
  obtain ⟨m, hm⟩ : ∃ m, n / 2 = m := ⟨_, rfl⟩
  obtain ⟨r, hr⟩ : ∃ r, opL op m at' = r := ⟨_, rfl⟩
  have hvc := vc_any op imm A n c (by omega) (w.alloc (.cells #[.int .i64 op, .int .i64 imm, .slice A n c] 49))
  rw [hm] at hvc ⊢
  rw [hr]
  have hm2 : (m : Int) ≤ 2305843009213693952 := by omega
  have hm0 : (0 : Int) ≤ (m : Int) := by omega
  have ha0 : (0 : Int) ≤ (at' : Int) := by omega
  have H := Lib.hid hr
  clear hr hm
  by_cases h31 : op = 31
  · subst h31
    have HV := Lib.hid hvc
    clear hvc
    by_cases h0 : at' = 0
    · subst h0
      go_enter Tryz.func94, Tryz.ntmps94
      go_wp2_with fail
      go_ret
      exact retN (congrArg (Value.int .u8) (by rw [← H.out]; rfl)) ((Below.refl _ _).alloc (Nat.le_refl _) _)
    · have e0 : ((at' : Int) == 0) = false := beq_eq_false_iff_ne.2 (by omega)
      have HH := Lib.hid h0
      clear h0
      go_enter Tryz.func94, Tryz.ntmps94
      go_wp2_with fail
      refine HV.out.mono ?_
      rintro e w2 ⟨rfl, hb2⟩
      have HB := Lib.hid (((Below.refl _ _).alloc (Nat.le_refl _) _).trans (below_down hb2 (by simp)) : Below w.heap.size w w2)
      clear hb2
      go_wp2_with fail
      all_goals
        go_ret
        refine retN (congrArg (Value.int .u8) ?_) HB.out
        have h0 := HH.out
        try simp only [beq_iff_eq, beq_eq_false_iff_ne, ne_eq] at *
        rw [← H.out]; unfold opL; (repeat' split) <;> omega
  · have e1 : (op == 31) = false := beq_eq_false_iff_ne.2 h31
    have HH := Lib.hid h31
    clear h31 hvc
    go_enter Tryz.func94, Tryz.ntmps94
    go_wp2_with fail
    all_goals
      go_ret
      refine retN (congrArg (Value.int .u8) ?_) ((Below.refl _ _).alloc (Nat.le_refl _) _)
      have h31 := HH.out
      try simp only [beq_iff_eq, beq_eq_false_iff_ne, ne_eq] at *
      rw [← H.out]; unfold opL; (repeat' split) <;> omega
/-- Lists that fit. -/
def Fits (l : List ND) : Prop := l.length ≤ 1000000000000 ∧ ∀ n ∈ l, n.kids.length ≤ 1000000000000
theorem Fits.at {l : List ND} (h : Fits l) {i : Nat} {n : ND} (hx : l[i]? = some n) : n.kids.length ≤ 1000000000000 := h.2 n (List.mem_of_getElem? hx)
theorem getD_of {α : Type} {l : List α} {i : Nat} {x d : α} (h : l[i]? = some x) : l.getD i d = x := by rw [List.getD_eq_getElem?_getD, h]; rfl
theorem eo_any (l : List ND) (v : Value) (w : World) (ok : Nat → Prop) (hl : RepL RepD 3 w ok l v) (hok : ∀ g, ok g → g < w.heap.size) (hf : Fits l) (i : Nat) (hi : i < l.length) :
    Calls Tryz.prog 91 #[v, .int .i64 (i : Int)] w (RetN (.bool (earB (l.getD i nd0) i)) w) := by
  obtain ⟨A, c, rfl, hrow⟩ := hl.at
  obtain ⟨n, hx⟩ : ∃ n, l[i]? = some n := ⟨_, List.getElem?_eq_getElem hi⟩
  have hkl := hf.at hx
  have hll := hf.1
  rw [getD_of hx]
  obtain ⟨g, cs, rfl, hg, hd, hcell⟩ := hrow i n hx
  obtain ⟨op, imm, kids⟩ := n
  obtain ⟨vk, rfl, hki⟩ := hd
  obtain ⟨A', c', rfl, hkid, _⟩ := hki
  dsimp only at hcell hkl hkid
  have hgw := hok g hg
  have x0 : w.cell? ⟨g, i * 3, none⟩ = some (.int .i64 op) := hcell 0 _ rfl
  have x1 : w.cell? ⟨g, i * 3 + 1, none⟩ = some (.int .i64 imm) := hcell 1 _ rfl
  have x2 : w.cell? ⟨g, i * 3 + 2, none⟩ = some (.slice A' kids.length c') := hcell 2 _ rfl
  obtain ⟨L, hL⟩ : ∃ L, l.length = L := ⟨_, rfl⟩
  obtain ⟨m, hm⟩ : ∃ m, kids.length = m := ⟨_, rfl⟩
  have hc := icnt_any op imm A' m c' (by omega) w
  have hear : earB ⟨op, imm, kids⟩ i = (cnL op m && kids.all (inB i)) := by rw [← hm]; rfl
  rw [hear]
  rw [hL] at hi hll ⊢
  rw [hm] at x2 hkl
  have hiL : (i : Int) < (L : Int) := by omega
  have hi0 : (0 : Int) ≤ (i : Int) := by omega
  have HKID := Lib.hid (And.intro hkid hm)
  have HOK := Lib.hid hok
  clear hcell hrow hl hf hL hm hkid hok hear hx hi
  cases hq : cnL op m with
  | false =>
    rw [hq] at hc
    rw [Bool.false_and]
    have HC := Lib.hid hc
    clear hc hq
    go_enter Tryz.func91, Tryz.ntmps91
    go_wp2_with fail
    refine HC.out.mono ?_
    rintro e w2 ⟨rfl, hb⟩
    have HB := Lib.hid hb
    clear hb
    go_wp2_with fail
    go_ret
    exact retN rfl HB.out
  | true =>
    rw [hq] at hc
    rw [Bool.true_and]
    obtain ⟨b, hb⟩ : ∃ b, kids.all (inB i) = b := ⟨_, rfl⟩
    rw [hb]
    have HBB := Lib.hid hb
    have HC := Lib.hid hc
    clear hc hq hb
    go_enter Tryz.func91, Tryz.ntmps91
    go_wp2_with fail
    refine HC.out.mono ?_
    rintro e w2 ⟨rfl, hb⟩
    have y0 := (hb.cell (p := ⟨g, i * 3, none⟩) hgw).trans x0
    have y1 := (hb.cell (p := ⟨g, i * 3 + 1, none⟩) hgw).trans x1
    have y2 := (hb.cell (p := ⟨g, i * 3 + 2, none⟩) hgw).trans x2
    have HB := Lib.hid hb
    clear hb x0 x1 x2
    go_wp2_with fail
    go_loop [19] (fun u => ∃ j : Nat, j ≤ m ∧ u = .int .i64 (j : Int) ∧ Hid (∀ (q : Nat) (x : Int), q < j → kids[q]? = some x → inB i x = true)) (fun u => m - (intOf u).toNat)
    case atStart => exact ⟨0, Nat.zero_le _, rfl, Lib.hid (fun q x h => absurd h (Nat.not_lt_zero _))⟩
    case round =>
      obtain ⟨j, hj, rfl, HR⟩ := hrel
      by_cases hlt : j < m
      · obtain ⟨hkid, hm⟩ := HKID.out
        obtain ⟨x, hx⟩ : ∃ x, kids[j]? = some x := ⟨_, List.getElem?_eq_getElem (by omega)⟩
        obtain ⟨g', o, rfl, hg', hcx⟩ := hkid j x hx
        have z0 : w2.cell? ⟨g', o + j, none⟩ = some (.int .i64 x) := (HB.out.cell (p := ⟨g', o + j, none⟩) (HOK.out _ hg')).trans hcx
        have e1 : (j : Int) < (m : Int) := by omega
        have HX := Lib.hid hx
        clear hkid hm hcx hx
        by_cases hin : 0 ≤ x ∧ x < (i : Int)
        · obtain ⟨h1, h2⟩ := hin
          go_wp2_with fail
          go_round
          case rel => exact ⟨j + 1, by omega, by go_num, Lib.hid (ev_step HR.out HX.out (by unfold inB; rw [decide_eq_true h1, decide_eq_true h2]; rfl))⟩
          case measure => simp [intOf]; omega
        · have hf : inB i x = false := by unfold inB; rw [Bool.eq_false_iff]; simp; omega
          have HF := Lib.hid (all_upto (inB i) kids j x HX.out hf)
          clear hf
          by_cases h1 : 0 ≤ x
          · have h2 : (i : Int) ≤ x := by omega
            clear hin
            go_wp2_with fail
            go_ret
            exact retN (congrArg Value.bool (HF.out.symm.trans HBB.out)) HB.out
          · have h2 : x < 0 := by omega
            clear hin h1
            go_wp2_with fail
            go_ret
            exact retN (congrArg Value.bool (HF.out.symm.trans HBB.out)) HB.out
      · obtain rfl : j = m := by omega
        have HA := Lib.hid (all_done (inB i) kids (fun q x hx => HR.out q x (by have := (List.getElem?_eq_some_iff.1 hx).1; have := HKID.out.2; omega) hx))
        go_wp2_with fail
        go_ret
        exact retN (congrArg Value.bool (HA.out.symm.trans HBB.out)) HB.out
end Go.Proofs.YtpgnlfdindmopaaGreatDoor
