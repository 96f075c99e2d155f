/- Stage 3: the walks of primary and prefixed. -/
import Derived.Test.YtjeidpfpgolonaaDoorPe
namespace Go.Proofs.YtjeidpfpgolonaaDoor
open Go.RowKit (wrap64 intOf)
open Go Go.RowKit WM LX PX

set_option maxRecDepth 100000
set_option maxHeartbeats 2000000
theorem primary_step (ts : List Tk) (p n : Nat) (hex : WEx ts p n) : WPi ts p (n + 1) := by
  intro s q w hq hm h
  have hq := hq.out
  rw [piF] at hq
  have o := Own.start h 45 ex0
  have HEX := Lib.hid hex
  have kf := tokF0
  obtain ⟨t, ht⟩ : ∃ t, pk ts s = t := ⟨_, rfl⟩
  have HT := Lib.hid ht
  rw [ht] at hq
  clear hex h
  by_cases hk2 : t.kind = 2
  · rw [if_pos hk2] at hq
    have hk1 : ((t.kind : Int) == 2) = true := by rw [beq_iff_eq]; omega
    have HQ := Lib.hid hq
    have HQ2 : Hid ((if parseB (pk ts s).text = true then (numE (parseV (pk ts s).text), adv s) else (emE, fl s)) = q) := Lib.hid (by rw [ht]; exact HQ.out)
    clear hk2 hq ht
    go_enter Tryd.func114, Tryd.ntmps114
    go_wp2_with fail
    refine (peek_any ts p s t HT _ o.s).mono ?_
    rintro e w1 ⟨rfl, hb1⟩
    replace o := o.low hb1
    clear hb1
    go_wp2_with fail
    refine (constant_any ts p s q HQ2 _ o.s).mono ?_
    rintro e w2 ⟨kd, nn, nm, op, A, L, c, rfl, hr, hg, hp⟩
    have hl := o.sz
    replace o := o.acc hg hp
    replace hr := hr.mono (lo' := w.heap.size + 1) hl (Nat.le_refl _)
    clear hg hp
    obtain ⟨r0, r1, r2, r3, r4, f0, f1, f2, f3, f4⟩ := o.ok
    have HR := Lib.hid hr
    clear hr
    go_wp2_with fail
    obtain ⟨hk, hx⟩ := o.fin HR.out
    obtain ⟨q0, q1, q2, q3, q4, _⟩ := hk.cells5
    exact bodyPost_ret (v := exV kd nn nm op A L c) (by simp [results, Tryd.results114, go_sem, q0, q1, q2, q3, q4]) rfl hx
  · rw [if_neg hk2] at hq
    have hk1 : ((t.kind : Int) == 2) = false := by rw [beq_eq_false_iff_ne]; omega
    clear hk2 ht
    by_cases hx : nx ts s cLp = true
    · rw [if_pos hx] at hq
      have hmv := ms_adv (nx_len (by decide) hx)
      have HX := Lib.hid hx
      obtain ⟨⟨cpe, s1⟩, hc⟩ : ∃ x, exF ts n (adv s) = x := ⟨_, rfl⟩
      have HC := Lib.hid hc
      rw [hc] at hq
      dsimp only at hq
      obtain ⟨s2, hs2⟩ : ∃ x, exs ts s1 cRp = x := ⟨_, rfl⟩
      have HS2 := Lib.hid hs2
      rw [hs2] at hq
      subst hq
      have hA : 5 * ms ts (adv s) + 4 ≤ n := by omega
      clear hx hc hs2 hmv hm
      go_enter Tryd.func114, Tryd.ntmps114
      go_wp2_with fail
      refine (peek_any ts p s t HT _ o.s).mono ?_
      rintro e w1 ⟨rfl, hb1⟩
      replace o := o.low hb1
      clear hb1
      go_wp2_with fail
      refine (accept_yes ts p s cLp (by decide) HX _ o.s).mono ?_
      rintro e w2 ⟨rfl, hg, hp⟩
      replace o := o.acc hg hp
      clear hg hp
      go_wp2_with fail
      refine (HEX.out (adv s) _ _ HC hA o.s).mono ?_
      rintro e w3 ⟨kd, nn, nm, op, A, L, c, rfl, hr, hg, hp⟩
      have x1 := Hold.start hr o hg.size 45
      replace o := (o.acc hg hp).al (.cells #[.int .i64 kd, .int .i64 nn, .string ⟨nm.toArray⟩, .int .i64 op, .slice A L c] 45)
      clear hg hp hr
      go_wp2_with fail
      refine (expect_any ts p s1 s2 cRp (by decide) HS2 _ o.s).mono ?_
      rintro e w4 ⟨rfl, hg, hp⟩
      replace o := o.acc hg hp
      replace x1 := x1.acc hg
      clear hg hp
      obtain ⟨r0, r1, r2, r3, r4, f0, f1, f2, f3, f4⟩ := o.ok
      obtain ⟨k0, k1, k2, k3, k4, _⟩ := x1.k.cells5
      go_wp2_with fail
      obtain ⟨hk, hx⟩ := o.fin x1.out
      obtain ⟨q0, q1, q2, q3, q4, _⟩ := hk.cells5
      exact bodyPost_ret (v := exV kd nn nm op A L c) (by simp [results, Tryd.results114, go_sem, q0, q1, q2, q3, q4]) rfl hx
    · rw [if_neg hx] at hq
      have HX := Lib.hid (show nx ts s cLp = false by simpa using hx)
      obtain ⟨nm0, hv⟩ : ∃ x, nmV ts s = x := ⟨_, rfl⟩
      obtain ⟨s1, hs1⟩ : ∃ x, nmS ts s = x := ⟨_, rfl⟩
      have HV := Lib.hid hv
      have HS1 := Lib.hid hs1
      have hm1 := ms_nmS (ts := ts) s
      rw [hv, hs1] at hq
      rw [hs1] at hm1
      clear hx hv hs1
      by_cases hy : nx ts s1 cLb = true
      · rw [if_pos hy] at hq
        have hmv := ms_adv (nx_len (by decide) hy)
        have HY := Lib.hid hy
        have HQ : Hid (elF ts n nm0 (adv s1) = q) := Lib.hid hq
        have hA : 5 * ms ts (adv s1) + 4 ≤ n := by omega
        clear hy hq hmv hm hm1
        go_enter Tryd.func114, Tryd.ntmps114
        go_wp2_with fail
        refine (peek_any ts p s t HT _ o.s).mono ?_
        rintro e w1 ⟨rfl, hb1⟩
        replace o := o.low hb1
        clear hb1
        go_wp2_with fail
        refine (accept_no ts p s cLp HX _ o.s).mono ?_
        rintro e w2 ⟨rfl, hg, hp⟩
        replace o := o.acc hg hp
        clear hg hp
        go_wp2_with fail
        refine (name_any ts p s s1 nm0 HV HS1 _ o.s).mono ?_
        rintro e w3 ⟨rfl, hg, hp⟩
        replace o := o.acc hg hp
        clear hg hp
        go_wp2_with fail
        refine (accept_yes ts p s1 cLb (by decide) HY _ o.s).mono ?_
        rintro e w4 ⟨rfl, hg, hp⟩
        replace o := o.acc hg hp
        clear hg hp
        go_wp2_with fail
        refine (element_step ts p n HEX.out nm0 (adv s1) q _ HQ hA o.s).mono ?_
        rintro e w5 ⟨kd, nn, nm, op, A, L, c, rfl, hr, hg, hp⟩
        have hl := o.sz
        replace o := o.acc hg hp
        replace hr := hr.mono (lo' := w.heap.size + 1) hl (Nat.le_refl _)
        clear hg hp
        obtain ⟨r0, r1, r2, r3, r4, f0, f1, f2, f3, f4⟩ := o.ok
        have HR := Lib.hid hr
        clear hr
        go_wp2_with fail
        obtain ⟨hk, hx⟩ := o.fin HR.out
        obtain ⟨q0, q1, q2, q3, q4, _⟩ := hk.cells5
        exact bodyPost_ret (v := exV kd nn nm op A L c) (by simp [results, Tryd.results114, go_sem, q0, q1, q2, q3, q4]) rfl hx
      · rw [if_neg hy] at hq
        subst hq
        have HY := Lib.hid (show nx ts s1 cLb = false by simpa using hy)
        clear hy
        go_enter Tryd.func114, Tryd.ntmps114
        go_wp2_with fail
        refine (peek_any ts p s t HT _ o.s).mono ?_
        rintro e w1 ⟨rfl, hb1⟩
        replace o := o.low hb1
        clear hb1
        go_wp2_with fail
        refine (accept_no ts p s cLp HX _ o.s).mono ?_
        rintro e w2 ⟨rfl, hg, hp⟩
        replace o := o.acc hg hp
        clear hg hp
        go_wp2_with fail
        refine (name_any ts p s s1 nm0 HV HS1 _ o.s).mono ?_
        rintro e w3 ⟨rfl, hg, hp⟩
        replace o := o.acc hg hp
        clear hg hp
        go_wp2_with fail
        refine (accept_no ts p s1 cLb HY _ o.s).mono ?_
        rintro e w4 ⟨rfl, hg, hp⟩
        replace o := o.acc hg hp
        clear hg hp
        obtain ⟨r0, r1, r2, r3, r4, f0, f1, f2, f3, f4⟩ := o.ok
        go_wp2_with fail
        obtain ⟨hk, hx⟩ := o.fin (repE_leaf _ _ 2 0 nm0 0 none 0)
        obtain ⟨q0, q1, q2, q3, q4, _⟩ := hk.cells5
        exact bodyPost_ret (v := exV 2 0 nm0 0 none 0 0) (by simp [results, Tryd.results114, go_sem, q0, q1, q2, q3, q4]) rfl hx
/-- One kid under an operation. -/
theorem prefixed_step (ts : List Tk) (p n : Nat) (hpr : WPr ts p n) (hpi : WPi ts p n) : WPr ts p (n + 1) := by
  intro s q w hq hm h
  have hq := hq.out
  rw [prF] at hq
  have o := Own.start h 45 ex0
  have HPR := Lib.hid hpr
  have HPI := Lib.hid hpi
  have kf := tokF0
  clear hpr hpi h
  by_cases hx : nx ts s cMinus = true
  · rw [if_pos hx] at hq
    have hmv := ms_adv (nx_len (by decide) hx)
    have HX := Lib.hid hx
    obtain ⟨t, ht⟩ : ∃ t, pk ts (adv s) = t := ⟨_, rfl⟩
    have HT := Lib.hid ht
    rw [ht] at hq
    clear hx ht
    by_cases hk2 : t.kind = 2
    · rw [if_pos hk2] at hq
      subst hq
      have hk1 : ((t.kind : Int) == 2) = true := by rw [beq_iff_eq]; omega
      have HK2 := Lib.hid hk2
      clear hk2 hmv
      go_enter Tryd.func102, Tryd.ntmps102
      go_wp2_with fail
      refine (accept_yes ts p s cMinus (by decide) HX _ o.s).mono ?_
      rintro e w1 ⟨rfl, hg, hp⟩
      replace o := o.acc hg hp
      clear hg hp
      go_wp2_with fail
      refine (peek_any ts p (adv s) t HT _ o.s).mono ?_
      rintro e w2 ⟨rfl, hb1⟩
      replace o := o.low hb1
      clear hb1
      go_wp2_with fail
      refine (negative_any ts p (adv s) t HK2.out HT _ o.s).mono ?_
      rintro e w3 ⟨kd, nn, nm, op, A, L, c, rfl, hr, hg, hp⟩
      have hl := o.sz
      replace o := o.acc hg hp
      replace hr := hr.mono (lo' := w.heap.size + 1) hl (Nat.le_refl _)
      clear hg hp
      obtain ⟨r0, r1, r2, r3, r4, f0, f1, f2, f3, f4⟩ := o.ok
      have HR := Lib.hid hr
      clear hr
      go_wp2_with fail
      obtain ⟨hk, hx⟩ := o.fin HR.out
      obtain ⟨q0, q1, q2, q3, q4, _⟩ := hk.cells5
      exact bodyPost_ret (v := exV kd nn nm op A L c) (by simp [results, Tryd.results102, go_sem, q0, q1, q2, q3, q4]) rfl hx
    · rw [if_neg hk2] at hq
      have hk1 : ((t.kind : Int) == 2) = false := by rw [beq_eq_false_iff_ne]; omega
      obtain ⟨⟨cpe, s1⟩, hc⟩ : ∃ x, prF ts n (adv s) = x := ⟨_, rfl⟩
      have HC := Lib.hid hc
      rw [hc] at hq
      dsimp only at hq
      subst hq
      have hA : 5 * ms ts (adv s) + 2 ≤ n := by omega
      clear hk2 hmv hc hm
      go_enter Tryd.func102, Tryd.ntmps102
      go_wp2_with fail
      refine (accept_yes ts p s cMinus (by decide) HX _ o.s).mono ?_
      rintro e w1 ⟨rfl, hg, hp⟩
      replace o := o.acc hg hp
      clear hg hp
      go_wp2_with fail
      refine (peek_any ts p (adv s) t HT _ o.s).mono ?_
      rintro e w2 ⟨rfl, hb1⟩
      replace o := o.low hb1
      clear hb1
      go_wp2_with fail
      refine (HPR.out (adv s) _ _ HC hA o.s).mono ?_
      rintro e w4 ⟨kd, nn, nm, op, A, L, c, rfl, hr, hg, hp⟩
      have hl := o.sz
      replace o := (o.acc hg hp).al (.cells #[.int .i64 kd, .int .i64 nn, .string ⟨nm.toArray⟩, .int .i64 op, .slice A L c] 45)
      have hl2 := hg.size
      replace hr := (hr.alloc (Nat.le_refl _) (.cells #[.int .i64 kd, .int .i64 nn, .string ⟨nm.toArray⟩, .int .i64 op, .slice A L c] 45)).mono (lo' := w.heap.size + 1) hl (Nat.le_of_lt (show w4.heap.size < (w4.alloc (.cells #[.int .i64 kd, .int .i64 nn, .string ⟨nm.toArray⟩, .int .i64 op, .slice A L c] 45)).heap.size by simp))
      have HR : Hid (RepE (w4.alloc (.cells #[.int .i64 kd, .int .i64 nn, .string ⟨nm.toArray⟩, .int .i64 op, .slice A L c] 45)) (Rg (w.heap.size + 1) (w4.alloc (.cells #[.int .i64 kd, .int .i64 nn, .string ⟨nm.toArray⟩, .int .i64 op, .slice A L c] 45)).heap.size) (opE 20 [cpe]) (exC 4 0 [] 20 (some ⟨w4.heap.size, 0, none⟩) 1 1)) := Lib.hid (repE_1 (c := 1) (Blk.new w4 _ _) rfl ⟨by omega, by simp⟩ hr rfl 4 0 [] 20)
      clear hg hp hr
      go_wp2_with fail
      refine (operation_any 20 _ 1 1 _).mono ?_
      rintro e w5 ⟨rfl, hb1⟩
      replace o := o.low hb1
      have HR2 := Lib.hid ((HR.out.under hb1 (Nat.le_refl _)).mono (Nat.le_refl _) hb1.size)
      clear hb1 HR
      obtain ⟨r0, r1, r2, r3, r4, f0, f1, f2, f3, f4⟩ := o.ok
      go_wp2_with fail
      obtain ⟨hk, hx⟩ := o.fin HR2.out
      obtain ⟨q0, q1, q2, q3, q4, _⟩ := hk.cells5
      exact bodyPost_ret (v := exV 4 0 [] 20 (some ⟨w4.heap.size, 0, none⟩) 1 1) (by simp [results, Tryd.results102, go_sem, q0, q1, q2, q3, q4]) rfl hx
  · rw [if_neg hx] at hq
    have HX := Lib.hid (show nx ts s cMinus = false by simpa using hx)
    clear hx
    by_cases hy : nx ts s cTilde = true
    · rw [if_pos hy] at hq
      have hmv := ms_adv (nx_len (by decide) hy)
      have HY := Lib.hid hy
      obtain ⟨⟨cpe, s1⟩, hc⟩ : ∃ x, prF ts n (adv s) = x := ⟨_, rfl⟩
      have HC := Lib.hid hc
      rw [hc] at hq
      dsimp only at hq
      subst hq
      have hA : 5 * ms ts (adv s) + 2 ≤ n := by omega
      clear hy hmv hc hm
      go_enter Tryd.func102, Tryd.ntmps102
      go_wp2_with fail
      refine (accept_no ts p s cMinus HX _ o.s).mono ?_
      rintro e w1 ⟨rfl, hg, hp⟩
      replace o := o.acc hg hp
      clear hg hp
      go_wp2_with fail
      refine (accept_yes ts p s cTilde (by decide) HY _ o.s).mono ?_
      rintro e w2 ⟨rfl, hg, hp⟩
      replace o := o.acc hg hp
      clear hg hp
      go_wp2_with fail
      refine (HPR.out (adv s) _ _ HC hA o.s).mono ?_
      rintro e w4 ⟨kd, nn, nm, op, A, L, c, rfl, hr, hg, hp⟩
      have hl := o.sz
      replace o := (o.acc hg hp).al (.cells #[.int .i64 kd, .int .i64 nn, .string ⟨nm.toArray⟩, .int .i64 op, .slice A L c] 45)
      have hl2 := hg.size
      replace hr := (hr.alloc (Nat.le_refl _) (.cells #[.int .i64 kd, .int .i64 nn, .string ⟨nm.toArray⟩, .int .i64 op, .slice A L c] 45)).mono (lo' := w.heap.size + 1) hl (Nat.le_of_lt (show w4.heap.size < (w4.alloc (.cells #[.int .i64 kd, .int .i64 nn, .string ⟨nm.toArray⟩, .int .i64 op, .slice A L c] 45)).heap.size by simp))
      have HR : Hid (RepE (w4.alloc (.cells #[.int .i64 kd, .int .i64 nn, .string ⟨nm.toArray⟩, .int .i64 op, .slice A L c] 45)) (Rg (w.heap.size + 1) (w4.alloc (.cells #[.int .i64 kd, .int .i64 nn, .string ⟨nm.toArray⟩, .int .i64 op, .slice A L c] 45)).heap.size) (opE 21 [cpe]) (exC 4 0 [] 21 (some ⟨w4.heap.size, 0, none⟩) 1 1)) := Lib.hid (repE_1 (c := 1) (Blk.new w4 _ _) rfl ⟨by omega, by simp⟩ hr rfl 4 0 [] 21)
      clear hg hp hr
      go_wp2_with fail
      refine (operation_any 21 _ 1 1 _).mono ?_
      rintro e w5 ⟨rfl, hb1⟩
      replace o := o.low hb1
      have HR2 := Lib.hid ((HR.out.under hb1 (Nat.le_refl _)).mono (Nat.le_refl _) hb1.size)
      clear hb1 HR
      obtain ⟨r0, r1, r2, r3, r4, f0, f1, f2, f3, f4⟩ := o.ok
      go_wp2_with fail
      obtain ⟨hk, hx⟩ := o.fin HR2.out
      obtain ⟨q0, q1, q2, q3, q4, _⟩ := hk.cells5
      exact bodyPost_ret (v := exV 4 0 [] 21 (some ⟨w4.heap.size, 0, none⟩) 1 1) (by simp [results, Tryd.results102, go_sem, q0, q1, q2, q3, q4]) rfl hx
    · rw [if_neg hy] at hq
      have HY := Lib.hid (show nx ts s cTilde = false by simpa using hy)
      clear hy
      by_cases hz : nx ts s cBang = true
      · rw [if_pos hz] at hq
        have hmv := ms_adv (nx_len (by decide) hz)
        have HZ := Lib.hid hz
        obtain ⟨⟨cpe, s1⟩, hc⟩ : ∃ x, prF ts n (adv s) = x := ⟨_, rfl⟩
        have HC := Lib.hid hc
        rw [hc] at hq
        dsimp only at hq
        subst hq
        have hA : 5 * ms ts (adv s) + 2 ≤ n := by omega
        clear hz hmv hc hm
        go_enter Tryd.func102, Tryd.ntmps102
        go_wp2_with fail
        refine (accept_no ts p s cMinus HX _ o.s).mono ?_
        rintro e w1 ⟨rfl, hg, hp⟩
        replace o := o.acc hg hp
        clear hg hp
        go_wp2_with fail
        refine (accept_no ts p s cTilde HY _ o.s).mono ?_
        rintro e w2 ⟨rfl, hg, hp⟩
        replace o := o.acc hg hp
        clear hg hp
        go_wp2_with fail
        refine (accept_yes ts p s cBang (by decide) HZ _ o.s).mono ?_
        rintro e w3 ⟨rfl, hg, hp⟩
        replace o := o.acc hg hp
        clear hg hp
        go_wp2_with fail
        refine (HPR.out (adv s) _ _ HC hA o.s).mono ?_
        rintro e w4 ⟨kd, nn, nm, op, A, L, c, rfl, hr, hg, hp⟩
        have hl := o.sz
        replace o := (o.acc hg hp).al (.cells #[.int .i64 kd, .int .i64 nn, .string ⟨nm.toArray⟩, .int .i64 op, .slice A L c, .int .i64 1, .int .i64 0, .string ⟨#[]⟩, .int .i64 0, .slice none 0 0] 45)
        have hl2 := hg.size
        replace hr := (hr.alloc (Nat.le_refl _) (.cells #[.int .i64 kd, .int .i64 nn, .string ⟨nm.toArray⟩, .int .i64 op, .slice A L c, .int .i64 1, .int .i64 0, .string ⟨#[]⟩, .int .i64 0, .slice none 0 0] 45)).mono (lo' := w.heap.size + 1) hl (Nat.le_of_lt (show w4.heap.size < (w4.alloc (.cells #[.int .i64 kd, .int .i64 nn, .string ⟨nm.toArray⟩, .int .i64 op, .slice A L c, .int .i64 1, .int .i64 0, .string ⟨#[]⟩, .int .i64 0, .slice none 0 0] 45)).heap.size by simp))
        have HR : Hid (RepE (w4.alloc (.cells #[.int .i64 kd, .int .i64 nn, .string ⟨nm.toArray⟩, .int .i64 op, .slice A L c, .int .i64 1, .int .i64 0, .string ⟨#[]⟩, .int .i64 0, .slice none 0 0] 45)) (Rg (w.heap.size + 1) (w4.alloc (.cells #[.int .i64 kd, .int .i64 nn, .string ⟨nm.toArray⟩, .int .i64 op, .slice A L c, .int .i64 1, .int .i64 0, .string ⟨#[]⟩, .int .i64 0, .slice none 0 0] 45)).heap.size) (opE 15 [cpe, numE 0]) (exC 4 0 [] 15 (some ⟨w4.heap.size, 0, none⟩) 2 2)) := Lib.hid (repE_2 (ok := Rg (w.heap.size + 1) (w4.alloc (.cells #[.int .i64 kd, .int .i64 nn, .string ⟨nm.toArray⟩, .int .i64 op, .slice A L c, .int .i64 1, .int .i64 0, .string ⟨#[]⟩, .int .i64 0, .slice none 0 0] 45)).heap.size) (ca := exC kd nn nm op A L c) (cb := exC 1 0 [] 0 none 0 0) (c := 2) (Blk.new w4 45 #[.int .i64 kd, .int .i64 nn, .string ⟨nm.toArray⟩, .int .i64 op, .slice A L c, .int .i64 1, .int .i64 0, .string ⟨#[]⟩, .int .i64 0, .slice none 0 0]) rfl ⟨by omega, by simp⟩ hr (repE_leaf _ _ 1 0 [] 0 none 0) rfl rfl 4 0 [] 15)
        clear hg hp hr
        go_wp2_with fail
        refine (operation_any 15 _ 2 2 _).mono ?_
        rintro e w5 ⟨rfl, hb1⟩
        replace o := o.low hb1
        have HR2 := Lib.hid ((HR.out.under hb1 (Nat.le_refl _)).mono (Nat.le_refl _) hb1.size)
        clear hb1 HR
        obtain ⟨r0, r1, r2, r3, r4, f0, f1, f2, f3, f4⟩ := o.ok
        go_wp2_with fail
        obtain ⟨hk, hx⟩ := o.fin HR2.out
        obtain ⟨q0, q1, q2, q3, q4, _⟩ := hk.cells5
        exact bodyPost_ret (v := exV 4 0 [] 15 (some ⟨w4.heap.size, 0, none⟩) 2 2) (by simp [results, Tryd.results102, go_sem, q0, q1, q2, q3, q4]) rfl hx
      · rw [if_neg hz] at hq
        have HZ := Lib.hid (show nx ts s cBang = false by simpa using hz)
        have HQ := Lib.hid hq
        have hA : 5 * ms ts s + 1 ≤ n := by omega
        clear hz hq hm
        go_enter Tryd.func102, Tryd.ntmps102
        go_wp2_with fail
        refine (accept_no ts p s cMinus HX _ o.s).mono ?_
        rintro e w1 ⟨rfl, hg, hp⟩
        replace o := o.acc hg hp
        clear hg hp
        go_wp2_with fail
        refine (accept_no ts p s cTilde HY _ o.s).mono ?_
        rintro e w2 ⟨rfl, hg, hp⟩
        replace o := o.acc hg hp
        clear hg hp
        go_wp2_with fail
        refine (accept_no ts p s cBang HZ _ o.s).mono ?_
        rintro e w3 ⟨rfl, hg, hp⟩
        replace o := o.acc hg hp
        clear hg hp
        go_wp2_with fail
        refine (HPI.out s q _ HQ hA o.s).mono ?_
        rintro e w4 ⟨kd, nn, nm, op, A, L, c, rfl, hr, hg, hp⟩
        have hl := o.sz
        replace o := o.acc hg hp
        replace hr := hr.mono (lo' := w.heap.size + 1) hl (Nat.le_refl _)
        clear hg hp
        obtain ⟨r0, r1, r2, r3, r4, f0, f1, f2, f3, f4⟩ := o.ok
        have HR := Lib.hid hr
        clear hr
        go_wp2_with fail
        obtain ⟨hk, hx⟩ := o.fin HR.out
        obtain ⟨q0, q1, q2, q3, q4, _⟩ := hk.cells5
        exact bodyPost_ret (v := exV kd nn nm op A L c) (by simp [results, Tryd.results102, go_sem, q0, q1, q2, q3, q4]) rfl hx
end Go.Proofs.YtjeidpfpgolonaaDoor
