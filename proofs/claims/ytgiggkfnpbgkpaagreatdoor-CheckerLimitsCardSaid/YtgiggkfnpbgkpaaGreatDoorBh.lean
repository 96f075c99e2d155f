/- Stage 3: the walk of statement. -/
import Derived.Test.YtgiggkfnpbgkpaaGreatDoorBf
import Derived.Test.YtgiggkfnpbgkpaaGreatDoorBv
namespace Go.Proofs.YtgiggkfnpbgkpaaGreatDoor
open Go.RowKit (wrap64 intOf)
open Go Go.RowKit WM LX PX

set_option maxRecDepth 100000
set_option maxHeartbeats 4000000
theorem starts_any (ts : List Tk) (p : Nat) (s : PS) (b : Bool) (hb : Hid (clB ts s = b)) (w : World) (h : PSt ts p s w) :
    Calls Tryz.prog 209 #[.pointer (some ⟨p, 0, none⟩)] w (RetN (.bool b) w) := by
  by_cases hn : isNm (pk ts s) = true
  · exact starts_yes ts p s (Lib.hid hn) b hb w h
  · have hf : isNm (pk ts s) = false := by simpa using hn
    have : clB ts s = false := by unfold clB; rw [hf]; rfl
    obtain rfl : false = b := by rw [← this]; exact hb.out
    exact starts_no ts p s (Lib.hid hf) w h
theorem statement_step (ts : List Tk) (p n : Nat) (hif : WIf ts p n) (hwh : WWh ts p n) : WSt ts p (n + 1) := by
  intro s q w hq hm h
  have hq := hq.out
  rw [stF] at hq
  have o := Own.start h 50 st0
  have HIF := Lib.hid hif
  have HWH := Lib.hid hwh
  clear hif hwh h
  by_cases h0 : nx ts s wIf = true
  · rw [if_pos h0] at hq
    have hmv := ms_adv (nx_len (by decide) h0)
    have HI := Lib.hid h0
    have HQ := Lib.hid hq
    have hA : 5 * ms ts (adv s) + 9 ≤ n := by omega
    clear h0 hq hmv hm
    go_enter Tryz.func173, Tryz.ntmps173
    go_wp2_with fail
    refine (accept_yes ts p s wIf (by decide) HI _ o.s).mono ?_
    rintro e w0 ⟨rfl, hg, hp⟩
    replace o := o.acc hg hp
    clear hg hp
    go_wp2_with fail
    refine (HIF.out (adv s) q _ HQ hA o.s).mono ?_
    rintro e wz ⟨kd, nm, to, num, k1, n1, x1, o1, A1, L1, c1, k2, n2, x2, o2, A2, L2, c2, A3, L3, c3, A4, L4, c4, A5, L5, c5, rfl, hr, hg, hp⟩
    have hl := o.sz
    replace o := o.acc hg hp
    have HR := Lib.hid (hr.mono (lo' := w.heap.size + 1) hl (Nat.le_refl _))
    clear hg hp hr
    go_wp2_with (refine wpList_store_row rfl _ _ _ rfl w.heap.size #[.int .i64 kd, .string ⟨nm.toArray⟩, .string ⟨to.toArray⟩, .int .i64 num, .int .i64 k1, .int .i64 n1, .string ⟨x1.toArray⟩, .int .i64 o1, .slice A1 L1 c1, .int .i64 k2, .int .i64 n2, .string ⟨x2.toArray⟩, .int .i64 o2, .slice A2 L2 c2, .slice A3 L3 c3, .slice A4 L4 c4, .slice A5 L5 c5] rfl rfl _ _ o.r stSize rfl (by simp [Value.oneCell']) ?_)
    obtain ⟨hk, hx⟩ := o.fin17 HR.out
    exact bodyPost_ret (results_cell_row rfl _ _ _ _ _ _ _ rfl hk Tryz.underlying50 rfl stSize) rfl hx
  · rw [if_neg h0] at hq
    have HI := Lib.hid (show nx ts s wIf = false by simpa using h0)
    clear h0
    by_cases h1 : nx ts s wWhile = true
    · rw [if_pos h1] at hq
      have hmv := ms_adv (nx_len (by decide) h1)
      have HW := Lib.hid h1
      have HQ := Lib.hid hq
      have hA : 5 * ms ts (adv s) + 9 ≤ n := by omega
      clear h1 hq hmv hm
      go_enter Tryz.func173, Tryz.ntmps173
      go_wp2_with fail
      refine (accept_no ts p s wIf HI _ o.s).mono ?_
      rintro e w0 ⟨rfl, hg, hp⟩
      replace o := o.acc hg hp
      clear hg hp
      go_wp2_with fail
      refine (accept_yes ts p s wWhile (by decide) HW _ o.s).mono ?_
      rintro e w1 ⟨rfl, hg, hp⟩
      replace o := o.acc hg hp
      clear hg hp
      go_wp2_with fail
      refine (HWH.out (adv s) q _ HQ hA o.s).mono ?_
      rintro e wz ⟨kd, nm, to, num, k1, n1, x1, o1, A1, L1, c1, k2, n2, x2, o2, A2, L2, c2, A3, L3, c3, A4, L4, c4, A5, L5, c5, rfl, hr, hg, hp⟩
      have hl := o.sz
      replace o := o.acc hg hp
      have HR := Lib.hid (hr.mono (lo' := w.heap.size + 1) hl (Nat.le_refl _))
      clear hg hp hr
      go_wp2_with (refine wpList_store_row rfl _ _ _ rfl w.heap.size #[.int .i64 kd, .string ⟨nm.toArray⟩, .string ⟨to.toArray⟩, .int .i64 num, .int .i64 k1, .int .i64 n1, .string ⟨x1.toArray⟩, .int .i64 o1, .slice A1 L1 c1, .int .i64 k2, .int .i64 n2, .string ⟨x2.toArray⟩, .int .i64 o2, .slice A2 L2 c2, .slice A3 L3 c3, .slice A4 L4 c4, .slice A5 L5 c5] rfl rfl _ _ o.r stSize rfl (by simp [Value.oneCell']) ?_)
      obtain ⟨hk, hx⟩ := o.fin17 HR.out
      exact bodyPost_ret (results_cell_row rfl _ _ _ _ _ _ _ rfl hk Tryz.underlying50 rfl stSize) rfl hx
    · rw [if_neg h1] at hq
      have HW := Lib.hid (show nx ts s wWhile = false by simpa using h1)
      clear h1
      by_cases h2 : nx ts s wOut = true
      · rw [if_pos h2] at hq
        have hmv := ms_adv (nx_len (by decide) h2)
        have HO := Lib.hid h2
        have HQ := Lib.hid hq
        have hA : 5 * ms ts (adv s) + 4 ≤ n := by omega
        clear h2 hq hmv hm
        go_enter Tryz.func173, Tryz.ntmps173
        go_wp2_with fail
        refine (accept_no ts p s wIf HI _ o.s).mono ?_
        rintro e w0 ⟨rfl, hg, hp⟩
        replace o := o.acc hg hp
        clear hg hp
        go_wp2_with fail
        refine (accept_no ts p s wWhile HW _ o.s).mono ?_
        rintro e w1 ⟨rfl, hg, hp⟩
        replace o := o.acc hg hp
        clear hg hp
        go_wp2_with fail
        refine (accept_yes ts p s wOut (by decide) HO _ o.s).mono ?_
        rintro e w2 ⟨rfl, hg, hp⟩
        replace o := o.acc hg hp
        clear hg hp
        go_wp2_with fail
        refine (out_any ts p n (adv s) q HQ hA _ o.s).mono ?_
        rintro e wz ⟨kd, nm, to, num, k1, n1, x1, o1, A1, L1, c1, k2, n2, x2, o2, A2, L2, c2, A3, L3, c3, A4, L4, c4, A5, L5, c5, rfl, hr, hg, hp⟩
        have hl := o.sz
        replace o := o.acc hg hp
        have HR := Lib.hid (hr.mono (lo' := w.heap.size + 1) hl (Nat.le_refl _))
        clear hg hp hr
        go_wp2_with (refine wpList_store_row rfl _ _ _ rfl w.heap.size #[.int .i64 kd, .string ⟨nm.toArray⟩, .string ⟨to.toArray⟩, .int .i64 num, .int .i64 k1, .int .i64 n1, .string ⟨x1.toArray⟩, .int .i64 o1, .slice A1 L1 c1, .int .i64 k2, .int .i64 n2, .string ⟨x2.toArray⟩, .int .i64 o2, .slice A2 L2 c2, .slice A3 L3 c3, .slice A4 L4 c4, .slice A5 L5 c5] rfl rfl _ _ o.r stSize rfl (by simp [Value.oneCell']) ?_)
        obtain ⟨hk, hx⟩ := o.fin17 HR.out
        exact bodyPost_ret (results_cell_row rfl _ _ _ _ _ _ _ rfl hk Tryz.underlying50 rfl stSize) rfl hx
      · rw [if_neg h2] at hq
        have HO := Lib.hid (show nx ts s wOut = false by simpa using h2)
        clear h2
        by_cases h3 : nx ts s wTrap = true
        · rw [if_pos h3] at hq
          have hmv := ms_adv (nx_len (by decide) h3)
          have HT := Lib.hid h3
          have HQ := Lib.hid hq
          clear h3 hq hmv hm
          go_enter Tryz.func173, Tryz.ntmps173
          go_wp2_with fail
          refine (accept_no ts p s wIf HI _ o.s).mono ?_
          rintro e w0 ⟨rfl, hg, hp⟩
          replace o := o.acc hg hp
          clear hg hp
          go_wp2_with fail
          refine (accept_no ts p s wWhile HW _ o.s).mono ?_
          rintro e w1 ⟨rfl, hg, hp⟩
          replace o := o.acc hg hp
          clear hg hp
          go_wp2_with fail
          refine (accept_no ts p s wOut HO _ o.s).mono ?_
          rintro e w2 ⟨rfl, hg, hp⟩
          replace o := o.acc hg hp
          clear hg hp
          go_wp2_with fail
          refine (accept_yes ts p s wTrap (by decide) HT _ o.s).mono ?_
          rintro e w3 ⟨rfl, hg, hp⟩
          replace o := o.acc hg hp
          clear hg hp
          go_wp2_with fail
          refine (trap_any ts p (adv s) q HQ _ o.s).mono ?_
          rintro e wz ⟨kd, nm, to, num, k1, n1, x1, o1, A1, L1, c1, k2, n2, x2, o2, A2, L2, c2, A3, L3, c3, A4, L4, c4, A5, L5, c5, rfl, hr, hg, hp⟩
          have hl := o.sz
          replace o := o.acc hg hp
          have HR := Lib.hid (hr.mono (lo' := w.heap.size + 1) hl (Nat.le_refl _))
          clear hg hp hr
          go_wp2_with (refine wpList_store_row rfl _ _ _ rfl w.heap.size #[.int .i64 kd, .string ⟨nm.toArray⟩, .string ⟨to.toArray⟩, .int .i64 num, .int .i64 k1, .int .i64 n1, .string ⟨x1.toArray⟩, .int .i64 o1, .slice A1 L1 c1, .int .i64 k2, .int .i64 n2, .string ⟨x2.toArray⟩, .int .i64 o2, .slice A2 L2 c2, .slice A3 L3 c3, .slice A4 L4 c4, .slice A5 L5 c5] rfl rfl _ _ o.r stSize rfl (by simp [Value.oneCell']) ?_)
          obtain ⟨hk, hx⟩ := o.fin17 HR.out
          exact bodyPost_ret (results_cell_row rfl _ _ _ _ _ _ _ rfl hk Tryz.underlying50 rfl stSize) rfl hx
        · rw [if_neg h3] at hq
          have HT := Lib.hid (show nx ts s wTrap = false by simpa using h3)
          clear h3
          obtain ⟨nm0, hv⟩ : ∃ x, nmV ts s = x := ⟨_, rfl⟩
          obtain ⟨s1, hs1⟩ : ∃ x, nmS ts s = x := ⟨_, rfl⟩
          have HV := Lib.hid hv
          have HS1 := Lib.hid hs1
          have hm1 := ms_nmS (ts := ts) s
          rw [hv, hs1] at hq
          rw [hs1] at hm1
          clear hv hs1
          by_cases h5 : nx ts s1 cLb = true
          · rw [if_pos h5] at hq
            have hmv := ms_adv (nx_len (by decide) h5)
            have H5 := Lib.hid h5
            have HQ := Lib.hid hq
            have hA : 5 * ms ts (adv s1) + 4 ≤ n := by omega
            clear h5 hq hmv hm hm1
            go_enter Tryz.func173, Tryz.ntmps173
            go_wp2_with fail
            refine (accept_no ts p s wIf HI _ o.s).mono ?_
            rintro e w0 ⟨rfl, hg, hp⟩
            replace o := o.acc hg hp
            clear hg hp
            go_wp2_with fail
            refine (accept_no ts p s wWhile HW _ o.s).mono ?_
            rintro e w1 ⟨rfl, hg, hp⟩
            replace o := o.acc hg hp
            clear hg hp
            go_wp2_with fail
            refine (accept_no ts p s wOut HO _ o.s).mono ?_
            rintro e w2 ⟨rfl, hg, hp⟩
            replace o := o.acc hg hp
            clear hg hp
            go_wp2_with fail
            refine (accept_no ts p s wTrap HT _ o.s).mono ?_
            rintro e w3 ⟨rfl, hg, hp⟩
            replace o := o.acc hg hp
            clear hg hp
            go_wp2_with fail
            refine (name_any ts p s s1 nm0 HV HS1 _ o.s).mono ?_
            rintro e w5 ⟨rfl, hg, hp⟩
            replace o := o.acc hg hp
            clear hg hp
            go_wp2_with fail
            refine (accept_yes ts p s1 cLb (by decide) H5 _ o.s).mono ?_
            rintro e w6 ⟨rfl, hg, hp⟩
            replace o := o.acc hg hp
            clear hg hp
            go_wp2_with fail
            refine (store_any ts p n nm0 (adv s1) q HQ hA _ o.s).mono ?_
            rintro e wz ⟨kd, nm, to, num, k1, n1, x1, o1, A1, L1, c1, k2, n2, x2, o2, A2, L2, c2, A3, L3, c3, A4, L4, c4, A5, L5, c5, rfl, hr, hg, hp⟩
            have hl := o.sz
            replace o := o.acc hg hp
            have HR := Lib.hid (hr.mono (lo' := w.heap.size + 1) hl (Nat.le_refl _))
            clear hg hp hr
            go_wp2_with (refine wpList_store_row rfl _ _ _ rfl w.heap.size #[.int .i64 kd, .string ⟨nm.toArray⟩, .string ⟨to.toArray⟩, .int .i64 num, .int .i64 k1, .int .i64 n1, .string ⟨x1.toArray⟩, .int .i64 o1, .slice A1 L1 c1, .int .i64 k2, .int .i64 n2, .string ⟨x2.toArray⟩, .int .i64 o2, .slice A2 L2 c2, .slice A3 L3 c3, .slice A4 L4 c4, .slice A5 L5 c5] rfl rfl _ _ o.r stSize rfl (by simp [Value.oneCell']) ?_)
            obtain ⟨hk, hx⟩ := o.fin17 HR.out
            exact bodyPost_ret (results_cell_row rfl _ _ _ _ _ _ _ rfl hk Tryz.underlying50 rfl stSize) rfl hx
          · rw [if_neg h5] at hq
            have H5 := Lib.hid (show nx ts s1 cLb = false by simpa using h5)
            obtain ⟨s2, hs2⟩ : ∃ x, exs ts s1 cEq = x := ⟨_, rfl⟩
            have HS2 := Lib.hid hs2
            have hm2 := ms_exs (ts := ts) s1 (x := cEq) (by decide)
            rw [hs2] at hq hm2
            have hA : 5 * ms ts s2 + 4 ≤ n := by omega
            clear h5 hs2 hm hm1 hm2
            by_cases h6 : clB ts s2 = true
            · rw [if_pos h6] at hq
              have H6 := Lib.hid h6
              have HQ := Lib.hid hq
              clear h6 hq
              go_enter Tryz.func173, Tryz.ntmps173
              go_wp2_with fail
              refine (accept_no ts p s wIf HI _ o.s).mono ?_
              rintro e w0 ⟨rfl, hg, hp⟩
              replace o := o.acc hg hp
              clear hg hp
              go_wp2_with fail
              refine (accept_no ts p s wWhile HW _ o.s).mono ?_
              rintro e w1 ⟨rfl, hg, hp⟩
              replace o := o.acc hg hp
              clear hg hp
              go_wp2_with fail
              refine (accept_no ts p s wOut HO _ o.s).mono ?_
              rintro e w2 ⟨rfl, hg, hp⟩
              replace o := o.acc hg hp
              clear hg hp
              go_wp2_with fail
              refine (accept_no ts p s wTrap HT _ o.s).mono ?_
              rintro e w3 ⟨rfl, hg, hp⟩
              replace o := o.acc hg hp
              clear hg hp
              go_wp2_with fail
              refine (name_any ts p s s1 nm0 HV HS1 _ o.s).mono ?_
              rintro e w5 ⟨rfl, hg, hp⟩
              replace o := o.acc hg hp
              clear hg hp
              go_wp2_with fail
              refine (accept_no ts p s1 cLb H5 _ o.s).mono ?_
              rintro e w6 ⟨rfl, hg, hp⟩
              replace o := o.acc hg hp
              clear hg hp
              go_wp2_with fail
              refine (expect_any ts p s1 s2 cEq (by decide) HS2 _ o.s).mono ?_
              rintro e w7 ⟨rfl, hg, hp⟩
              replace o := o.acc hg hp
              clear hg hp
              go_wp2_with fail
              refine (starts_any ts p s2 true H6 _ o.s).mono ?_
              rintro e w8 ⟨rfl, hb⟩
              replace o := o.low hb
              clear hb
              go_wp2_with fail
              refine (call_any ts p n nm0 s2 q HQ hA _ o.s).mono ?_
              rintro e wz ⟨kd, nm, to, num, k1, n1, x1, o1, A1, L1, c1, k2, n2, x2, o2, A2, L2, c2, A3, L3, c3, A4, L4, c4, A5, L5, c5, rfl, hr, hg, hp⟩
              have hl := o.sz
              replace o := o.acc hg hp
              have HR := Lib.hid (hr.mono (lo' := w.heap.size + 1) hl (Nat.le_refl _))
              clear hg hp hr
              go_wp2_with (refine wpList_store_row rfl _ _ _ rfl w.heap.size #[.int .i64 kd, .string ⟨nm.toArray⟩, .string ⟨to.toArray⟩, .int .i64 num, .int .i64 k1, .int .i64 n1, .string ⟨x1.toArray⟩, .int .i64 o1, .slice A1 L1 c1, .int .i64 k2, .int .i64 n2, .string ⟨x2.toArray⟩, .int .i64 o2, .slice A2 L2 c2, .slice A3 L3 c3, .slice A4 L4 c4, .slice A5 L5 c5] rfl rfl _ _ o.r stSize rfl (by simp [Value.oneCell']) ?_)
              obtain ⟨hk, hx⟩ := o.fin17 HR.out
              exact bodyPost_ret (results_cell_row rfl _ _ _ _ _ _ _ rfl hk Tryz.underlying50 rfl stSize) rfl hx
            · rw [if_neg h6] at hq
              have H6 := Lib.hid (show clB ts s2 = false by simpa using h6)
              have HQ := Lib.hid hq
              clear h6 hq
              go_enter Tryz.func173, Tryz.ntmps173
              go_wp2_with fail
              refine (accept_no ts p s wIf HI _ o.s).mono ?_
              rintro e w0 ⟨rfl, hg, hp⟩
              replace o := o.acc hg hp
              clear hg hp
              go_wp2_with fail
              refine (accept_no ts p s wWhile HW _ o.s).mono ?_
              rintro e w1 ⟨rfl, hg, hp⟩
              replace o := o.acc hg hp
              clear hg hp
              go_wp2_with fail
              refine (accept_no ts p s wOut HO _ o.s).mono ?_
              rintro e w2 ⟨rfl, hg, hp⟩
              replace o := o.acc hg hp
              clear hg hp
              go_wp2_with fail
              refine (accept_no ts p s wTrap HT _ o.s).mono ?_
              rintro e w3 ⟨rfl, hg, hp⟩
              replace o := o.acc hg hp
              clear hg hp
              go_wp2_with fail
              refine (name_any ts p s s1 nm0 HV HS1 _ o.s).mono ?_
              rintro e w5 ⟨rfl, hg, hp⟩
              replace o := o.acc hg hp
              clear hg hp
              go_wp2_with fail
              refine (accept_no ts p s1 cLb H5 _ o.s).mono ?_
              rintro e w6 ⟨rfl, hg, hp⟩
              replace o := o.acc hg hp
              clear hg hp
              go_wp2_with fail
              refine (expect_any ts p s1 s2 cEq (by decide) HS2 _ o.s).mono ?_
              rintro e w7 ⟨rfl, hg, hp⟩
              replace o := o.acc hg hp
              clear hg hp
              go_wp2_with fail
              refine (starts_any ts p s2 false H6 _ o.s).mono ?_
              rintro e w8 ⟨rfl, hb⟩
              replace o := o.low hb
              clear hb
              go_wp2_with fail
              refine (assign_any ts p n nm0 s2 q HQ hA _ o.s).mono ?_
              rintro e wz ⟨kd, nm, to, num, k1, n1, x1, o1, A1, L1, c1, k2, n2, x2, o2, A2, L2, c2, A3, L3, c3, A4, L4, c4, A5, L5, c5, rfl, hr, hg, hp⟩
              have hl := o.sz
              replace o := o.acc hg hp
              have HR := Lib.hid (hr.mono (lo' := w.heap.size + 1) hl (Nat.le_refl _))
              clear hg hp hr
              go_wp2_with (refine wpList_store_row rfl _ _ _ rfl w.heap.size #[.int .i64 kd, .string ⟨nm.toArray⟩, .string ⟨to.toArray⟩, .int .i64 num, .int .i64 k1, .int .i64 n1, .string ⟨x1.toArray⟩, .int .i64 o1, .slice A1 L1 c1, .int .i64 k2, .int .i64 n2, .string ⟨x2.toArray⟩, .int .i64 o2, .slice A2 L2 c2, .slice A3 L3 c3, .slice A4 L4 c4, .slice A5 L5 c5] rfl rfl _ _ o.r stSize rfl (by simp [Value.oneCell']) ?_)
              obtain ⟨hk, hx⟩ := o.fin17 HR.out
              exact bodyPost_ret (results_cell_row rfl _ _ _ _ _ _ _ rfl hk Tryz.underlying50 rfl stSize) rfl hx
end Go.Proofs.YtgiggkfnpbgkpaaGreatDoor
