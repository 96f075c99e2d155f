/- Stage 3: the walks of the statements' parts. -/
import Derived.Test.YtjeidpfpgolonaaDoorPr
namespace Go.Proofs.YtjeidpfpgolonaaDoor
open Go.RowKit (wrap64 intOf)
open Go Go.RowKit WM LX PX

set_option maxRecDepth 100000
set_option maxHeartbeats 4000000
theorem condition_any (ts : List Tk) (p n : Nat) (s : PS) (q : PE × PS) (hq : Hid (cdF ts n s = q)) (hm : 5 * ms ts s + 4 ≤ n) (w : World) (h : PSt ts p s w) :
    Calls Tryd.prog 109 #[.pointer (some ⟨p, 0, none⟩)] w (ExP ts p q w) := by
  have hq := hq.out
  unfold cdF at hq
  obtain ⟨s1, hs1⟩ : ∃ x, exs ts s cLp = x := ⟨_, rfl⟩
  have HS1 := Lib.hid hs1
  have hm1 := ms_exs (ts := ts) s (x := cLp) (by decide)
  rw [hs1] at hm1 hq
  obtain ⟨⟨ape, s2⟩, hc⟩ : ∃ x, exF ts n s1 = x := ⟨_, rfl⟩
  have HC := Lib.hid hc
  rw [hc] at hq
  dsimp only at hq
  obtain ⟨s3, hs3⟩ : ∃ x, exs ts s2 cRp = x := ⟨_, rfl⟩
  have HS3 := Lib.hid hs3
  rw [hs3] at hq
  subst hq
  have hA : 5 * ms ts s1 + 4 ≤ n := by omega
  have o := Own.start h 45 ex0
  clear hs1 hc hs3 hm1 h
  go_enter Tryd.func109, Tryd.ntmps109
  go_wp2_with fail
  refine (expect_any ts p s s1 cLp (by decide) HS1 _ o.s).mono ?_
  rintro e w1 ⟨rfl, hg, hp⟩
  replace o := o.acc hg hp
  clear hg hp
  go_wp2_with fail
  refine (expression_any ts p n s1 _ _ HC hA o.s).mono ?_
  rintro e w2 ⟨k1, n1, x1, o1, A1, L1, c1, rfl, hr, hg, hp⟩
  have x1h := Hold.start hr o hg.size 45
  replace o := (o.acc hg hp).al (.cells #[.int .i64 k1, .int .i64 n1, .string ⟨x1.toArray⟩, .int .i64 o1, .slice A1 L1 c1] 45)
  clear hg hp hr
  go_wp2_with fail
  refine (expect_any ts p s2 s3 cRp (by decide) HS3 _ o.s).mono ?_
  rintro e w3 ⟨rfl, hg, hp⟩
  replace o := o.acc hg hp
  replace x1h := x1h.acc hg
  clear hg hp
  obtain ⟨r0, r1, r2, r3, r4, f0, f1, f2, f3, f4⟩ := o.ok
  obtain ⟨a0, a1, a2, a3, a4, _⟩ := x1h.k.cells5
  go_wp2_with fail
  obtain ⟨hk, hx⟩ := o.fin x1h.out
  obtain ⟨q0, q1, q2, q3, q4, _⟩ := hk.cells5
  exact bodyPost_ret (v := exV k1 n1 x1 o1 A1 L1 c1) (by simp [results, Tryd.results109, go_sem, q0, q1, q2, q3, q4]) rfl hx
theorem out_any (ts : List Tk) (p n : Nat) (s : PS) (q : ST × PS) (hq : Hid (ouF ts n s = q)) (hm : 5 * ms ts s + 4 ≤ n) (w : World) (h : PSt ts p s w) :
    Calls Tryd.prog 96 #[.pointer (some ⟨p, 0, none⟩)] w (StP ts p q w) := by
  have hq := hq.out
  unfold ouF at hq
  obtain ⟨⟨ape, s2⟩, hc⟩ : ∃ x, exF ts n s = x := ⟨_, rfl⟩
  have HC := Lib.hid hc
  rw [hc] at hq
  dsimp only at hq
  obtain ⟨s3, hs3⟩ : ∃ x, exs ts s2 cSemi = x := ⟨_, rfl⟩
  have HS3 := Lib.hid hs3
  rw [hs3] at hq
  subst hq
  have o := Own.start h 88 st0
  clear hc hs3 h
  go_enter Tryd.func96, Tryd.ntmps96
  go_wp2_with fail
  refine (expression_any ts p n s _ _ HC hm o.s).mono ?_
  rintro e w2 ⟨k2, n2, x2, o2, A2, L2, c2, rfl, hr, hg, hp⟩
  have x2h := Hold.start hr o hg.size 45
  replace o := (o.acc hg hp).al (.cells #[.int .i64 k2, .int .i64 n2, .string ⟨x2.toArray⟩, .int .i64 o2, .slice A2 L2 c2] 45)
  clear hg hp hr
  go_wp2_with fail
  refine (expect_any ts p s2 s3 cSemi (by decide) HS3 _ o.s).mono ?_
  rintro e w3 ⟨rfl, hg, hp⟩
  replace o := o.acc hg hp
  replace x2h := x2h.acc hg
  clear hg hp
  obtain ⟨a0, a1, a2, a3, a4, _⟩ := x2h.k.cells5
  go_wp2_with (refine wpList_store_row rfl _ _ _ rfl w.heap.size #[.int .i64 5, .string ⟨#[]⟩, .string ⟨#[]⟩, .int .i64 0, .int .i64 0, .int .i64 0, .string ⟨#[]⟩, .int .i64 0, .slice none 0 0, .int .i64 k2, .int .i64 n2, .string ⟨x2.toArray⟩, .int .i64 o2, .slice A2 L2 c2, .slice none 0 0, .slice none 0 0, .slice none 0 0] rfl rfl _ _ o.r stSize rfl (by simp [Value.oneCell']) ?_)
  obtain ⟨hk, hx⟩ := o.fin17 (kd := 5) (nm := []) (to := []) (num := 0) (repS_mk (repE_leaf _ _ 0 0 [] 0 none 0) x2h.out (repL_nil _ _ _ _) (repL_nil _ _ _ _) (repL_nil _ _ _ _))
  exact bodyPost_ret (results_cell_row rfl _ _ _ _ _ _ _ rfl hk Tryd.underlying88 rfl stSize) rfl hx
theorem assign_any (ts : List Tk) (p n : Nat) (nm : List UInt8) (s : PS) (q : ST × PS) (hq : Hid (asF ts n nm s = q)) (hm : 5 * ms ts s + 4 ≤ n) (w : World) (h : PSt ts p s w) :
    Calls Tryd.prog 101 #[.pointer (some ⟨p, 0, none⟩), .string ⟨nm.toArray⟩] w (StP ts p q w) := by
  have hq := hq.out
  unfold asF at hq
  obtain ⟨⟨ape, s2⟩, hc⟩ : ∃ x, exF ts n s = x := ⟨_, rfl⟩
  have HC := Lib.hid hc
  rw [hc] at hq
  dsimp only at hq
  obtain ⟨s3, hs3⟩ : ∃ x, exs ts s2 cSemi = x := ⟨_, rfl⟩
  have HS3 := Lib.hid hs3
  rw [hs3] at hq
  subst hq
  have o := Own.start h 88 st0
  clear hc hs3 h
  go_enter Tryd.func101, Tryd.ntmps101
  go_wp2_with fail
  refine (expression_any ts p n s _ _ HC hm o.s).mono ?_
  rintro e w2 ⟨k2, n2, x2, o2, A2, L2, c2, rfl, hr, hg, hp⟩
  have x2h := Hold.start hr o hg.size 45
  replace o := (o.acc hg hp).al (.cells #[.int .i64 k2, .int .i64 n2, .string ⟨x2.toArray⟩, .int .i64 o2, .slice A2 L2 c2] 45)
  clear hg hp hr
  go_wp2_with fail
  refine (expect_any ts p s2 s3 cSemi (by decide) HS3 _ o.s).mono ?_
  rintro e w3 ⟨rfl, hg, hp⟩
  replace o := o.acc hg hp
  replace x2h := x2h.acc hg
  clear hg hp
  obtain ⟨a0, a1, a2, a3, a4, _⟩ := x2h.k.cells5
  go_wp2_with (refine wpList_store_row rfl _ _ _ rfl w.heap.size #[.int .i64 1, .string ⟨nm.toArray⟩, .string ⟨#[]⟩, .int .i64 0, .int .i64 0, .int .i64 0, .string ⟨#[]⟩, .int .i64 0, .slice none 0 0, .int .i64 k2, .int .i64 n2, .string ⟨x2.toArray⟩, .int .i64 o2, .slice A2 L2 c2, .slice none 0 0, .slice none 0 0, .slice none 0 0] rfl rfl _ _ o.r stSize rfl (by simp [Value.oneCell']) ?_)
  obtain ⟨hk, hx⟩ := o.fin17 (kd := 1) (nm := nm) (to := []) (num := 0) (repS_mk (repE_leaf _ _ 0 0 [] 0 none 0) x2h.out (repL_nil _ _ _ _) (repL_nil _ _ _ _) (repL_nil _ _ _ _))
  exact bodyPost_ret (results_cell_row rfl _ _ _ _ _ _ _ rfl hk Tryd.underlying88 rfl stSize) rfl hx
theorem trap_any (ts : List Tk) (p : Nat) (s : PS) (q : ST × PS) (hq : Hid (tpF ts s = q)) (w : World) (h : PSt ts p s w) :
    Calls Tryd.prog 97 #[.pointer (some ⟨p, 0, none⟩)] w (StP ts p q w) := by
  have hq := hq.out
  unfold tpF at hq
  obtain ⟨num, hv⟩ : ∃ x, nuV ts s = x := ⟨_, rfl⟩
  obtain ⟨s1, hs1⟩ : ∃ x, nuS ts s = x := ⟨_, rfl⟩
  have HV := Lib.hid hv
  have HS1 := Lib.hid hs1
  rw [hv, hs1] at hq
  obtain ⟨s3, hs3⟩ : ∃ x, exs ts s1 cSemi = x := ⟨_, rfl⟩
  have HS3 := Lib.hid hs3
  rw [hs3] at hq
  subst hq
  have o := Own.start h 88 st0
  clear hv hs1 hs3 h
  go_enter Tryd.func97, Tryd.ntmps97
  go_wp2_with fail
  refine (pnumber_any ts p s s1 num HV HS1 _ o.s).mono ?_
  rintro e w1 ⟨rfl, hg, hp⟩
  replace o := o.acc hg hp
  clear hg hp
  go_wp2_with fail
  refine (expect_any ts p s1 s3 cSemi (by decide) HS3 _ o.s).mono ?_
  rintro e w3 ⟨rfl, hg, hp⟩
  replace o := o.acc hg hp
  clear hg hp
  go_wp2_with (refine wpList_store_row rfl _ _ _ rfl w.heap.size #[.int .i64 7, .string ⟨#[]⟩, .string ⟨#[]⟩, .int .i64 num, .int .i64 0, .int .i64 0, .string ⟨#[]⟩, .int .i64 0, .slice none 0 0, .int .i64 0, .int .i64 0, .string ⟨#[]⟩, .int .i64 0, .slice none 0 0, .slice none 0 0, .slice none 0 0, .slice none 0 0] rfl rfl _ _ o.r stSize rfl (by simp [Value.oneCell']) ?_)
  obtain ⟨hk, hx⟩ := o.fin17 (kd := 7) (nm := []) (to := []) (num := num) (repS_mk (repE_leaf _ _ 0 0 [] 0 none 0) (repE_leaf _ _ 0 0 [] 0 none 0) (repL_nil _ _ _ _) (repL_nil _ _ _ _) (repL_nil _ _ _ _))
  exact bodyPost_ret (results_cell_row rfl _ _ _ _ _ _ _ rfl hk Tryd.underlying88 rfl stSize) rfl hx
theorem store_any (ts : List Tk) (p n : Nat) (nm : List UInt8) (s : PS) (q : ST × PS) (hq : Hid (soF ts n nm s = q)) (hm : 5 * ms ts s + 4 ≤ n) (w : World) (h : PSt ts p s w) :
    Calls Tryd.prog 98 #[.pointer (some ⟨p, 0, none⟩), .string ⟨nm.toArray⟩] w (StP ts p q w) := by
  have hq := hq.out
  unfold soF at hq
  obtain ⟨⟨ape, s1⟩, hc⟩ : ∃ x, exF ts n s = x := ⟨_, rfl⟩
  have HC := Lib.hid hc
  have hm1 := ms_ex (ts := ts) n s
  rw [hc] at hq hm1
  dsimp only at hq hm1
  obtain ⟨s2, hs2⟩ : ∃ x, exs ts s1 cRb = x := ⟨_, rfl⟩
  have HS2 := Lib.hid hs2
  have hm2 := ms_exs (ts := ts) s1 (x := cRb) (by decide)
  rw [hs2] at hq hm2
  obtain ⟨s3, hs3⟩ : ∃ x, exs ts s2 cEq = x := ⟨_, rfl⟩
  have HS3 := Lib.hid hs3
  have hm3 := ms_exs (ts := ts) s2 (x := cEq) (by decide)
  rw [hs3] at hq hm3
  obtain ⟨⟨bpe, s4⟩, hd⟩ : ∃ x, exF ts n s3 = x := ⟨_, rfl⟩
  have HD := Lib.hid hd
  rw [hd] at hq
  dsimp only at hq
  obtain ⟨s5, hs5⟩ : ∃ x, exs ts s4 cSemi = x := ⟨_, rfl⟩
  have HS5 := Lib.hid hs5
  rw [hs5] at hq
  subst hq
  have hB : 5 * ms ts s3 + 4 ≤ n := by omega
  have o := Own.start h 88 st0
  clear hc hs2 hs3 hd hs5 hm1 hm2 hm3 h
  go_enter Tryd.func98, Tryd.ntmps98
  go_wp2_with fail
  refine (expression_any ts p n s _ _ HC hm o.s).mono ?_
  rintro e w1 ⟨k1, n1, x1, o1, A1, L1, c1, rfl, hr, hg, hp⟩
  have x1h := Hold.start hr o hg.size 45
  replace o := (o.acc hg hp).al (.cells #[.int .i64 k1, .int .i64 n1, .string ⟨x1.toArray⟩, .int .i64 o1, .slice A1 L1 c1] 45)
  clear hg hp hr
  go_wp2_with fail
  refine (expect_any ts p s1 s2 cRb (by decide) HS2 _ o.s).mono ?_
  rintro e w2 ⟨rfl, hg, hp⟩
  replace o := o.acc hg hp
  replace x1h := x1h.acc hg
  clear hg hp
  go_wp2_with fail
  refine (expect_any ts p s2 s3 cEq (by decide) HS3 _ o.s).mono ?_
  rintro e w3 ⟨rfl, hg, hp⟩
  replace o := o.acc hg hp
  replace x1h := x1h.acc hg
  clear hg hp
  go_wp2_with fail
  refine (expression_any ts p n s3 _ _ HD hB o.s).mono ?_
  rintro e w4 ⟨k2, n2, x2, o2, A2, L2, c2, rfl, hr, hg, hp⟩
  have x2h := Hold.start hr o hg.size 45
  replace x1h := (x1h.acc hg).al (.cells #[.int .i64 k2, .int .i64 n2, .string ⟨x2.toArray⟩, .int .i64 o2, .slice A2 L2 c2] 45)
  replace o := (o.acc hg hp).al (.cells #[.int .i64 k2, .int .i64 n2, .string ⟨x2.toArray⟩, .int .i64 o2, .slice A2 L2 c2] 45)
  clear hg hp hr
  go_wp2_with fail
  refine (expect_any ts p s4 s5 cSemi (by decide) HS5 _ o.s).mono ?_
  rintro e w5 ⟨rfl, hg, hp⟩
  replace o := o.acc hg hp
  replace x1h := x1h.acc hg
  replace x2h := x2h.acc hg
  clear hg hp
  obtain ⟨a0, a1, a2, a3, a4, _⟩ := x1h.k.cells5
  obtain ⟨b0, b1, b2, b3, b4, _⟩ := x2h.k.cells5
  go_wp2_with (refine wpList_store_row rfl _ _ _ rfl w.heap.size #[.int .i64 2, .string ⟨nm.toArray⟩, .string ⟨#[]⟩, .int .i64 0, .int .i64 k1, .int .i64 n1, .string ⟨x1.toArray⟩, .int .i64 o1, .slice A1 L1 c1, .int .i64 k2, .int .i64 n2, .string ⟨x2.toArray⟩, .int .i64 o2, .slice A2 L2 c2, .slice none 0 0, .slice none 0 0, .slice none 0 0] rfl rfl _ _ o.r stSize rfl (by simp [Value.oneCell']) ?_)
  obtain ⟨hk, hx⟩ := o.fin17 (kd := 2) (nm := nm) (to := []) (num := 0) (repS_mk x1h.out x2h.out (repL_nil _ _ _ _) (repL_nil _ _ _ _) (repL_nil _ _ _ _))
  exact bodyPost_ret (results_cell_row rfl _ _ _ _ _ _ _ rfl hk Tryd.underlying88 rfl stSize) rfl hx
theorem call_any (ts : List Tk) (p n : Nat) (nm : List UInt8) (s : PS) (q : ST × PS) (hq : Hid (caF ts n nm s = q)) (hm : 5 * ms ts s + 4 ≤ n) (w : World) (h : PSt ts p s w) :
    Calls Tryd.prog 100 #[.pointer (some ⟨p, 0, none⟩), .string ⟨nm.toArray⟩] w (StP ts p q w) := by
  have hq := hq.out
  unfold caF at hq
  obtain ⟨to, hv⟩ : ∃ x, nmV ts s = x := ⟨_, rfl⟩
  obtain ⟨s1, hs1⟩ : ∃ x, nmS ts s = x := ⟨_, rfl⟩
  have HV := Lib.hid hv
  have HS1 := Lib.hid hs1
  have hm1 := ms_nmS (ts := ts) s
  rw [hs1] at hm1
  rw [hv, hs1] at hq
  obtain ⟨⟨l, s2⟩, hc⟩ : ∃ x, pEF ts n s1 = x := ⟨_, rfl⟩
  have HC := Lib.hid hc
  rw [hc] at hq
  dsimp only at hq
  obtain ⟨s3, hs3⟩ : ∃ x, exs ts s2 cSemi = x := ⟨_, rfl⟩
  have HS3 := Lib.hid hs3
  rw [hs3] at hq
  subst hq
  have hA : 5 * ms ts s1 + 4 ≤ n := by omega
  have o := Own.start h 88 st0
  clear hv hs1 hc hs3 h
  go_enter Tryd.func100, Tryd.ntmps100
  go_wp2_with fail
  refine (name_any ts p s s1 to HV HS1 _ o.s).mono ?_
  rintro e w1 ⟨rfl, hg, hp⟩
  replace o := o.acc hg hp
  clear hg hp
  go_wp2_with fail
  refine (pelist_any ts p n s1 _ HC hA _ o.s).mono ?_
  rintro e w2 ⟨A3, L3, c3, rfl, hr, hg, hp⟩
  have hl := o.sz
  have hpl : p < w1.heap.size := Nat.lt_trans o.p hl
  replace o := o.acc hg hp
  clear hg hp
  go_wp2_with fail
  refine (expect_any ts p s2 s3 cSemi (by decide) HS3 _ o.s).mono ?_
  rintro e w3 ⟨rfl, hg, hp⟩
  have hr2 := (hr.acc keepsE hg hpl (Nat.le_refl _)).mono keepsE (lo' := w.heap.size + 1) hl hg.size
  have HR := Lib.hid hr2
  replace o := o.acc hg hp
  clear hg hp hr hr2
  go_wp2_with (refine wpList_store_row rfl _ _ _ rfl w.heap.size #[.int .i64 6, .string ⟨nm.toArray⟩, .string ⟨to.toArray⟩, .int .i64 0, .int .i64 0, .int .i64 0, .string ⟨#[]⟩, .int .i64 0, .slice none 0 0, .int .i64 0, .int .i64 0, .string ⟨#[]⟩, .int .i64 0, .slice none 0 0, .slice A3 L3 c3, .slice none 0 0, .slice none 0 0] rfl rfl _ _ o.r stSize rfl (by simp [Value.oneCell']) ?_)
  obtain ⟨hk, hx⟩ := o.fin17 (kd := 6) (nm := nm) (to := to) (num := 0) (repS_mk (repE_leaf _ _ 0 0 [] 0 none 0) (repE_leaf _ _ 0 0 [] 0 none 0) HR.out (repL_nil _ _ _ _) (repL_nil _ _ _ _))
  exact bodyPost_ret (results_cell_row rfl _ _ _ _ _ _ _ rfl hk Tryd.underlying88 rfl stSize) rfl hx
end Go.Proofs.YtjeidpfpgolonaaDoor
