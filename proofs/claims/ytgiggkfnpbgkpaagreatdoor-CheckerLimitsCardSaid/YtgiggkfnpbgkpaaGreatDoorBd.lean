/- Stage 3: the walk of binary. -/
import Derived.Test.YtgiggkfnpbgkpaaGreatDoorBc
import Derived.IntWalk
namespace Go.Proofs.YtgiggkfnpbgkpaaGreatDoor
open Go.RowKit (wrap64 intOf)
open Go Go.RowKit WM LX PX

set_option maxRecDepth 100000
set_option maxHeartbeats 4000000
/-- The left operand's block g, what it stands for: its kids lie behind block B, not in g. -/
structure Left (w1 : World) (p B g : Nat) (t : TypeId) (pe : PE) (kd nn : Int) (nm : List UInt8) (op : Int) (A : Option Addr) (L c : Nat) : Prop where
  r : RepE w1 (fun x => B < x ∧ x ≠ g ∧ x < w1.heap.size) pe (exC kd nn nm op A L c)
  k : Blk w1 g t #[.int .i64 kd, .int .i64 nn, .string ⟨nm.toArray⟩, .int .i64 op, .slice A L c]
  l : B < g
  q : p < B
section
variable {w1 w2 : World} {p B g : Nat} {t : TypeId} {pe : PE} {kd nn : Int} {nm : List UInt8} {op : Int} {A : Option Addr} {L c : Nat}
theorem Left.acc (x : Left w1 p B g t pe kd nn nm op A L c) (hg : w1.grownBy w2 (some p)) : Left w2 p B g t pe kd nn nm op A L c :=
  ⟨x.r.keep (fun y h => ⟨h.1, h.2.1, Nat.lt_of_lt_of_le h.2.2 hg.size⟩) (fun y h => hg.block y h.2.2 (by intro e; injection e with e; have := x.q; have := h.1; omega)), x.k.gr hg (by have := x.l; have := x.q; omega), x.l, x.q⟩
theorem Left.low (x : Left w1 p B g t pe kd nn nm op A L c) (hb : Below w1.heap.size w1 w2) : Left w2 p B g t pe kd nn nm op A L c := x.acc (grown_b hb _)
theorem Left.al (x : Left w1 p B g t pe kd nn nm op A L c) (o : Obj) : Left (w1.alloc o) p B g t pe kd nn nm op A L c := x.low ((Below.refl _ _).alloc (Nat.le_refl _) o)
theorem Left.out (x : Left w1 p B g t pe kd nn nm op A L c) : RepE w1 (Rg (B + 1) w1.heap.size) pe (exC kd nn nm op A L c) := x.r.keep (fun _ h => ⟨h.1, h.2.2⟩) (fun _ _ => rfl)
end
/-- At the loop's head. -/
def BiR (ts : List Tk) (p lv : Nat) (q : PE × PS) (w : World) (g m : Nat) (wr : World) : Prop :=
  ∃ (s' : PS) (pe : PE) (kd nn : Int) (nm : List UInt8) (op : Int) (A : Option Addr) (L c : Nat), loF ts m lv pe s' = q ∧ 5 * ms ts s' + 2 ≤ m ∧ Own ts p s' 44 ex0 w wr ∧ Left wr p w.heap.size g 44 pe kd nn nm op A L c
theorem biR_next {ts : List Tk} {p lv : Nat} {q : PE × PS} {w wA w3 w4 : World} {g m gq : Nat} {s1 s2 : PS} {pe rpe : PE} {kd nn : Int} {nm : List UInt8} {op : Int} {A : Option Addr} {L c : Nat} {kd2 nn2 : Int} {nm2 : List UInt8} {op2 : Int} {A2 : Option Addr} {L2 c2 : Nat} {o2 : Nat} {ex : Bool}
    (o : Own ts p s1 44 ex0 w wA) (x1 : Left wA p w.heap.size g 44 pe kd nn nm op A L c) (hr2 : RepE w3 (Rg wA.drew.heap.size w3.heap.size) rpe (exC kd2 nn2 nm2 op2 A2 L2 c2)) (hg2 : wA.drew.grownBy w3 (some p)) (hp2 : PSt ts p s2 w3) (hb4 : Below w3.heap.size w3 w4) (hgq : w3.heap.size ≤ gq)
    (hK4 : Blk w4 gq 44 (if ex = true then exC kd2 nn2 nm2 op2 A2 L2 c2 ++ exC kd nn nm op A L c else exC kd nn nm op A L c ++ exC kd2 nn2 nm2 op2 A2 L2 c2).toArray) (hlo : loF ts m lv (apE o2 ex pe rpe) s2 = q) (hm : 5 * ms ts s2 + 2 ≤ m) :
    BiR ts p lv q w g m (set5 w4 g (.int .i64 4) (.int .i64 0) (.string ⟨#[]⟩) (.int .i64 (o2 : Int)) (.slice (some ⟨gq, 0, none⟩) 2 2)) := by
  have hgA : g < wA.heap.size := x1.k.lt
  have hl := x1.l
  have hz3 : wA.heap.size ≤ w3.heap.size := hg2.size
  have hz4 := hb4.size
  have hz5 := hK4.lt
  have o4 : Own ts p s2 44 ex0 w w4 := (Own.acc (w1 := wA.drew) (o.low (below_drewN (Below.refl _ _) 1)) hg2 hp2).low hb4
  have x4 : Left w4 p w.heap.size g 44 pe kd nn nm op A L c := (Left.acc (w1 := wA.drew) (x1.low (below_drewN (Below.refl _ _) 1)) hg2).low hb4
  have y4 : RepE w4 (fun x => w.heap.size < x ∧ x ≠ g ∧ x < w4.heap.size) rpe (exC kd2 nn2 nm2 op2 A2 L2 c2) :=
    (hr2.under hb4 (Nat.le_refl _)).keep (fun x h => by
      have h1 : wA.heap.size ≤ x := h.1
      have h2 := h.2
      exact ⟨by omega, by omega, by omega⟩) (fun _ _ => rfl)
  refine ⟨s2, apE o2 ex pe rpe, 4, 0, [], o2, some ⟨gq, 0, none⟩, 2, 2, hlo, hm, ((((o4.far hl _).far hl _).far hl _).far hl _).far hl _, ?_, set5_blk x4.k _ _ _ _ _, hl, x1.q⟩
  have hfin : ∀ {pe' : PE} {cs : List Value}, RepE w4 (fun x => w.heap.size < x ∧ x ≠ g ∧ x < w4.heap.size) pe' cs → RepE (set5 w4 g (.int .i64 4) (.int .i64 0) (.string ⟨#[]⟩) (.int .i64 (o2 : Int)) (.slice (some ⟨gq, 0, none⟩) 2 2)) (fun x => w.heap.size < x ∧ x ≠ g ∧ x < (set5 w4 g (.int .i64 4) (.int .i64 0) (.string ⟨#[]⟩) (.int .i64 (o2 : Int)) (.slice (some ⟨gq, 0, none⟩) 2 2)).heap.size) pe' cs :=
    fun h => h.keep (fun x hx => ⟨hx.1, hx.2.1, by rw [set5_size]; exact hx.2.2⟩) (fun x hx => set5_heap _ _ _ _ _ _ _ _ hx.2.1)
  have hok : w.heap.size < gq ∧ gq ≠ g ∧ gq < w4.heap.size := ⟨by omega, by omega, hz5⟩
  cases ex
  · exact hfin (repE_2 (ca := exC kd nn nm op A L c) (cb := exC kd2 nn2 nm2 op2 A2 L2 c2) (c := 2) hK4 rfl hok x4.r y4 rfl rfl 4 0 [] (o2 : Int))
  · exact hfin (repE_2 (ca := exC kd2 nn2 nm2 op2 A2 L2 c2) (cb := exC kd nn nm op A L c) (c := 2) hK4 rfl hok y4 x4.r rfl rfl 4 0 [] (o2 : Int))
theorem binary_step (ts : List Tk) (p n : Nat) (hpr : WPr ts p n) (hbi : ∀ m, m ≤ n → WBi ts p m) : WBi ts p (n + 1) := by
  intro lv s q w hlv hq hm h
  have hq := hq.out
  rw [biF] at hq
  obtain ⟨⟨lpe, s1⟩, hc⟩ : ∃ x, prF ts n s = x := ⟨_, rfl⟩
  have HC := Lib.hid hc
  have hm1 := (ms_all (ts := ts) n).2.2.2.1 s
  rw [hc] at hq hm1
  dsimp only at hq hm1
  have HQ := Lib.hid hq
  have hms : 5 * ms ts s + 2 ≤ n := by omega
  have hms1 : 5 * ms ts s1 + 2 ≤ n := by omega
  have o := Own.start h 44 ex0
  have HBI := Lib.hid hbi
  have HPR := Lib.hid hpr
  clear hbi hpr hc h hq hm hm1
  go_enter Tryz.func174, Tryz.ntmps174
  go_wp2_with fail
  refine (HPR.out s _ _ HC hms o.s).mono ?_
  rintro e w1 ⟨kd, nn, nm, op, A, L, c, rfl, hr, hg, hp⟩
  have hl := o.sz
  have hL : Left (w1.alloc (.cells #[.int .i64 kd, .int .i64 nn, .string ⟨nm.toArray⟩, .int .i64 op, .slice A L c] 44)) p w.heap.size w1.heap.size 44 lpe kd nn nm op A L c :=
    ⟨(hr.alloc (Nat.le_refl _) _).keep (fun x h => ⟨Nat.lt_of_lt_of_le hl h.1, Nat.ne_of_lt h.2, by rw [World.size_alloc]; have := h.2; omega⟩) (fun _ _ => rfl), Blk.new _ _ _, Nat.lt_of_lt_of_le hl hg.size, o.p⟩
  replace o := (o.acc hg hp).al (.cells #[.int .i64 kd, .int .i64 nn, .string ⟨nm.toArray⟩, .int .i64 op, .slice A L c] 44)
  have H0 : Hid (BiR ts p lv q w w1.heap.size n (w1.alloc (.cells #[.int .i64 kd, .int .i64 nn, .string ⟨nm.toArray⟩, .int .i64 op, .slice A L c] 44))) := Lib.hid ⟨s1, lpe, kd, nn, nm, op, A, L, c, HQ.out, hms1, o, hL⟩
  have hg0 : w.heap.size < w1.heap.size := Nat.lt_of_lt_of_le hl hg.size
  clear hr hg hp hL o hl
  generalize hgg : w1.heap.size = g at *
  go_wp2_with fail
  go_loopg [] n (fun m wr => m ≤ n ∧ BiR ts p lv q w g m wr)
  case atStart => exact ⟨Nat.le_refl _, H0.out⟩
  case round =>
    obtain ⟨hkn, s', pe, kd, nn, nm, op, A, L, c, hlo, hmm, o, x1⟩ := hrel
    obtain ⟨r, hr⟩ : ∃ r, opAt (pk ts s').text = r := ⟨_, rfl⟩
    have HR := Lib.hid hr
    obtain ⟨m, rfl⟩ : ∃ m, gk = m + 1 := ⟨gk - 1, by omega⟩
    rw [loF, hr] at hlo
    cases r with
    | none =>
      dsimp only at hlo
      subst hlo
      clear hr hmm
      go_wp2_with fail
      refine (operator_any ts p s' _ HR _ o.s).mono ?_
      rintro e w2 ⟨rfl, hb1⟩
      replace o := (o.low hb1).al (.cells op0 209)
      replace x1 := (x1.low hb1).al (.cells op0 209)
      clear hb1
      obtain ⟨r0, r1, r2, r3, r4, f0, f1, f2, f3, f4⟩ := o.ok
      obtain ⟨a0, a1, a2, a3, a4, b0, b1, b2, b3, b4⟩ := x1.k.cells5
      go_wp2_with fail
      obtain ⟨hk, hx⟩ := o.fin x1.out
      obtain ⟨q0, q1, q2, q3, q4, _⟩ := hk.cells5
      exact bodyPost_ret (v := exV kd nn nm op A L c) (by simp [results, Tryz.results174, go_sem, q0, q1, q2, q3, q4]) rfl hx
    | some y =>
      obtain ⟨sy, l2, o2, ex⟩ := y
      have htx := opAt_text hr
      have hlen := (pk_len (ts := ts) (s := s') (Or.inl htx.1))
      have hmv := ms_adv hlen
      dsimp only at hlo htx
      by_cases hlt : l2 < lv
      · rw [if_pos hlt] at hlo
        subst hlo
        have hdec : decide ((l2 : Int) < (lv : Int)) = true := decide_eq_true (by omega)
        have hlt2 : (l2 : Int) < (lv : Int) := by omega
        clear hr hmm hmv hlen htx hlt
        go_wp2_with fail
        refine (operator_any ts p s' _ HR _ o.s).mono ?_
        rintro e w2 ⟨rfl, hb1⟩
        replace o := (o.low hb1).al (.cells #[.string ⟨sy.toArray⟩, .int .i64 (l2 : Int), .int .i64 (o2 : Int), .bool ex] 209)
        replace x1 := (x1.low hb1).al (.cells #[.string ⟨sy.toArray⟩, .int .i64 (l2 : Int), .int .i64 (o2 : Int), .bool ex] 209)
        clear hb1
        obtain ⟨r0, r1, r2, r3, r4, f0, f1, f2, f3, f4⟩ := o.ok
        obtain ⟨a0, a1, a2, a3, a4, b0, b1, b2, b3, b4⟩ := x1.k.cells5
        go_wp2_with fail
        obtain ⟨hk, hx⟩ := o.fin x1.out
        obtain ⟨q0, q1, q2, q3, q4, _⟩ := hk.cells5
        exact bodyPost_ret (v := exV kd nn nm op A L c) (by simp [results, Tryz.results174, go_sem, q0, q1, q2, q3, q4]) rfl hx
      · rw [if_neg hlt] at hlo
        obtain ⟨⟨rpe, s2⟩, hc2⟩ : ∃ x, biF ts m (l2 + 1) (adv s') = x := ⟨_, rfl⟩
        have HC2 := Lib.hid hc2
        have hm2 := (ms_all (ts := ts) m).2.1 (l2 + 1) (adv s')
        rw [hc2] at hlo hm2
        dsimp only at hlo hm2
        have HLO := Lib.hid hlo
        have hA : 5 * ms ts (adv s') + 3 ≤ m := by omega
        have hB : 5 * ms ts s2 + 2 ≤ m := by omega
        have hl8 : l2 + 1 ≤ 9 := by omega
        have hdec : decide ((l2 : Int) < (lv : Int)) = false := decide_eq_false (by omega)
        clear hlo hc2 hr htx hmv
        go_wp2_with fail
        refine (operator_any ts p s' _ HR _ o.s).mono ?_
        rintro e w2 ⟨rfl, hb1⟩
        have hgO : g < w2.heap.size := Nat.lt_of_lt_of_le x1.k.lt hb1.size
        have hpO : w2.heap.size ≠ p := by have := o.p; have := o.sz; have := hb1.size; omega
        replace o := (o.low hb1).al (.cells #[.string ⟨sy.toArray⟩, .int .i64 (l2 : Int), .int .i64 (o2 : Int), .bool ex] 209)
        replace x1 := (x1.low hb1).al (.cells #[.string ⟨sy.toArray⟩, .int .i64 (l2 : Int), .int .i64 (o2 : Int), .bool ex] 209)
        have hO := Blk.new w2 209 #[.string ⟨sy.toArray⟩, .int .i64 (l2 : Int), .int .i64 (o2 : Int), .bool ex]
        obtain ⟨c1, g1, hi⟩ := o.s.cells
        clear hb1
        go_wp2_with fail
        replace o := o.setI (i := s'.i + 1) (by omega) (u := .int .i64 ((s'.i : Int) + 1)) rfl
        replace x1 := x1.acc (grown_s (grown_id (w2.alloc (.cells #[.string ⟨sy.toArray⟩, .int .i64 (l2 : Int), .int .i64 (o2 : Int), .bool ex] 209)) _) (r := p) (i := 1) (.int .i64 ((s'.i : Int) + 1)))
        replace hO := hO.far (p := ⟨p, 1, none⟩) hpO.symm (.int .i64 ((s'.i : Int) + 1))
        clear c1 g1
        generalize hwA : (w2.alloc (.cells #[.string ⟨sy.toArray⟩, .int .i64 (l2 : Int), .int .i64 (o2 : Int), .bool ex] 209)).setCell ⟨p, 1, none⟩ (.int .i64 ((s'.i : Int) + 1)) = wA at *
        have hOs : w2.heap.size < wA.heap.size := hO.lt
        have hps : PSt ts p (adv s') wA.drew := o.s.drewN 1
        have hbin : Calls Tryz.prog 174 #[.pointer (some ⟨p, 0, none⟩), .int .i64 ((l2 : Int) + 1)] wA.drew (ExP ts p (rpe, s2) wA.drew) := HBI.out m (by omega) (l2 + 1) (adv s') _ _ hl8 HC2 hA hps
        obtain ⟨a0, a1, a2, a3, a4, b0, b1, b2, b3, b4⟩ := x1.k.cells5
        obtain ⟨d0, d1, d2, d3, _⟩ := hO.cells4
        have hwr : IntKind.i64.wrap ((l2 : Int) + 1) = (l2 : Int) + 1 := IntWalk.i64_in _ (by omega)
        have HO := Lib.hid hO
        have HPS := Lib.hid hps
        have hpg : p ≠ g := by have := x1.l; have := x1.q; omega
        have HB := Lib.hid hB
        clear hO hwA hps hA hB hm2 hmm hlen hlt hl8
        go_region_with (first
          | (go_at_call 174; ((with_reducible refine hbin.mono ?_); rintro e w3 ⟨kd2, nn2, nm2, op2, A2, L2, c2, rfl, hr2, hg2, hp2⟩; obtain ⟨a0', a1', a2', a3', a4', b0', b1', b2', b3', b4'⟩ := (Blk.gr (w := wA.drew) x1.k hg2 hpg).cells5; obtain ⟨d0', d1', d2', d3', _⟩ := (Blk.gr (w := wA.drew) HO.out hg2 hpO.symm).cells4))
          | (go_at_call 214; ((with_reducible refine (apply_any sy (l2 : Int) (o2 : Int) ex kd nn nm op A L c _ _ _ _ _ _ _ _).mono ?_); rintro e w4 ⟨gq, rfl, hb4, hgq, hK4⟩; obtain ⟨a0x, a1x, a2x, a3x, a4x, b0x, b1x, b2x, b3x, b4x⟩ := ((Blk.gr (w := wA.drew) x1.k hg2 hpg).on hb4 (Blk.gr (w := wA.drew) x1.k hg2 hpg).lt).cells5)))
        all_goals
          clear a0 a1 a2 a3 a4 b0 b1 b2 b3 b4 d0 d1 d2 d3
          go_wp2_with fail
          go_roundg m
          case measure => exact Nat.lt_succ_self m
          case rel => exact ⟨Nat.le_of_succ_le hkn, biR_next o x1 hr2 hg2 hp2 hb4 hgq hK4 HLO.out HB.out⟩
end Go.Proofs.YtgiggkfnpbgkpaaGreatDoor
/- Stage 3: all of the expressions' walks, by induction on the fuel. -/
namespace Go.Proofs.YtgiggkfnpbgkpaaGreatDoor
open Go.RowKit (wrap64 intOf)
open Go Go.RowKit WM LX PX

theorem binary_zero (ts : List Tk) (p : Nat) : WBi ts p 0 := fun _ _ _ _ _ _ h => absurd h (by omega)
/-- ALL WALKS OF EXPRESSIONS, for every fuel that is enough. -/
theorem expr_all (ts : List Tk) (p : Nat) (n : Nat) : WEx ts p n ∧ (∀ m, m ≤ n → WBi ts p m) ∧ WPr ts p n ∧ WPi ts p n := by
  induction n with
  | zero => exact ⟨fun _ _ _ _ h => absurd h (by omega), fun m hm => Nat.le_zero.1 hm ▸ binary_zero ts p, fun _ _ _ _ h => absurd h (by omega), fun _ _ _ _ h => absurd h (by omega)⟩
  | succ n ih =>
    obtain ⟨he, hb, hp, hi⟩ := ih
    refine ⟨expression_step ts p n (hb n (Nat.le_refl _)) he, fun m hm => ?_, prefixed_step ts p n hp hi, primary_step ts p n he⟩
    by_cases h : m ≤ n
    · exact hb m h
    · obtain rfl : m = n + 1 := by omega
      exact binary_step ts p n hp hb
theorem expression_any (ts : List Tk) (p n : Nat) : WEx ts p n := (expr_all ts p n).1
end Go.Proofs.YtgiggkfnpbgkpaaGreatDoor
