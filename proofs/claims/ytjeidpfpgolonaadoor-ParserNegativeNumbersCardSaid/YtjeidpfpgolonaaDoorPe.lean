/- Stage 3: the walks of expression, element, primary, prefixed: each over the others. -/
import Derived.Test.YtjeidpfpgolonaaDoorPd
namespace Go.Proofs.YtjeidpfpgolonaaDoor
open Go.RowKit (wrap64 intOf)
open Go Go.RowKit WM LX PX

set_option maxRecDepth 100000
set_option maxHeartbeats 2000000
/-- The expression's walk at fuel n, for every state; likewise the others. -/
def WEx (ts : List Tk) (p n : Nat) : Prop := ∀ (s : PS) (q : PE × PS) (w : World), Hid (exF ts n s = q) → 5 * ms ts s + 4 ≤ n → PSt ts p s w → Calls Tryd.prog 68 #[.pointer (some ⟨p, 0, none⟩)] w (ExP ts p q w)
def WBi (ts : List Tk) (p n : Nat) : Prop := ∀ (lv : Nat) (s : PS) (q : PE × PS) (w : World), lv ≤ 9 → Hid (biF ts n lv s = q) → 5 * ms ts s + 3 ≤ n → PSt ts p s w → Calls Tryd.prog 84 #[.pointer (some ⟨p, 0, none⟩), .int .i64 (lv : Int)] w (ExP ts p q w)
def WPr (ts : List Tk) (p n : Nat) : Prop := ∀ (s : PS) (q : PE × PS) (w : World), Hid (prF ts n s = q) → 5 * ms ts s + 2 ≤ n → PSt ts p s w → Calls Tryd.prog 102 #[.pointer (some ⟨p, 0, none⟩)] w (ExP ts p q w)
def WPi (ts : List Tk) (p n : Nat) : Prop := ∀ (s : PS) (q : PE × PS) (w : World), Hid (piF ts n s = q) → 5 * ms ts s + 1 ≤ n → PSt ts p s w → Calls Tryd.prog 114 #[.pointer (some ⟨p, 0, none⟩)] w (ExP ts p q w)
theorem pair_eta {α β : Type} {x : α × β} {a : α} {b : β} (h : x = (a, b)) : x.1 = a ∧ x.2 = b := by rw [h]; exact ⟨rfl, rfl⟩
theorem bin1 {ts : List Tk} {p n : Nat} (h : WBi ts p n) (s : PS) (q : PE × PS) (w : World) (hq : Hid (biF ts n 1 s = q)) (hm : 5 * ms ts s + 3 ≤ n) (hp : PSt ts p s w) :
    Calls Tryd.prog 84 #[.pointer (some ⟨p, 0, none⟩), .int .i64 1] w (ExP ts p q w) := h 1 s q w (by decide) hq hm hp
theorem expression_step (ts : List Tk) (p n : Nat) (hbi : WBi ts p n) (hex : WEx ts p n) : WEx ts p (n + 1) := by
  intro s q w hq hm h
  have hq := hq.out
  rw [exF] at hq
  obtain ⟨⟨cpe, s1⟩, hc⟩ : ∃ x, biF ts n 1 s = x := ⟨_, rfl⟩
  have HC := Lib.hid hc
  have hm1 := (ms_all (ts := ts) n).2.1 1 s
  rw [hc] at hq hm1
  have hms : 5 * ms ts s + 3 ≤ n := by omega
  have o := Own.start h 45 ex0
  have HBI := Lib.hid hbi
  have HEX := Lib.hid hex
  clear hbi hex hc h
  dsimp only at hq hm1
  by_cases hx : nx ts s1 cQuest = true
  · rw [if_pos hx] at hq
    obtain ⟨⟨ape, s2⟩, ha⟩ : ∃ x, exF ts n (adv s1) = x := ⟨_, rfl⟩
    have HA := Lib.hid ha
    have hm2 := ms_ex (ts := ts) n (adv s1)
    have hmv := ms_adv (nx_len (by decide) hx)
    rw [ha] at hq hm2
    dsimp only at hq hm2
    obtain ⟨s3, hs3⟩ : ∃ x, exs ts s2 cColon = x := ⟨_, rfl⟩
    have HS3 := Lib.hid hs3
    have hm3 := ms_exs (ts := ts) s2 (x := cColon) (by decide)
    rw [hs3] at hq hm3
    obtain ⟨⟨bpe, s4⟩, hb⟩ : ∃ x, exF ts n s3 = x := ⟨_, rfl⟩
    have HB := Lib.hid hb
    rw [hb] at hq
    dsimp only at hq
    subst hq
    have HX := Lib.hid hx
    have hA : 5 * ms ts (adv s1) + 4 ≤ n := by omega
    have hB : 5 * ms ts s3 + 4 ≤ n := by omega
    clear hb hs3 ha hx hm hm1 hm2 hm3 hmv
    go_enter Tryd.func68, Tryd.ntmps68
    go_wp2_with fail
    refine (bin1 HBI.out s _ _ HC hms o.s).mono ?_
    rintro e w1 ⟨kd, nn, nm, op, A, L, c, rfl, hr, hg, hp⟩
    have x1 := Hold.start hr o hg.size 45
    replace o := (o.acc hg hp).al (.cells #[.int .i64 kd, .int .i64 nn, .string ⟨nm.toArray⟩, .int .i64 op, .slice A L c] 45)
    clear hg hp hr
    go_wp2_with fail
    refine (accept_yes ts p s1 cQuest (by decide) HX _ o.s).mono ?_
    rintro e w2 ⟨rfl, hg, hp⟩
    replace o := o.acc hg hp
    replace x1 := x1.acc hg
    clear hg hp
    go_wp2_with fail
    refine (HEX.out (adv s1) _ _ HA hA o.s).mono ?_
    rintro e w3 ⟨kd2, nn2, nm2, op2, A2, L2, c2, rfl, hr, hg, hp⟩
    have x2 := Hold.start hr o hg.size 45
    replace x1 := (x1.acc hg).al (.cells #[.int .i64 kd2, .int .i64 nn2, .string ⟨nm2.toArray⟩, .int .i64 op2, .slice A2 L2 c2] 45)
    replace o := (o.acc hg hp).al (.cells #[.int .i64 kd2, .int .i64 nn2, .string ⟨nm2.toArray⟩, .int .i64 op2, .slice A2 L2 c2] 45)
    clear hg hp hr
    go_wp2_with fail
    refine (expect_any ts p s2 s3 cColon (by decide) HS3 _ o.s).mono ?_
    rintro e w4 ⟨rfl, hg, hp⟩
    replace o := o.acc hg hp
    replace x1 := x1.acc hg
    replace x2 := x2.acc hg
    clear hg hp
    go_wp2_with fail
    refine (HEX.out s3 _ _ HB hB o.s).mono ?_
    rintro e w5 ⟨kd3, nn3, nm3, op3, A3, L3, c3, rfl, hr, hg, hp⟩
    have hl3 := o.sz
    replace o := o.acc hg hp
    replace x1 := x1.acc hg
    replace x2 := x2.acc hg
    have hl4 := hg.size
    clear hg hp
    obtain ⟨r0, r1, r2, r3, r4, f0, f1, f2, f3, f4⟩ := o.ok
    obtain ⟨a0, a1, a2, a3, a4, _⟩ := x1.k.cells5
    obtain ⟨b0, b1, b2, b3, b4, _⟩ := x2.k.cells5
    have hlt := o.sz
    have hl1 := x1.k.lt
    have hl2 := x2.k.lt
    have HR := Lib.hid hr
    clear hr
    go_wp2_with fail
    have e0 := set5_size w5 w.heap.size (.int .i64 5) (.int .i64 0) (.string ⟨#[]⟩) (.int .i64 0) (.slice (some ⟨w5.heap.size + 1, 0, none⟩) 3 3)
    have y3 := ((set5_rep HR.out (Or.inl hl3) (.int .i64 5) (.int .i64 0) (.string ⟨#[]⟩) (.int .i64 0) (.slice (some ⟨w5.heap.size + 1, 0, none⟩) 3 3)).alloc (Nat.le_of_eq e0.symm) (.cells #[.int .i64 kd3, .int .i64 nn3, .string ⟨nm3.toArray⟩, .int .i64 op3, .slice A3 L3 c3] 45))
    replace o := ((o.put (.int .i64 5) (.int .i64 0) (.string ⟨#[]⟩) (.int .i64 0) (.slice (some ⟨w5.heap.size + 1, 0, none⟩) 3 3)).al (.cells #[.int .i64 kd3, .int .i64 nn3, .string ⟨nm3.toArray⟩, .int .i64 op3, .slice A3 L3 c3] 45))
    replace x1 := (x1.put (.int .i64 5) (.int .i64 0) (.string ⟨#[]⟩) (.int .i64 0) (.slice (some ⟨w5.heap.size + 1, 0, none⟩) 3 3)).al (.cells #[.int .i64 kd3, .int .i64 nn3, .string ⟨nm3.toArray⟩, .int .i64 op3, .slice A3 L3 c3] 45)
    replace x2 := (x2.put (.int .i64 5) (.int .i64 0) (.string ⟨#[]⟩) (.int .i64 0) (.slice (some ⟨w5.heap.size + 1, 0, none⟩) 3 3)).al (.cells #[.int .i64 kd3, .int .i64 nn3, .string ⟨nm3.toArray⟩, .int .i64 op3, .slice A3 L3 c3] 45)
    generalize hwz : (set5 w5 w.heap.size (.int .i64 5) (.int .i64 0) (.string ⟨#[]⟩) (.int .i64 0) (.slice (some ⟨w5.heap.size + 1, 0, none⟩) 3 3)).alloc (.cells #[.int .i64 kd3, .int .i64 nn3, .string ⟨nm3.toArray⟩, .int .i64 op3, .slice A3 L3 c3] 45) = wz at *
    have hz : wz.heap.size = w5.heap.size + 1 := by rw [← hwz, World.size_alloc, e0]
    replace o := o.al (.cells #[.int .i64 kd, .int .i64 nn, .string ⟨nm.toArray⟩, .int .i64 op, .slice A L c, .int .i64 kd2, .int .i64 nn2, .string ⟨nm2.toArray⟩, .int .i64 op2, .slice A2 L2 c2, .int .i64 kd3, .int .i64 nn3, .string ⟨nm3.toArray⟩, .int .i64 op3, .slice A3 L3 c3] 45)
    obtain ⟨hk, hx⟩ := o.done (repE_3 (c := 3) (blk_at hz _ _) rfl ⟨by omega, by simp; omega⟩ (x1.al _).out (x2.al _).out ((y3.alloc (by omega) _).mono hl3 (by simp; omega)) rfl rfl rfl 5 0 [] 0)
    obtain ⟨q0, q1, q2, q3, q4, _⟩ := hk.cells5
    exact bodyPost_ret (v := exV 5 0 [] 0 (some ⟨w5.heap.size + 1, 0, none⟩) 3 3) (by simp [results, Tryd.results68, go_sem, q0, q1, q2, q3, q4]) rfl hx
  · rw [if_neg hx] at hq
    subst hq
    have HX := Lib.hid (show nx ts s1 cQuest = false by simpa using hx)
    clear hx
    go_enter Tryd.func68, Tryd.ntmps68
    go_wp2_with fail
    refine (bin1 HBI.out s _ _ HC hms o.s).mono ?_
    rintro e w1 ⟨kd, nn, nm, op, A, L, c, rfl, hr, hg, hp⟩
    have x1 := Hold.start hr o hg.size 45
    replace o := (o.acc hg hp).al (.cells #[.int .i64 kd, .int .i64 nn, .string ⟨nm.toArray⟩, .int .i64 op, .slice A L c] 45)
    clear hg hp hr
    go_wp2_with fail
    refine (accept_no ts p s1 cQuest HX _ o.s).mono ?_
    rintro e w2 ⟨rfl, hg, hp⟩
    replace o := o.acc hg hp
    replace x1 := x1.acc hg
    clear hg hp
    obtain ⟨r0, r1, r2, r3, r4, f0, f1, f2, f3, f4⟩ := o.ok
    obtain ⟨k0, k1, k2, k3, k4, _⟩ := x1.k.cells5
    go_wp2_with fail
    obtain ⟨hk, hx⟩ := o.fin x1.out
    obtain ⟨q0, q1, q2, q3, q4, _⟩ := hk.cells5
    exact bodyPost_ret (v := exV kd nn nm op A L c) (by simp [results, Tryd.results68, go_sem, q0, q1, q2, q3, q4]) rfl hx
/-- An element's index is read. -/
def elF (ts : List Tk) (n : Nat) (nm : List UInt8) (s : PS) : PE × PS := (idxE nm (exF ts n s).1, exs ts (exF ts n s).2 cRb)
theorem element_step (ts : List Tk) (p n : Nat) (hex : WEx ts p n) (nm : List UInt8) (s : PS) (q : PE × PS) (w : World) (hq : Hid (elF ts n nm s = q)) (hm : 5 * ms ts s + 4 ≤ n) (h : PSt ts p s w) :
    Calls Tryd.prog 118 #[.pointer (some ⟨p, 0, none⟩), .string ⟨nm.toArray⟩] w (ExP ts p q w) := by
  have hq := hq.out
  unfold elF at hq
  obtain ⟨⟨cpe, s1⟩, hc⟩ : ∃ x, exF ts n s = x := ⟨_, rfl⟩
  have HC := Lib.hid hc
  rw [hc] at hq
  dsimp only at hq
  obtain ⟨s2, hs2⟩ : ∃ x, exs ts s1 cRb = x := ⟨_, rfl⟩
  have HS2 := Lib.hid hs2
  rw [hs2] at hq
  subst hq
  have o := Own.start h 45 ex0
  have HEX := Lib.hid hex
  clear hex hc h hs2
  go_enter Tryd.func118, Tryd.ntmps118
  go_wp2_with fail
  refine (HEX.out s _ _ HC hm o.s).mono ?_
  rintro e w1 ⟨kd, nn, nm1, op, A, L, c, rfl, hr, hg, hp⟩
  have x1 := Hold.start hr o hg.size 45
  replace o := (o.acc hg hp).al (.cells #[.int .i64 kd, .int .i64 nn, .string ⟨nm1.toArray⟩, .int .i64 op, .slice A L c] 45)
  clear hg hp hr
  go_wp2_with fail
  refine (expect_any ts p s1 s2 cRb (by decide) HS2 _ o.s).mono ?_
  rintro e w2 ⟨rfl, hg, hp⟩
  replace o := o.acc hg hp
  replace x1 := x1.acc hg
  clear hg hp
  obtain ⟨r0, r1, r2, r3, r4, f0, f1, f2, f3, f4⟩ := o.ok
  obtain ⟨k0, k1, k2, k3, k4, _⟩ := x1.k.cells5
  have hlt := o.sz
  have hl1 := x1.k.lt
  go_wp2_with fail
  have e0 := set5_size w2 w.heap.size (.int .i64 3) (.int .i64 0) (.string ⟨nm.toArray⟩) (.int .i64 0) (.slice (some ⟨w2.heap.size, 0, none⟩) 1 1)
  replace o := o.put (.int .i64 3) (.int .i64 0) (.string ⟨nm.toArray⟩) (.int .i64 0) (.slice (some ⟨w2.heap.size, 0, none⟩) 1 1)
  replace x1 := x1.put (.int .i64 3) (.int .i64 0) (.string ⟨nm.toArray⟩) (.int .i64 0) (.slice (some ⟨w2.heap.size, 0, none⟩) 1 1)
  obtain ⟨hk, hx⟩ := (o.al (.cells #[.int .i64 kd, .int .i64 nn, .string ⟨nm1.toArray⟩, .int .i64 op, .slice A L c] 45)).done (repE_1 (c := 1) (blk_at e0 _ _) rfl ⟨by omega, by rw [World.size_alloc, e0]; omega⟩ (x1.al _).out rfl 3 0 nm 0)
  obtain ⟨q0, q1, q2, q3, q4, _⟩ := hk.cells5
  exact bodyPost_ret (v := exV 3 0 nm 0 (some ⟨w2.heap.size, 0, none⟩) 1 1) (by simp [results, Tryd.results118, go_sem, q0, q1, q2, q3, q4]) rfl hx
end Go.Proofs.YtjeidpfpgolonaaDoor
