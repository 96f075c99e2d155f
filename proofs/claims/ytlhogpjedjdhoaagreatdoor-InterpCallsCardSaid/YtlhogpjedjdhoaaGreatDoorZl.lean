/- InterpCalls walked. -/
import Derived.Test.YtlhogpjedjdhoaaGreatDoorIy
import Derived.Test.YtlhogpjedjdhoaaGreatDoorJ2
namespace Go.Proofs.YtlhogpjedjdhoaaGreatDoor
open Go.RowKit (wrap64 intOf)
open Go Go.RowKit WM LX PX CX IX

set_option maxRecDepth 100000
set_option maxHeartbeats 4000000
theorem ic_sz : szP icP ≤ 1000000 := of_decide_eq_true (by kernel_rfl)
theorem itV_eq (s : Int) (n : Nat) : itV s n = wrap64 ((n : Int) * s) := by
  induction n with
  | zero => unfold itV wrap64; omega
  | succ n ih =>
    have e : ((n + 1 : Nat) : Int) * s = (n : Int) * s + s := by push_cast; rw [Int.add_mul, Int.one_mul]
    rw [e]
    show wrap64 (itV s n + s) = _
    rw [ih]
    unfold wrap64
    omega
theorem cll_out (n f : Nat) (s : Int) : ∃ kd out vl, clR n f s = ⟨kd, 0, out, vl⟩ ∧ out.length = min n f + 1 ∧ (∀ i : Nat, i < min n f + 1 → out[i]? = some ((n : Int) - (i : Int))) ∧
    ((n ≤ f ∧ kd = 1 ∧ vl = wrap64 ((n : Int) * s)) ∨ (f < n ∧ kd = 3)) := by
  refine ⟨_, _, _, rfl, by simp, fun i hi => by simp [hi]; omega, ?_⟩
  by_cases h : n ≤ f
  · exact .inl ⟨h, if_pos h, by rw [if_pos h, itV_eq]⟩
  · exact .inr ⟨by omega, if_neg h⟩
theorem cll_m (N F L : Nat) (h : min N F = L) (h3 : N < 20) (h4 : F < 24) : L ≤ 24 ∧ min (N : Int) (F : Int) = (L : Int) ∧ F ≤ 1000 := ⟨by omega, by omega, by omega⟩
theorem cll_w (N j L F : Nat) (h : N < 20) (hj : j < L + 1) (hl : min N F = L) : wrap64 ((N : Int) - (j : Int)) = (N : Int) - (j : Int) := by
  have h2 : j ≤ N := by omega
  clear hj hl
  unfold wrap64
  omega
theorem cll_any (n fuel s : Int) (w : World) (he : PEnv w) : Calls Tryz.prog 7 #[.int .i64 n, .int .i64 fuel, .int .i64 s] w (RetN (.bool true) w) := by
  obtain ⟨N, hN, hNl⟩ : ∃ N : Nat, n % 20 = (N : Int) ∧ N < 20 := ⟨(n % 20).toNat, by omega, by omega⟩
  obtain ⟨F, hF, hFl⟩ : ∃ F : Nat, fuel % 24 = (F : Int) ∧ F < 24 := ⟨(fuel % 24).toNat, by omega, by omega⟩
  have HP := Lib.hid (fun s hs => prs_any icT icP ic_parse s hs w)
  have HE := Lib.hid he
  have HN := Lib.hid (And.intro (pick_any n 20 N (by decide) (by decide) hN w) (pick_any fuel 24 F (by decide) (by decide) hF w))
  have HT := Lib.hid (cl_at N F s hNl hFl)
  obtain ⟨kd, out, vl, hoc, hlen, helem, hkd⟩ := cll_out N F s
  rw [hoc] at HT
  obtain ⟨L, hL⟩ : ∃ L, min N F = L := ⟨_, rfl⟩
  rw [hL] at hlen helem
  obtain ⟨hM24, hmin, hF15⟩ := cll_m N F L hL hNl hFl
  have HM := Lib.hid (And.intro hlen (And.intro helem (And.intro hkd (And.intro hNl hL))))
  clear he hN hF hoc hlen helem hL hkd hNl hFl
  go_enter Tryz.func7, Tryz.ntmps7
  go_wp2_with (first
    | (go_at_call 12; ((with_reducible refine (HN.out.1).mono ?_); rintro e w' ⟨rfl, rfl⟩))
    | (go_at_call 12; ((with_reducible refine (HN.out.2).mono ?_); rintro e w' ⟨rfl, rfl⟩)))
  refine (HP.out _ rfl).mono ?_
  rintro e w1 ⟨A, L', c, A', L'', c', rfl, hpg, hb1⟩
  obtain ⟨w2, hw2⟩ : ∃ w2, (w1.alloc (.cells #[.slice A L' c, .slice A' L'' c'] 25)).alloc (.cells #[.int .i64 0, .int .i64 0] 28) = w2 := ⟨_, rfl⟩
  have hb2 : Below w1.heap.size w1 w2 := by rw [← hw2]; exact ((Below.refl _ _).alloc (Nat.le_refl _) _).alloc (by simp) _
  have k1 : Blk w2 w1.heap.size 25 #[.slice A L' c, .slice A' L'' c'] := by rw [← hw2]; exact (Blk.new _ _ _).alloc _
  have hbw := hb1.trans (below_down hb2 hb1.size)
  have hpg2 := hpg.low hb2
  have hsz : w2.heap.size = w1.heap.size + 1 + 1 := by rw [← hw2]; simp
  have hK2 : ∀ o t, Blk (w2.alloc (.cells o t)) (w1.heap.size + 1 + 1) t o := fun o t => by rw [← hsz]; exact Blk.new _ _ _
  have HK2 := Lib.hid hK2
  clear hsz hK2
  have HX := Lib.hid (And.intro hw2 (And.intro k1 (And.intro hbw (And.intro hpg2 hb2))))
  clear hw2 hb2 k1 hbw hpg2 hpg hb1
  have hru : ∀ (W : World) (hW : Below w2.heap.size w2 W) (av : Value) (hA : ArgV 0 W [(N : Int), s] av), Calls Tryz.prog 11 #[.agg #[.slice A L' c, .slice A' L'' c'], .string ⟨#[102]⟩, av, .int .i64 (F : Int)] W (OcP ⟨kd, 0, out, vl⟩ W) :=
    fun W hW av hA => runc 200 (HX.out.2.2.2.1.low hW) ic_sz ic_chk (HE.out.on (HX.out.2.2.1.trans (below_down hW HX.out.2.2.1.size))) hF15 [102] (by decide) hA HT.out
  have HR := Lib.hid hru
  clear hru
  obtain ⟨x0, x1, _, _⟩ := HX.out.2.1.cells2
  have hl1 := HX.out.2.1.lt
  go_wp2_with fail
  rw [HX.out.1]
  refine (HR.out _ ((Below.refl _ _).alloc (Nat.le_refl _) _) _ (argV_2 (HK2.out _ _))).mono ?_
  rintro e w3 ⟨ov, rfl, hov, hb3⟩
  obtain ⟨A3, c3, rfl, ho⟩ := hov.weak (Nat.zero_le _)
  rw [show (⟨kd, 0, out, vl⟩ : OC).out.length = L + 1 from HM.out.1]
  dsimp only
  obtain ⟨w4, hw4⟩ : ∃ w4, w3.alloc (.cells #[.int .i64 kd, .int .i64 0, .slice A3 (L + 1) c3, .int .i64 vl] 34) = w4 := ⟨_, rfl⟩
  have hb4 : Below w3.heap.size w3 w4 := by rw [← hw4]; exact (Below.refl _ _).alloc (Nat.le_refl _) _
  have k4 : Blk w4 w3.heap.size 34 #[.int .i64 kd, .int .i64 0, .slice A3 (L + 1) c3, .int .i64 vl] := by rw [← hw4]; exact Blk.new _ _ _
  have hbA : Below w2.heap.size w2 w4 := (((Below.refl _ _).alloc (Nat.le_refl _) _).trans (below_down hb3 (by simp))).trans (below_down hb4 (by have := hb3.size; simp at this; omega))
  have HO := Lib.hid (And.intro hw4 (And.intro ho (And.intro hb4 (And.intro k4 hbA))))
  clear hw4 ho hb4 k4 hbA hov hb3
  rcases HM.out.2.2.1 with ⟨hk1, rfl, rfl⟩ | ⟨hk1, rfl⟩
  · have e1 : (N : Int) ≤ (F : Int) := Int.ofNat_le.2 hk1
    go_wp2_with fail
    rw [HO.out.1]
    go_loopg [57] (L + 1) (fun k i wr => ∃ j : Nat, j + k = L + 1 ∧ i = .int .i64 (j : Int) ∧ Hid (Below w4.heap.size w4 wr))
    case atStart => exact ⟨0, Nat.zero_add _, rfl, Lib.hid (Below.refl _ _)⟩
    case round =>
      obtain ⟨j, hj, rfl, HB⟩ := hrel
      have i4 := HO.out.2.2.2.1.on HB.out HO.out.2.2.2.1.lt
      have x0 : wr.cell? ⟨w3.heap.size, 0, none⟩ = some (.int .i64 1) := i4.cell 0
      have x2 : wr.cell? ⟨w3.heap.size, 2, none⟩ = some (.slice A3 (L + 1) c3) := i4.cell 2
      have x3 : wr.cell? ⟨w3.heap.size, 3, none⟩ = some (.int .i64 (wrap64 ((N : Int) * s))) := i4.cell 3
      have l4 := i4.lt
      by_cases hlt : j < L + 1
      · obtain ⟨g, rfl, _, hg, hc⟩ := HO.out.2.1 j ((N : Int) - (j : Int)) (HM.out.2.1 j hlt)
        have y1 : wr.cell? ⟨g, j, none⟩ = some (.int .i64 ((N : Int) - (j : Int))) := ((HO.out.2.2.1.trans (below_down HB.out HO.out.2.2.1.size)).cell (p := ⟨g, j, none⟩) hg).trans hc
        have e3 : (j : Int) < (L : Int) + 1 := by omega
        have e3b : j ≤ L := by omega
        have e3c : (j : Int) ≤ (L : Int) := by omega
        have e4 : wrap64 ((N : Int) - (j : Int)) = (N : Int) - (j : Int) := cll_w N j L F HM.out.2.2.2.1 hlt HM.out.2.2.2.2
        clear i4 hg hc hmin e1 hk1 hF15
        go_wp2_with fail
        go_roundg (gk - 1)
        case measure => omega
        case rel => exact ⟨j + 1, by omega, by go_num, HB⟩
      · obtain rfl : j = L + 1 := by omega
        have HZ := Lib.hid (HX.out.2.2.1.trans (below_down (HO.out.2.2.2.2.trans (below_down HB.out HO.out.2.2.2.2.size)) HX.out.2.2.1.size))
        clear i4 hmin e1 hk1 hF15
        have hex := fun W (hW : Below wr.heap.size wr W) => ixs_any W (HE.out.on (HZ.out.trans (below_down hW HZ.out.size)))
        have HEX := Lib.hid hex
        clear hex
        go_wp2_with (go_at_call 3; ((with_reducible refine (HEX.out _ (by first | exact Below.refl _ _ | exact below_drewN (Below.refl _ _) _)).mono ?_); rintro e w5 ⟨rfl, hb5⟩; have HQ := Lib.hid (HZ.out.trans (below_down hb5 HZ.out.size)); clear hb5))
        go_ret
        exact retN rfl HQ.out
  · have hk2 : ¬ (N ≤ F) := Nat.not_le.2 hk1
    have e1 : ¬ ((N : Int) ≤ (F : Int)) := fun h => hk2 (Int.ofNat_le.1 h)
    clear hk1
    have hk1 := hk2
    clear hk2
    go_wp2_with fail
    rw [HO.out.1]
    go_loopg [57] (L + 1) (fun k i wr => ∃ j : Nat, j + k = L + 1 ∧ i = .int .i64 (j : Int) ∧ Hid (Below w4.heap.size w4 wr))
    case atStart => exact ⟨0, Nat.zero_add _, rfl, Lib.hid (Below.refl _ _)⟩
    case round =>
      obtain ⟨j, hj, rfl, HB⟩ := hrel
      have i4 := HO.out.2.2.2.1.on HB.out HO.out.2.2.2.1.lt
      have x0 : wr.cell? ⟨w3.heap.size, 0, none⟩ = some (.int .i64 3) := i4.cell 0
      have x2 : wr.cell? ⟨w3.heap.size, 2, none⟩ = some (.slice A3 (L + 1) c3) := i4.cell 2
      have x3 : wr.cell? ⟨w3.heap.size, 3, none⟩ = some (.int .i64 (vl)) := i4.cell 3
      have l4 := i4.lt
      by_cases hlt : j < L + 1
      · obtain ⟨g, rfl, _, hg, hc⟩ := HO.out.2.1 j ((N : Int) - (j : Int)) (HM.out.2.1 j hlt)
        have y1 : wr.cell? ⟨g, j, none⟩ = some (.int .i64 ((N : Int) - (j : Int))) := ((HO.out.2.2.1.trans (below_down HB.out HO.out.2.2.1.size)).cell (p := ⟨g, j, none⟩) hg).trans hc
        have e3 : (j : Int) < (L : Int) + 1 := by omega
        have e3b : j ≤ L := by omega
        have e3c : (j : Int) ≤ (L : Int) := by omega
        have e4 : wrap64 ((N : Int) - (j : Int)) = (N : Int) - (j : Int) := cll_w N j L F HM.out.2.2.2.1 hlt HM.out.2.2.2.2
        clear i4 hg hc hmin e1 hk1 hF15
        go_wp2_with fail
        go_roundg (gk - 1)
        case measure => omega
        case rel => exact ⟨j + 1, by omega, by go_num, HB⟩
      · obtain rfl : j = L + 1 := by omega
        have HZ := Lib.hid (HX.out.2.2.1.trans (below_down (HO.out.2.2.2.2.trans (below_down HB.out HO.out.2.2.2.2.size)) HX.out.2.2.1.size))
        clear i4 hmin e1 hk1 hF15
        have hex := fun W (hW : Below wr.heap.size wr W) => ixs_any W (HE.out.on (HZ.out.trans (below_down hW HZ.out.size)))
        have HEX := Lib.hid hex
        clear hex
        go_wp2_with (go_at_call 3; ((with_reducible refine (HEX.out _ (by first | exact Below.refl _ _ | exact below_drewN (Below.refl _ _) _)).mono ?_); rintro e w5 ⟨rfl, hb5⟩; have HQ := Lib.hid (HZ.out.trans (below_down hb5 HZ.out.size)); clear hb5))
        go_ret
        exact retN rfl HQ.out
end Go.Proofs.YtlhogpjedjdhoaaGreatDoor
