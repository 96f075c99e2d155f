/- InterpTraps walked. -/
import Derived.Test.YtpgnlfdindmopaaGreatDoorIy
import Derived.Test.YtpgnlfdindmopaaGreatDoorZd
import Derived.Deep.RegionHeld3
import Derived.WalkLawsBesides
namespace Go.Proofs.YtpgnlfdindmopaaGreatDoor
open Go.RowKit (wrap64 intOf)
open Go Go.RowKit WM LX PX CX IX

set_option maxRecDepth 100000
set_option maxHeartbeats 4000000
theorem pick2_any (n m k : Int) (hm : 0 < m) (hm2 : m ≤ 2000000) (hk : n % m = k) (w : World) :
    Calls Tryz.prog 7 #[.int .i64 n, .int .i64 m] w fun e w' => e = .returned (.int .i64 k) ∧ w = w' := by
  obtain ⟨hp, hn⟩ := emod_of_tmod n m hm
  have h1 := Int.tmod_lt_of_pos n hm
  have h2 := Int.tmod_lt_of_pos (-n) hm
  rw [Int.neg_tmod] at h2
  have hne : (m == 0) = false := by rw [beq_eq_false_iff_ne]; omega
  by_cases hc : n.tmod m < 0
  · have hk' := (hn hc).trans hk
    have HK := Lib.hid hk'
    clear hk hk' hp hn
    have hb1 : 0 ≤ n.tmod m + m := by omega
    go_enter Tryz.func7, Tryz.ntmps7
    go_wp2_with fail
    go_ret
    exact ⟨by rw [← HK.out]; rfl, rfl⟩
  · have hk' := (hp (by omega)).trans hk
    have HK := Lib.hid hk'
    clear hk hk' hp hn
    go_enter Tryz.func7, Tryz.ntmps7
    go_wp2_with fail
    go_ret
    exact ⟨by rw [← HK.out]; rfl, rfl⟩
theorem len_rng (f : Nat → Int) (m : Nat) : ((List.range m).map f).length = m := by rw [List.length_map, List.length_range]
theorem tp_any (n cd at' : Int) (w : World) (he : PEnv w) : Calls Tryz.prog 3 #[.int .i64 n, .int .i64 cd, .int .i64 at'] w (RetN (.bool true) w) := by
  obtain ⟨k, hk, hk9⟩ : ∃ k : Nat, n % 9 = (k : Int) ∧ k < 9 := ⟨(n % 9).toNat, by omega, by omega⟩
  obtain ⟨m, hm, hm12⟩ : ∃ m : Nat, at' % 12 = (m : Int) ∧ m < 12 := ⟨(at' % 12).toNat, by omega, by omega⟩
  obtain ⟨c, hc, hc0, hc1⟩ : ∃ c : Int, cd % 1000001 = c ∧ 0 ≤ c ∧ c ≤ 1000000 := ⟨_, rfl, by omega, by omega⟩
  have HP1 := Lib.hid (fun w => pick_any n 9 k (by decide) (by decide) hk w)
  have HP2 := Lib.hid (fun w => pick2_any cd 1000001 c (by decide) (by decide) hc w)
  have HP3 := Lib.hid (fun w => pick_any at' 12 m (by decide) (by decide) hm w)
  have HP := Lib.hid (fun (s : ByteArray) (hs : s.data.toList = ipT) => rrefparse_any s (ipQ 0, 0, 0) (Lib.hid (by rw [hs]; exact ip_parse)) w)
  have HE := Lib.hid he
  have HGO := Lib.hid (tp_at k m c hk9 hm12)
  have HCK := Lib.hid (ipQ_chk c hc0 hc1)
  have HKM := Lib.hid (And.intro hk9 hm12)
  clear he hk hm hc hk9 hm12
  go_enter Tryz.func3, Tryz.ntmps3
  go_wp2_with fail
  (with_reducible refine (HP1.out _).mono ?_)
  rintro e w' ⟨rfl, rfl⟩
  go_wp2_with fail
  (with_reducible refine (HP2.out _).mono ?_)
  rintro e w' ⟨rfl, rfl⟩
  go_wp2_with fail
  (with_reducible refine (HP3.out _).mono ?_)
  rintro e w' ⟨rfl, rfl⟩
  go_wp2_with fail
  refine (HP.out _ rfl).mono ?_
  rintro e w1 ⟨A, L, c1, A', L', c2, rfl, rA, rF, hb1⟩
  obtain ⟨gF, gB, cB, gT, cT, gG, cG, rfl, rfl, oF, oB, oT, oG, xF, xB, xT, xG, hfz, hput⟩ := tp_store (fun g h => h.2) rA rF
  have hs0 := set_size w1 ⟨gG, 3, none⟩ (.int .i64 c)
  obtain ⟨V, hV⟩ : ∃ V, w1.setCell ⟨gG, 3, none⟩ (.int .i64 c) = V := ⟨_, rfl⟩
  have hbV : Below w.heap.size w V := by
    rw [← hV]
    exact ⟨hb1.os, hb1.tape, hb1.output, by rw [set_size]; exact hb1.size, fun i hi => (set_blk _ _ _ _ _ (by have := oG.1; omega)).trans (hb1.block i hi)⟩
  have hpV := hput c w1 (Below.refl _ _)
  rw [hV] at hs0 hpV
  obtain ⟨w3, hw3⟩ : ∃ w3, (V.alloc (.cells #[.slice A L c1, .slice (some ⟨gF, 0, none⟩) 1 c2] 26)).alloc (.cells #[.int .i64 0, .int .i64 0] 29) = w3 := ⟨_, rfl⟩
  have hb3 : Below V.heap.size V w3 := by rw [← hw3]; exact ((Below.refl _ _).alloc (Nat.le_refl _) _).alloc (by simp) _
  have hz3 : w3.heap.size = w1.heap.size + 1 + 1 := by rw [← hw3]; simp; omega
  obtain ⟨w4, hw4⟩ : ∃ w4, w3.alloc (.cells #[.int .i64 (k : Int), .int .i64 (m : Int)] 2) = w4 := ⟨_, rfl⟩
  have hb4 : Below w3.heap.size w3 w4 := by rw [← hw4]; exact (Below.refl _ _).alloc (Nat.le_refl _) _
  have ka : Blk w4 (w1.heap.size + 1 + 1) 2 #[.int .i64 (k : Int), .int .i64 (m : Int)] := by rw [← hw4, ← hz3]; exact Blk.new _ _ _
  have hp4 := (hpV.low hb3).low hb4
  have hbw3 := hbV.trans (below_down hb3 hbV.size)
  have hbw4 := hbw3.trans (below_down hb4 hbw3.size)
  have hru : Calls Tryz.prog 9 #[.agg #[.slice A L c1, .slice (some ⟨gF, 0, none⟩) 1 c2], .string ⟨#[102]⟩, .slice (some ⟨w1.heap.size + 1 + 1, 0, none⟩) 2 2, .int .i64 20] w4 (OcP (tpR k m c) w4) :=
    runc 60 hp4 (ipQ_sz c) HCK.out (HE.out.on hbw4) (fuel := 20) (by decide) [102] (by decide) (argV_2 (c := 2) ka) HGO.out
  have HX := Lib.hid (And.intro hV (And.intro hw3 (And.intro hw4 (And.intro hbw4 hru))))
  have zG : w1.frozen? ⟨gG, 3, none⟩ = false := hfz 3
  have lF := oF.2
  have lB := oB.2
  have lT := oT.2
  have lG := oG.2
  clear hfz hput rA rF hb1 oF oB oT oG hs0 hV hbV hpV hw3 hb3 hz3 hw4 hb4 ka hp4 hbw3 hbw4 hru HGO HCK
  go_wp2_with fail
  rw [HX.out.1, HX.out.2.1, HX.out.2.2.1]
  refine HX.out.2.2.2.2.mono ?_
  rintro e w5 ⟨ov, rfl, hov, hb5⟩
  have hbw5 := HX.out.2.2.2.1.trans (below_down hb5 HX.out.2.2.2.1.size)
  have h16 : wrap64 (16 + c) = 16 + c := by unfold wrap64; omega
  obtain ⟨A5, c5, rfl, ho⟩ := hov
  clear ho hb5
  have hkm := HKM.out
  by_cases hmk : m < k
  · have e0 : tpR k m c = ⟨2, 16 + c, (List.range m).map fun i : Nat => (i : Int), 0⟩ := by unfold tpR; rw [if_pos hmk, h16]
    rw [e0, len_rng]
    obtain ⟨w6, hw6⟩ : ∃ w6, w5.alloc (.cells #[.int .i64 2, .int .i64 (16 + c), .slice A5 m c5, .int .i64 0] 43) = w6 := ⟨_, rfl⟩
    have hb6 : Below w5.heap.size w5 w6 := by rw [← hw6]; exact (Below.refl _ _).alloc (Nat.le_refl _) _
    have hbw6 := hbw5.trans (below_down hb6 hbw5.size)
    have HEX := Lib.hid (ixs_any w6 (HE.out.on hbw6))
    have HW := Lib.hid (And.intro hw6 hbw6)
    have h1 : (m : Int) < (k : Int) := by omega
    have h2 : (m : Int) ≤ 9223372036854775807 := by omega
    clear hw6 hb6 hbw6 e0 h16 hmk hkm hbw5 HX
    dsimp only
    go_wp2_with fail
    rw [HW.out.1]
    refine HEX.out.mono ?_
    rintro e w7 ⟨rfl, hb7⟩
    go_wp2_with fail
    go_ret
    exact retN rfl (HW.out.2.trans (below_down hb7 HW.out.2.size))
  · have e0 : tpR k m c = ⟨1, 0, (List.range k).map fun i : Nat => (i : Int), 5⟩ := by unfold tpR; rw [if_neg hmk]
    rw [e0, len_rng]
    obtain ⟨w6, hw6⟩ : ∃ w6, w5.alloc (.cells #[.int .i64 1, .int .i64 0, .slice A5 k c5, .int .i64 5] 43) = w6 := ⟨_, rfl⟩
    have hb6 : Below w5.heap.size w5 w6 := by rw [← hw6]; exact (Below.refl _ _).alloc (Nat.le_refl _) _
    have hbw6 := hbw5.trans (below_down hb6 hbw5.size)
    have HEX := Lib.hid (ixs_any w6 (HE.out.on hbw6))
    have HW := Lib.hid (And.intro hw6 hbw6)
    have h1 : (k : Int) ≤ (m : Int) := by omega
    have h2 : (k : Int) ≤ 9223372036854775807 := by omega
    clear hw6 hb6 hbw6 e0 h16 hmk hkm hbw5 HX
    dsimp only
    go_wp2_with fail
    rw [HW.out.1]
    refine HEX.out.mono ?_
    rintro e w7 ⟨rfl, hb7⟩
    go_wp2_with fail
    go_ret
    exact retN rfl (HW.out.2.trans (below_down hb7 HW.out.2.size))
end Go.Proofs.YtpgnlfdindmopaaGreatDoor
