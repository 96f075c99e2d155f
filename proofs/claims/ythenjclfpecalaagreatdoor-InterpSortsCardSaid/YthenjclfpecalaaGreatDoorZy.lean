/- InterpSorts walked. -/
import Derived.Test.YthenjclfpecalaaGreatDoorIy
import Derived.Test.YthenjclfpecalaaGreatDoorZb
import Derived.Deep.RegionHeld3
import Derived.WalkLawsBesides
namespace Go.Proofs.YthenjclfpecalaaGreatDoor
open Go.RowKit (wrap64 intOf)
open Go Go.RowKit WM LX PX CX IX

set_option maxRecDepth 100000
set_option maxHeartbeats 4000000
theorem bx (a b : Int) : binF 11 a b = (bv a ^^^ bv b).toInt := by rw [show binF 11 a b = bits .xor .i64 a b from rfl, bits_xor]
theorem bx3 (a b c : Int) : binF 11 (binF 11 a b) c = (bv a ^^^ bv b ^^^ bv c).toInt := by rw [bx, bx, bv_toInt]
theorem srt_xor {a b c x y z : Int} (h : Srt a b c x y z) : binF 11 (binF 11 x y) z = binF 11 (binF 11 a b) c := by
  rw [bx3, bx3]
  obtain ⟨_, _, ⟨rfl, rfl, rfl⟩ | ⟨rfl, rfl, rfl⟩ | ⟨rfl, rfl, rfl⟩ | ⟨rfl, rfl, rfl⟩ | ⟨rfl, rfl, rfl⟩ | ⟨rfl, rfl, rfl⟩⟩ := h <;> congr 1 <;> ac_rfl
theorem srt_mm {a b c x y z : Int} (h : Srt a b c x y z) : x ≤ y ∧ y ≤ z ∧ x = (if c < (if b < a then b else a) then c else (if b < a then b else a)) ∧ z = (if (if a < b then b else a) < c then c else (if a < b then b else a)) := by
  obtain ⟨h1, h2, h⟩ := h
  refine ⟨h1, h2, ?_, ?_⟩ <;> (repeat' split) <;> omega
theorem wbq (a b : Int) (w : World) : Calls Tryz.prog 10 #[.int .i64 11, .int .i64 a, .int .i64 b] w fun e w' => e = .returned (.int .i64 (binF 11 a b)) ∧ w' = w :=
  (wbin_any 11 a b w).mono fun _ _ h => ⟨h.1, h.2.symm⟩
theorem is_sz : szP isP ≤ 1000000 := of_decide_eq_true (by kernel_rfl)
theorem srt_any (a b c : Int) (w : World) (he : PEnv w) : Calls Tryz.prog 3 #[.int .i64 a, .int .i64 b, .int .i64 c] w (RetN (.bool true) w) := by
  obtain ⟨x, y, z, hgo, hsrt⟩ := is_at a b c
  have HP := Lib.hid (fun s hs => prs_any isT isP is_parse s hs w)
  have HE := Lib.hid he
  have HGO := Lib.hid hgo
  have HSRT := Lib.hid hsrt
  clear he hgo hsrt
  go_enter Tryz.func3, Tryz.ntmps3
  go_wp2_with fail
  refine (HP.out _ rfl).mono ?_
  rintro e w1 ⟨A, L, c1, A', L', c2, rfl, hpg, hb1⟩
  obtain ⟨w2, hw2⟩ : ∃ w2, (w1.alloc (.cells #[.slice A L c1, .slice A' L' c2] 25)).alloc (.cells #[.int .i64 0, .int .i64 0] 28) = w2 := ⟨_, rfl⟩
  have hb2 : Below w1.heap.size w1 w2 := by rw [← hw2]; exact ((Below.refl _ _).alloc (Nat.le_refl _) _).alloc (by simp) _
  have k1 : Blk w2 w1.heap.size 25 #[.slice A L c1, .slice A' L' c2] := by rw [← hw2]; exact (Blk.new _ _ _).alloc _
  have hbw := hb1.trans (below_down hb2 hb1.size)
  have hpg2 := hpg.low hb2
  have hsz : w2.heap.size = w1.heap.size + 1 + 1 := by rw [← hw2]; simp
  obtain ⟨w3, hw3⟩ : ∃ w3, w2.alloc (.cells #[.int .i64 a, .int .i64 b, .int .i64 c] 2) = w3 := ⟨_, rfl⟩
  have hb3 : Below w2.heap.size w2 w3 := by rw [← hw3]; exact (Below.refl _ _).alloc (Nat.le_refl _) _
  have ka : Blk w3 (w1.heap.size + 1 + 1) 2 #[.int .i64 a, .int .i64 b, .int .i64 c] := by rw [← hw3, ← hsz]; exact Blk.new _ _ _
  have k3 := k1.on hb3 k1.lt
  have hpg3 := hpg2.low hb3
  have hbw3 := hbw.trans (below_down hb3 hbw.size)
  have HX := Lib.hid (And.intro hw2 (And.intro hw3 (And.intro hbw3 (And.intro hpg3 (And.intro k3 ka)))))
  obtain ⟨x0, x1, _, _⟩ := k1.cells2
  have hl1 := k1.lt
  clear hw2 hb2 k1 hbw hpg2 hsz hw3 hb3 ka k3 hpg3 hbw3 hpg hb1
  have hru : Calls Tryz.prog 9 #[.agg #[.slice A L c1, .slice A' L' c2], .string ⟨#[102]⟩, .slice (some ⟨w1.heap.size + 1 + 1, 0, none⟩) 3 3, .int .i64 20] w3 (OcP ⟨1, 0, [x, y, z], 0⟩ w3) :=
    runc 40 HX.out.2.2.2.1 is_sz is_chk (HE.out.on HX.out.2.2.1) (fuel := 20) (by decide) [102] (by decide) (argV_3 (c := 3) HX.out.2.2.2.2.2) HGO.out
  have HR := Lib.hid hru
  clear hru HGO
  go_wp2_with fail
  rw [HX.out.1]
  go_wp2_with fail
  rw [HX.out.2.1]
  refine HR.out.mono ?_
  rintro e w4 ⟨ov, rfl, hov, hb4⟩
  obtain ⟨A4, c4, rfl, ho⟩ := hov
  obtain ⟨g, rfl, hg0, hg, v0⟩ := ho 0 x rfl
  obtain ⟨_, e1, _, _, v1⟩ := ho 1 y rfl
  injection e1 with e1
  injection e1 with e1
  subst e1
  obtain ⟨_, e1, _, _, v2⟩ := ho 2 z rfl
  injection e1 with e1
  injection e1 with e1
  subst e1
  simp only [List.length_cons, List.length_nil, Nat.zero_add, Nat.reduceAdd]
  obtain ⟨w5, hw5⟩ : ∃ w5, w4.alloc (.cells #[.int .i64 1, .int .i64 0, .slice (some ⟨g, 0, none⟩) 3 c4, .int .i64 0] 33) = w5 := ⟨_, rfl⟩
  have hb5 : Below w4.heap.size w4 w5 := by rw [← hw5]; exact (Below.refl _ _).alloc (Nat.le_refl _) _
  have k5 : Blk w5 w4.heap.size 33 #[.int .i64 1, .int .i64 0, .slice (some ⟨g, 0, none⟩) 3 c4, .int .i64 0] := by rw [← hw5]; exact Blk.new _ _ _
  obtain ⟨o0, o1, o2, o3, _⟩ := k5.cells4
  have v0 : w5.cell? ⟨g, 0, none⟩ = some (.int .i64 x) := (hb5.cell (p := ⟨g, 0, none⟩) hg).trans v0
  have v1 : w5.cell? ⟨g, 1, none⟩ = some (.int .i64 y) := (hb5.cell (p := ⟨g, 1, none⟩) hg).trans v1
  have v2 : w5.cell? ⟨g, 2, none⟩ = some (.int .i64 z) := (hb5.cell (p := ⟨g, 2, none⟩) hg).trans v2
  have hg5 : g < w5.heap.size := Nat.lt_of_lt_of_le hg hb5.size
  have hl5 := k5.lt
  have hbw5 : Below w.heap.size w w5 := HX.out.2.2.1.trans (below_down (hb4.trans (below_down hb5 hb4.size)) HX.out.2.2.1.size)
  have HW := Lib.hid (And.intro hw5 hbw5)
  clear ho hb4 hw5 hb5 k5 hbw5 hg
  go_wp2_with fail
  rw [HW.out.1]
  have hmm := srt_mm HSRT.out
  obtain ⟨hxy, hyz, hmin, hmax⟩ := hmm
  have HMM := Lib.hid (And.intro hmin hmax)
  clear hmin hmax
  go_wp2_with (go_at_call 10; (with_reducible refine (wbin_any _ _ _ _).mono ?_); rintro e w' ⟨rfl, rfl⟩)
  go_quiet ((go_at_call 10; exact Calls.quiet_of_same (wbq _ _ _)))
  have hxor := srt_xor HSRT.out
  obtain ⟨w6, hw6⟩ : ∃ w6, w5.drewN nq = w6 := ⟨_, rfl⟩
  have q0 : w6.cell? ⟨w4.heap.size, 0, none⟩ = some (.int .i64 1) := by rw [← hw6]; exact o0
  have q2 : w6.cell? ⟨w4.heap.size, 2, none⟩ = some (.slice (some ⟨g, 0, none⟩) 3 c4) := by rw [← hw6]; exact o2
  have u0 : w6.cell? ⟨g, 0, none⟩ = some (.int .i64 x) := by rw [← hw6]; exact v0
  have u1 : w6.cell? ⟨g, 1, none⟩ = some (.int .i64 y) := by rw [← hw6]; exact v1
  have u2 : w6.cell? ⟨g, 2, none⟩ = some (.int .i64 z) := by rw [← hw6]; exact v2
  have hg6 : g < w6.heap.size := by rw [← hw6]; exact hg5
  have hl6 : w4.heap.size < w6.heap.size := by rw [← hw6]; exact hl5
  have HB6 : Hid (Below w.heap.size w w6) := Lib.hid (by rw [← hw6]; exact below_drewN HW.out.2 _)
  have hdr : Below w6.heap.size w6 w6.drew := below_drewN (Below.refl _ _) 1
  have HEX := Lib.hid (ixs_any w6.drew (HE.out.on (HB6.out.trans (below_down hdr HB6.out.size))))
  clear o0 o1 o2 o3 v0 v1 v2 hg5 hl5 hdr
  obtain ⟨sx, hs⟩ : ∃ s, binF 11 (binF 11 a b) c = s := ⟨_, rfl⟩
  rw [hxor, hs]
  clear hxor hs
  go_wp2_with fail
  rw [hw6]
  clear hw6
  obtain ⟨hmin, hmax⟩ := HMM.out
  have g1 : decide (x ≤ y) = true := decide_eq_true hxy
  have g2 : decide (y ≤ z) = true := decide_eq_true hyz
  have g3 := hmin.symm
  have g4 := hmax.symm
  clear hmin hmax hxy hyz
  go_region_held3 (fun w' => w'.cell? ⟨w4.heap.size, 2, none⟩ = some (.slice (some ⟨g, 0, none⟩) 3 c4) ∧ w'.cell? ⟨g, 0, none⟩ = some (.int .i64 x) ∧ w'.cell? ⟨g, 1, none⟩ = some (.int .i64 y) ∧ w'.cell? ⟨g, 2, none⟩ = some (.int .i64 z)) (first | exact ⟨q2, u0, u1, u2⟩ | exact ⟨d0, d1, d2, d3⟩)
    ((go_at_call 11; (with_reducible refine HEX.out.mono ?_); rintro e w7 ⟨rfl, hb7⟩; have HB7 := Lib.hid (below_drew (Nat.le_refl _) hb7); have d0 := (HB7.out.cell (p := ⟨w4.heap.size, 2, none⟩) hl6).trans q2; have d1 := (HB7.out.cell (p := ⟨g, 0, none⟩) hg6).trans u0; have d2 := (HB7.out.cell (p := ⟨g, 1, none⟩) hg6).trans u1; have d3 := (HB7.out.cell (p := ⟨g, 2, none⟩) hg6).trans u2; clear hb7))
  go_wp2_with fail
  go_ret
  exact retN rfl (HB6.out.trans (below_down HB7.out HB6.out.size))
end Go.Proofs.YthenjclfpecalaaGreatDoor
