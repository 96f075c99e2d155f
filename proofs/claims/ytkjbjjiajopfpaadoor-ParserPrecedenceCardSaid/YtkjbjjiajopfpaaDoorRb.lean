/- Stage 3: the walk of the statements' SamePrograms on equal programs of one function with an empty body. -/
import Derived.Test.YtkjbjjiajopfpaaDoorBs
import Derived.Test.YtkjbjjiajopfpaaDoorBl
import Derived.Deep.RegionHeld3
import Derived.Outline
namespace Go.Proofs.YtkjbjjiajopfpaaDoor
open Go.RowKit (wrap64 intOf)
open Go Go.RowKit WM LX PX

set_option maxRecDepth 100000
set_option maxHeartbeats 4000000
/-- The nine cells of a function with an empty body. -/
abbrev fnC (nm : List UInt8) (A1 : Option Addr) (L1 c1 : Nat) (A2 : Option Addr) (L2 c2 : Nat) (A3 : Option Addr) (c3 : Nat) (kd nn : Int) (xn : List UInt8) (op : Int) (A : Option Addr) (L c : Nat) : Array Value :=
  #[.string ⟨nm.toArray⟩, .slice A1 L1 c1, .slice A2 L2 c2, .slice A3 0 c3, .int .i64 kd, .int .i64 nn, .string ⟨xn.toArray⟩, .int .i64 op, .slice A L c]
def SpR (w W : World) (i : Value) (wr : World) : Prop := (i = .int .i64 0 ∧ W = wr) ∨ (i = .int .i64 1 ∧ Below w.heap.size w wr)
theorem same_P (nm : List UInt8) (ps ls : List (List UInt8)) (ve : PE) (d : Nat) (hd : KD d ve) (hps : ps.length ≤ 1000000) (hls : ls.length ≤ 1000000) (w : World) (ok : Nat → Prop) (hok : ∀ g, ok g → g < w.heap.size)
    (A : Option Addr) (c g cf : Nat) (A1 : Option Addr) (L1 c1 : Nat) (A2 : Option Addr) (L2 c2 : Nat) (A3 : Option Addr) (c3 : Nat) (kd nn : Int) (xn : List UInt8) (op : Int) (A4 : Option Addr) (L4 c4 : Nat)
    (hg : g < w.heap.size) (hc : ∀ j u, (fnC nm A1 L1 c1 A2 L2 c2 A3 c3 kd nn xn op A4 L4 c4)[j]? = some u → w.cell? ⟨g, j, none⟩ = some u)
    (r1 : RepL RepN 1 w ok ps (.slice A1 L1 c1)) (r2 : RepL RepN 1 w ok ls (.slice A2 L2 c2)) (r3 : RepE w ok ve (exC kd nn xn op A4 L4 c4))
    (A' : Option Addr) (c' g' cf' : Nat) (A1' : Option Addr) (L1' c1' : Nat) (A2' : Option Addr) (L2' c2' : Nat) (A3' : Option Addr) (c3' : Nat) (kd' nn' : Int) (xn' : List UInt8) (op' : Int) (A4' : Option Addr) (L4' c4' : Nat)
    (hg' : g' < w.heap.size) (hc' : ∀ j u, (fnC nm A1' L1' c1' A2' L2' c2' A3' c3' kd' nn' xn' op' A4' L4' c4')[j]? = some u → w.cell? ⟨g', j, none⟩ = some u)
    (r1' : RepL RepN 1 w ok ps (.slice A1' L1' c1')) (r2' : RepL RepN 1 w ok ls (.slice A2' L2' c2')) (r3' : RepE w ok ve (exC kd' nn' xn' op' A4' L4' c4')) :
    Calls Tryd.prog 6 #[.agg #[.slice A 0 c, .slice (some ⟨g, 0, none⟩) 1 cf], .agg #[.slice A' 0 c', .slice (some ⟨g', 0, none⟩) 1 cf']] w (RetN (.bool true) w) := by
  have HR := Lib.hid (And.intro r1 (And.intro r2 (And.intro r3 (And.intro r1' (And.intro r2' (And.intro r3' (And.intro hok hd)))))))
  clear r1 r2 r3 r1' r2' r3' hok hd
  obtain ⟨W1, hW1⟩ : ∃ W1, (w.alloc (.cells #[.slice A 0 c, .slice (some ⟨g, 0, none⟩) 1 cf] 27)).alloc (.cells #[.slice A' 0 c', .slice (some ⟨g', 0, none⟩) 1 cf'] 27) = W1 := ⟨_, rfl⟩
  have hb : Below w.heap.size w W1 := by rw [← hW1]; exact ((Below.refl _ _).alloc (Nat.le_refl _) _).alloc (by simp) _
  have k1 : Blk W1 w.heap.size 27 #[.slice A 0 c, .slice (some ⟨g, 0, none⟩) 1 cf] := by rw [← hW1]; exact (Blk.new _ _ _).alloc _
  have k2 : Blk W1 (w.heap.size + 1) 27 #[.slice A' 0 c', .slice (some ⟨g', 0, none⟩) 1 cf'] := by rw [← hW1]; exact blk_at (by simp) _ _
  have hz : W1.heap.size = w.heap.size + 2 := by rw [← hW1]; simp
  have HW := Lib.hid (And.intro hb (And.intro hW1 hz))
  have hcw : ∀ j u, (fnC nm A1 L1 c1 A2 L2 c2 A3 c3 kd nn xn op A4 L4 c4)[j]? = some u → W1.cell? ⟨g, j, none⟩ = some u := fun j u h => (World.cell?_of_block (hb.block g hg)).trans (hc j u h)
  have hcw' : ∀ j u, (fnC nm A1' L1' c1' A2' L2' c2' A3' c3' kd' nn' xn' op' A4' L4' c4')[j]? = some u → W1.cell? ⟨g', j, none⟩ = some u := fun j u h => (World.cell?_of_block (hb.block g' hg')).trans (hc' j u h)
  obtain ⟨x0, x1, x2, x3, x4, x5, x6, x7, x8⟩ : W1.cell? ⟨g, 0, none⟩ = _ ∧ W1.cell? ⟨g, 1, none⟩ = _ ∧ W1.cell? ⟨g, 2, none⟩ = _ ∧ W1.cell? ⟨g, 3, none⟩ = _ ∧ W1.cell? ⟨g, 4, none⟩ = _ ∧ W1.cell? ⟨g, 5, none⟩ = _ ∧ W1.cell? ⟨g, 6, none⟩ = _ ∧ W1.cell? ⟨g, 7, none⟩ = _ ∧ W1.cell? ⟨g, 8, none⟩ = _ :=
    ⟨hcw 0 _ rfl, hcw 1 _ rfl, hcw 2 _ rfl, hcw 3 _ rfl, hcw 4 _ rfl, hcw 5 _ rfl, hcw 6 _ rfl, hcw 7 _ rfl, hcw 8 _ rfl⟩
  obtain ⟨y0, y1, y2, y3, y4, y5, y6, y7, y8⟩ : W1.cell? ⟨g', 0, none⟩ = _ ∧ W1.cell? ⟨g', 1, none⟩ = _ ∧ W1.cell? ⟨g', 2, none⟩ = _ ∧ W1.cell? ⟨g', 3, none⟩ = _ ∧ W1.cell? ⟨g', 4, none⟩ = _ ∧ W1.cell? ⟨g', 5, none⟩ = _ ∧ W1.cell? ⟨g', 6, none⟩ = _ ∧ W1.cell? ⟨g', 7, none⟩ = _ ∧ W1.cell? ⟨g', 8, none⟩ = _ :=
    ⟨hcw' 0 _ rfl, hcw' 1 _ rfl, hcw' 2 _ rfl, hcw' 3 _ rfl, hcw' 4 _ rfl, hcw' 5 _ rfl, hcw' 6 _ rfl, hcw' 7 _ rfl, hcw' 8 _ rfl⟩
  obtain ⟨p0, p1, _⟩ := k1.cells2
  obtain ⟨q0, q1, _⟩ := k2.cells2
  have hlt1 : g < W1.heap.size := by omega
  have hlt2 : g' < W1.heap.size := by omega
  have hlt3 : w.heap.size + 1 < W1.heap.size := by omega
  have n0 := World.new_ne W1 _ x0
  have m0 := World.new_ne W1 _ y0
  have o0 := World.new_ne W1 _ p0
  have o1 := World.new_ne W1 _ q0
  clear hb k1 k2 hcw hcw' hc hc' hW1 hz
  go_enter Tryd.func6, Tryd.ntmps6
  go_wp2_with fail
  rw [HW.out.2.1]
  go_loopw [28] (fun i wr => i = .int .i64 0 ∧ W1 = wr) (fun _ _ => 0)
  case atStart => exact ⟨rfl, rfl⟩
  case round =>
    obtain ⟨rfl, rfl⟩ := hrel
    go_wp2_with fail
    go_loopw [46] (fun i wr => SpR w W1 i wr) (fun i _ => 1 - (intOf i).toNat)
    case atStart => exact Or.inl ⟨rfl, rfl⟩
    case round =>
      rcases hrel with ⟨rfl, rfl⟩ | ⟨rfl, hbw⟩
      · go_wp2_with fail
        go_region_held3 (fun w' => w'.cell? ⟨w.heap.size, 1, none⟩ = some (.slice (some ⟨g, 0, none⟩) 1 cf) ∧ w'.cell? ⟨w.heap.size + 1, 1, none⟩ = some (.slice (some ⟨g', 0, none⟩) 1 cf') ∧ w'.cell? ⟨g, 0, none⟩ = some (.string ⟨nm.toArray⟩) ∧ w'.cell? ⟨g, 1, none⟩ = some (.slice A1 L1 c1) ∧ w'.cell? ⟨g, 2, none⟩ = some (.slice A2 L2 c2) ∧ w'.cell? ⟨g, 3, none⟩ = some (.slice A3 0 c3) ∧ w'.cell? ⟨g, 4, none⟩ = some (.int .i64 kd) ∧ w'.cell? ⟨g, 5, none⟩ = some (.int .i64 nn) ∧ w'.cell? ⟨g, 6, none⟩ = some (.string ⟨xn.toArray⟩) ∧ w'.cell? ⟨g, 7, none⟩ = some (.int .i64 op) ∧ w'.cell? ⟨g, 8, none⟩ = some (.slice A4 L4 c4) ∧ w'.cell? ⟨g', 0, none⟩ = some (.string ⟨nm.toArray⟩) ∧ w'.cell? ⟨g', 1, none⟩ = some (.slice A1' L1' c1') ∧ w'.cell? ⟨g', 2, none⟩ = some (.slice A2' L2' c2') ∧ w'.cell? ⟨g', 3, none⟩ = some (.slice A3' 0 c3') ∧ w'.cell? ⟨g', 4, none⟩ = some (.int .i64 kd') ∧ w'.cell? ⟨g', 5, none⟩ = some (.int .i64 nn') ∧ w'.cell? ⟨g', 6, none⟩ = some (.string ⟨xn'.toArray⟩) ∧ w'.cell? ⟨g', 7, none⟩ = some (.int .i64 op') ∧ w'.cell? ⟨g', 8, none⟩ = some (.slice A4' L4' c4')) (go_keep) (fail)
        · go_wp2_with fail
          have hb2 : Below W1.heap.size W1 (((W1.alloc (.cells #[.string ⟨nm.toArray⟩, .slice A1 L1 c1, .slice A2 L2 c2, .slice A3 0 c3, .int .i64 kd, .int .i64 nn, .string ⟨xn.toArray⟩, .int .i64 op, .slice A4 L4 c4] 39)).alloc (.cells #[.string ⟨nm.toArray⟩, .slice A1' L1' c1', .slice A2' L2' c2', .slice A3' 0 c3', .int .i64 kd', .int .i64 nn', .string ⟨xn'.toArray⟩, .int .i64 op', .slice A4' L4' c4'] 39)).drew) := below_drewN (((Below.refl _ _).alloc (Nat.le_refl _) _).alloc (by simp) _) 1
          have kX : Blk (((W1.alloc (.cells #[.string ⟨nm.toArray⟩, .slice A1 L1 c1, .slice A2 L2 c2, .slice A3 0 c3, .int .i64 kd, .int .i64 nn, .string ⟨xn.toArray⟩, .int .i64 op, .slice A4 L4 c4] 39)).alloc (.cells #[.string ⟨nm.toArray⟩, .slice A1' L1' c1', .slice A2' L2' c2', .slice A3' 0 c3', .int .i64 kd', .int .i64 nn', .string ⟨xn'.toArray⟩, .int .i64 op', .slice A4' L4' c4'] 39)).drew) (W1.heap.size) 39 #[.string ⟨nm.toArray⟩, .slice A1 L1 c1, .slice A2 L2 c2, .slice A3 0 c3, .int .i64 kd, .int .i64 nn, .string ⟨xn.toArray⟩, .int .i64 op, .slice A4 L4 c4] := ((Blk.new W1 _ _).alloc _).drewN 1
          have kY : Blk (((W1.alloc (.cells #[.string ⟨nm.toArray⟩, .slice A1 L1 c1, .slice A2 L2 c2, .slice A3 0 c3, .int .i64 kd, .int .i64 nn, .string ⟨xn.toArray⟩, .int .i64 op, .slice A4 L4 c4] 39)).alloc (.cells #[.string ⟨nm.toArray⟩, .slice A1' L1' c1', .slice A2' L2' c2', .slice A3' 0 c3', .int .i64 kd', .int .i64 nn', .string ⟨xn'.toArray⟩, .int .i64 op', .slice A4' L4' c4'] 39)).drew) (W1.heap.size + 1) 39 #[.string ⟨nm.toArray⟩, .slice A1' L1' c1', .slice A2' L2' c2', .slice A3' 0 c3', .int .i64 kd', .int .i64 nn', .string ⟨xn'.toArray⟩, .int .i64 op', .slice A4' L4' c4'] := (blk_at (by simp) _ _).drewN 1
          have HB2 := Lib.hid hb2
          have HX := Lib.hid kX
          have HY := Lib.hid kY
          obtain ⟨bx, hbx⟩ : ∃ bx, W1.heap.size = bx := ⟨_, rfl⟩
          obtain ⟨by', hby⟩ : ∃ by', W1.heap.size + 1 = by' := ⟨_, rfl⟩
          have HBX := Lib.hid (And.intro hbx hby)
          rw [hbx] at HX
          rw [hby] at HY
          clear hb2 kX kY
          generalize hW2 : ((W1.alloc (.cells #[.string ⟨nm.toArray⟩, .slice A1 L1 c1, .slice A2 L2 c2, .slice A3 0 c3, .int .i64 kd, .int .i64 nn, .string ⟨xn.toArray⟩, .int .i64 op, .slice A4 L4 c4] 39)).alloc (.cells #[.string ⟨nm.toArray⟩, .slice A1' L1' c1', .slice A2' L2' c2', .slice A3' 0 c3', .int .i64 kd', .int .i64 nn', .string ⟨xn'.toArray⟩, .int .i64 op', .slice A4' L4' c4'] 39)).drew = W2 at *
          clear hW2
          rw [hby, hbx]
          clear hbx hby
          have hk0 : ∀ x, ok x → W2.heap[x]? = w.heap[x]? := fun x hx => (HB2.out.block x (by have := HR.out.2.2.2.2.2.2.1 x hx; have := HW.out.2.2; omega)).trans (HW.out.1.block x (HR.out.2.2.2.2.2.2.1 x hx))
          have hs0 : w.heap.size ≤ W2.heap.size := Nat.le_trans HW.out.1.size HB2.out.size
          refine (same_texts ps hps _ _ W2 ok ok (HR.out.1.keep keepsN (fun _ h => h) hk0) (HR.out.2.2.2.1.keep keepsN (fun _ h => h) hk0)).mono ?_
          rintro e w3 ⟨rfl, hb3⟩
          have k1 := HX.out.on hb3 HX.out.lt
          have k2 := HY.out.on hb3 HY.out.lt
          have hk1 : ∀ x, ok x → w3.heap[x]? = w.heap[x]? := fun x hx => (hb3.block x (Nat.lt_of_lt_of_le (HR.out.2.2.2.2.2.2.1 x hx) hs0)).trans (hk0 x hx)
          have hs1 := Nat.le_trans hs0 hb3.size
          have u2 := k1.cell 2
          have v2 := k2.cell 2
          have H3 := Lib.hid (And.intro k1 (And.intro k2 (And.intro hk1 (And.intro hs1 hb3))))
          clear k1 k2 hk1 hs1 hb3 hk0
          go_wp2_with fail
          refine (same_texts ls hls _ _ w3 ok ok (HR.out.2.1.keep keepsN (fun _ h => h) H3.out.2.2.1) (HR.out.2.2.2.2.1.keep keepsN (fun _ h => h) H3.out.2.2.1)).mono ?_
          rintro e w4 ⟨rfl, hb4⟩
          have k1 := H3.out.1.on hb4 H3.out.1.lt
          have k2 := H3.out.2.1.on hb4 H3.out.2.1.lt
          have hk1 : ∀ x, ok x → w4.heap[x]? = w.heap[x]? := fun x hx => (hb4.block x (Nat.lt_of_lt_of_le (HR.out.2.2.2.2.2.2.1 x hx) H3.out.2.2.2.1)).trans (H3.out.2.2.1 x hx)
          have hs1 := Nat.le_trans H3.out.2.2.2.1 hb4.size
          have u3 := k1.cell 3
          have v3 := k2.cell 3
          have H4 := Lib.hid (And.intro k1 (And.intro k2 (And.intro hk1 (And.intro hs1 (H3.out.2.2.2.2.trans (below_down hb4 H3.out.2.2.2.2.size))))))
          clear k1 k2 hk1 hs1 hb4 u2 v2
          go_wp2_with fail
          refine (same_stmts0 A3 A3' c3 c3' w4).mono ?_
          rintro e w5 ⟨rfl, hb5⟩
          have k1 := H4.out.1.on hb5 H4.out.1.lt
          have k2 := H4.out.2.1.on hb5 H4.out.2.1.lt
          have hk1 : ∀ x, ok x → w5.heap[x]? = w.heap[x]? := fun x hx => (hb5.block x (Nat.lt_of_lt_of_le (HR.out.2.2.2.2.2.2.1 x hx) H4.out.2.2.2.1)).trans (H4.out.2.2.1 x hx)
          have hs1 := Nat.le_trans H4.out.2.2.2.1 hb5.size
          obtain ⟨u4, u5, u6, u7, u8⟩ : w5.cell? ⟨bx, 4, none⟩ = _ ∧ w5.cell? ⟨bx, 5, none⟩ = _ ∧ w5.cell? ⟨bx, 6, none⟩ = _ ∧ w5.cell? ⟨bx, 7, none⟩ = _ ∧ w5.cell? ⟨bx, 8, none⟩ = _ := ⟨k1.cell 4, k1.cell 5, k1.cell 6, k1.cell 7, k1.cell 8⟩
          obtain ⟨v4, v5, v6, v7, v8⟩ : w5.cell? ⟨by', 4, none⟩ = _ ∧ w5.cell? ⟨by', 5, none⟩ = _ ∧ w5.cell? ⟨by', 6, none⟩ = _ ∧ w5.cell? ⟨by', 7, none⟩ = _ ∧ w5.cell? ⟨by', 8, none⟩ = _ := ⟨k2.cell 4, k2.cell 5, k2.cell 6, k2.cell 7, k2.cell 8⟩
          have H5 := Lib.hid (And.intro hk1 (And.intro hs1 (H4.out.2.2.2.2.trans (below_down hb5 H4.out.2.2.2.2.size))))
          clear k1 k2 hk1 hs1 hb5 u3 v3
          go_wp2_with fail
          refine (same_E d ve _ _ w5 ok ok HR.out.2.2.2.2.2.2.2 (HR.out.2.2.1.keep (fun _ h => h) H5.out.1) (HR.out.2.2.2.2.2.1.keep (fun _ h => h) H5.out.1) (fun x hx => Nat.lt_of_lt_of_le (HR.out.2.2.2.2.2.2.1 x hx) H5.out.2.1) (fun x hx => Nat.lt_of_lt_of_le (HR.out.2.2.2.2.2.2.1 x hx) H5.out.2.1)).mono ?_
          rintro e w6 ⟨rfl, hb6⟩
          have H6 := Lib.hid (HW.out.1.trans (below_down (HB2.out.trans (below_down (H5.out.2.2.trans (below_down hb6 H5.out.2.2.size)) HB2.out.size)) HW.out.1.size))
          clear hb6 u4 u5 u6 u7 u8 v4 v5 v6 v7 v8
          go_wp2_with fail
          go_roundw
          case rel => exact Or.inr ⟨rfl, H6.out⟩
          case measure => simp [intOf]
        · go_wp2_with fail
          have hb2 : Below W1.heap.size W1 (((W1.alloc (.cells #[.string ⟨nm.toArray⟩, .slice A1' L1' c1', .slice A2' L2' c2', .slice A3' 0 c3', .int .i64 kd', .int .i64 nn', .string ⟨xn'.toArray⟩, .int .i64 op', .slice A4' L4' c4'] 39)).alloc (.cells #[.string ⟨nm.toArray⟩, .slice A1 L1 c1, .slice A2 L2 c2, .slice A3 0 c3, .int .i64 kd, .int .i64 nn, .string ⟨xn.toArray⟩, .int .i64 op, .slice A4 L4 c4] 39)).drew) := below_drewN (((Below.refl _ _).alloc (Nat.le_refl _) _).alloc (by simp) _) 1
          have kX : Blk (((W1.alloc (.cells #[.string ⟨nm.toArray⟩, .slice A1' L1' c1', .slice A2' L2' c2', .slice A3' 0 c3', .int .i64 kd', .int .i64 nn', .string ⟨xn'.toArray⟩, .int .i64 op', .slice A4' L4' c4'] 39)).alloc (.cells #[.string ⟨nm.toArray⟩, .slice A1 L1 c1, .slice A2 L2 c2, .slice A3 0 c3, .int .i64 kd, .int .i64 nn, .string ⟨xn.toArray⟩, .int .i64 op, .slice A4 L4 c4] 39)).drew) (W1.heap.size + 1) 39 #[.string ⟨nm.toArray⟩, .slice A1 L1 c1, .slice A2 L2 c2, .slice A3 0 c3, .int .i64 kd, .int .i64 nn, .string ⟨xn.toArray⟩, .int .i64 op, .slice A4 L4 c4] := (blk_at (by simp) _ _).drewN 1
          have kY : Blk (((W1.alloc (.cells #[.string ⟨nm.toArray⟩, .slice A1' L1' c1', .slice A2' L2' c2', .slice A3' 0 c3', .int .i64 kd', .int .i64 nn', .string ⟨xn'.toArray⟩, .int .i64 op', .slice A4' L4' c4'] 39)).alloc (.cells #[.string ⟨nm.toArray⟩, .slice A1 L1 c1, .slice A2 L2 c2, .slice A3 0 c3, .int .i64 kd, .int .i64 nn, .string ⟨xn.toArray⟩, .int .i64 op, .slice A4 L4 c4] 39)).drew) (W1.heap.size) 39 #[.string ⟨nm.toArray⟩, .slice A1' L1' c1', .slice A2' L2' c2', .slice A3' 0 c3', .int .i64 kd', .int .i64 nn', .string ⟨xn'.toArray⟩, .int .i64 op', .slice A4' L4' c4'] := ((Blk.new W1 _ _).alloc _).drewN 1
          have HB2 := Lib.hid hb2
          have HX := Lib.hid kX
          have HY := Lib.hid kY
          obtain ⟨bx, hbx⟩ : ∃ bx, W1.heap.size + 1 = bx := ⟨_, rfl⟩
          obtain ⟨by', hby⟩ : ∃ by', W1.heap.size = by' := ⟨_, rfl⟩
          have HBX := Lib.hid (And.intro hbx hby)
          rw [hbx] at HX
          rw [hby] at HY
          clear hb2 kX kY
          generalize hW2 : ((W1.alloc (.cells #[.string ⟨nm.toArray⟩, .slice A1' L1' c1', .slice A2' L2' c2', .slice A3' 0 c3', .int .i64 kd', .int .i64 nn', .string ⟨xn'.toArray⟩, .int .i64 op', .slice A4' L4' c4'] 39)).alloc (.cells #[.string ⟨nm.toArray⟩, .slice A1 L1 c1, .slice A2 L2 c2, .slice A3 0 c3, .int .i64 kd, .int .i64 nn, .string ⟨xn.toArray⟩, .int .i64 op, .slice A4 L4 c4] 39)).drew = W2 at *
          clear hW2
          rw [hbx, hby]
          clear hbx hby
          have hk0 : ∀ x, ok x → W2.heap[x]? = w.heap[x]? := fun x hx => (HB2.out.block x (by have := HR.out.2.2.2.2.2.2.1 x hx; have := HW.out.2.2; omega)).trans (HW.out.1.block x (HR.out.2.2.2.2.2.2.1 x hx))
          have hs0 : w.heap.size ≤ W2.heap.size := Nat.le_trans HW.out.1.size HB2.out.size
          refine (same_texts ps hps _ _ W2 ok ok (HR.out.1.keep keepsN (fun _ h => h) hk0) (HR.out.2.2.2.1.keep keepsN (fun _ h => h) hk0)).mono ?_
          rintro e w3 ⟨rfl, hb3⟩
          have k1 := HX.out.on hb3 HX.out.lt
          have k2 := HY.out.on hb3 HY.out.lt
          have hk1 : ∀ x, ok x → w3.heap[x]? = w.heap[x]? := fun x hx => (hb3.block x (Nat.lt_of_lt_of_le (HR.out.2.2.2.2.2.2.1 x hx) hs0)).trans (hk0 x hx)
          have hs1 := Nat.le_trans hs0 hb3.size
          have u2 := k1.cell 2
          have v2 := k2.cell 2
          have H3 := Lib.hid (And.intro k1 (And.intro k2 (And.intro hk1 (And.intro hs1 hb3))))
          clear k1 k2 hk1 hs1 hb3 hk0
          go_wp2_with fail
          refine (same_texts ls hls _ _ w3 ok ok (HR.out.2.1.keep keepsN (fun _ h => h) H3.out.2.2.1) (HR.out.2.2.2.2.1.keep keepsN (fun _ h => h) H3.out.2.2.1)).mono ?_
          rintro e w4 ⟨rfl, hb4⟩
          have k1 := H3.out.1.on hb4 H3.out.1.lt
          have k2 := H3.out.2.1.on hb4 H3.out.2.1.lt
          have hk1 : ∀ x, ok x → w4.heap[x]? = w.heap[x]? := fun x hx => (hb4.block x (Nat.lt_of_lt_of_le (HR.out.2.2.2.2.2.2.1 x hx) H3.out.2.2.2.1)).trans (H3.out.2.2.1 x hx)
          have hs1 := Nat.le_trans H3.out.2.2.2.1 hb4.size
          have u3 := k1.cell 3
          have v3 := k2.cell 3
          have H4 := Lib.hid (And.intro k1 (And.intro k2 (And.intro hk1 (And.intro hs1 (H3.out.2.2.2.2.trans (below_down hb4 H3.out.2.2.2.2.size))))))
          clear k1 k2 hk1 hs1 hb4 u2 v2
          go_wp2_with fail
          refine (same_stmts0 A3 A3' c3 c3' w4).mono ?_
          rintro e w5 ⟨rfl, hb5⟩
          have k1 := H4.out.1.on hb5 H4.out.1.lt
          have k2 := H4.out.2.1.on hb5 H4.out.2.1.lt
          have hk1 : ∀ x, ok x → w5.heap[x]? = w.heap[x]? := fun x hx => (hb5.block x (Nat.lt_of_lt_of_le (HR.out.2.2.2.2.2.2.1 x hx) H4.out.2.2.2.1)).trans (H4.out.2.2.1 x hx)
          have hs1 := Nat.le_trans H4.out.2.2.2.1 hb5.size
          obtain ⟨u4, u5, u6, u7, u8⟩ : w5.cell? ⟨bx, 4, none⟩ = _ ∧ w5.cell? ⟨bx, 5, none⟩ = _ ∧ w5.cell? ⟨bx, 6, none⟩ = _ ∧ w5.cell? ⟨bx, 7, none⟩ = _ ∧ w5.cell? ⟨bx, 8, none⟩ = _ := ⟨k1.cell 4, k1.cell 5, k1.cell 6, k1.cell 7, k1.cell 8⟩
          obtain ⟨v4, v5, v6, v7, v8⟩ : w5.cell? ⟨by', 4, none⟩ = _ ∧ w5.cell? ⟨by', 5, none⟩ = _ ∧ w5.cell? ⟨by', 6, none⟩ = _ ∧ w5.cell? ⟨by', 7, none⟩ = _ ∧ w5.cell? ⟨by', 8, none⟩ = _ := ⟨k2.cell 4, k2.cell 5, k2.cell 6, k2.cell 7, k2.cell 8⟩
          have H5 := Lib.hid (And.intro hk1 (And.intro hs1 (H4.out.2.2.2.2.trans (below_down hb5 H4.out.2.2.2.2.size))))
          clear k1 k2 hk1 hs1 hb5 u3 v3
          go_wp2_with fail
          refine (same_E d ve _ _ w5 ok ok HR.out.2.2.2.2.2.2.2 (HR.out.2.2.1.keep (fun _ h => h) H5.out.1) (HR.out.2.2.2.2.2.1.keep (fun _ h => h) H5.out.1) (fun x hx => Nat.lt_of_lt_of_le (HR.out.2.2.2.2.2.2.1 x hx) H5.out.2.1) (fun x hx => Nat.lt_of_lt_of_le (HR.out.2.2.2.2.2.2.1 x hx) H5.out.2.1)).mono ?_
          rintro e w6 ⟨rfl, hb6⟩
          have H6 := Lib.hid (HW.out.1.trans (below_down (HB2.out.trans (below_down (H5.out.2.2.trans (below_down hb6 H5.out.2.2.size)) HB2.out.size)) HW.out.1.size))
          clear hb6 u4 u5 u6 u7 u8 v4 v5 v6 v7 v8
          go_wp2_with fail
          go_roundw
          case rel => exact Or.inr ⟨rfl, H6.out⟩
          case measure => simp [intOf]
      · go_wp2_with fail
        go_ret
        exact retN rfl hbw
end Go.Proofs.YtkjbjjiajopfpaaDoor
