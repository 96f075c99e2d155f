/- Stage 7: the walk of sortOf: the operands' sorts, the rest. -/
import Derived.Test.YtpgnlfdindmopaaGreatDoorRe
import Derived.Deep.RegionHeld3
namespace Go.Proofs.YtpgnlfdindmopaaGreatDoor
open Go.RowKit (wrap64 intOf)
open Go Go.RowKit WM LX PX CX GX

set_option maxRecDepth 100000
set_option maxHeartbeats 4000000
theorem all_step {α : Type} {q : Nat → α → Prop} {xs : List α} {j : Nat} {x : α} (h : ∀ (n : Nat) (y : α), n < j → xs[n]? = some y → q n y) (hx : xs[j]? = some x) (hq : q j x) : ∀ (n : Nat) (y : α), n < j + 1 → xs[n]? = some y → q n y := fun n y hn hy => by
  by_cases e : n = j
  · subst e
    obtain rfl : y = x := Option.some.inj (hy.symm.trans hx)
    exact hq
  · exact h n y (by omega) hy
theorem opsB_upto (n : ND) (ss : List Nat) : ∀ (l : List Int) (a j : Nat) (x : Int), l[j]? = some x → knd ss x ≠ opS n (a + j) → opsB n ss a l = false := fun l => by
  induction l with
  | nil => intro a j x h; simp at h
  | cons y r ih =>
    intro a j x h hne
    unfold opsB
    cases j with
    | zero =>
      obtain rfl : y = x := by simpa using h
      rw [decide_eq_false (by simpa using hne), Bool.false_and]
    | succ j =>
      rw [ih (a + 1) j x (by simpa using h) (by rwa [show a + 1 + j = a + (j + 1) by omega]), Bool.and_false]
theorem opsB_done (n : ND) (ss : List Nat) : ∀ (l : List Int) (a : Nat), (∀ (j : Nat) (x : Int), l[j]? = some x → knd ss x = opS n (a + j)) → opsB n ss a l = true := fun l => by
  induction l with
  | nil => intro a _; rfl
  | cons y r ih =>
    intro a h
    unfold opsB
    rw [decide_eq_true (by simpa using h 0 y rfl), Bool.true_and]
    exact ih (a + 1) (fun j x hx => by rw [h (j + 1) x (by simpa using hx)]; congr 1; omega)
theorem so_gen (l : List ND) (v : Value) (w : World) (ok : Nat → Prop) (hl : RepL RepD 3 w ok l v) (hok : ∀ g, ok g → g < w.heap.size) (hf : Fits l) (i : Nat) (op imm : Int) (kids : List Int) (hx : l[i]? = some ⟨op, imm, kids⟩) (him0 : immLo op ≤ imm) (him1 : imm ≤ immHi op)
    (S N cc : Nat) (t : TypeId) (ss : List Nat) (hS : Blk w S t (srtA ss)) (hN : ss.length = N) (hin : ∀ x ∈ kids, 0 ≤ x ∧ x < (N : Int)) (h25 : op ≠ 25) (h22 : op ≠ 22) :
    Calls Tryz.prog 52 #[v, .int .i64 (i : Int), .slice (some ⟨S, 0, none⟩) N cc] w (RetN (.int .u8 ((if opsB ⟨op, imm, kids⟩ ss 0 kids = false then 0 else resL op imm) : Nat)) w) := by
  have hi := (List.getElem?_eq_some_iff.1 hx).1
  have hll := hf.1
  have hkl := hf.at hx
  dsimp only at hkl
  obtain ⟨g, c, A', c', rfl, hg, x0, x1, x2, hkid⟩ := node_at hl hx
  have hgw := hok g hg
  have hSw := hS.lt
  obtain ⟨L, hL⟩ : ∃ L, l.length = L := ⟨_, rfl⟩
  obtain ⟨m, hm⟩ : ∃ m, kids.length = m := ⟨_, rfl⟩
  obtain ⟨res, hres⟩ : ∃ res : Nat, (if opsB ⟨op, imm, kids⟩ ss 0 kids = false then 0 else resL op imm) = res := ⟨_, rfl⟩
  rw [hres]
  rw [hL] at hi hll ⊢
  rw [hm] at x2 hkl
  have hiL : (i : Int) < (L : Int) := by omega
  have hi0 : (0 : Int) ≤ (i : Int) := by omega
  have HI := Lib.hid (fun W => im_any op W)
  obtain ⟨lo, hlo⟩ : ∃ lo, immLo op = lo := ⟨_, rfl⟩
  obtain ⟨hi', hhi⟩ : ∃ hi', immHi op = hi' := ⟨_, rfl⟩
  rw [hlo, hhi] at HI
  have HLO := Lib.hid (And.intro hlo hhi)
  rw [hlo] at him0
  rw [hhi] at him1
  have HO := Lib.hid (fun (j : Nat) (hj : j < m) W => os_any op imm A' m c' j (by omega) (by omega) W)
  have HKID := Lib.hid (And.intro hkid (And.intro hm hin))
  have HOK := Lib.hid hok
  have HRES := Lib.hid hres
  have HS := Lib.hid (And.intro hS hN)
  obtain ⟨W1, hW1⟩ : ∃ W1, w.alloc (.cells #[.int .i64 op, .int .i64 imm, .slice A' m c'] 49) = W1 := ⟨_, rfl⟩
  have hb1 : Below w.heap.size w W1 := by rw [← hW1]; exact (Below.refl _ _).alloc (Nat.le_refl _) _
  have k1 : Blk W1 w.heap.size 49 #[.int .i64 op, .int .i64 imm, .slice A' m c'] := by rw [← hW1]; exact Blk.new _ _ _
  have HW := Lib.hid (And.intro hW1 (And.intro hb1 k1))
  have HH := Lib.hid (And.intro h25 h22)
  have h3 : 0 ≤ imm ∨ op ≠ 3 := by
    by_cases h : op = 3
    · subst h; left; rw [← hlo] at him0; exact him0
    · exact .inr h
  have HRR := Lib.hid (fun W => rs_any op imm (.slice A' m c') h3 W)
  have e25 : (op == 25) = false := beq_eq_false_iff_ne.2 h25
  have e22 : (op == 22) = false := beq_eq_false_iff_ne.2 h22
  clear h25 h22 h3
  clear hl hf hL hm hx hok hi hkid hS hN hin hres hW1 hb1 k1 hlo hhi
  go_enter Tryz.func52, Tryz.ntmps52
  go_wp2_with fail
  refine (HI.out _).mono ?_
  rintro e w' ⟨rfl, rfl⟩
  go_wp2_with fail
  rw [HW.out.1]
  go_loopw [60] (fun u wr => ∃ j : Nat, j ≤ m ∧ u = .int .i64 (j : Int) ∧ Hid (Below W1.heap.size W1 wr) ∧ Hid (∀ (q : Nat) (x : Int), q < j → kids[q]? = some x → knd ss x = opS ⟨op, imm, kids⟩ q)) (fun u _ => m - (intOf u).toNat)
  case atStart => exact ⟨0, Nat.zero_le _, rfl, Lib.hid (Below.refl _ _), Lib.hid (fun q x h => absurd h (Nat.not_lt_zero _))⟩
  case round =>
    obtain ⟨j, hj, rfl, HB, HR⟩ := hrel
    have j1 := HW.out.2.2.on HB.out HW.out.2.2.lt
    have l1 := j1.lt
    obtain ⟨z0, z1, z2, _⟩ := j1.cells3
    have hbr : Below w.heap.size w wr := HW.out.2.1.trans (below_down HB.out HW.out.2.1.size)
    by_cases hlt : j < m
    · obtain ⟨hkid, hm, hin⟩ := HKID.out
      obtain ⟨x, hx⟩ : ∃ x, kids[j]? = some x := ⟨_, List.getElem?_eq_getElem (by omega)⟩
      obtain ⟨g', o, rfl, hg', hcx⟩ := hkid j x hx
      have y0 : wr.cell? ⟨g', o + j, none⟩ = some (.int .i64 x) := (hbr.cell (p := ⟨g', o + j, none⟩) (HOK.out _ hg')).trans hcx
      obtain ⟨hx0, hx1⟩ := hin x (List.mem_of_getElem? hx)
      have s0 := (hbr.cell (p := ⟨S, x.toNat, none⟩) hSw).trans (srt_cell HS.out.1 hx0 (by rw [HS.out.2]; exact hx1))
      have hSr : S < wr.heap.size := Nat.lt_of_lt_of_le hSw hbr.size
      have e1 : (j : Int) < (m : Int) := by omega
      obtain ⟨k, hk⟩ : ∃ k, knd ss x = k := ⟨_, rfl⟩
      rw [hk] at s0
      obtain ⟨r, hr⟩ : ∃ r, opL op (m / 2) j = r := ⟨_, rfl⟩
      have HJ := Lib.hid (HO.out j hlt)
      rw [hr] at HJ
      have hop : opS ⟨op, imm, kids⟩ j = r := by rw [← hr, ← hm]; rfl
      have HX := Lib.hid (And.intro hx (And.intro hk hop))
      have HBR := Lib.hid hbr
      have hgr : g' < wr.heap.size := Nat.lt_of_lt_of_le (HOK.out _ hg') hbr.size
      clear hkid hm hin hcx hx hk hr hop hbr j1
      go_wp2_with fail
      go_region_held3 (fun w' => w'.cell? ⟨S, x.toNat, none⟩ = some (.int .u8 (k : Int)) ∧ w'.cell? ⟨w.heap.size, 0, none⟩ = some (.int .i64 op) ∧ w'.cell? ⟨w.heap.size, 1, none⟩ = some (.int .i64 imm) ∧ w'.cell? ⟨w.heap.size, 2, none⟩ = some (.slice (some ⟨g', o, none⟩) m c')) (first | exact ⟨s0, z0, z1, z2⟩ | exact ⟨e0, d1, d2, d3⟩)
        ((go_at_call 94; refine (HJ.out _).mono ?_; rintro e w2 ⟨rfl, hb2⟩; have HB2 := Lib.hid hb2; have e0 := (hb2.cell (p := ⟨S, x.toNat, none⟩) hSr).trans s0; have d1 := (hb2.cell (p := ⟨w.heap.size, 0, none⟩) l1).trans z0; have d2 := (hb2.cell (p := ⟨w.heap.size, 1, none⟩) l1).trans z1; have d3 := (hb2.cell (p := ⟨w.heap.size, 2, none⟩) l1).trans z2; clear hb2))
      have HB3 : Hid (Below W1.heap.size W1 w2) := Lib.hid (HB.out.trans (below_down (below_drew (Nat.le_refl _) HB2.out) HB.out.size))
      by_cases hkr : k = r
      · have HK := Lib.hid hkr
        subst hkr
        go_wp2_with fail
        go_roundw
        case rel => exact ⟨j + 1, by omega, by go_num, HB3, Lib.hid (all_step (q := fun q x => knd ss x = opS ⟨op, imm, kids⟩ q) HR.out HX.out.1 (HX.out.2.1.trans HX.out.2.2.symm))⟩
        case measure => simp [intOf]; omega
      · have HF := Lib.hid (opsB_upto ⟨op, imm, kids⟩ ss kids 0 j x HX.out.1 (by rw [Nat.zero_add, HX.out.2.1, HX.out.2.2]; exact hkr))
        have hne : ((k : Int) != (r : Int)) = true := by rw [bne_iff_ne]; omega
        clear hkr
        go_wp2_with fail
        go_ret
        exact retN (congrArg (Value.int .u8) (by rw [← HRES.out, HF.out]; rfl)) (HW.out.2.1.trans (below_down HB3.out HW.out.2.1.size))
    · obtain rfl : j = m := by omega
      have HA := Lib.hid (opsB_done ⟨op, imm, kids⟩ ss kids 0 (fun q x hx => by rw [Nat.zero_add]; exact HR.out q x (by have := (List.getElem?_eq_some_iff.1 hx).1; have := HKID.out.2.1; omega) hx))
      have HBR := Lib.hid hbr
      clear hbr j1
      go_wp2_with fail
      go_quiet (fail)
      go_wp2_with fail
      refine (HRR.out _).mono ?_
      rintro e w3 ⟨rfl, hb3⟩
      have HB3 := Lib.hid hb3
      clear hb3
      go_wp2_with fail
      go_ret
      exact retN (congrArg (Value.int .u8) (by rw [← HRES.out, HA.out]; rfl)) ((below_drewN HBR.out _).trans (below_down HB3.out HBR.out.size))
theorem so_25 (l : List ND) (v : Value) (w : World) (ok : Nat → Prop) (hl : RepL RepD 3 w ok l v) (hok : ∀ g, ok g → g < w.heap.size) (hf : Fits l) (i : Nat) (imm : Int) (kids : List Int) (hx : l[i]? = some ⟨25, imm, kids⟩) (him0 : immLo 25 ≤ imm) (him1 : imm ≤ immHi 25)
    (S N cc : Nat) (t : TypeId) (ss : List Nat) (hS : Blk w S t (srtA ss)) (hN : ss.length = N) (hin : ∀ x ∈ kids, 0 ≤ x ∧ x < (N : Int)) (x25 : Int) (n25 : ND) (h25 : l[x25.toNat]? = some n25) (hk25 : kids = [x25]) :
    Calls Tryz.prog 52 #[v, .int .i64 (i : Int), .slice (some ⟨S, 0, none⟩) N cc] w (RetN (.int .u8 ((if opsB ⟨25, imm, kids⟩ ss 0 kids = false then 0 else if (varN n25 : Int) ≤ imm then 0 else resL 25 imm) : Nat)) w) := by
  have hi := (List.getElem?_eq_some_iff.1 hx).1
  have hll := hf.1
  have hkl := hf.at hx
  dsimp only at hkl
  obtain ⟨op2, imm2, kids2⟩ := n25
  have hi2 := (List.getElem?_eq_some_iff.1 h25).1
  have hkl2 := hf.at h25
  obtain ⟨g, c, A', c', rfl, hg, x0, x1, x2, hkid⟩ := node_at hl hx
  obtain ⟨_, _, A2, c2, e2, _, q0, q1, q2, _⟩ := node_at hl h25
  injection e2 with e2 _ _
  injection e2 with e2
  injection e2 with e2 _ _
  subst e2
  subst hk25
  have hx25 := hin x25 (by simp)
  dsimp only at hkl2
  have hgw := hok g hg
  have hSw := hS.lt
  obtain ⟨L, hL⟩ : ∃ L, l.length = L := ⟨_, rfl⟩
  obtain ⟨m, hm⟩ : ∃ m, [x25].length = m := ⟨_, rfl⟩
  obtain ⟨res, hres⟩ : ∃ res : Nat, (if opsB ⟨25, imm, [x25]⟩ ss 0 [x25] = false then 0 else if (varN ⟨op2, imm2, kids2⟩ : Int) ≤ imm then 0 else resL 25 imm) = res := ⟨_, rfl⟩
  rw [hres]
  rw [hL] at hi hll ⊢
  rw [hm] at x2 hkl
  have hiL : (i : Int) < (L : Int) := by omega
  have hi0 : (0 : Int) ≤ (i : Int) := by omega
  have HI := Lib.hid (fun W => im_any 25 W)
  obtain ⟨lo, hlo⟩ : ∃ lo, immLo 25 = lo := ⟨_, rfl⟩
  obtain ⟨hi', hhi⟩ : ∃ hi', immHi 25 = hi' := ⟨_, rfl⟩
  rw [hlo, hhi] at HI
  have HLO := Lib.hid (And.intro hlo hhi)
  rw [hlo] at him0
  rw [hhi] at him1
  have HO := Lib.hid (fun (j : Nat) (hj : j < m) W => os_any 25 imm A' m c' j (by omega) (by omega) W)
  have HKID := Lib.hid (And.intro hkid (And.intro hm hin))
  have HOK := Lib.hid hok
  have HRES := Lib.hid hres
  have HS := Lib.hid (And.intro hS hN)
  obtain ⟨W1, hW1⟩ : ∃ W1, w.alloc (.cells #[.int .i64 25, .int .i64 imm, .slice A' m c'] 49) = W1 := ⟨_, rfl⟩
  have hb1 : Below w.heap.size w W1 := by rw [← hW1]; exact (Below.refl _ _).alloc (Nat.le_refl _) _
  have k1 : Blk W1 w.heap.size 49 #[.int .i64 25, .int .i64 imm, .slice A' m c'] := by rw [← hW1]; exact Blk.new _ _ _
  have HW := Lib.hid (And.intro hW1 (And.intro hb1 k1))
  have hx25L : x25 < (L : Int) := by omega
  have hx250 : 0 ≤ x25 := hx25.1
  obtain ⟨m2, hm2⟩ : ∃ m2, kids2.length = m2 := ⟨_, rfl⟩
  rw [hm2] at q2 hkl2
  have HV := Lib.hid (fun W => vc_any op2 imm2 A2 m2 c2 (by omega) W)
  obtain ⟨h2, hh2⟩ : ∃ h2, m2 / 2 = h2 := ⟨_, rfl⟩
  rw [hh2] at HV
  have HM2 := Lib.hid (And.intro hm2 hh2)
  have HQ := Lib.hid (And.intro q0 (And.intro q1 q2))
  have HRR := Lib.hid (fun W => rs_any 25 imm (.slice A' m c') (.inr (by decide)) W)
  clear hm2 hh2 q0 q1 q2 h25 hx25 hi2
  clear hl hf hL hm hx hok hi hkid hS hN hin hres hW1 hb1 k1 hlo hhi
  go_enter Tryz.func52, Tryz.ntmps52
  go_wp2_with fail
  refine (HI.out _).mono ?_
  rintro e w' ⟨rfl, rfl⟩
  go_wp2_with fail
  rw [HW.out.1]
  go_loopw [60] (fun u wr => ∃ j : Nat, j ≤ m ∧ u = .int .i64 (j : Int) ∧ Hid (Below W1.heap.size W1 wr) ∧ Hid (∀ (q : Nat) (x : Int), q < j → [x25][q]? = some x → knd ss x = opS ⟨25, imm, [x25]⟩ q)) (fun u _ => m - (intOf u).toNat)
  case atStart => exact ⟨0, Nat.zero_le _, rfl, Lib.hid (Below.refl _ _), Lib.hid (fun q x h => absurd h (Nat.not_lt_zero _))⟩
  case round =>
    obtain ⟨j, hj, rfl, HB, HR⟩ := hrel
    have j1 := HW.out.2.2.on HB.out HW.out.2.2.lt
    have l1 := j1.lt
    obtain ⟨z0, z1, z2, _⟩ := j1.cells3
    have hbr : Below w.heap.size w wr := HW.out.2.1.trans (below_down HB.out HW.out.2.1.size)
    by_cases hlt : j < m
    · obtain ⟨hkid, hm, hin⟩ := HKID.out
      obtain ⟨x, hx⟩ : ∃ x, [x25][j]? = some x := ⟨_, List.getElem?_eq_getElem (by omega)⟩
      obtain ⟨g', o, rfl, hg', hcx⟩ := hkid j x hx
      have y0 : wr.cell? ⟨g', o + j, none⟩ = some (.int .i64 x) := (hbr.cell (p := ⟨g', o + j, none⟩) (HOK.out _ hg')).trans hcx
      obtain ⟨hx0, hx1⟩ := hin x (List.mem_of_getElem? hx)
      have s0 := (hbr.cell (p := ⟨S, x.toNat, none⟩) hSw).trans (srt_cell HS.out.1 hx0 (by rw [HS.out.2]; exact hx1))
      have hSr : S < wr.heap.size := Nat.lt_of_lt_of_le hSw hbr.size
      have e1 : (j : Int) < (m : Int) := by omega
      obtain ⟨k, hk⟩ : ∃ k, knd ss x = k := ⟨_, rfl⟩
      rw [hk] at s0
      obtain ⟨r, hr⟩ : ∃ r, opL 25 (m / 2) j = r := ⟨_, rfl⟩
      have HJ := Lib.hid (HO.out j hlt)
      rw [hr] at HJ
      have hop : opS ⟨25, imm, [x25]⟩ j = r := by rw [← hr, ← hm]; rfl
      have HX := Lib.hid (And.intro hx (And.intro hk hop))
      have HBR := Lib.hid hbr
      have hgr : g' < wr.heap.size := Nat.lt_of_lt_of_le (HOK.out _ hg') hbr.size
      clear hkid hm hin hcx hx hk hr hop hbr j1
      go_wp2_with fail
      go_region_held3 (fun w' => w'.cell? ⟨S, x.toNat, none⟩ = some (.int .u8 (k : Int)) ∧ w'.cell? ⟨w.heap.size, 0, none⟩ = some (.int .i64 25) ∧ w'.cell? ⟨w.heap.size, 1, none⟩ = some (.int .i64 imm) ∧ w'.cell? ⟨w.heap.size, 2, none⟩ = some (.slice (some ⟨g', o, none⟩) m c')) (first | exact ⟨s0, z0, z1, z2⟩ | exact ⟨e0, d1, d2, d3⟩)
        ((go_at_call 94; refine (HJ.out _).mono ?_; rintro e w2 ⟨rfl, hb2⟩; have HB2 := Lib.hid hb2; have e0 := (hb2.cell (p := ⟨S, x.toNat, none⟩) hSr).trans s0; have d1 := (hb2.cell (p := ⟨w.heap.size, 0, none⟩) l1).trans z0; have d2 := (hb2.cell (p := ⟨w.heap.size, 1, none⟩) l1).trans z1; have d3 := (hb2.cell (p := ⟨w.heap.size, 2, none⟩) l1).trans z2; clear hb2))
      have HB3 : Hid (Below W1.heap.size W1 w2) := Lib.hid (HB.out.trans (below_down (below_drew (Nat.le_refl _) HB2.out) HB.out.size))
      by_cases hkr : k = r
      · have HK := Lib.hid hkr
        subst hkr
        go_wp2_with fail
        go_roundw
        case rel => exact ⟨j + 1, by omega, by go_num, HB3, Lib.hid (all_step (q := fun q x => knd ss x = opS ⟨25, imm, [x25]⟩ q) HR.out HX.out.1 (HX.out.2.1.trans HX.out.2.2.symm))⟩
        case measure => simp [intOf]; omega
      · have HF := Lib.hid (opsB_upto ⟨25, imm, [x25]⟩ ss [x25] 0 j x HX.out.1 (by rw [Nat.zero_add, HX.out.2.1, HX.out.2.2]; exact hkr))
        have hne : ((k : Int) != (r : Int)) = true := by rw [bne_iff_ne]; omega
        clear hkr
        go_wp2_with fail
        go_ret
        exact retN (congrArg (Value.int .u8) (by rw [← HRES.out, HF.out]; rfl)) (HW.out.2.1.trans (below_down HB3.out HW.out.2.1.size))
    · obtain rfl : j = m := by omega
      have HA := Lib.hid (opsB_done ⟨25, imm, [x25]⟩ ss [x25] 0 (fun q x hx => by rw [Nat.zero_add]; exact HR.out q x (by have := (List.getElem?_eq_some_iff.1 hx).1; have := HKID.out.2.1; omega) hx))
      have HBR := Lib.hid hbr
      have l0 := j1.lt
      obtain ⟨hkid, hm, hin⟩ := HKID.out
      obtain ⟨g', o, rfl, hg', hcx⟩ := hkid 0 x25 rfl
      obtain rfl : j = 1 := hm.symm
      have y0 : wr.cell? ⟨g', o, none⟩ = some (.int .i64 x25) := (hbr.cell (p := ⟨g', o, none⟩) (HOK.out _ hg')).trans hcx
      have q0 := (hbr.cell (p := ⟨g, x25.toNat * 3, none⟩) hgw).trans HQ.out.1
      have q1 := (hbr.cell (p := ⟨g, x25.toNat * 3 + 1, none⟩) hgw).trans HQ.out.2.1
      have q2 := (hbr.cell (p := ⟨g, x25.toNat * 3 + 2, none⟩) hgw).trans HQ.out.2.2
      have hgr : g < wr.heap.size := Nat.lt_of_lt_of_le hgw hbr.size
      have hgr' : g' < wr.heap.size := Nat.lt_of_lt_of_le (HOK.out _ hg') hbr.size
      have h20 : (0 : Int) ≤ (h2 : Int) := by omega
      have h21 : (h2 : Int) ≤ 1000000000000 := by have := HM2.out.2; omega
      clear hkid hm hin hcx hbr j1 hj
      have hvn : varN ⟨op2, imm2, kids2⟩ = h2 := by rw [← HM2.out.2, ← HM2.out.1]; rfl
      have HVN := Lib.hid hvn
      clear hvn
      by_cases hge : (h2 : Int) ≤ imm
      · have hres : (0 : Nat) = res := by rw [← HRES.out, HA.out, HVN.out, if_neg (by decide), if_pos hge]
        have HRR2 := Lib.hid hres
        clear hres
        go_wp2_with fail
        go_region_held3 (fun w' => w'.cell? ⟨w.heap.size, 0, none⟩ = some (.int .i64 25) ∧ w'.cell? ⟨w.heap.size, 1, none⟩ = some (.int .i64 imm) ∧ w'.cell? ⟨w.heap.size, 2, none⟩ = some (.slice (some ⟨g', o, none⟩) 1 c') ∧ w'.cell? ⟨g', o, none⟩ = some (.int .i64 x25) ∧ w'.cell? ⟨g, x25.toNat * 3, none⟩ = some (.int .i64 op2) ∧ w'.cell? ⟨g, x25.toNat * 3 + 1, none⟩ = some (.int .i64 imm2) ∧ w'.cell? ⟨g, x25.toNat * 3 + 2, none⟩ = some (.slice A2 m2 c2)) (first | exact ⟨z0, z1, z2, y0, q0, q1, q2⟩ | exact ⟨d0, d1, d2, d3, d4, d5, d6⟩)
          ((go_at_call 95; refine (HV.out _).mono ?_; rintro e w2 ⟨rfl, hb2⟩; have HB2 := Lib.hid hb2; have d0 := (hb2.cell (p := ⟨w.heap.size, 0, none⟩) l1).trans z0; have d1 := (hb2.cell (p := ⟨w.heap.size, 1, none⟩) l1).trans z1; have d2 := (hb2.cell (p := ⟨w.heap.size, 2, none⟩) l1).trans z2; have d3 := (hb2.cell (p := ⟨g', o, none⟩) hgr').trans y0; have d4 := (hb2.cell (p := ⟨g, x25.toNat * 3, none⟩) hgr).trans q0; have d5 := (hb2.cell (p := ⟨g, x25.toNat * 3 + 1, none⟩) hgr).trans q1; have d6 := (hb2.cell (p := ⟨g, x25.toNat * 3 + 2, none⟩) hgr).trans q2; clear hb2))
        go_wp2_with fail
        go_ret
        exact retN (congrArg (fun n : Nat => Value.int .u8 (n : Int)) HRR2.out) (HBR.out.trans (below_down (below_drew (Nat.le_refl _) HB2.out) HBR.out.size))
      · have hlt2 : imm < (h2 : Int) := by omega
        have hres : resL 25 imm = res := by rw [← HRES.out, HA.out, HVN.out, if_neg (by decide), if_neg hge]
        have HRR2 := Lib.hid hres
        clear hres hge
        go_wp2_with fail
        go_region_held3 (fun w' => w'.cell? ⟨w.heap.size, 0, none⟩ = some (.int .i64 25) ∧ w'.cell? ⟨w.heap.size, 1, none⟩ = some (.int .i64 imm) ∧ w'.cell? ⟨w.heap.size, 2, none⟩ = some (.slice (some ⟨g', o, none⟩) 1 c') ∧ w'.cell? ⟨g', o, none⟩ = some (.int .i64 x25) ∧ w'.cell? ⟨g, x25.toNat * 3, none⟩ = some (.int .i64 op2) ∧ w'.cell? ⟨g, x25.toNat * 3 + 1, none⟩ = some (.int .i64 imm2) ∧ w'.cell? ⟨g, x25.toNat * 3 + 2, none⟩ = some (.slice A2 m2 c2)) (first | exact ⟨z0, z1, z2, y0, q0, q1, q2⟩ | exact ⟨d0, d1, d2, d3, d4, d5, d6⟩)
          ((go_at_call 95; refine (HV.out _).mono ?_; rintro e w2 ⟨rfl, hb2⟩; have HB2 := Lib.hid hb2; have d0 := (hb2.cell (p := ⟨w.heap.size, 0, none⟩) l1).trans z0; have d1 := (hb2.cell (p := ⟨w.heap.size, 1, none⟩) l1).trans z1; have d2 := (hb2.cell (p := ⟨w.heap.size, 2, none⟩) l1).trans z2; have d3 := (hb2.cell (p := ⟨g', o, none⟩) hgr').trans y0; have d4 := (hb2.cell (p := ⟨g, x25.toNat * 3, none⟩) hgr).trans q0; have d5 := (hb2.cell (p := ⟨g, x25.toNat * 3 + 1, none⟩) hgr).trans q1; have d6 := (hb2.cell (p := ⟨g, x25.toNat * 3 + 2, none⟩) hgr).trans q2; clear hb2))
        have HB3 : Hid (Below w.heap.size w w2) := Lib.hid (HBR.out.trans (below_down (below_drew (Nat.le_refl _) HB2.out) HBR.out.size))
        go_wp2_with fail
        refine (HRR.out _).mono ?_
        rintro e w3 ⟨rfl, hb3⟩
        have HB4 := Lib.hid hb3
        clear hb3
        go_wp2_with fail
        go_ret
        exact retN (congrArg (fun n : Nat => Value.int .u8 (n : Int)) HRR2.out) (HB3.out.trans (below_down HB4.out HB3.out.size))
end Go.Proofs.YtpgnlfdindmopaaGreatDoor
