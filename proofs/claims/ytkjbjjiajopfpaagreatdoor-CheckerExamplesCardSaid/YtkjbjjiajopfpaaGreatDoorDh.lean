/- Stage 4: the walk of hasUndefinedName, for programs without arrays and statements. -/
import Derived.Test.YtkjbjjiajopfpaaGreatDoorDg
import Derived.Deep.RegionHeld3
namespace Go.Proofs.YtkjbjjiajopfpaaGreatDoor
open Go.RowKit (wrap64 intOf)
open Go Go.RowKit WM LX PX CX

set_option maxRecDepth 100000
set_option maxHeartbeats 4000000
/-- A block that was laid just before a call stands behind it. -/
theorem new3 {X w2 : World} {t : TypeId} {cs : Array Value} (d : Below (X.alloc (.cells cs t)).heap.size (X.alloc (.cells cs t)) w2) : Blk w2 X.heap.size t cs := (Blk.new X t cs).on d (by simp)
theorem und_any (p : PG) (hp : p.arrays = []) (hbody : ∀ f ∈ p.funcs, f.body = []) (va vf : Value) (w : World) (ok : Nat → Prop) (h : RepQ w ok p va vf) (hok : ∀ g, ok g → g < w.heap.size) (hs : szP p ≤ 1000000) :
    Calls Tryz.prog 17 #[.agg #[va, vf]] w (RetN (.bool (undB p)) w) := by
  have hpP := h.p
  obtain ⟨A, c, rfl, _⟩ := h.1.at
  obtain ⟨A', c', rfl, _⟩ := h.2.at
  unfold szP at hs
  have l2 := sumL_len szF p.funcs
  obtain ⟨n1, hn1⟩ : ∃ n, p.arrays.length = n := ⟨_, rfl⟩
  obtain ⟨n2, hn2⟩ : ∃ n, p.funcs.length = n := ⟨_, rfl⟩
  obtain ⟨W1, hW1⟩ : ∃ W1, w.alloc (.cells #[.slice A n1 c, .slice A' n2 c'] 32) = W1 := ⟨_, rfl⟩
  have hb1 : Below w.heap.size w W1 := by rw [← hW1]; exact (Below.refl _ _).alloc (Nat.le_refl _) _
  have k1 : Blk W1 w.heap.size 32 #[.slice A n1 c, .slice A' n2 c'] := by rw [← hW1]; exact Blk.new _ _ _
  have ha := fun W (hW : Below w.heap.size w W) => arrN_any p hp _ _ W ok (hpP.keep (fun _ h => h) (fun x hx => hW.block x (hok x hx)))
  have hf := fun W (hW : Below w.heap.size w W) => fnN_any p _ _ W ok (hpP.keep (fun _ h => h) (fun x hx => hW.block x (hok x hx))) (fun g hg => Nat.lt_of_lt_of_le (hok g hg) hW.size) (by omega)
  have hcf := fun W S AF LF cF (hW : Below w.heap.size w W) (hS1 : w.heap.size ≤ S) (kS : ScB S AF LF cF W) => contains_F keepsG onesG p.funcs _ W ok (h.keep (fun _ h => h) (fun x hx => hW.block x (hok x hx))).2 (by omega)
    (fun f => !f.body.all (allS (dfS (anN p) (fnN p) (f.params ++ f.locals))) || !allE (dfN (anN p) (f.params ++ f.locals)) f.value) (some S) 43 #[] #[.pointer (some ⟨S, 0, none⟩)] (enters_of Tryz.func43 (by kernel_rfl) rfl)
    (fun _ W' => Kp (some S) W W' ∧ ScB S AF LF cF W') ⟨fun _ _ h b hb => by injection hb with hb; obtain ⟨_, _, _, h⟩ := h.2; rw [← hb]; exact h.lt, fun _ _ _ h hb => ⟨kp_to h.1 (kp_below hb _), by obtain ⟨a, b, c, h⟩ := h.2; exact ⟨a, b, c, h.on hb h.lt⟩⟩, fun _ _ _ h _ => h,
      fun _ _ hI b hb => ⟨Nat.lt_of_lt_of_le (hok b hb) (Nat.le_trans hW.size hI.1.size), hI.1.block b (Nat.lt_of_lt_of_le (hok b hb) hW.size) (fun e => by injection e with e; have := hok b hb; omega)⟩⟩ (fun _ => 0) (fun i x hx cs W' d _ hI hr => by
      rw [app_l]
      have hsx := sumL_at szF p.funcs i x hx
      have han : anN p = [] := by unfold anN; rw [hp]; rfl
      rw [han]
      exact (und_cl (fnN p) AF LF cF S x (hbody x (List.mem_of_getElem? hx)) cs W' ok hr (fun g hg => ⟨Nat.lt_of_lt_of_le (hok g hg) (Nat.le_trans hW.size hI.1.size), by have := hok g hg; omega⟩) hI.2 (by omega)).mono fun _ _ k => ⟨k.1, ⟨kp_to hI.1 k.2.1, k.2.2⟩, k.2.1⟩) 0 (by rw [sumL_zero]; omega) W ⟨grown_id _ _, kS⟩
  obtain ⟨q, hq⟩ : ∃ q, undB p = q := ⟨_, rfl⟩
  rw [hq]
  unfold undB at hq
  rw [hn1, hn2] at ha hf
  rw [hn2, hq] at hcf
  rw [hn1, hn2]
  have hz1 : W1.heap.size = w.heap.size + 1 := by rw [← hW1]; simp
  have hcell : ∀ W w' (u : Value) (i : Nat), Below w.heap.size w W → w.heap.size < W.heap.size → Below W.heap.size W w' → W.cell? ⟨w.heap.size, i, none⟩ = some u → w'.cell? ⟨w.heap.size, i, none⟩ = some u := fun W w' u i _ h2 h3 h4 => (World.cell?_of_block (h3.block _ h2)).trans h4
  have HA : Hid (∀ W, Below w.heap.size w W → w.heap.size < W.heap.size → W.cell? ⟨w.heap.size, 0, none⟩ = some (.slice A n1 c) → W.cell? ⟨w.heap.size, 1, none⟩ = some (.slice A' n2 c') →
      Calls Tryz.prog 38 #[.agg #[.slice A n1 c, .slice A' n2 c']] W fun e w' => e = .returned (.slice none 0 0) ∧ Below w.heap.size w w' ∧ w.heap.size < w'.heap.size ∧ w'.cell? ⟨w.heap.size, 0, none⟩ = some (.slice A n1 c) ∧ w'.cell? ⟨w.heap.size, 1, none⟩ = some (.slice A' n2 c') ∧ Below W.heap.size W w') :=
    fun W h1 h2 h3 h4 => (ha W h1).mono fun _ _ k => ⟨k.1, h1.trans (below_down k.2 h1.size), Nat.lt_of_lt_of_le h2 k.2.size, hcell W _ _ 0 h1 h2 k.2 h3, hcell W _ _ 1 h1 h2 k.2 h4, k.2⟩
  have HF : Hid (∀ W, Below w.heap.size w W → w.heap.size < W.heap.size → W.cell? ⟨w.heap.size, 0, none⟩ = some (.slice A n1 c) → W.cell? ⟨w.heap.size, 1, none⟩ = some (.slice A' n2 c') →
      Calls Tryz.prog 40 #[.agg #[.slice A n1 c, .slice A' n2 c']] W fun e w' => ∃ AF LF cF, e = .returned (.slice AF LF cF) ∧ Below w.heap.size w w' ∧ w.heap.size < w'.heap.size ∧ w'.cell? ⟨w.heap.size, 0, none⟩ = some (.slice A n1 c) ∧ w'.cell? ⟨w.heap.size, 1, none⟩ = some (.slice A' n2 c') ∧ Below W.heap.size W w') :=
    fun W h1 h2 h3 h4 => (hf W h1).mono fun _ _ k => by
      obtain ⟨AF, cF, he, _, _, hb⟩ := k
      exact ⟨AF, _, cF, he, h1.trans (below_down hb h1.size), Nat.lt_of_lt_of_le h2 hb.size, hcell W _ _ 0 h1 h2 hb h3, hcell W _ _ 1 h1 h2 hb h4, hb⟩
  have HCF := Lib.hid hcf
  have HB := Lib.hid (And.intro hb1 (And.intro k1 (And.intro hz1 hW1)))
  obtain ⟨x0, x1, _⟩ := k1.cells2
  have o0 := World.new_ne W1 _ x0
  have bW : Below w.heap.size w W1 := hb1
  have sW : w.heap.size < W1.heap.size := by omega
  clear ha hf hcf hb1 k1 hW1 h hpP hs l2 hn1 hn2 hq hok hz1 hcell
  go_enter Tryz.func17, Tryz.ntmps17
  go_wp2_with fail
  rw [HB.out.2.2.2]
  go_region_held3 (fun w' => w'.cell? ⟨w.heap.size, 0, none⟩ = some (.slice A n1 c) ∧ w'.cell? ⟨w.heap.size, 1, none⟩ = some (.slice A' n2 c')) (go_keep)
    (first
      | (go_at_call 38; refine (HA.out _ ?_ ?_ ?_ ?_).mono ?_; (first | assumption | exact below_drewN bW 1 | exact sW | exact (below_drewN bW 1).alloc (Nat.le_of_lt sW) _ | (simp; omega) | (simp [*]) | exact Below.alloc (by assumption) (Nat.le_of_lt (by assumption)) _); (first | assumption | exact below_drewN bW 1 | exact sW | exact (below_drewN bW 1).alloc (Nat.le_of_lt sW) _ | (simp; omega) | (simp [*]) | exact Below.alloc (by assumption) (Nat.le_of_lt (by assumption)) _); (first | assumption | exact below_drewN bW 1 | exact sW | exact (below_drewN bW 1).alloc (Nat.le_of_lt sW) _ | (simp; omega) | (simp [*]) | exact Below.alloc (by assumption) (Nat.le_of_lt (by assumption)) _); (first | assumption | exact below_drewN bW 1 | exact sW | exact (below_drewN bW 1).alloc (Nat.le_of_lt sW) _ | (simp; omega) | (simp [*]) | exact Below.alloc (by assumption) (Nat.le_of_lt (by assumption)) _); (rintro e w2 ⟨rfl, b2, s2, c20, c21, d2⟩; have ne2 := Nat.ne_of_gt s2; have ne2' := Nat.ne_of_lt s2); (try (first | (have zS : Blk w2 W1.heap.size 77 #[.slice none 0 0, .slice none 0 0, .slice none 0 0] := new3 (X := W1) ⟨d2.os, d2.tape, d2.output, d2.size, d2.block⟩; obtain ⟨p0, p1, p2, f0, f1, f2⟩ := zS.cells3) | (have zS := new3 d2; obtain ⟨p0, p1, p2, f0, f1, f2⟩ := zS.cells3))); (try (have zT := zS.on d2 zS.lt; obtain ⟨p0, p1, p2, f0, f1, f2⟩ := zT.cells3)))
      | (go_at_call 40; refine (HF.out _ ?_ ?_ ?_ ?_).mono ?_; (first | assumption | exact below_drewN bW 1 | exact sW | exact (below_drewN bW 1).alloc (Nat.le_of_lt sW) _ | (simp; omega) | (simp [*]) | exact Below.alloc (by assumption) (Nat.le_of_lt (by assumption)) _); (first | assumption | exact below_drewN bW 1 | exact sW | exact (below_drewN bW 1).alloc (Nat.le_of_lt sW) _ | (simp; omega) | (simp [*]) | exact Below.alloc (by assumption) (Nat.le_of_lt (by assumption)) _); (first | assumption | exact below_drewN bW 1 | exact sW | exact (below_drewN bW 1).alloc (Nat.le_of_lt sW) _ | (simp; omega) | (simp [*]) | exact Below.alloc (by assumption) (Nat.le_of_lt (by assumption)) _); (first | assumption | exact below_drewN bW 1 | exact sW | exact (below_drewN bW 1).alloc (Nat.le_of_lt sW) _ | (simp; omega) | (simp [*]) | exact Below.alloc (by assumption) (Nat.le_of_lt (by assumption)) _); (rintro e w3 ⟨AF, LF, cF, rfl, b3, s3, c30, c31, d3⟩; have ne3 := Nat.ne_of_gt s3; have ne3' := Nat.ne_of_lt s3); (try (first | (have zS : Blk w3 W1.heap.size 77 #[.slice none 0 0, .slice none 0 0, .slice none 0 0] := new3 (X := W1) ⟨d3.os, d3.tape, d3.output, d3.size, d3.block⟩; obtain ⟨p0, p1, p2, f0, f1, f2⟩ := zS.cells3) | (have zS := new3 d3; obtain ⟨p0, p1, p2, f0, f1, f2⟩ := zS.cells3))); (try (have zT := zS.on d3 zS.lt; obtain ⟨p0, p1, p2, f0, f1, f2⟩ := zT.cells3))))
  · have hW : Below w.heap.size w (w3.alloc (.cells #[.slice none 0 0, .slice AF LF cF, .slice none 0 0] 77)) := b3.alloc (Nat.le_of_lt s3) _
    have kS : Blk (w3.alloc (.cells #[.slice none 0 0, .slice AF LF cF, .slice none 0 0] 77)) (w3.heap.size) 77 #[.slice none 0 0, .slice AF LF cF, .slice none 0 0] := Blk.new _ _ _
    have hx1 : (w3.alloc (.cells #[.slice none 0 0, .slice AF LF cF, .slice none 0 0] 77)).cell? ⟨w.heap.size, 1, none⟩ = some (.slice A' n2 c') := by
      simp [*]
    have hS : w.heap.size ≤ w3.heap.size := by omega
    have HW := Lib.hid (And.intro hW hS)
    have HK := Lib.hid (HCF.out _ (w3.heap.size) AF LF cF hW hS ⟨_, _, _, kS⟩)
    have hlS : w3.heap.size < (w3.alloc (.cells #[.slice none 0 0, .slice AF LF cF, .slice none 0 0] 77)).heap.size := kS.lt
    clear hW kS hS
    generalize w3.alloc (.cells #[.slice none 0 0, .slice AF LF cF, .slice none 0 0] 77) = W at *
    go_wp2_with fail
    refine HK.out.mono ?_
    rintro e w6 ⟨rfl, _, hk⟩
    have H6 := Lib.hid (HW.out.1.trans (kp_under hk (fun y hy => by injection hy with hy; have := HW.out.2; omega) HW.out.1.size))
    clear hk
    go_wp2_with fail
    go_ret
    exact retN rfl H6.out
  · have hW : Below w.heap.size w (((w3.setCell ⟨w2.heap.size, 0, none⟩ (.slice none 0 0)).setCell ⟨w2.heap.size, 1, none⟩ (.slice AF LF cF)).setCell ⟨w2.heap.size, 2, none⟩ (.slice none 0 0)) := ((b3.setCell (p := ⟨w2.heap.size, 0, none⟩) (Nat.le_of_lt s2) _).setCell (p := ⟨w2.heap.size, 1, none⟩) (Nat.le_of_lt s2) _).setCell (p := ⟨w2.heap.size, 2, none⟩) (Nat.le_of_lt s2) _
    have kS : Blk (((w3.setCell ⟨w2.heap.size, 0, none⟩ (.slice none 0 0)).setCell ⟨w2.heap.size, 1, none⟩ (.slice AF LF cF)).setCell ⟨w2.heap.size, 2, none⟩ (.slice none 0 0)) (w2.heap.size) 77 #[.slice none 0 0, .slice AF LF cF, .slice none 0 0] := ((zS.set 0 _).set 1 _).set 2 _
    have hx1 : (((w3.setCell ⟨w2.heap.size, 0, none⟩ (.slice none 0 0)).setCell ⟨w2.heap.size, 1, none⟩ (.slice AF LF cF)).setCell ⟨w2.heap.size, 2, none⟩ (.slice none 0 0)).cell? ⟨w.heap.size, 1, none⟩ = some (.slice A' n2 c') := by
      simp [*]
    have hS : w.heap.size ≤ w2.heap.size := by omega
    have HW := Lib.hid (And.intro hW hS)
    have HK := Lib.hid (HCF.out _ (w2.heap.size) AF LF cF hW hS ⟨_, _, _, kS⟩)
    have hlS : w2.heap.size < (((w3.setCell ⟨w2.heap.size, 0, none⟩ (.slice none 0 0)).setCell ⟨w2.heap.size, 1, none⟩ (.slice AF LF cF)).setCell ⟨w2.heap.size, 2, none⟩ (.slice none 0 0)).heap.size := kS.lt
    clear hW kS hS
    generalize ((w3.setCell ⟨w2.heap.size, 0, none⟩ (.slice none 0 0)).setCell ⟨w2.heap.size, 1, none⟩ (.slice AF LF cF)).setCell ⟨w2.heap.size, 2, none⟩ (.slice none 0 0) = W at *
    go_wp2_with fail
    refine HK.out.mono ?_
    rintro e w6 ⟨rfl, _, hk⟩
    have H6 := Lib.hid (HW.out.1.trans (kp_under hk (fun y hy => by injection hy with hy; have := HW.out.2; omega) HW.out.1.size))
    clear hk
    go_wp2_with fail
    go_ret
    exact retN rfl H6.out
  · have hW : Below w.heap.size w (((w3.setCell ⟨W1.heap.size, 0, none⟩ (.slice none 0 0)).setCell ⟨W1.heap.size, 1, none⟩ (.slice AF LF cF)).setCell ⟨W1.heap.size, 2, none⟩ (.slice none 0 0)) := ((b3.setCell (p := ⟨W1.heap.size, 0, none⟩) (Nat.le_of_lt sW) _).setCell (p := ⟨W1.heap.size, 1, none⟩) (Nat.le_of_lt sW) _).setCell (p := ⟨W1.heap.size, 2, none⟩) (Nat.le_of_lt sW) _
    have kS : Blk (((w3.setCell ⟨W1.heap.size, 0, none⟩ (.slice none 0 0)).setCell ⟨W1.heap.size, 1, none⟩ (.slice AF LF cF)).setCell ⟨W1.heap.size, 2, none⟩ (.slice none 0 0)) (W1.heap.size) 77 #[.slice none 0 0, .slice AF LF cF, .slice none 0 0] := ((zT.set 0 _).set 1 _).set 2 _
    have hx1 : (((w3.setCell ⟨W1.heap.size, 0, none⟩ (.slice none 0 0)).setCell ⟨W1.heap.size, 1, none⟩ (.slice AF LF cF)).setCell ⟨W1.heap.size, 2, none⟩ (.slice none 0 0)).cell? ⟨w.heap.size, 1, none⟩ = some (.slice A' n2 c') := by
      simp [*]
    have hS : w.heap.size ≤ W1.heap.size := by omega
    have HW := Lib.hid (And.intro hW hS)
    have HK := Lib.hid (HCF.out _ (W1.heap.size) AF LF cF hW hS ⟨_, _, _, kS⟩)
    have hlS : W1.heap.size < (((w3.setCell ⟨W1.heap.size, 0, none⟩ (.slice none 0 0)).setCell ⟨W1.heap.size, 1, none⟩ (.slice AF LF cF)).setCell ⟨W1.heap.size, 2, none⟩ (.slice none 0 0)).heap.size := kS.lt
    clear hW kS hS
    generalize ((w3.setCell ⟨W1.heap.size, 0, none⟩ (.slice none 0 0)).setCell ⟨W1.heap.size, 1, none⟩ (.slice AF LF cF)).setCell ⟨W1.heap.size, 2, none⟩ (.slice none 0 0) = W at *
    go_wp2_with fail
    refine HK.out.mono ?_
    rintro e w6 ⟨rfl, _, hk⟩
    have H6 := Lib.hid (HW.out.1.trans (kp_under hk (fun y hy => by injection hy with hy; have := HW.out.2; omega) HW.out.1.size))
    clear hk
    go_wp2_with fail
    go_ret
    exact retN rfl H6.out
end Go.Proofs.YtkjbjjiajopfpaaGreatDoor
