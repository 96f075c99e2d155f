/- Stage 4: the walks of everyNode, of node and of expression. -/
import Derived.Test.YtkjbjjiajopfpaaGreatDoorCi
namespace Go.Proofs.YtkjbjjiajopfpaaGreatDoor
open Go.RowKit (wrap64 intOf)
open Go Go.RowKit WM LX PX CX

set_option maxRecDepth 100000
set_option maxHeartbeats 4000000
theorem sumL_two {α : Type} (f : α → Nat) (l : List α) : sumL (fun x => 2 * f x) l ≤ 2 * sumL f l := by
  induction l with
  | nil => exact Nat.le_refl _
  | cons a r ih => rw [sumL, sumL]; omega
theorem cost_kids (l : List PE) : sumL (fun x => 2 * szE x) l ≤ 2 * sumL szE l := sumL_two szE l
abbrev EvN (m : Option Nat) (g : Nat) (pre lb : Array Value) (I : Nat → World → Prop) (ok : Nat → Prop) (p : PE → Bool) (N : Nat) : Prop := ∀ (e : PE) (cs : List Value) (w : World) (c : Nat), szE e ≤ N → c + 2 * szE e ≤ 1000000000000 → I c w → RepE w ok e cs →
  Calls Tryz.prog 75 #[.agg cs.toArray, .func (.func g) pre lb] w (RetK (.bool (allE p e)) m w (I (c + 2 * szE e)))
theorem evN_cl (m : Option Nat) (g : Nat) (pre lb : Array Value) (I : Nat → World → Prop) (ok : Nat → Prop) (w0 : World) (hI : Inv I ok m w0) (p : PE → Bool) (N : Nat) (ih : EvN m g pre lb I ok p N) (B : Nat) (e : PE) (cs : List Value) (w : World) (c : Nat) (hs : szE e ≤ N)
    (hc : c + 2 * szE e ≤ 1000000000000) (hw : I c w) (hr : RepE w ok e cs) (hB : B < w.heap.size) (hf : w.cell? ⟨B, 0, none⟩ = some (.func (.func g) pre lb)) :
    Calls Tryz.prog 92 #[.agg cs.toArray, .pointer (some ⟨B, 0, none⟩)] w (RetK (.bool (allE p e)) m w (I (c + 2 * szE e))) := by
  obtain ⟨W1, hW1⟩ : ∃ W1, w.alloc (.cells cs.toArray 24) = W1 := ⟨_, rfl⟩
  have hb1 : Below w.heap.size w W1 := by rw [← hW1]; exact (Below.refl _ _).alloc (Nat.le_refl _) _
  have h1 := hI.easy c w W1 hw hb1
  have hcall := ih e cs W1 c hs hc h1 (hr.keep (fun _ h => h) (fun b hb => hb1.block b (hI.ok c w hw b hb).1))
  obtain ⟨h5, _⟩ := onesE _ _ _ _ hr
  have HS : Hid ((Tryz.prog.info? 24).map (·.size) = some cs.toArray.size) := by
    have : cs.toArray.size = 5 := by simpa using h5
    rw [this]; exact sizeE
  have HC := Lib.hid (And.intro hcall (And.intro hb1 hW1))
  clear hcall ih h1 hr h5 hW1 hb1 hw hI hs hc
  go_enter Tryz.func92, Tryz.ntmps92
  go_wp2_with (refine wpList_load_row rfl _ _ rfl w.heap.size rfl 24 cs.toArray (0, 0) _ (Blk.new w _ _) Tryz.underlying24 rfl HS.out ?_)
  rw [HC.out.2.2]
  refine HC.out.1.mono ?_
  rintro e w2 ⟨rfl, hi, hk⟩
  have HK := Lib.hid (And.intro hi hk)
  clear hi hk
  go_wp2_with fail
  go_ret
  exact retK rfl HK.out.1 (kp_to (kp_below HC.out.2.1 _) HK.out.2)
theorem evN_any (m : Option Nat) (g : Nat) (pre lb : Array Value) (eg : ∀ args w, (callFunc g args).run Tryz.prog w = .ok (.enter g args) w) (I : Nat → World → Prop) (ok : Nat → Prop) (w0 : World) (hI : Inv I ok m w0) (p : PE → Bool)
    (hp : ∀ x, szE x ≤ 1000000000 → Tst Tryz.prog RepE ok I m g pre lb p (fun _ => 0) x) (N : Nat) : N ≤ 1000000000 → EvN m g pre lb I ok p N := by
  induction N with
  | zero =>
    intro _ e cs w c hs
    cases e with
    | mk kd n nm op kids => rw [szE_eq] at hs; omega
  | succ N ih =>
    intro hN e cs w c hs hc hw hr
    have ih := ih (by omega)
    have hr0 := hr.keep (w' := w0) (fun _ h => h) (fun b hb => (hI.ok c w hw b hb).2.symm)
    have hp1 := hp e (by omega)
    cases e with
    | mk kd n nm op kids =>
      obtain ⟨A, cp, rfl, ra⟩ := exp_of hr0
      rw [szE_eq] at hs hc
      have hck := cost_kids kids
      have hfew := sumL_len szE kids
      obtain ⟨W1, hW1⟩ : ∃ W1, (w.alloc (.cells #[.int .i64 kd, .int .i64 n, .string ⟨nm.toArray⟩, .int .i64 op, .slice A kids.length cp] 24)).alloc (.cells #[.func (.func g) pre lb] 64) = W1 := ⟨_, rfl⟩
      have hb1 : Below w.heap.size w W1 := by rw [← hW1]; exact ((Below.refl _ _).alloc (Nat.le_refl _) _).alloc (by simp) _
      have k1 : Blk W1 w.heap.size 24 #[.int .i64 kd, .int .i64 n, .string ⟨nm.toArray⟩, .int .i64 op, .slice A kids.length cp] := by rw [← hW1]; exact (Blk.new _ _ _).alloc _
      have k2 : Blk W1 (w.heap.size + 1) 64 #[.func (.func g) pre lb] := by rw [← hW1]; exact blk_at (by simp) _ _
      have h1 := hI.easy c w W1 hw hb1
      have hm : ∀ b, m = some b → b < w.heap.size := hI.lo c w hw
      have hc1 := hp1 _ W1 c (by dsimp only; omega) h1 (hr.keep (fun _ h => h) (fun b hb => hb1.block b (hI.ok c w hw b hb).1))
      have hc2 := fun W2 (h : I (c + (1 + 0)) W2) (hk : Kp m W1 W2) => every_E keepsE onesE kids _ w0 ok ra (by omega) (allE p) m 92 #[] #[.pointer (some ⟨w.heap.size + 1, 0, none⟩)] (enters_of Tryz.func92 (by kernel_rfl) rfl)
        (fun c W => I c W ∧ Kp m W1 W) (hI.and W1) (fun x => 2 * szE x) (fun i x hx cs' W c' hc' hI' hr' => by
          rw [app_l]
          have hsx := sumL_at szE kids i x hx
          have hc'' : c' + (1 + 2 * szE x) ≤ 1000000000000 := hc'
          have hk3 := k2.kp hI'.2 (fun b hb => by have := hm b hb; omega)
          exact (evN_cl m g pre lb I ok w0 hI p N ih (w.heap.size + 1) x cs' W c' (by omega) (by omega) hI'.1 hr' hk3.lt (hk3.cell 0)).mono fun _ _ h => ⟨h.1, ⟨hI.mono _ _ _ h.2.1 (by dsimp only; omega), kp_to hI'.2 h.2.2⟩, h.2.2⟩)
        (c + (1 + 0)) (by omega) W2 ⟨h, hk⟩
      have HI := Lib.hid (And.intro hI (And.intro hb1 (And.intro k1 (And.intro hm hW1))))
      have HC1 := Lib.hid hc1
      have HC2 := Lib.hid hc2
      have hcost : c + (1 + 0) + sumL (fun x => 2 * szE x) kids ≤ c + 2 * szE (.mk kd n nm op kids) := by rw [szE_eq]; omega
      obtain ⟨tot, htot⟩ : ∃ tot, c + 2 * szE (.mk kd n nm op kids) = tot := ⟨_, rfl⟩
      rw [htot] at hcost ⊢
      obtain ⟨len, hlen⟩ : ∃ len, kids.length = len := ⟨_, rfl⟩
      rw [hlen] at HI HC2 HC1 hfew ⊢
      have HT := Lib.hid hcost
      have hlt : len ≤ 1000000000 := by omega
      cases hq : p (.mk kd n nm op kids) with
      | false =>
        have hall : allE p (.mk kd n nm op kids) = false := by rw [allE_eq, hq, Bool.false_and]
        rw [hall]
        rw [hq] at HC1
        clear hr hr0 hp1 ra hs hc hck hfew hW1 hb1 k1 k2 h1 hm hc1 hc2 hcost htot hlen hq hall hw hI hp ih HC2
        go_enter Tryz.func75, Tryz.ntmps75
        go_wp2_with fail
        rw [HI.out.2.2.2.2]
        refine HC1.out.mono ?_
        rintro e w2 ⟨rfl, hi, hk⟩
        have HK := Lib.hid (And.intro hi hk)
        clear hi hk
        go_wp2_with fail
        go_ret
        exact retK rfl (HI.out.1.mono _ _ _ HK.out.1 (by have := HT.out; omega)) (kp_to (kp_below HI.out.2.1 _) HK.out.2)
      | true =>
        obtain ⟨r, hr'⟩ : ∃ r, kids.all (allE p) = r := ⟨_, rfl⟩
        have hall : allE p (.mk kd n nm op kids) = r := by rw [allE_eq, hq, Bool.true_and, hr']
        rw [hall]
        rw [hq] at HC1
        rw [hr'] at HC2
        clear hr hr0 hp1 ra hs hc hck hfew hW1 hb1 k1 k2 h1 hm hc1 hc2 hcost htot hlen hq hall hw hI hp ih hr'
        go_enter Tryz.func75, Tryz.ntmps75
        go_wp2_with fail
        rw [HI.out.2.2.2.2]
        refine HC1.out.mono ?_
        rintro e w2 ⟨rfl, hi, hk⟩
        have y4 : w2.cell? ⟨w.heap.size, 4, none⟩ = some (.slice A len cp) := (HI.out.2.2.1.kp hk (fun b hb => by have := HI.out.2.2.2.1 b hb; omega)).cell 4
        have HK := Lib.hid (And.intro hi hk)
        clear hi hk
        go_wp2_with fail
        refine (HC2.out w2 HK.out.1 HK.out.2).mono ?_
        rintro e w3 ⟨rfl, hi, hk⟩
        have HK3 := Lib.hid (And.intro hi.1 hk)
        clear hi hk y4
        go_wp2_with fail
        go_ret
        exact retK rfl (HI.out.1.mono _ _ _ HK3.out.1 HT.out) (kp_to (kp_below HI.out.2.1 _) (kp_to HK.out.2 HK3.out.2))
end Go.Proofs.YtkjbjjiajopfpaaGreatDoor
