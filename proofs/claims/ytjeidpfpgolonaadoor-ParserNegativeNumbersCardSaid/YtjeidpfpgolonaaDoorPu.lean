/- Stage 3: the walks of if, while, block, statements, statement, each over the others. -/
import Derived.Test.YtjeidpfpgolonaaDoorPt
namespace Go.Proofs.YtjeidpfpgolonaaDoor
open Go.RowKit (wrap64 intOf)
open Go Go.RowKit WM LX PX

set_option maxRecDepth 100000
set_option maxHeartbeats 4000000
abbrev pP (p : Nat) : Array Value := #[.pointer (some ⟨p, 0, none⟩)]
def WSs (ts : List Tk) (p n : Nat) : Prop := ∀ (s : PS) (q : List ST × PS) (w : World), Hid (ssF ts n s = q) → 5 * ms ts s + 7 ≤ n → PSt ts p s w → Calls Tryd.prog 67 #[.pointer (some ⟨p, 0, none⟩)] w (LiP RepS 17 ts p q w)
def WSt (ts : List Tk) (p n : Nat) : Prop := ∀ (s : PS) (q : ST × PS) (w : World), Hid (stF ts n s = q) → 5 * ms ts s + 6 ≤ n → PSt ts p s w → Calls Tryd.prog 83 #[.pointer (some ⟨p, 0, none⟩)] w (StP ts p q w)
def WIf (ts : List Tk) (p n : Nat) : Prop := ∀ (s : PS) (q : ST × PS) (w : World), Hid (ifF ts n s = q) → 5 * ms ts s + 9 ≤ n → PSt ts p s w → Calls Tryd.prog 94 #[.pointer (some ⟨p, 0, none⟩)] w (StP ts p q w)
def WWh (ts : List Tk) (p n : Nat) : Prop := ∀ (s : PS) (q : ST × PS) (w : World), Hid (whF ts n s = q) → 5 * ms ts s + 9 ≤ n → PSt ts p s w → Calls Tryd.prog 95 #[.pointer (some ⟨p, 0, none⟩)] w (StP ts p q w)
def WBl (ts : List Tk) (p n : Nat) : Prop := ∀ (s : PS) (q : List ST × PS) (w : World), Hid (blF ts n s = q) → 5 * ms ts s + 8 ≤ n → PSt ts p s w → Calls Tryd.prog 110 #[.pointer (some ⟨p, 0, none⟩)] w (LiP RepS 17 ts p q w)

theorem block_step (ts : List Tk) (p n : Nat) (hss : WSs ts p n) : WBl ts p (n + 1) := by
  intro s q w hq hm h
  have hq := hq.out
  rw [blF] at hq
  obtain ⟨s1, hs1⟩ : ∃ x, exs ts s cLc = x := ⟨_, rfl⟩
  have HS1 := Lib.hid hs1
  have hm1 := ms_exs (ts := ts) s (x := cLc) (by decide)
  rw [hs1] at hm1 hq
  obtain ⟨⟨l, s2⟩, hc⟩ : ∃ x, ssF ts n s1 = x := ⟨_, rfl⟩
  have HC := Lib.hid hc
  rw [hc] at hq
  dsimp only at hq
  obtain ⟨s3, hs3⟩ : ∃ x, exs ts s2 cRc = x := ⟨_, rfl⟩
  have HS3 := Lib.hid hs3
  rw [hs3] at hq
  subst hq
  have hA : 5 * ms ts s1 + 7 ≤ n := by omega
  have hpw := h.lt
  have HSS := Lib.hid hss
  clear hs1 hc hs3 hss hm1 hm
  go_enter Tryd.func110, Tryd.ntmps110
  go_wp2_with fail
  refine (expect_any ts p s s1 cLc (by decide) HS1 _ h).mono ?_
  rintro e w1 ⟨rfl, hg, hp⟩
  go_wp2_with fail
  refine (HSS.out s1 _ _ HC hA hp).mono ?_
  rintro e w2 ⟨A, L, c, rfl, hr, hg2, hp2⟩
  go_wp2_with fail
  refine (expect_any ts p s2 s3 cRc (by decide) HS3 _ hp2).mono ?_
  rintro e w3 ⟨rfl, hg3, hp3⟩
  have HR := Lib.hid ((hr.acc keepsS hg3 (Nat.lt_of_lt_of_le hpw hg.size) (Nat.le_refl _)).mono keepsS hg.size hg3.size)
  clear hr
  go_wp2_with fail
  go_ret
  exact liP HR.out (grown_to (grown_to hg hg2) hg3) hp3
theorem if_step (ts : List Tk) (p n : Nat) (hbl : WBl ts p n) : WIf ts p (n + 1) := by
  intro s q w hq hm h
  have hq := hq.out
  rw [ifF] at hq
  obtain ⟨⟨cpe, s1⟩, hc⟩ : ∃ x, cdF ts n s = x := ⟨_, rfl⟩
  have HC := Lib.hid hc
  have hm1 := ms_cd (ts := ts) n s
  rw [hc] at hq hm1
  dsimp only at hq hm1
  obtain ⟨⟨tl, s2⟩, hd⟩ : ∃ x, blF ts n s1 = x := ⟨_, rfl⟩
  have HD := Lib.hid hd
  have hm2 := (ms_st (ts := ts) n).2.2.2.2.2 s1
  rw [hd] at hq hm2
  dsimp only at hq hm2
  have hA : 5 * ms ts s + 4 ≤ n := by omega
  have hB : 5 * ms ts s1 + 8 ≤ n := by omega
  have o := Own.start h 88 st0
  have HBL := Lib.hid hbl
  clear hc hd hbl h
  by_cases hx : nx ts s2 wElse = true
  · rw [if_pos hx] at hq
    have HX := Lib.hid hx
    have hmv := ms_adv (nx_len (by decide) hx)
    obtain ⟨⟨el, s3⟩, he⟩ : ∃ x, blF ts n (adv s2) = x := ⟨_, rfl⟩
    have HE := Lib.hid he
    rw [he] at hq
    dsimp only at hq
    subst hq
    have hC : 5 * ms ts (adv s2) + 8 ≤ n := by omega
    clear hx he hmv hm1 hm2 hm
    go_enter Tryd.func94, Tryd.ntmps94
    go_wp2_with fail
    refine (condition_any ts p n s _ HC hA _ o.s).mono ?_
    rintro e w1 ⟨k2, n2, x2, o2, A2, L2, c2, rfl, hr, hg, hp⟩
    have hl := o.sz
    have hl1 := hg.size
    replace hr := (hr.mono (lo' := w.heap.size + 1) hl (Nat.le_refl _)).alloc (Nat.le_refl _) (.cells #[.int .i64 3, .string ⟨#[]⟩, .string ⟨#[]⟩, .int .i64 0, .int .i64 0, .int .i64 0, .string ⟨#[]⟩, .int .i64 0, .slice none 0 0, .int .i64 k2, .int .i64 n2, .string ⟨x2.toArray⟩, .int .i64 o2, .slice A2 L2 c2, .slice none 0 0, .slice none 0 0, .slice none 0 0] 88)
    have hK := Blk.new w1 88 #[.int .i64 3, .string ⟨#[]⟩, .string ⟨#[]⟩, .int .i64 0, .int .i64 0, .int .i64 0, .string ⟨#[]⟩, .int .i64 0, .slice none 0 0, .int .i64 k2, .int .i64 n2, .string ⟨x2.toArray⟩, .int .i64 o2, .slice A2 L2 c2, .slice none 0 0, .slice none 0 0, .slice none 0 0]
    replace o := (o.acc hg hp).al (.cells #[.int .i64 3, .string ⟨#[]⟩, .string ⟨#[]⟩, .int .i64 0, .int .i64 0, .int .i64 0, .string ⟨#[]⟩, .int .i64 0, .slice none 0 0, .int .i64 k2, .int .i64 n2, .string ⟨x2.toArray⟩, .int .i64 o2, .slice A2 L2 c2, .slice none 0 0, .slice none 0 0, .slice none 0 0] 88)
    have hpl : p < w.heap.size := o.p
    clear hg hp
    go_wp2_with fail
    refine (HBL.out s1 _ _ HD hB o.s).mono ?_
    rintro e w2 ⟨A4, L4, c4, rfl, ht, hg, hp⟩
    replace hK := hK.gr hg (by omega)
    have hlw := hg.size
    rw [World.size_alloc] at hlw
    replace hr := hr.grown hg (by omega) (by rw [World.size_alloc]; omega)
    replace o := o.acc hg hp
    have hz : w1.heap.size + 1 ≤ w2.heap.size := hlw
    replace ht := ht.mono keepsS (lo' := w1.heap.size + 1) (by rw [World.size_alloc]; exact Nat.le_refl _) (Nat.le_refl _)
    clear hg hp hlw
    obtain ⟨a15, b15⟩ : w2.cell? ⟨w1.heap.size, 15, none⟩ = some (.slice none 0 0) ∧ w2.frozen? ⟨w1.heap.size, 15, none⟩ = false := ⟨hK.cell 15, hK.free 15⟩
    go_wp2_with fail
    have hne : w1.heap.size ≠ w.heap.size := by omega
    replace hK := hK.set 15 (.slice A4 L4 c4)
    replace o := o.far (a := ⟨w1.heap.size, 15, none⟩) (by show w.heap.size < w1.heap.size; omega) (.slice A4 L4 c4)
    replace hr := hr.far (a := ⟨w1.heap.size, 15, none⟩) (Or.inr (Nat.le_refl _)) (.slice A4 L4 c4)
    replace ht := ht.keep keepsS (w' := w2.setCell ⟨w1.heap.size, 15, none⟩ (.slice A4 L4 c4)) (fun _ h => h) (fun g hg => Below.heap_setCell _ _ _ _ (by show g ≠ w1.heap.size; have := hg.1; omega))
    clear a15 b15
    have hzz : (w2.setCell ⟨w1.heap.size, 15, none⟩ (.slice A4 L4 c4)).heap.size = w2.heap.size := by simp [World.setCell]
    generalize hww : w2.setCell ⟨w1.heap.size, 15, none⟩ (.slice A4 L4 c4) = ww at *
    rw [← hzz] at ht hz
    clear hww hzz
    refine (accept_yes ts p s2 wElse (by decide) HX _ o.s).mono ?_
    rintro e w3 ⟨rfl, hg, hp⟩
    replace hK := hK.gr hg (by omega)
    replace hr := hr.grown hg (by omega) (by omega)
    replace ht := ht.acc keepsS hg (by omega) (Nat.le_refl _)
    have hlw := hg.size
    replace o := o.acc hg hp
    clear hg hp
    go_wp2_with fail
    refine (HBL.out (adv s2) _ _ HE hC o.s).mono ?_
    rintro e w4 ⟨A5, L5, c5, rfl, he, hg, hp⟩
    replace hK := hK.gr hg (by omega)
    replace hr := hr.grown hg (by omega) (by omega)
    replace ht := ht.acc keepsS hg (by omega) (by omega)
    have hlw2 := hg.size
    replace o := o.acc hg hp
    clear hg hp
    obtain ⟨a16, b16⟩ : w4.cell? ⟨w1.heap.size, 16, none⟩ = some (.slice none 0 0) ∧ w4.frozen? ⟨w1.heap.size, 16, none⟩ = false := ⟨hK.cell 16, hK.free 16⟩
    replace hK := hK.set 16 (.slice A5 L5 c5)
    replace o := o.far (a := ⟨w1.heap.size, 16, none⟩) (by show w.heap.size < w1.heap.size; omega) (.slice A5 L5 c5)
    replace hr := hr.far (a := ⟨w1.heap.size, 16, none⟩) (Or.inr (Nat.le_refl _)) (.slice A5 L5 c5)
    replace ht := ht.keep keepsS (w' := w4.setCell ⟨w1.heap.size, 16, none⟩ (.slice A5 L5 c5)) (fun _ h => h) (fun g hg => Below.heap_setCell _ _ _ _ (by show g ≠ w1.heap.size; have := hg.1; omega))
    replace he := he.keep keepsS (w' := w4.setCell ⟨w1.heap.size, 16, none⟩ (.slice A5 L5 c5)) (fun _ h => h) (fun g hg => Below.heap_setCell _ _ _ _ (by show g ≠ w1.heap.size; have := hg.1; omega))
    have hz4 : (w4.setCell ⟨w1.heap.size, 16, none⟩ (.slice A5 L5 c5)).heap.size = w4.heap.size := by simp [World.setCell]
    have hK' : Blk (w4.setCell ⟨w1.heap.size, 16, none⟩ (.slice A5 L5 c5)) w1.heap.size 88 #[.int .i64 3, .string ⟨#[]⟩, .string ⟨#[]⟩, .int .i64 0, .int .i64 0, .int .i64 0, .string ⟨#[]⟩, .int .i64 0, .slice none 0 0, .int .i64 k2, .int .i64 n2, .string ⟨x2.toArray⟩, .int .i64 o2, .slice A2 L2 c2, .slice none 0 0, .slice A4 L4 c4, .slice A5 L5 c5] := hK
    clear hK
    have hK := hK'
    have HF : Hid (RepS (w4.setCell ⟨w1.heap.size, 16, none⟩ (.slice A5 L5 c5)) (Rg (w.heap.size + 1) (w4.setCell ⟨w1.heap.size, 16, none⟩ (.slice A5 L5 c5)).heap.size) (.mk 3 [] [] 0 emE cpe [] tl el) (stC 3 [] [] 0 0 0 [] 0 none 0 0 k2 n2 x2 o2 A2 L2 c2 none 0 0 A4 L4 c4 A5 L5 c5)) :=
      Lib.hid (repS_mk (repE_leaf _ _ 0 0 [] 0 none 0) (hr.mono (Nat.le_refl _) (by omega)) (repL_nil _ _ _ _) (ht.mono keepsS (by omega) (by omega)) (he.mono keepsS (by omega) (by omega)))
    clear hr ht he hK'
    go_wp2_with (first | (refine wpList_load_row rfl _ _ rfl w1.heap.size rfl _ _ _ _ hK Tryd.underlying88 rfl stSize ?_) | (refine wpList_store_row rfl _ _ _ rfl w.heap.size #[.int .i64 3, .string ⟨#[]⟩, .string ⟨#[]⟩, .int .i64 0, .int .i64 0, .int .i64 0, .string ⟨#[]⟩, .int .i64 0, .slice none 0 0, .int .i64 k2, .int .i64 n2, .string ⟨x2.toArray⟩, .int .i64 o2, .slice A2 L2 c2, .slice none 0 0, .slice A4 L4 c4, .slice A5 L5 c5] rfl rfl _ _ o.r stSize rfl (by simp [Value.oneCell']) ?_))
    obtain ⟨hk, hx⟩ := o.fin17 (kd := 3) (nm := []) (to := []) (num := 0) (HF.out)
    exact bodyPost_ret (results_cell_row rfl _ _ _ _ _ _ _ rfl hk Tryd.underlying88 rfl stSize) rfl hx
  · rw [if_neg hx] at hq
    have HX := Lib.hid (show nx ts s2 wElse = false by simpa using hx)
    subst hq
    clear hx hm1 hm2 hm
    go_enter Tryd.func94, Tryd.ntmps94
    go_wp2_with fail
    refine (condition_any ts p n s _ HC hA _ o.s).mono ?_
    rintro e w1 ⟨k2, n2, x2, o2, A2, L2, c2, rfl, hr, hg, hp⟩
    have hl := o.sz
    have hl1 := hg.size
    replace hr := (hr.mono (lo' := w.heap.size + 1) hl (Nat.le_refl _)).alloc (Nat.le_refl _) (.cells #[.int .i64 3, .string ⟨#[]⟩, .string ⟨#[]⟩, .int .i64 0, .int .i64 0, .int .i64 0, .string ⟨#[]⟩, .int .i64 0, .slice none 0 0, .int .i64 k2, .int .i64 n2, .string ⟨x2.toArray⟩, .int .i64 o2, .slice A2 L2 c2, .slice none 0 0, .slice none 0 0, .slice none 0 0] 88)
    have hK := Blk.new w1 88 #[.int .i64 3, .string ⟨#[]⟩, .string ⟨#[]⟩, .int .i64 0, .int .i64 0, .int .i64 0, .string ⟨#[]⟩, .int .i64 0, .slice none 0 0, .int .i64 k2, .int .i64 n2, .string ⟨x2.toArray⟩, .int .i64 o2, .slice A2 L2 c2, .slice none 0 0, .slice none 0 0, .slice none 0 0]
    replace o := (o.acc hg hp).al (.cells #[.int .i64 3, .string ⟨#[]⟩, .string ⟨#[]⟩, .int .i64 0, .int .i64 0, .int .i64 0, .string ⟨#[]⟩, .int .i64 0, .slice none 0 0, .int .i64 k2, .int .i64 n2, .string ⟨x2.toArray⟩, .int .i64 o2, .slice A2 L2 c2, .slice none 0 0, .slice none 0 0, .slice none 0 0] 88)
    have hpl : p < w.heap.size := o.p
    clear hg hp
    go_wp2_with fail
    refine (HBL.out s1 _ _ HD hB o.s).mono ?_
    rintro e w2 ⟨A4, L4, c4, rfl, ht, hg, hp⟩
    replace hK := hK.gr hg (by omega)
    have hlw := hg.size
    rw [World.size_alloc] at hlw
    replace hr := hr.grown hg (by omega) (by rw [World.size_alloc]; omega)
    replace o := o.acc hg hp
    have hz : w1.heap.size + 1 ≤ w2.heap.size := hlw
    replace ht := ht.mono keepsS (lo' := w1.heap.size + 1) (by rw [World.size_alloc]; exact Nat.le_refl _) (Nat.le_refl _)
    clear hg hp hlw
    obtain ⟨a15, b15⟩ : w2.cell? ⟨w1.heap.size, 15, none⟩ = some (.slice none 0 0) ∧ w2.frozen? ⟨w1.heap.size, 15, none⟩ = false := ⟨hK.cell 15, hK.free 15⟩
    go_wp2_with fail
    have hne : w1.heap.size ≠ w.heap.size := by omega
    replace hK := hK.set 15 (.slice A4 L4 c4)
    replace o := o.far (a := ⟨w1.heap.size, 15, none⟩) (by show w.heap.size < w1.heap.size; omega) (.slice A4 L4 c4)
    replace hr := hr.far (a := ⟨w1.heap.size, 15, none⟩) (Or.inr (Nat.le_refl _)) (.slice A4 L4 c4)
    replace ht := ht.keep keepsS (w' := w2.setCell ⟨w1.heap.size, 15, none⟩ (.slice A4 L4 c4)) (fun _ h => h) (fun g hg => Below.heap_setCell _ _ _ _ (by show g ≠ w1.heap.size; have := hg.1; omega))
    clear a15 b15
    have hzz : (w2.setCell ⟨w1.heap.size, 15, none⟩ (.slice A4 L4 c4)).heap.size = w2.heap.size := by simp [World.setCell]
    generalize hww : w2.setCell ⟨w1.heap.size, 15, none⟩ (.slice A4 L4 c4) = ww at *
    rw [← hzz] at ht hz
    clear hww hzz
    refine (accept_no ts p s2 wElse HX _ o.s).mono ?_
    rintro e w3 ⟨rfl, hg, hp⟩
    replace hK := hK.gr hg (by omega)
    replace hr := hr.grown hg (by omega) (by omega)
    replace ht := ht.acc keepsS hg (by omega) (Nat.le_refl _)
    have hlw := hg.size
    replace o := o.acc hg hp
    clear hg hp
    have hK' : Blk w3 w1.heap.size 88 #[.int .i64 3, .string ⟨#[]⟩, .string ⟨#[]⟩, .int .i64 0, .int .i64 0, .int .i64 0, .string ⟨#[]⟩, .int .i64 0, .slice none 0 0, .int .i64 k2, .int .i64 n2, .string ⟨x2.toArray⟩, .int .i64 o2, .slice A2 L2 c2, .slice none 0 0, .slice A4 L4 c4, .slice none 0 0] := hK
    clear hK
    have hK := hK'
    have HF : Hid (RepS w3 (Rg (w.heap.size + 1) w3.heap.size) (.mk 3 [] [] 0 emE cpe [] tl []) (stC 3 [] [] 0 0 0 [] 0 none 0 0 k2 n2 x2 o2 A2 L2 c2 none 0 0 A4 L4 c4 none 0 0)) :=
      Lib.hid (repS_mk (repE_leaf _ _ 0 0 [] 0 none 0) (hr.mono (Nat.le_refl _) (by omega)) (repL_nil _ _ _ _) (ht.mono keepsS (by omega) (by omega)) (repL_nil _ _ _ _))
    clear hr ht hK'
    go_wp2_with (first | (refine wpList_load_row rfl _ _ rfl w1.heap.size rfl _ _ _ _ hK Tryd.underlying88 rfl stSize ?_) | (refine wpList_store_row rfl _ _ _ rfl w.heap.size #[.int .i64 3, .string ⟨#[]⟩, .string ⟨#[]⟩, .int .i64 0, .int .i64 0, .int .i64 0, .string ⟨#[]⟩, .int .i64 0, .slice none 0 0, .int .i64 k2, .int .i64 n2, .string ⟨x2.toArray⟩, .int .i64 o2, .slice A2 L2 c2, .slice none 0 0, .slice A4 L4 c4, .slice none 0 0] rfl rfl _ _ o.r stSize rfl (by simp [Value.oneCell']) ?_))
    obtain ⟨hk, hx⟩ := o.fin17 (kd := 3) (nm := []) (to := []) (num := 0) (HF.out)
    exact bodyPost_ret (results_cell_row rfl _ _ _ _ _ _ _ rfl hk Tryd.underlying88 rfl stSize) rfl hx
end Go.Proofs.YtjeidpfpgolonaaDoor
