/- Stage 4: the walks of definesNode, definesExpression, and of hasUndefinedName's own test. -/
import Derived.Test.YtkjbjjiajopfpaaGreatDoorDf
import Derived.Test.YtkjbjjiajopfpaaGreatDoorDa
namespace Go.Proofs.YtkjbjjiajopfpaaGreatDoor
open Go.RowKit (wrap64 intOf)
open Go Go.RowKit WM LX PX CX

set_option maxRecDepth 100000
set_option maxHeartbeats 4000000
/-- Names at a slice: nothing is asked of no names. -/
def NmA (w : World) (ok : Nat → Prop) (ns : List (List UInt8)) (A : Option Addr) : Prop := 0 < ns.length → ∃ g, A = some ⟨g, 0, none⟩ ∧ ok g ∧ ∀ (i : Nat) (y : List UInt8), ns[i]? = some y → w.cell? ⟨g, i, none⟩ = some (.string ⟨y.toArray⟩)
theorem NmA.keep {w w' : World} {ok : Nat → Prop} {ns : List (List UInt8)} {A : Option Addr} (h : NmA w ok ns A) (hw : ∀ g, ok g → w'.heap[g]? = w.heap[g]?) : NmA w' ok ns A := fun h0 => by
  obtain ⟨g, h1, h2, h3⟩ := h h0
  exact ⟨g, h1, h2, fun i y hy => (World.cell?_of_block (hw g h2)).trans (h3 i y hy)⟩
theorem nmA_of {w : World} {ok : Nat → Prop} {ns : List (List UInt8)} {A : Option Addr} {L c : Nat} (h : RepL RepN 1 w ok ns (.slice A L c)) : NmA w ok ns A := fun h0 => by
  obtain ⟨A', c', hv, hat⟩ := h.at
  injection hv with h1 h2 h3
  subst h1
  obtain ⟨g, cs, rfl, hok, _⟩ := hat 0 _ (List.getElem?_eq_getElem h0)
  refine ⟨g, rfl, hok, fun k z hz => ?_⟩
  obtain ⟨g', cs', hg', _, hr, hc⟩ := hat k z hz
  injection hg' with hg'
  injection hg' with hg'
  subst hg'
  have := hc 0 _ (by rw [show cs' = _ from hr]; rfl)
  rwa [Nat.mul_one, Nat.add_zero] at this
theorem cont_all (ns : List (List UInt8)) (x : List UInt8) (A : Option Addr) (c : Nat) (hl : ns.length ≤ 1000000) (w : World) (ok : Nat → Prop) (h : NmA w ok ns A) :
    Calls Tryz.prog 69 #[.slice A ns.length c, .string ⟨x.toArray⟩] w fun e w' => e = .returned (.bool (ns.contains x)) ∧ w = w' := by
  have := cont_any ns x A c ns.length (Nat.le_refl _) hl w (fun h0 => by obtain ⟨g, h1, _, h3⟩ := h h0; exact ⟨g, h1, h3⟩)
  rwa [List.take_of_length_le (Nat.le_refl _)] at this
theorem dfn_any (A V : List (List UInt8)) (hA : A.length ≤ 1000000) (hV : V.length ≤ 1000000) (AA : Option Addr) (cA : Nat) (AF : Option Addr) (LF cF : Nat) (AV : Option Addr) (cV : Nat) (ok2 : Nat → Prop) (e : PE) (cs : List Value) (w : World) (ok : Nat → Prop) (hr : RepE w ok e cs)
    (hok2 : ∀ g, ok2 g → g < w.heap.size) (h1 : NmA w ok2 A AA) (h2 : NmA w ok2 V AV) :
    Calls Tryz.prog 76 #[.agg #[.slice AA A.length cA, .slice AF LF cF, .slice AV V.length cV], .agg cs.toArray] w (RetN (.bool (dfN A V e)) w) := by
  cases e with
  | mk kd n nm op kids =>
    obtain ⟨Ak, cp, rfl, _⟩ := exp_of hr
    obtain ⟨len, hlen⟩ : ∃ len, kids.length = len := ⟨_, rfl⟩
    have hb1 : Below w.heap.size w ((w.alloc (.cells #[.slice AA A.length cA, .slice AF LF cF, .slice AV V.length cV] 77)).alloc (.cells #[.int .i64 kd, .int .i64 n, .string ⟨nm.toArray⟩, .int .i64 op, .slice Ak len cp] 24)) := ((Below.refl _ _).alloc (Nat.le_refl _) _).alloc (by simp) _
    have c1 := cont_all A nm AA cA hA _ ok2 (h1.keep (fun g hg => hb1.block g (hok2 g hg)))
    have c2 := cont_all V nm AV cV hV _ ok2 (h2.keep (fun g hg => hb1.block g (hok2 g hg)))
    obtain ⟨q1, hq1⟩ : ∃ q, A.contains nm = q := ⟨_, rfl⟩
    obtain ⟨q2, hq2⟩ : ∃ q, V.contains nm = q := ⟨_, rfl⟩
    obtain ⟨la, hla⟩ : ∃ la, A.length = la := ⟨_, rfl⟩
    obtain ⟨lv, hlv⟩ : ∃ lv, V.length = lv := ⟨_, rfl⟩
    have hdf : dfN A V (.mk kd n nm op kids) = (if kd = 2 then q2 else if kd = 3 then q1 else true) := by rw [← hq1, ← hq2]; rfl
    rw [hdf, hlen, hla, hlv]
    rw [hla, hlv] at hb1 c1 c2
    rw [hq1] at c1
    rw [hq2] at c2
    have C1 := Lib.hid c1
    have C2 := Lib.hid c2
    have HB := Lib.hid hb1
    clear c1 c2 hb1 h1 h2 hr hok2 hdf hlen hla hlv hq1 hq2
    by_cases k2 : kd = 2
    · subst k2
      rw [if_pos rfl]
      go_enter Tryz.func76, Tryz.ntmps76
      go_wp2_with fail
      refine C2.out.mono ?_
      rintro e w2 ⟨rfl, rfl⟩
      go_wp2_with fail
      go_ret
      exact retN rfl HB.out
    · have e2 := neI k2
      rw [if_neg k2]
      by_cases k3 : kd = 3
      · subst k3
        rw [if_pos rfl]
        go_enter Tryz.func76, Tryz.ntmps76
        go_wp2_with fail
        refine C1.out.mono ?_
        rintro e w2 ⟨rfl, rfl⟩
        go_wp2_with fail
        go_ret
        exact retN rfl HB.out
      · have e3 := neI k3
        rw [if_neg k3]
        go_enter Tryz.func76, Tryz.ntmps76
        go_wp2_with fail
        go_ret
        exact retN rfl HB.out
theorem dfe_any (A V : List (List UInt8)) (hA : A.length ≤ 1000000) (hV : V.length ≤ 1000000) (AA : Option Addr) (cA : Nat) (AF : Option Addr) (LF cF : Nat) (AV : Option Addr) (cV : Nat) (ok : Nat → Prop) (e : PE) (hs : szE e ≤ 1000000000) (cs : List Value) (w : World) (hr : RepE w ok e cs)
    (hok : ∀ g, ok g → g < w.heap.size) (h1 : NmA w ok A AA) (h2 : NmA w ok V AV) :
    Calls Tryz.prog 46 #[.agg #[.slice AA A.length cA, .slice AF LF cF, .slice AV V.length cV], .agg cs.toArray] w (RetN (.bool (allE (dfN A V) e)) w) := by
  obtain ⟨W1, hW1⟩ : ∃ W1, (w.alloc (.cells #[.slice AA A.length cA, .slice AF LF cF, .slice AV V.length cV] 77)).alloc (.cells cs.toArray 24) = W1 := ⟨_, rfl⟩
  have hb1 : Below w.heap.size w W1 := by rw [← hW1]; exact ((Below.refl _ _).alloc (Nat.le_refl _) _).alloc (by simp) _
  have hcall := evN_any none 76 #[.agg #[.slice AA A.length cA, .slice AF LF cF, .slice AV V.length cV]] #[] (enters_of Tryz.func76 (by kernel_rfl) rfl) (fun _ => Kp none W1) ok W1
    (inv_kp none W1 (fun _ h => by cases h) ok (fun b hb => ⟨Nat.lt_of_lt_of_le (hok b hb) hb1.size, by simp⟩)) (dfN A V) (fun x _ cs' W c _ hI hr' => by
      rw [app_r]
      have hkw : ∀ g, ok g → W.heap[g]? = w.heap[g]? := fun g hg => (hI.block g (Nat.lt_of_lt_of_le (hok g hg) hb1.size) (by simp)).trans (hb1.block g (hok g hg))
      exact (dfn_any A V hA hV AA cA AF LF cF AV cV ok x cs' W ok hr' (fun g hg => Nat.lt_of_lt_of_le (hok g hg) (Nat.le_trans hb1.size hI.size)) (h1.keep hkw) (h2.keep hkw)).mono fun _ _ h => ret_kp h hI) 1000000000 (Nat.le_refl _) e cs W1 0 hs (by omega) (grown_id _ _) (hr.keep (fun _ h => h) (fun g hg => hb1.block g (hok g hg)))
  obtain ⟨h5, _⟩ := onesE _ _ _ _ hr
  have HS : Hid ((Tryz.prog.info? 24).map (·.size) = some cs.toArray.size) := by
    have : cs.toArray.size = 5 := by simpa using h5
    rw [this]; exact sizeE
  obtain ⟨la, hla⟩ : ∃ la, A.length = la := ⟨_, rfl⟩
  obtain ⟨lv, hlv⟩ : ∃ lv, V.length = lv := ⟨_, rfl⟩
  rw [hla, hlv] at hcall hW1 ⊢
  have HK2 : Hid (Blk ((w.alloc (.cells #[.slice AA la cA, .slice AF LF cF, .slice AV lv cV] 77)).alloc (.cells cs.toArray 24)) (w.heap.size + 1) 24 cs.toArray) := blk_at (by simp) _ _
  have HC := Lib.hid (And.intro hcall (And.intro hb1 hW1))
  clear hcall hr h5 hW1 hb1 hs hok h1 h2 hla hlv
  go_enter Tryz.func46, Tryz.ntmps46
  go_wp2_with (refine wpList_load_row rfl 24 _ rfl (w.heap.size + 1) rfl 24 cs.toArray (0, 0) _ HK2.out Tryz.underlying24 rfl HS.out ?_)
  rw [HC.out.2.2]
  refine HC.out.1.mono ?_
  rintro e w2 ⟨rfl, _, hk⟩
  have HK := Lib.hid (HC.out.2.1.trans (below_down (below_kp hk) HC.out.2.1.size))
  clear hk
  go_wp2_with fail
  go_ret
  exact retN rfl HK.out
/-- The scope at block S: arrays, functions, and some variables. -/
def ScB (S : Nat) (AF : Option Addr) (LF cF : Nat) (w : World) : Prop := ∃ AV LV cV, Blk w S 77 #[.slice none 0 0, .slice AF LF cF, .slice AV LV cV]
theorem und_cl (F : List (List UInt8)) (AF : Option Addr) (LF cF S : Nat) (f : FN) (hbody : f.body = []) (cs : List Value) (w : World) (ok : Nat → Prop) (hr : RepG w ok f cs) (hok : ∀ g, ok g → g < w.heap.size ∧ g ≠ S) (hS : ScB S AF LF cF w) (hs : szF f ≤ 1000000) :
    Calls Tryz.prog 43 #[.agg cs.toArray, .pointer (some ⟨S, 0, none⟩)] w fun e w' => e = .returned (.bool (!f.body.all (allS (dfS [] F (f.params ++ f.locals))) || !allE (dfN [] (f.params ++ f.locals)) f.value)) ∧ Kp (some S) w w' ∧ ScB S AF LF cF w' := by
  obtain ⟨hf, ⟨v1, hv1, n1⟩, ⟨v2, hv2, n2⟩⟩ := hr
  obtain ⟨A1, c1, A2, c2, A3, c3, kd, nn, nm, op, A, L, c, rfl, r1, r2, r3, r4⟩ := fun_of hf
  obtain rfl : v1 = .slice A1 f.params.length c1 := by simpa using hv1.symm
  obtain rfl : v2 = .slice A2 f.locals.length c2 := by simpa using hv2.symm
  have hz : szF f = 1 + f.name.length + sumL List.length f.params + sumL List.length f.locals + sumL szS f.body + szE f.value := rfl
  have p1 := sumL_len List.length f.params
  have p2 := sumL_len List.length f.locals
  rw [hbody] at r3
  obtain ⟨l1, hl1⟩ : ∃ n, f.params.length = n := ⟨_, rfl⟩
  obtain ⟨l2, hl2⟩ : ∃ n, f.locals.length = n := ⟨_, rfl⟩
  obtain ⟨xn, hxn⟩ : ∃ y, f.name = y := ⟨_, rfl⟩
  obtain ⟨AV, LV, cV, kS⟩ := hS
  have hSw := kS.lt
  obtain ⟨W1, hW1⟩ : ∃ W1, (w.alloc (.cells #[.string ⟨xn.toArray⟩, .slice A1 l1 c1, .slice A2 l2 c2, .slice A3 0 c3, .int .i64 kd, .int .i64 nn, .string ⟨nm.toArray⟩, .int .i64 op, .slice A L c] 28)).alloc (.cells #[.slice A1 l1 c1, .slice A2 l2 c2] 25) = W1 := ⟨_, rfl⟩
  have hb1 : Below w.heap.size w W1 := by rw [← hW1]; exact ((Below.refl _ _).alloc (Nat.le_refl _) _).alloc (by simp) _
  have k1 : Blk W1 w.heap.size 28 #[.string ⟨xn.toArray⟩, .slice A1 l1 c1, .slice A2 l2 c2, .slice A3 0 c3, .int .i64 kd, .int .i64 nn, .string ⟨nm.toArray⟩, .int .i64 op, .slice A L c] := by rw [← hW1]; exact (Blk.new _ _ _).alloc _
  have k2 : Blk W1 (w.heap.size + 1) 25 #[.slice A1 l1 c1, .slice A2 l2 c2] := by rw [← hW1]; exact blk_at (by simp) _ _
  have hN1 : NmV W1 ok f.params (.slice A1 l1 c1) := NmV.keep ⟨hl1 ▸ r1, by rw [← hl1]; exact n1⟩ (fun g hg => hb1.block g (hok g hg).1)
  have hN2 : NmV W1 ok f.locals (.slice A2 l2 c2) := NmV.keep ⟨hl2 ▸ r2, by rw [← hl2]; exact n2⟩ (fun g hg => hb1.block g (hok g hg).1)
  have hcon := conc_any [f.params, f.locals] [.slice A1 l1 c1, .slice A2 l2 c2] (w.heap.size + 1) 2 W1 ok (fun g hg => Nat.lt_of_lt_of_le (hok g hg).1 hb1.size) k2.lt rfl (by show 2 ≤ 3; omega)
    (fun i v h => by
      rw [k2.cell i]
      simpa using h)
    (fun i ys v hy hv => by
      match i with
      | 0 => simp at hy hv; subst hy hv; exact hN1
      | 1 => simp at hy hv; subst hy hv; exact hN2
      | i + 2 => simp at hy) (by simp; omega)
  have hfl : [f.params, f.locals].flatten = f.params ++ f.locals := by simp
  rw [hfl] at hcon
  obtain ⟨V, hV⟩ : ∃ V, f.params ++ f.locals = V := ⟨_, rfl⟩
  have hVl : V.length ≤ 1000000 := by rw [← hV]; simp; omega
  rw [hV] at hcon ⊢
  have hr4 := r4.keep (w' := W1) (ok' := ok) (fun _ h => h) (fun g hg => hb1.block g (hok g hg).1)
  have hr3 := r3.keep (w' := W1) (ok' := ok) keepsS (fun _ h => h) (fun g hg => hb1.block g (hok g hg).1)
  have hvl : szE f.value ≤ 1000000000 := by omega
  obtain ⟨fv, hfv⟩ : ∃ x, f.value = x := ⟨_, rfl⟩
  rw [hfv] at hr4 hvl ⊢
  rw [hbody]
  show Calls _ _ _ _ fun e w' => e = .returned (.bool (!true || !allE (dfN [] V) fv)) ∧ _
  obtain ⟨q, hq⟩ : ∃ q, allE (dfN [] V) fv = q := ⟨_, rfl⟩
  rw [hq]
  have kS1 := kS.on hb1 hSw
  have HX := Lib.hid (And.intro hb1 (And.intro hW1 (And.intro k1 kS1)))
  have HC := Lib.hid hcon
  have HR := Lib.hid (And.intro hr3 (And.intro hr4 (And.intro hok hq)))
  have HL := Lib.hid (And.intro hVl hvl)
  have hSl : S < w.heap.size := hSw
  obtain ⟨s0, s1, s2, g0, g1, g2⟩ := (kS).cells3
  simp only [hl1, hl2, hxn]
  clear hcon hb1 hW1 k1 k2 kS kS1 hN1 hN2 hr3 hr4 hf hv1 hv2 n1 n2 r1 r2 r3 r4 hok hs hz p1 p2 hfl hV hVl hvl hfv hq hl1 hl2 hxn
  go_enter Tryz.func43, Tryz.ntmps43
  go_wp2_with fail
  rw [HX.out.2.1]
  refine HC.out.mono ?_
  rintro e w2 ⟨A9, c9, rfl, hcap, hl, hb2⟩
  have j1 := HX.out.2.2.1.on hb2 HX.out.2.2.1.lt
  have jS := HX.out.2.2.2.on hb2 HX.out.2.2.2.lt
  have hw2 : Below w.heap.size w w2 := HX.out.1.trans (below_down hb2 HX.out.1.size)
  obtain ⟨W3, hW3⟩ : ∃ W3, w2.setCell ⟨S, 2, none⟩ (.slice A9 V.length c9) = W3 := ⟨_, rfl⟩
  have kS3 : Blk W3 S 77 #[.slice none 0 0, .slice AF LF cF, .slice A9 V.length c9] := by rw [← hW3]; exact jS.set 2 _
  have k13 : Blk W3 w.heap.size 28 #[.string ⟨xn.toArray⟩, .slice A1 l1 c1, .slice A2 l2 c2, .slice A3 0 c3, .int .i64 kd, .int .i64 nn, .string ⟨nm.toArray⟩, .int .i64 op, .slice A L c] := by rw [← hW3]; exact j1.far (p := ⟨S, 2, none⟩) (by show S ≠ w.heap.size; omega) _
  have hk3 : Kp (some S) w W3 := by rw [← hW3]; exact grown_s (kp_below hw2 (some S)) _
  have hk13 : ∀ g, g ≠ S → g < w2.heap.size → W3.heap[g]? = w2.heap[g]? := fun g hg _ => by rw [← hW3]; exact Below.heap_setCell _ _ _ _ hg
  have hz3 : W3.heap.size = w2.heap.size := by rw [← hW3]; simp [World.setCell]
  have hs12 := hb2.size
  have hs01 := HX.out.1.size
  have hNV : NmA w2 (Rg W1.heap.size w2.heap.size) V A9 := nmA_of hl
  have hev := evL_nil none 45 #[.agg #[.slice none 0 0, .slice AF LF cF, .slice A9 V.length c9]] #[] (fun _ => Kp none W3) W3 (fun _ => False) (inv_kp none W3 (fun _ h => by cases h) _ (fun _ h => h.elim)) (fun _ => true) (.slice A3 0 c3) W3 0 ⟨fun _ => [], ⟨A3, c3, rfl, fun h => absurd h (Nat.lt_irrefl _)⟩, fun i x h => by simp at h⟩ (by decide) (grown_id _ _)
  have hde := fun w4 (hk4 : Kp none W3 w4) => dfe_any [] V (by decide) HL.out.1 none 0 AF LF cF A9 c9 (fun g => g < w4.heap.size) fv HL.out.2 _ w4
    (HR.out.2.1.keep (ok' := fun g => g < w4.heap.size) (fun g hg => by have := (HR.out.2.2.1 g hg).1; have := hk4.size; omega) (fun g hg => by
      have h1 := HR.out.2.2.1 g hg
      exact (hk4.block g (by omega) (by simp)).trans ((hk13 g h1.2 (by omega)).trans (hb2.block g (by omega)))))
    (fun _ h => h) (fun h => absurd h (Nat.lt_irrefl _)) (fun h0 => by
      obtain ⟨g, h1, h2, h3⟩ := hNV h0
      exact ⟨g, h1, by have := hk4.size; have := h2.2; omega, fun i y hy => (World.cell?_of_block ((hk4.block g (by have := h2.2; omega) (by simp)).trans (hk13 g (by have := h2.1; omega) h2.2))).trans (h3 i y hy)⟩)
  rw [HR.out.2.2.2] at hde
  obtain ⟨lv, hlv⟩ : ∃ lv, V.length = lv := ⟨_, rfl⟩
  rw [hlv] at kS3 hev hde hW3 ⊢
  have hvm : lv ≤ 1000000 := by rw [← hlv]; exact HL.out.1
  obtain ⟨s0, s1, s2, g0, g1, g2⟩ := jS.cells3
  have y3 : w2.cell? ⟨w.heap.size, 3, none⟩ = some (.slice A3 0 c3) := j1.cell 3
  have hne : S ≠ w.heap.size := by omega
  have H3 := Lib.hid (And.intro kS3 (And.intro k13 (And.intro hk3 hW3)))
  have HE := Lib.hid hev
  have HD := Lib.hid hde
  clear hl hb2 j1 jS hw2 hW3 kS3 k13 hk3 hk13 hz3 hs12 hs01 hNV hev hde hlv hcap
  go_wp2_with fail
  rw [H3.out.2.2.2]
  refine HE.out.mono ?_
  rintro e w4 ⟨rfl, _, hk4⟩
  have kS4 := H3.out.1.kp hk4 (fun b hb => by cases hb)
  have k14 := H3.out.2.1.kp hk4 (fun b hb => by cases hb)
  obtain ⟨t0, t1, t2, _⟩ := kS4.cells3
  obtain ⟨v4, v5, v6, v7, v8⟩ : w4.cell? ⟨w.heap.size, 4, none⟩ = some (.int .i64 kd) ∧ w4.cell? ⟨w.heap.size, 5, none⟩ = some (.int .i64 nn) ∧ w4.cell? ⟨w.heap.size, 6, none⟩ = some (.string ⟨nm.toArray⟩) ∧ w4.cell? ⟨w.heap.size, 7, none⟩ = some (.int .i64 op) ∧ w4.cell? ⟨w.heap.size, 8, none⟩ = some (.slice A L c) := ⟨k14.cell 4, k14.cell 5, k14.cell 6, k14.cell 7, k14.cell 8⟩
  have H4 := Lib.hid (And.intro hk4 (And.intro kS4 (kp_to H3.out.2.2.1 (kp_below (below_kp hk4) (some S)))))
  clear hk4 kS4 k14 s0 s1 s2 g0 g1 g2 y3
  go_wp2_with fail
  refine (HD.out w4 H4.out.1).mono ?_
  rintro e w5 ⟨rfl, hb5⟩
  have H5 := Lib.hid (And.intro (kp_to H4.out.2.2 (kp_below hb5 (some S))) (H4.out.2.1.on hb5 H4.out.2.1.lt))
  clear hb5 t0 t1 t2 v4 v5 v6 v7 v8
  go_wp2_with fail
  go_ret
  exact ⟨rfl, H5.out.1, _, _, _, H5.out.2⟩
end Go.Proofs.YtkjbjjiajopfpaaGreatDoor
