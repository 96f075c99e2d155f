/- Stage 4: the walks of the checks of limits: arrays, functions, programs. -/
import Derived.Test.YtkjbjjiajopfpaaGreatDoorCf
import Derived.Test.YtkjbjjiajopfpaaGreatDoorCp
import Derived.Test.YtkjbjjiajopfpaaGreatDoorBi
namespace Go.Proofs.YtkjbjjiajopfpaaGreatDoor
open Go.RowKit (wrap64 intOf)
open Go Go.RowKit WM LX PX CX

set_option maxRecDepth 100000
set_option maxHeartbeats 4000000
theorem repL_len {α : Type} {Rep : World → (Nat → Prop) → α → List Value → Prop} {sz : Nat} {w : World} {ok : Nat → Prop} {xs : List α} {A : Option Addr} {L c : Nat} (h : RepL Rep sz w ok xs (.slice A L c)) : L = xs.length := by
  obtain ⟨F, ⟨A', c', hv, _⟩, _⟩ := h
  injection hv
theorem fun_of {w : World} {ok : Nat → Prop} {f : FN} {cs : List Value} (h : RepF w ok f cs) :
    ∃ A1 c1 A2 c2 A3 c3 kd nn nm op A L c, cs = [.string ⟨f.name.toArray⟩, .slice A1 f.params.length c1, .slice A2 f.locals.length c2, .slice A3 f.body.length c3, .int .i64 kd, .int .i64 nn, .string ⟨nm.toArray⟩, .int .i64 op, .slice A L c] ∧
      RepL RepN 1 w ok f.params (.slice A1 f.params.length c1) ∧ RepL RepN 1 w ok f.locals (.slice A2 f.locals.length c2) ∧ RepL RepS 17 w ok f.body (.slice A3 f.body.length c3) ∧ RepE w ok f.value (exC kd nn nm op A L c) := by
  obtain ⟨A1, L1, c1, A2, L2, c2, A3, L3, c3, kd, nn, nm, op, A, L, c, rfl, h1, h2, h3, h4⟩ := h
  obtain rfl := repL_len h1
  obtain rfl := repL_len h2
  obtain rfl := repL_len h3
  exact ⟨A1, c1, A2, c2, A3, c3, kd, nn, nm, op, A, L, c, rfl, h1, h2, h3, h4⟩
theorem onesF : Ones RepF 9 := fun _ _ _ _ h => by
  obtain ⟨A1, c1, A2, c2, A3, c3, kd, nn, nm, op, A, L, c, rfl, _⟩ := fun_of h
  exact ⟨rfl, by simp [Value.oneCell']⟩
theorem onesA : Ones RepA 2 := fun _ _ _ _ h => by
  rw [show _ = _ from h]
  exact ⟨rfl, by simp [Value.oneCell']⟩
theorem len_any (x : List UInt8 × Int) (cs : List Value) (w : World) (ok : Nat → Prop) (h : RepA w ok x cs) : Calls Tryz.prog 30 #[.agg cs.toArray] w (RetN (.bool (lenB x)) w) := by
  obtain ⟨nm, n⟩ := x
  obtain rfl : cs = [.string ⟨nm.toArray⟩, .int .i64 n] := h
  unfold lenB
  dsimp only
  by_cases h1 : n < 1
  · rw [decide_eq_true h1, Bool.true_or]
    go_enter Tryz.func30, Tryz.ntmps30
    go_wp2_with fail
    go_ret
    exact retN rfl ((Below.refl _ _).alloc (Nat.le_refl _) _)
  · rw [decide_eq_false h1, Bool.false_or]
    by_cases h2 : 16 < n
    · rw [decide_eq_true h2]
      go_enter Tryz.func30, Tryz.ntmps30
      go_wp2_with fail
      go_ret
      exact retN rfl ((Below.refl _ _).alloc (Nat.le_refl _) _)
    · rw [decide_eq_false h2]
      go_enter Tryz.func30, Tryz.ntmps30
      go_wp2_with fail
      go_ret
      exact retN rfl ((Below.refl _ _).alloc (Nat.le_refl _) _)
theorem limF_any (f : FN) (cs : List Value) (w : World) (ok : Nat → Prop) (h : RepF w ok f cs) (hok : ∀ g, ok g → g < w.heap.size) (hs : szF f ≤ 1000000000) :
    Calls Tryz.prog 32 #[.agg cs.toArray] w (RetN (.bool (limFB f)) w) := by
  obtain ⟨A1, c1, A2, c2, A3, c3, kd, nn, nm, op, A, L, c, rfl, r1, r2, r3, r4⟩ := fun_of h
  obtain ⟨W1, hW1⟩ : ∃ W1, (w.alloc (.cells #[.string ⟨f.name.toArray⟩, .slice A1 f.params.length c1, .slice A2 f.locals.length c2, .slice A3 f.body.length c3, .int .i64 kd, .int .i64 nn, .string ⟨nm.toArray⟩, .int .i64 op, .slice A L c] 28)).alloc (.cells #[.int .i64 0, .int .i64 0] 93) = W1 := ⟨_, rfl⟩
  have hb1 : Below w.heap.size w W1 := by rw [← hW1]; exact ((Below.refl _ _).alloc (Nat.le_refl _) _).alloc (by simp) _
  have k1 : Blk W1 w.heap.size 28 #[.string ⟨f.name.toArray⟩, .slice A1 f.params.length c1, .slice A2 f.locals.length c2, .slice A3 f.body.length c3, .int .i64 kd, .int .i64 nn, .string ⟨nm.toArray⟩, .int .i64 op, .slice A L c] := by rw [← hW1]; exact (Blk.new _ _ _).alloc _
  have k2 : Blk W1 (w.heap.size + 1) 93 #[.int .i64 ((0 : Nat) : Int), .int .i64 ((0 : Nat) : Int)] := by rw [← hW1]; exact blk_at (by simp) _ _
  have hz : W1.heap.size = w.heap.size + 2 := by rw [← hW1]; simp
  unfold szF at hs
  have hcnt := cnt_any 21 0 rfl f.body 0 0 _ W1 ok (w.heap.size + 1) (r3.keep keepsS (fun _ h => h) (fun x hx => hb1.block x (hok x hx))) (fun g hg => by have := hok g hg; omega) k2 (by omega) (by omega) (by omega)
  have hdeep := fun W (hg : Kp (some (w.heap.size + 1)) W1 W) => deep_any 21 0 rfl f.value _ W ok (r4.keep (fun _ h => h) (fun x hx => (hg.block x (by have := hok x hx; omega) (fun e => by injection e with e; have := hok x hx; omega)).trans (hb1.block x (hok x hx)))) (fun x hx => by have := hok x hx; have := hg.size; omega) (by omega)
  have l1 := sumL_len List.length f.params
  have l2 := sumL_len List.length f.locals
  have l3 := sumL_len szS f.body
  obtain ⟨n1, hn1⟩ : ∃ n, f.params.length = n := ⟨_, rfl⟩
  obtain ⟨n2, hn2⟩ : ∃ n, f.locals.length = n := ⟨_, rfl⟩
  obtain ⟨n3, hn3⟩ : ∃ n, f.body.length = n := ⟨_, rfl⟩
  obtain ⟨r, hr⟩ : ∃ r, cntL 0 (0, 0) f.body = r := ⟨_, rfl⟩
  obtain ⟨dv, hdv⟩ : ∃ dv, deepE 0 f.value = dv := ⟨_, rfl⟩
  obtain ⟨fnm, hfn⟩ : ∃ x, f.name = x := ⟨_, rfl⟩
  rw [hr] at hcnt
  have hlim : limFB f = (decide (6 < n1) || (decide (8 < n2) || (r.isNone || dv))) := by unfold limFB; rw [hn1, hn2, hr, hdv]
  rw [hlim]
  rw [hn1] at l1
  rw [hn2] at l2
  rw [hn3] at l3 hcnt
  rw [hn1, hn2, hn3, hfn] at k1 hW1
  rw [hdv] at hdeep
  simp only [hn1, hn2, hn3, hfn]
  have HC := Lib.hid hcnt
  have HD := Lib.hid hdeep
  have HB := Lib.hid (And.intro hb1 (And.intro k1 hW1))
  have m1 : n1 ≤ 1000000000 := by omega
  have m2 : n2 ≤ 1000000000 := by omega
  clear h hcnt hdeep hb1 k1 k2 hW1 l1 l2 l3 hs hlim hn1 hn2 hn3 hr hdv hfn r1 r2 r3 r4 hz hok
  by_cases h1 : 6 < n1
  · rw [decide_eq_true h1, Bool.true_or]
    have h1i : (6 : Int) < (n1 : Int) := by omega
    go_enter Tryz.func32, Tryz.ntmps32
    go_wp2_with fail
    go_ret
    exact retN rfl (by rw [HB.out.2.2]; exact HB.out.1)
  · rw [decide_eq_false h1, Bool.false_or]
    have h1i : ¬ (6 : Int) < (n1 : Int) := by omega
    by_cases h2 : 8 < n2
    · rw [decide_eq_true h2, Bool.true_or]
      have h2i : (8 : Int) < (n2 : Int) := by omega
      go_enter Tryz.func32, Tryz.ntmps32
      go_wp2_with fail
      go_ret
      exact retN rfl (by rw [HB.out.2.2]; exact HB.out.1)
    · rw [decide_eq_false h2, Bool.false_or]
      have h2i : ¬ (8 : Int) < (n2 : Int) := by omega
      go_enter Tryz.func32, Tryz.ntmps32
      go_wp2_with fail
      rw [HB.out.2.2]
      refine HC.out.mono ?_
      rintro e w3 ⟨rfl, hk, _⟩
      have k3 := HB.out.2.1.kp hk (fun b hb e => by injection hb with hb; omega)
      obtain ⟨x4, x5, x6, x7, x8⟩ : w3.cell? ⟨w.heap.size, 4, none⟩ = _ ∧ w3.cell? ⟨w.heap.size, 5, none⟩ = _ ∧ w3.cell? ⟨w.heap.size, 6, none⟩ = _ ∧ w3.cell? ⟨w.heap.size, 7, none⟩ = _ ∧ w3.cell? ⟨w.heap.size, 8, none⟩ = _ := ⟨k3.cell 4, k3.cell 5, k3.cell 6, k3.cell 7, k3.cell 8⟩
      have hb3 : Below w.heap.size w w3 := HB.out.1.trans ⟨hk.os, hk.tape, hk.output, hk.size, fun i hi => hk.block i (Nat.lt_of_lt_of_le hi HB.out.1.size) (fun e => by injection e with e; omega)⟩
      have HK := Lib.hid (And.intro hk hb3)
      clear hk hb3 k3
      cases hn : r.isNone with
      | true =>
        have HN := Lib.hid hn
        clear hn
        go_wp2_with fail
        go_ret
        exact retN (by rw [HN.out]; rfl) HK.out.2
      | false =>
        have HN := Lib.hid hn
        clear hn
        go_wp2_with fail
        refine (HD.out w3 HK.out.1).mono ?_
        rintro e w4 ⟨rfl, hb4⟩
        have H4 := Lib.hid (HK.out.2.trans (below_down hb4 HK.out.2.size))
        clear hb4 x4 x5 x6 x7 x8
        go_wp2_with fail
        go_ret
        exact retN (by rw [HN.out]; rfl) H4.out
/-- A program in memory: its two lists. -/
def RepP (w : World) (ok : Nat → Prop) (p : PG) (va vf : Value) : Prop := RepL RepA 2 w ok p.arrays va ∧ RepL RepF 9 w ok p.funcs vf
theorem RepP.keep {w w' : World} {ok ok' : Nat → Prop} {p : PG} {va vf : Value} (h : RepP w ok p va vf) (hok : ∀ g, ok g → ok' g) (hw : ∀ g, ok g → w'.heap[g]? = w.heap[g]?) : RepP w' ok' p va vf := ⟨h.1.keep keepsA hok hw, h.2.keep keepsF hok hw⟩
theorem lim_any (p : PG) (va vf : Value) (w : World) (ok : Nat → Prop) (h : RepP w ok p va vf) (hok : ∀ g, ok g → g < w.heap.size) (hs : szP p ≤ 1000000000) :
    Calls Tryz.prog 14 #[.agg #[va, vf]] w (RetN (.bool (limB p)) w) := by
  obtain ⟨A, c, rfl, _⟩ := h.1.at
  obtain ⟨A', c', rfl, _⟩ := h.2.at
  obtain ⟨W1, hW1⟩ : ∃ W1, w.alloc (.cells #[.slice A p.arrays.length c, .slice A' p.funcs.length c'] 32) = W1 := ⟨_, rfl⟩
  have hb1 : Below w.heap.size w W1 := by rw [← hW1]; exact (Below.refl _ _).alloc (Nat.le_refl _) _
  have k1 : Blk W1 w.heap.size 32 #[.slice A p.arrays.length c, .slice A' p.funcs.length c'] := by rw [← hW1]; exact Blk.new _ _ _
  have h1 := h.keep (fun _ h => h) (fun x hx => hb1.block x (hok x hx))
  have hok1 : ∀ b, ok b → b < W1.heap.size ∧ some b ≠ none := fun b hb => ⟨Nat.lt_of_lt_of_le (hok b hb) hb1.size, by simp⟩
  unfold szP at hs
  have l1 := sumL_len (fun a : List UInt8 × Int => a.1.length) p.arrays
  have l2 := sumL_len szF p.funcs
  have ha := contains_A keepsA onesA p.arrays _ W1 ok h1.1 (by omega) lenB none 30 #[] #[] (enters_of Tryz.func30 (by kernel_rfl) rfl) (fun _ => Kp none W1) (inv_kp none W1 (fun _ h => by cases h) ok hok1) (fun _ => 0)
    (fun i x hx cs W c _ hI hr => by rw [app_1]; exact (len_any x cs W ok hr).mono fun _ _ h => ret_kp h hI) 0 (by rw [sumL_zero]; omega) W1 (grown_id _ _)
  have hf := fun W2 (hW2 : Kp none W1 W2) => contains_F keepsF onesF p.funcs _ W1 ok h1.2 (by omega) limFB none 32 #[] #[] (enters_of Tryz.func32 (by kernel_rfl) rfl) (fun _ => Kp none W1) (inv_kp none W1 (fun _ h => by cases h) ok hok1) (fun _ => 0)
    (fun i x hx cs W c _ hI hr => by rw [app_1]; exact (limF_any x cs W ok hr (fun g hg => Nat.lt_of_lt_of_le (hok1 g hg).1 hI.size) (by have := sumL_at szF p.funcs i x hx; omega)).mono fun _ _ h => ret_kp h hI) 0 (by rw [sumL_zero]; omega) W2 hW2
  obtain ⟨n1, hn1⟩ : ∃ n, p.arrays.length = n := ⟨_, rfl⟩
  obtain ⟨n2, hn2⟩ : ∃ n, p.funcs.length = n := ⟨_, rfl⟩
  obtain ⟨b1, hq1⟩ : ∃ b, p.arrays.any lenB = b := ⟨_, rfl⟩
  obtain ⟨b2, hq2⟩ : ∃ b, p.funcs.any limFB = b := ⟨_, rfl⟩
  have hlim : limB p = (decide (4 < n1) || (decide (8 < n2) || (b1 || b2))) := by unfold limB; rw [hn1, hn2, hq1, hq2]
  rw [hlim]
  rw [hn1, hq1] at ha
  rw [hn2, hq2] at hf
  rw [hn1, hn2] at k1 hW1 ⊢
  have HA := Lib.hid ha
  have HF := Lib.hid hf
  have HB := Lib.hid (And.intro hb1 (And.intro k1 hW1))
  have m1 : n1 ≤ 1000000000 := by omega
  have m2 : n2 ≤ 1000000000 := by omega
  clear h h1 ha hf hb1 k1 hW1 l1 l2 hs hlim hn1 hn2 hq1 hq2 hok hok1
  by_cases c1 : 4 < n1
  · rw [decide_eq_true c1, Bool.true_or]
    have h1i : (4 : Int) < (n1 : Int) := by omega
    go_enter Tryz.func14, Tryz.ntmps14
    go_wp2_with fail
    go_ret
    exact retN rfl (by rw [HB.out.2.2]; exact HB.out.1)
  · rw [decide_eq_false c1, Bool.false_or]
    have h1i : ¬ (4 : Int) < (n1 : Int) := by omega
    by_cases c2 : 8 < n2
    · rw [decide_eq_true c2, Bool.true_or]
      have h2i : (8 : Int) < (n2 : Int) := by omega
      go_enter Tryz.func14, Tryz.ntmps14
      go_wp2_with fail
      go_ret
      exact retN rfl (by rw [HB.out.2.2]; exact HB.out.1)
    · rw [decide_eq_false c2, Bool.false_or]
      have h2i : ¬ (8 : Int) < (n2 : Int) := by omega
      go_enter Tryz.func14, Tryz.ntmps14
      go_wp2_with fail
      rw [HB.out.2.2]
      refine HA.out.mono ?_
      rintro e w3 ⟨rfl, _, hk⟩
      have x1 := (HB.out.2.1.kp hk (fun b hb => by cases hb)).cell 1
      have y1 : w3.cell? ⟨w.heap.size, 1, none⟩ = some (.slice A' n2 c') := x1
      have HK := Lib.hid (And.intro hk (HB.out.1.trans (below_down (below_kp hk) HB.out.1.size)))
      clear hk x1
      cases b1 with
      | true =>
        rw [Bool.true_or]
        go_wp2_with fail
        go_ret
        exact retN rfl HK.out.2
      | false =>
        rw [Bool.false_or]
        go_wp2_with fail
        refine (HF.out w3 HK.out.1).mono ?_
        rintro e w4 ⟨rfl, _, hk4⟩
        have H4 := Lib.hid (HK.out.2.trans (below_down (below_kp hk4) HK.out.2.size))
        clear hk4 y1
        go_wp2_with fail
        go_ret
        exact retN rfl H4.out
end Go.Proofs.YtkjbjjiajopfpaaGreatDoor
