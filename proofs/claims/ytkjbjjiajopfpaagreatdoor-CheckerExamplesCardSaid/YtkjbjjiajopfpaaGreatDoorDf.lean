/- Stage 4: the walk of hasDuplicate, for programs without arrays. -/
import Derived.Test.YtkjbjjiajopfpaaGreatDoorDe
namespace Go.Proofs.YtkjbjjiajopfpaaGreatDoor
open Go.RowKit (wrap64 intOf)
open Go Go.RowKit WM LX PX CX

set_option maxRecDepth 100000
set_option maxHeartbeats 4000000
/-- A slice that is nil as Go lays it, or begins at the head of a block. -/
def NzV (v : Value) : Prop := v = .slice none 0 0 ∨ ∃ g L c, v = .slice (some ⟨g, 0, none⟩) L c
def NiceF (cs : List Value) : Prop := (∃ v, cs[1]? = some v ∧ NzV v) ∧ ∃ v, cs[2]? = some v ∧ NzV v
def RepG (w : World) (ok : Nat → Prop) (f : FN) (cs : List Value) : Prop := RepF w ok f cs ∧ NiceF cs
theorem keepsG : Keeps RepG := ⟨fun h hok hw => ⟨keepsF.k h.1 hok hw, h.2⟩⟩
theorem onesG : Ones RepG 9 := fun _ _ _ _ h => onesF _ _ _ _ h.1
theorem repL_map {α : Type} {R S : World → (Nat → Prop) → α → List Value → Prop} {sz : Nat} {w : World} {ok : Nat → Prop} {xs : List α} {v : Value} (h : RepL R sz w ok xs v) (hm : ∀ x cs, R w ok x cs → S w ok x cs) : RepL S sz w ok xs v := by
  obtain ⟨F, h1, h2⟩ := h
  exact ⟨F, h1, fun i x hx => hm _ _ (h2 i x hx)⟩
/-- A program in memory whose functions' lists are nil or rows. -/
def RepQ (w : World) (ok : Nat → Prop) (p : PG) (va vf : Value) : Prop := RepL RepA 2 w ok p.arrays va ∧ RepL RepG 9 w ok p.funcs vf
theorem RepQ.p {w : World} {ok : Nat → Prop} {p : PG} {va vf : Value} (h : RepQ w ok p va vf) : RepP w ok p va vf := ⟨h.1, repL_map h.2 fun _ _ h => h.1⟩
theorem RepQ.keep {w w' : World} {ok ok' : Nat → Prop} {p : PG} {va vf : Value} (h : RepQ w ok p va vf) (hok : ∀ g, ok g → ok' g) (hw : ∀ g, ok g → w'.heap[g]? = w.heap[g]?) : RepQ w' ok' p va vf := ⟨h.1.keep keepsA hok hw, h.2.keep keepsG hok hw⟩
theorem arrN_any (p : PG) (hp : p.arrays = []) (va vf : Value) (w : World) (ok : Nat → Prop) (h : RepP w ok p va vf) :
    Calls Tryz.prog 38 #[.agg #[va, vf]] w (RetN (.slice none 0 0) w) := by
  obtain ⟨h1, h2⟩ := h
  rw [hp] at h1
  obtain ⟨A, c, rfl, _⟩ := h1.at
  obtain ⟨A', c', rfl, _⟩ := h2.at
  have hb : Below w.heap.size w (w.alloc (.cells #[.slice A ([] : List (List UInt8 × Int)).length c, .slice A' p.funcs.length c'] 32)) := (Below.refl _ _).alloc (Nat.le_refl _) _
  have HB := Lib.hid hb
  obtain ⟨n, hn⟩ : ∃ n, p.funcs.length = n := ⟨_, rfl⟩
  rw [hn] at HB ⊢
  clear hb h1 h2 hn
  go_enter Tryz.func38, Tryz.ntmps38
  go_wp2_with fail
  go_loop [3, 9] (fun v i => v = .slice none 0 0 ∧ i = .int .i64 0) (fun _ _ => 0)
  case atStart => exact ⟨rfl, rfl⟩
  case round =>
    obtain ⟨rfl, rfl⟩ := hrel
    go_wp2_with fail
    go_ret
    exact retN rfl HB.out
/-- The names of a function's variables, behind ars: made, and only new memory. -/
theorem dup_cl (ars : List (List UInt8)) (AA : Option Addr) (LA cA : Nat) (B1 : Nat) (f : FN) (cs : List Value) (w : World) (ok : Nat → Prop) (hr : RepG w ok f cs) (hok : ∀ g, ok g → g < w.heap.size) (hA : NmV w ok ars (.slice AA LA cA)) (hB : B1 < w.heap.size) (hc : w.cell? ⟨B1, 0, none⟩ = some (.slice AA LA cA))
    (hs : ars.length + (f.params.length + f.locals.length) ≤ 1000000) :
    Calls Tryz.prog 41 #[.agg cs.toArray, .pointer (some ⟨B1, 0, none⟩)] w (RetN (.bool (repB (ars ++ (f.params ++ f.locals)))) w) := by
  obtain ⟨hf, ⟨v1, hv1, n1⟩, ⟨v2, hv2, n2⟩⟩ := hr
  obtain ⟨A1, c1, A2, c2, A3, c3, kd, nn, nm, op, A, L, c, rfl, r1, r2, _, _⟩ := fun_of hf
  obtain rfl : v1 = .slice A1 f.params.length c1 := by simpa using hv1.symm
  obtain rfl : v2 = .slice A2 f.locals.length c2 := by simpa using hv2.symm
  obtain ⟨l1, hl1⟩ : ∃ n, f.params.length = n := ⟨_, rfl⟩
  obtain ⟨l2, hl2⟩ : ∃ n, f.locals.length = n := ⟨_, rfl⟩
  obtain ⟨l3, hl3⟩ : ∃ n, f.body.length = n := ⟨_, rfl⟩
  obtain ⟨xn, hxn⟩ : ∃ y, f.name = y := ⟨_, rfl⟩
  obtain ⟨W1, hW1⟩ : ∃ W1, (w.alloc (.cells #[.string ⟨xn.toArray⟩, .slice A1 l1 c1, .slice A2 l2 c2, .slice A3 l3 c3, .int .i64 kd, .int .i64 nn, .string ⟨nm.toArray⟩, .int .i64 op, .slice A L c] 28)).alloc (.cells #[.slice AA LA cA, .slice A1 l1 c1, .slice A2 l2 c2] 25) = W1 := ⟨_, rfl⟩
  have hb1 : Below w.heap.size w W1 := by rw [← hW1]; exact ((Below.refl _ _).alloc (Nat.le_refl _) _).alloc (by simp) _
  have k2 : Blk W1 (w.heap.size + 1) 25 #[.slice AA LA cA, .slice A1 l1 c1, .slice A2 l2 c2] := by rw [← hW1]; exact blk_at (by simp) _ _
  have hN1 : NmV W1 ok f.params (.slice A1 l1 c1) := NmV.keep ⟨hl1 ▸ r1, by rw [← hl1]; exact n1⟩ (fun g hg => hb1.block g (hok g hg))
  have hN2 : NmV W1 ok f.locals (.slice A2 l2 c2) := NmV.keep ⟨hl2 ▸ r2, by rw [← hl2]; exact n2⟩ (fun g hg => hb1.block g (hok g hg))
  have hN0 : NmV W1 ok ars (.slice AA LA cA) := hA.keep (fun g hg => hb1.block g (hok g hg))
  have hcon := conc_any [ars, f.params, f.locals] [.slice AA LA cA, .slice A1 l1 c1, .slice A2 l2 c2] (w.heap.size + 1) 3 W1 ok (fun g hg => Nat.lt_of_lt_of_le (hok g hg) hb1.size) k2.lt rfl (Nat.le_refl 3)
    (fun i v h => by
      rw [k2.cell i]
      simpa using h)
    (fun i ys v hy hv => by
      match i with
      | 0 => simp at hy hv; subst hy hv; exact hN0
      | 1 => simp at hy hv; subst hy hv; exact hN1
      | 2 => simp at hy hv; subst hy hv; exact hN2
      | i + 3 => simp at hy) (by simp; omega)
  have hfl : [ars, f.params, f.locals].flatten = ars ++ (f.params ++ f.locals) := by simp
  rw [hfl] at hcon
  obtain ⟨ns, hns⟩ : ∃ ns, ars ++ (f.params ++ f.locals) = ns := ⟨_, rfl⟩
  have hnl : ns.length ≤ 1000000 := by rw [← hns]; simp; omega
  rw [hns] at hcon ⊢
  obtain ⟨q, hq⟩ : ∃ q, repB ns = q := ⟨_, rfl⟩
  have hrep := fun w A c hcap (h : RepL RepN 1 w (fun _ => True) ns (.slice A ns.length c)) => rep_any ns hnl A c hcap w (fun _ => True) h
  rw [hq] at hrep ⊢
  have HC := Lib.hid hcon
  have HR := Lib.hid hrep
  have HB := Lib.hid (And.intro hb1 hW1)
  simp only [hl1, hl2, hl3, hxn]
  clear hcon hrep hb1 hW1 k2 hN1 hN2 hN0 hf hv1 hv2 n1 n2 r1 r2 hok hA hs hfl hns hq hl1 hl2 hl3 hxn
  go_enter Tryz.func41, Tryz.ntmps41
  go_wp2_with fail
  rw [HB.out.2]
  refine HC.out.mono ?_
  rintro e w2 ⟨A9, c9, rfl, hcap, hl, hb2⟩
  have H2 := Lib.hid (And.intro (HR.out w2 A9 c9 hcap (hl.keep keepsN (fun _ _ => trivial) (fun _ _ => rfl))) (HB.out.1.trans (below_down hb2 HB.out.1.size)))
  clear hl hb2
  go_wp2_with fail
  refine H2.out.1.mono ?_
  rintro e w3 ⟨rfl, rfl⟩
  go_wp2_with fail
  go_ret
  exact retN rfl H2.out.2
theorem dup_any (p : PG) (hp : p.arrays = []) (va vf : Value) (w : World) (ok : Nat → Prop) (h : RepQ w ok p va vf) (hok : ∀ g, ok g → g < w.heap.size) (hs : szP p ≤ 1000000) :
    Calls Tryz.prog 16 #[.agg #[va, vf]] w (RetN (.bool (dupB p)) w) := by
  have hpP := h.p
  obtain ⟨A, c, rfl, _⟩ := h.1.at
  obtain ⟨A', c', rfl, _⟩ := h.2.at
  unfold szP at hs
  have l2 := sumL_len szF p.funcs
  obtain ⟨n1, hn1⟩ : ∃ n, p.arrays.length = n := ⟨_, rfl⟩
  obtain ⟨n2, hn2⟩ : ∃ n, p.funcs.length = n := ⟨_, rfl⟩
  obtain ⟨W1, hW1⟩ : ∃ W1, w.alloc (.cells #[.slice A n1 c, .slice A' n2 c'] 32) = W1 := ⟨_, rfl⟩
  have hb1 : Below w.heap.size w W1 := by rw [← hW1]; exact (Below.refl _ _).alloc (Nat.le_refl _) _
  have k1 : Blk W1 w.heap.size 32 #[.slice A n1 c, .slice A' n2 c'] := by rw [← hW1]; exact Blk.new _ _ _
  have ha := arrN_any p hp _ _ W1 ok (hpP.keep (fun _ h => h) (fun x hx => hb1.block x (hok x hx)))
  have hf := fun W (hW : Below w.heap.size w W) => fnN_any p _ _ W ok (hpP.keep (fun _ h => h) (fun x hx => hW.block x (hok x hx))) (fun g hg => Nat.lt_of_lt_of_le (hok g hg) hW.size) (by omega)
  have hnf : (fnN p).length ≤ 1000000 := by simp [fnN]; omega
  have hcf := fun W B1 (hW : Below w.heap.size w W) (hB1 : w.heap.size ≤ B1) (kB : Blk W B1 25 #[.slice none 0 0]) => contains_F keepsG onesG p.funcs _ W ok (h.keep (fun _ h => h) (fun x hx => hW.block x (hok x hx))).2 (by omega) (fun f => repB (anN p ++ (f.params ++ f.locals))) none 41 #[] #[.pointer (some ⟨B1, 0, none⟩)] (enters_of Tryz.func41 (by kernel_rfl) rfl)
    (fun _ => Kp none W) (inv_kp none W (fun _ h => by cases h) ok (fun b hb => ⟨Nat.lt_of_lt_of_le (hok b hb) hW.size, by simp⟩)) (fun _ => 0) (fun i x hx cs W' d _ hI hr => by
      rw [app_l]
      have hsx := sumL_at szF p.funcs i x hx
      have hsz : szF x = 1 + x.name.length + sumL List.length x.params + sumL List.length x.locals + sumL szS x.body + szE x.value := rfl
      have p1 := sumL_len List.length x.params
      have p2 := sumL_len List.length x.locals
      have kB' := kB.kp hI (fun b hb => by cases hb)
      have hA : NmV W' ok (anN p) (.slice none 0 0) := ⟨by unfold anN; rw [hp]; exact repL_nil _ _ _ _, Or.inl rfl⟩
      exact (dup_cl (anN p) none 0 0 B1 x cs W' ok hr (fun g hg => Nat.lt_of_lt_of_le (hok g hg) (Nat.le_trans hW.size hI.size)) hA kB'.lt (kB'.cell 0) (by unfold anN; rw [hp]; simp; omega)).mono fun _ _ h => ret_kp h hI) 0 (by rw [sumL_zero]; omega) W (grown_id _ _)
  have hd : dupB p = (repB (fnN p) || p.funcs.any fun f => repB (anN p ++ (f.params ++ f.locals))) := by
    unfold dupB
    rw [show repB (anN p) = false by unfold anN; rw [hp]; rfl, Bool.false_or]
  obtain ⟨q1, hq1⟩ : ∃ q, repB (fnN p) = q := ⟨_, rfl⟩
  obtain ⟨q2, hq2⟩ : ∃ q, (p.funcs.any fun f => repB (anN p ++ (f.params ++ f.locals))) = q := ⟨_, rfl⟩
  rw [hd, hq1, hq2]
  have hr0 := fun W => rep_any [] (by decide) none 0 (Nat.le_refl _) W (fun _ => True) (repL_nil _ _ _ _)
  have hr1 := fun W A c hcap (h : RepL RepN 1 W (fun _ => True) (fnN p) (.slice A (fnN p).length c)) => rep_any (fnN p) hnf A c hcap W (fun _ => True) h
  rw [hq1] at hr1
  rw [hn1, hn2] at ha hf
  rw [hn2, hq2] at hcf
  rw [hn1, hn2]
  have HA := Lib.hid ha
  have HF := Lib.hid hf
  have HCF := Lib.hid hcf
  have HR := Lib.hid (And.intro hr0 hr1)
  have HB := Lib.hid (And.intro hb1 (And.intro k1 hW1))
  clear ha hf hcf hr0 hr1 hb1 k1 hW1 h hpP hs l2 hn1 hn2 hnf hd hq1 hq2 hok
  go_enter Tryz.func16, Tryz.ntmps16
  go_wp2_with fail
  rw [HB.out.2.2]
  refine HA.out.mono ?_
  rintro e w2 ⟨rfl, hb2⟩
  obtain ⟨V, hV⟩ : ∃ V, w2.alloc (.cells #[.slice none 0 0] 25) = V := ⟨_, rfl⟩
  have hbV : Below w2.heap.size w2 V := by rw [← hV]; exact (Below.refl _ _).alloc (Nat.le_refl _) _
  have kV : Blk V w2.heap.size 25 #[.slice none 0 0] := by rw [← hV]; exact Blk.new _ _ _
  have j1 := HB.out.2.1.on hb2 HB.out.2.1.lt
  have hw2 : Below w.heap.size w w2 := HB.out.1.trans (below_down hb2 HB.out.1.size)
  have HV := Lib.hid (And.intro (j1.on hbV j1.lt) (And.intro kV (And.intro (hw2.trans (below_down hbV hw2.size)) hV)))
  obtain ⟨x0, x1, _⟩ := j1.cells2
  have s1 := j1.lt
  have HS : Hid (w.heap.size ≤ w2.heap.size) := hw2.size
  clear hb2 hbV kV j1 hw2 hV
  go_wp2_with fail
  rw [HV.out.2.2.2]
  refine (HR.out.1 V).mono ?_
  rintro e w3 ⟨rfl, rfl⟩
  have y0 : V.cell? ⟨w.heap.size, 0, none⟩ = some (.slice A n1 c) := HV.out.1.cell 0
  have y1 : V.cell? ⟨w.heap.size, 1, none⟩ = some (.slice A' n2 c') := HV.out.1.cell 1
  clear x0 x1
  go_wp2_with fail
  refine (HF.out V HV.out.2.2.1).mono ?_
  rintro e w4 ⟨A9, c9, rfl, hcap, hl, hb4⟩
  have H4 := Lib.hid (And.intro (HR.out.2 w4 A9 c9 hcap (hl.keep keepsN (fun _ _ => trivial) (fun _ _ => rfl))) (And.intro (HV.out.1.on hb4 HV.out.1.lt) (And.intro (HV.out.2.1.on hb4 HV.out.2.1.lt) (HV.out.2.2.1.trans (below_down hb4 HV.out.2.2.1.size)))))
  clear hl hb4 y0 y1
  go_wp2_with fail
  refine H4.out.1.mono ?_
  rintro e w5 ⟨rfl, rfl⟩
  have y1 : w4.cell? ⟨w.heap.size, 1, none⟩ = some (.slice A' n2 c') := H4.out.2.1.cell 1
  cases q1 with
  | true =>
    go_wp2_with fail
    go_ret
    exact retN rfl H4.out.2.2.2
  | false =>
    go_wp2_with fail
    refine (HCF.out w4 w2.heap.size H4.out.2.2.2 HS.out H4.out.2.2.1).mono ?_
    rintro e w6 ⟨rfl, _, hk⟩
    have H6 := Lib.hid (H4.out.2.2.2.trans (below_down (below_kp hk) H4.out.2.2.2.size))
    clear hk y1
    go_wp2_with fail
    go_ret
    exact retN rfl H6.out
end Go.Proofs.YtkjbjjiajopfpaaGreatDoor
