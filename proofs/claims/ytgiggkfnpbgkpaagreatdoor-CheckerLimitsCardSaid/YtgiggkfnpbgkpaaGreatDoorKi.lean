/- Stage 4: the walks of hasWrongArity (no functions) and of Check. -/
import Derived.Test.YtgiggkfnpbgkpaaGreatDoorKh
import Derived.Test.YtgiggkfnpbgkpaaGreatDoorKe
import Derived.Laws.EntriesVeiled
import Derived.Test.YtgiggkfnpbgkpaaGreatDoorKf
namespace Go.Proofs.YtgiggkfnpbgkpaaGreatDoor
open Go.RowKit (wrap64 intOf)
open Go Go.RowKit WM LX PX CX

set_option maxRecDepth 100000
set_option maxHeartbeats 4000000
theorem ari0_any (p : PG) (hf : p.funcs = []) (va vf : Value) (w : World) (ok : Nat → Prop) (h : RepP w ok p va vf) (hok : ∀ g, ok g → g < w.heap.size) :
    Calls Tryz.prog 48 #[.agg #[va, vf]] w (RetN (.bool false) w) := by
  obtain ⟨h1, h2⟩ := h
  rw [hf] at h2
  obtain ⟨A, c, rfl, _⟩ := h1.at
  obtain ⟨A', c', rfl, _⟩ := h2.at
  obtain ⟨n1, hn1⟩ : ∃ n, p.arrays.length = n := ⟨_, rfl⟩
  have h2 : RepL RepF 9 w ok [] (.slice A' 0 c') := h2
  obtain ⟨W1, hW1⟩ : ∃ W1, (((w.alloc (.cells #[.slice A n1 c, .slice A' 0 c'] 28)).alloc (.map #[] 0)).alloc (.cells #[.map (some (w.heap.size + 1))] 136)).alloc (.cells #[.func (.func 100) #[] #[.pointer (some ⟨w.heap.size + 1 + 1, 0, none⟩)]] 135) = W1 := ⟨_, rfl⟩
  have hb1 : Below w.heap.size w W1 := by rw [← hW1]; exact ((((Below.refl _ _).alloc (Nat.le_refl _) _).alloc (by simp) _).alloc (by simp; omega) _).alloc (by simp; omega) _
  have hcall := every_F (p := fun _ => true) keepsF onesF [] _ W1 ok (h2.keep keepsF (fun _ h => h) (fun x hx => hb1.block x (hok x hx))) (by decide) none 101 #[] #[.pointer (some ⟨w.heap.size + 1 + 1 + 1, 0, none⟩)] (enters_of Tryz.func101 (by kernel_rfl) rfl)
    (fun _ => Kp none W1) (inv_kp none W1 (fun _ h => by cases h) ok (fun b hb => ⟨Nat.lt_of_lt_of_le (hok b hb) hb1.size, by simp⟩)) (fun _ => 0) (fun i x hx => by simp at hx) 0 (by decide) W1 (grown_id _ _)
  have HC := Lib.hid (And.intro hcall (And.intro hb1 hW1))
  have hmm := @run_makeMap Tryz.prog
  show Calls _ _ #[.agg #[.slice A p.arrays.length c, .slice A' 0 c']] _ _
  rw [hn1]
  clear hcall hb1 hW1 h1 h2 hf hn1 hok
  go_enter Tryz.func48, Tryz.ntmps48
  go_wp2_with fail
  go_loop [11] (fun i => i = .int .i64 0) (fun _ => 0)
  case atStart => rfl
  case round =>
    obtain rfl := hrel
    go_wp2_with fail
    rw [HC.out.2.2]
    refine HC.out.1.mono ?_
    rintro e w2 ⟨rfl, _, hk⟩
    have HK := Lib.hid (HC.out.2.1.trans (below_down (below_kp hk) HC.out.2.1.size))
    clear hk
    go_wp2_with fail
    go_ret
    exact retN rfl HK.out
theorem chk_any (p : PG) (hp : p.arrays = []) (hbody : ∀ f ∈ p.funcs, f.body = []) (hari : p.funcs = [] ∨ undB p = true ∨ dupB p = true) (va vf : Value) (w : World) (ok : Nat → Prop) (h : RepQ w ok p va vf) (hok : ∀ g, ok g → g < w.heap.size) (hs : szP p ≤ 1000000) (he : PEnv w) :
    Calls Tryz.prog 23 #[.agg #[va, vf]] w (RetN (.int .i64 (chkF p : Int)) w) := by
  have hpP := h.p
  obtain ⟨A, c, rfl, _⟩ := h.1.at
  obtain ⟨A', c', rfl, _⟩ := h.2.at
  obtain ⟨n1, hn1⟩ : ∃ n, p.arrays.length = n := ⟨_, rfl⟩
  obtain ⟨n2, hn2⟩ : ∃ n, p.funcs.length = n := ⟨_, rfl⟩
  obtain ⟨W1, hW1⟩ : ∃ W1, w.alloc (.cells #[.slice A n1 c, .slice A' n2 c'] 28) = W1 := ⟨_, rfl⟩
  have hb1 : Below w.heap.size w W1 := by rw [← hW1]; exact (Below.refl _ _).alloc (Nat.le_refl _) _
  have k1 : Blk W1 w.heap.size 28 #[.slice A n1 c, .slice A' n2 c'] := by rw [← hW1]; exact Blk.new _ _ _
  have hokW : ∀ W, Below w.heap.size w W → ∀ g, ok g → g < W.heap.size := fun W hW g hg => Nat.lt_of_lt_of_le (hok g hg) hW.size
  have hrep := fun W (hW : Below w.heap.size w W) => hpP.keep (w' := W) (fun _ h => h) (fun x hx => hW.block x (hok x hx))
  have hrepQ := fun W (hW : Below w.heap.size w W) => h.keep (w' := W) (fun _ h => h) (fun x hx => hW.block x (hok x hx))
  have c1 := fun W (hW : Below w.heap.size w W) => lim_any p _ _ W ok (hrep W hW) (hokW W hW) (by omega)
  have c2 := fun W (hW : Below w.heap.size w W) => wf_any p hbody _ _ W ok (hrep W hW) (hokW W hW) (by omega) (he.on hW)
  have c3 := fun W (hW : Below w.heap.size w W) => dup_any p hp _ _ W ok (hrepQ W hW) (hokW W hW) hs
  have c4 := fun W (hW : Below w.heap.size w W) => und_any p hp hbody _ _ W ok (hrepQ W hW) (hokW W hW) hs
  have c5 := fun (hf : p.funcs = []) W (hW : Below w.heap.size w W) => ari0_any p hf _ _ W ok (hrep W hW) (hokW W hW)
  have ha0 : p.funcs = [] → ariB p = false := fun hf => by unfold ariB; rw [hf]; rfl
  obtain ⟨q1, hq1⟩ : ∃ q, limB p = q := ⟨_, rfl⟩
  obtain ⟨q2, hq2⟩ : ∃ q, shpB p = q := ⟨_, rfl⟩
  obtain ⟨q3, hq3⟩ : ∃ q, dupB p = q := ⟨_, rfl⟩
  obtain ⟨q4, hq4⟩ : ∃ q, undB p = q := ⟨_, rfl⟩
  obtain ⟨q5, hq5⟩ : ∃ q, ariB p = q := ⟨_, rfl⟩
  have hchk : chkF p = (if q1 = true then 6 else if q2 = false then 2 else if q3 = true then 4 else if q4 = true then 3 else if q5 = true then 5 else 0) := by unfold chkF; rw [hq1, hq2, hq3, hq4, hq5]
  obtain ⟨res, hres⟩ : ∃ res : Nat, (if q1 = true then 6 else if q2 = false then 2 else if q3 = true then 4 else if q4 = true then 3 else if q5 = true then 5 else 0) = res := ⟨_, rfl⟩
  rw [hchk, hres]
  have HRES := Lib.hid hres
  rw [hn1, hn2, hq1] at c1
  rw [hn1, hn2, hq2] at c2
  rw [hn1, hn2, hq3] at c3
  rw [hn1, hn2, hq4] at c4
  rw [hn1, hn2] at c5 ⊢
  rw [hq3, hq4] at hari
  rw [hq5] at ha0
  have C1 := Lib.hid c1
  have C2 := Lib.hid c2
  have C3 := Lib.hid c3
  have C4 := Lib.hid c4
  have C5 := Lib.hid (And.intro c5 ha0)
  have HA := Lib.hid hari
  have HB := Lib.hid (And.intro hb1 (And.intro k1 hW1))
  clear c1 c2 c3 c4 c5 ha0 hari hb1 k1 hW1 hokW hrep hrepQ hpP h hn1 hn2 hq1 hq2 hq3 hq4 hq5 hchk hres hs he hok hbody hp
  go_enter Tryz.func23, Tryz.ntmps23
  go_wp2_with fail
  rw [HB.out.2.2]
  refine (C1.out W1 HB.out.1).mono ?_
  rintro e w2 ⟨rfl, hb⟩
  have k2 := (HB.out.2.1).on hb (HB.out.2.1).lt
  obtain ⟨x2, y2, _⟩ := k2.cells2
  have H2 := Lib.hid (And.intro ((HB.out.1).trans (below_down hb (HB.out.1).size)) k2)
  clear hb k2
  cases q1 with
  | true =>
    go_wp2_with fail
    go_ret
    exact retN (by rw [← HRES.out]; rfl) H2.out.1
  | false =>
    go_wp2_with fail
    refine (C2.out w2 H2.out.1).mono ?_
    rintro e w3 ⟨rfl, hb⟩
    have k3 := (H2.out.2).on hb (H2.out.2).lt
    obtain ⟨x3, y3, _⟩ := k3.cells2
    have H3 := Lib.hid (And.intro ((H2.out.1).trans (below_down hb (H2.out.1).size)) k3)
    clear hb k3 x2 y2
    cases q2 with
    | false =>
      go_wp2_with fail
      go_ret
      exact retN (by rw [← HRES.out]; rfl) H3.out.1
    | true =>
      go_wp2_with fail
      refine (C3.out w3 H3.out.1).mono ?_
      rintro e w4 ⟨rfl, hb⟩
      have k4 := (H3.out.2).on hb (H3.out.2).lt
      obtain ⟨x4, y4, _⟩ := k4.cells2
      have H4 := Lib.hid (And.intro ((H3.out.1).trans (below_down hb (H3.out.1).size)) k4)
      clear hb k4 x3 y3
      cases q3 with
      | true =>
        go_wp2_with fail
        go_ret
        exact retN (by rw [← HRES.out]; rfl) H4.out.1
      | false =>
        go_wp2_with fail
        refine (C4.out w4 H4.out.1).mono ?_
        rintro e w5 ⟨rfl, hb⟩
        have k5 := (H4.out.2).on hb (H4.out.2).lt
        obtain ⟨x5, y5, _⟩ := k5.cells2
        have H5 := Lib.hid (And.intro ((H4.out.1).trans (below_down hb (H4.out.1).size)) k5)
        clear hb k5 x4 y4
        cases q4 with
        | true =>
          go_wp2_with fail
          go_ret
          exact retN (by rw [← HRES.out]; rfl) H5.out.1
        | false =>
          have hf : p.funcs = [] := by
            rcases HA.out with h | h | h
            · exact h
            · cases h
            · cases h
          obtain rfl := C5.out.2 hf
          have CC := Lib.hid (C5.out.1 hf w5 H5.out.1)
          clear hf
          go_wp2_with fail
          refine CC.out.mono ?_
          rintro e w9 ⟨rfl, hb⟩
          have H9 := Lib.hid ((H5.out.1).trans (below_down hb (H5.out.1).size))
          clear hb x5 y5
          go_wp2_with fail
          go_ret
          exact retN (by rw [← HRES.out]; rfl) H9.out
end Go.Proofs.YtgiggkfnpbgkpaaGreatDoor
/- Stage 4: hasWrongArity's own tests: a map from names to numbers. -/
namespace Go.Proofs.YtgiggkfnpbgkpaaGreatDoor
open Go.RowKit (wrap64 intOf)
open Go Go.RowKit WM LX PX CX

set_option maxRecDepth 100000
set_option maxHeartbeats 4000000
/-- A map from names to numbers that reads as g, of at most c entries, at block B. -/
def PMp (B c : Nat) (g : List UInt8 → Int) (w : World) : Prop :=
  ∃ (n : Nat) (D : DataW Unit), n ≤ c ∧ w.ownsMap Tryz.prog 9 (plainElem Tryz.prog 3) B n D ∧ Maps.IsMap D ∧ ∀ x : List UInt8, D.atKey (.string x) (.lit (.int .i64 0)) = .lit (.int .i64 (g x))
theorem PMp.lt {B c : Nat} {g : List UInt8 → Int} {w : World} (h : PMp B c g w) : B < w.heap.size := by
  obtain ⟨n, D, _, h, _⟩ := h
  exact h.lt
theorem PMp.kp {B c : Nat} {g : List UInt8 → Int} {w w' : World} (h : PMp B c g w) (hb : Kp none w w') : PMp B c g w' := by
  obtain ⟨n, D, hn, h, hm, hx⟩ := h
  exact ⟨n, D, hn, h.kept hb (by simp), hm, hx⟩
theorem mapI : Tryz.prog.underlying 136 = some (.map 9 3) := Tryz.underlying136
theorem look_pm {B c : Nat} {g : List UInt8 → Int} {w : World} (h : PMp B c g w) (x : List UInt8) (hx : x.length ≤ 1000000000) :
    (Instr.lookup 136 (.map (some B)) (.string ⟨x.toArray⟩) false).run Tryz.prog w = .ok (.int .i64 (g x)) w := by
  obtain ⟨n, D, hn, h, hm, hD⟩ := h
  obtain ⟨v, hrun, hat, _⟩ := h.lookup_int lawS mapI Tryz.underlying3 (by kernel_rfl) (keyS x hx)
  rw [hD x] at hat
  injection hat with hat
  injection hat with _ hat
  rw [hrun, hat]
theorem put_pm {B c : Nat} {g : List UInt8 → Int} {w : World} (h : PMp B c g w) (hc : c < maxLen) (x : List UInt8) (hx : x.length ≤ 1000000000) (a : Int) (ha : (Lit.int .i64 a).wf = true) :
    ∃ w', (Instr.mapUpdate 136 (.map (some B)) (.string ⟨x.toArray⟩) (.int .i64 a)).run Tryz.prog w = .ok () w' ∧ PMp B (c + 1) (fun y => if x = y then a else g y) w' ∧ w.grownBy w' (some B) := by
  obtain ⟨n, D, hn, h, hm, hD⟩ := h
  obtain ⟨w', r1, r2, r3⟩ := h.update lawS mapI (by omega) (keyS x hx) (plainElem_int Tryz.underlying3 ha)
  refine ⟨w', r1, ⟨n + 1, _, by omega, r2, hm.put _ _, fun y => ?_⟩, r3⟩
  show _ = DataW.lit (Lit.int IntKind.i64 (if x = y then a else g y))
  by_cases hxy : x = y
  · subst hxy
    rw [Maps.atKey_put_same hm (lawS.key (keyS x hx)), if_pos rfl]
  · rw [Maps.atKey_put_other (fun e => hxy (by injection e with e; exact e.symm)), if_neg hxy]
    exact hD y
theorem ar1_any (fs : List FN) (B n Pm : Nat) (s : ST) (hs : szS s ≤ 1000000000) (cs : List Value) (w : World) (ok : Nat → Prop) (hr : RepS w ok s cs) (hP : PMp B n (parN fs) w) (hk : Blk w Pm 136 #[.map (some B)]) :
    Calls Tryz.prog 100 #[.agg cs.toArray, .pointer (some ⟨Pm, 0, none⟩)] w (RetN (.bool (arS fs s)) w) := by
  cases s with
  | mk kd nm tn n' pos value args thn els =>
    obtain ⟨k1, n1, x1, o1, A1, L1, c1, k2, n2, x2, o2, A2, L2, c2, A3, c3, A4, c4, A5, c5, hcs, _⟩ := stm_of hr
    rw [szS_eq] at hs
    obtain ⟨la, hla⟩ : ∃ la, args.length = la := ⟨_, rfl⟩
    obtain ⟨sx, hsx⟩ : ∃ sx : ByteArray, (⟨tn.toArray⟩ : ByteArray) = sx := ⟨_, rfl⟩
    have d0 : cs[0]? = some (.int .i64 kd) := by rw [hcs]; rfl
    have d2 : cs[2]? = some (.string sx) := by rw [hcs, ← hsx]; rfl
    have d14 : cs[14]? = some (.slice A3 la c3) := by rw [hcs, ← hla]; rfl
    clear hcs
    have hb1 : Below w.heap.size w (w.alloc (.cells cs.toArray 50)) := (Below.refl _ _).alloc (Nat.le_refl _) _
    have hrun := look_pm (hP.kp (kp_below hb1 none)) tn (by omega)
    obtain ⟨v, hv⟩ : ∃ v, parN fs tn = v := ⟨_, rfl⟩
    rw [hv, hsx] at hrun
    have har : arS fs (.mk kd nm tn n' pos value args thn els) = (decide (kd ≠ 6) || decide ((la : Int) = v)) := by rw [← hla, ← hv]; rfl
    rw [har]
    have x0 : w.cell? ⟨Pm, 0, none⟩ = some (.map (some B)) := hk.cell 0
    have hPl := hk.lt
    have HB := Lib.hid hb1
    clear hb1 har hla hsx hv hr hP hk hs
    by_cases h6 : kd = 6
    · subst h6
      go_enter Tryz.func100, Tryz.ntmps100
      go_wp2_with fail
      go_ret
      exact retN (by rw [beqI]; simp) HB.out
    · have e6 := neI h6
      go_enter Tryz.func100, Tryz.ntmps100
      go_wp2_with fail
      go_ret
      exact retN (by simp [h6]) HB.out
theorem ar2_any (fs : List FN) (B n Pm Q : Nat) (f : FN) (hs : szF f ≤ 1000000000) (cs : List Value) (w : World) (ok : Nat → Prop) (hr : RepF w ok f cs) (hok : ∀ g, ok g → g < w.heap.size) (hP : PMp B n (parN fs) w) (hk : Blk w Pm 136 #[.map (some B)]) (hQ : Blk w Q 135 #[.func (.func 100) #[] #[.pointer (some ⟨Pm, 0, none⟩)]]) :
    Calls Tryz.prog 101 #[.agg cs.toArray, .pointer (some ⟨Q, 0, none⟩)] w (RetN (.bool (f.body.all (allS (arS fs)))) w) := by
  obtain ⟨A1, c1, A2, c2, A3, c3, kd, nn, nm, op, A, L, c, hcs, r1, r2, r3, r4⟩ := fun_of hr
  have hz : szF f = 1 + f.name.length + sumL List.length f.params + sumL List.length f.locals + sumL szS f.body + szE f.value := rfl
  obtain ⟨W1, hW1⟩ : ∃ W1, w.alloc (.cells cs.toArray 47) = W1 := ⟨_, rfl⟩
  have hb1 : Below w.heap.size w W1 := by rw [← hW1]; exact (Below.refl _ _).alloc (Nat.le_refl _) _
  have hP1 := hP.kp (kp_below hb1 none)
  have hk1 := hk.on hb1 hk.lt
  have hev := evL_any none 100 #[] #[.pointer (some ⟨Pm, 0, none⟩)] (fun _ => Kp none W1) ok W1 (inv_kp none W1 (fun _ h => by cases h) ok (fun b hb => ⟨Nat.lt_of_lt_of_le (hok b hb) hb1.size, by simp⟩)) (arS fs) (fun x hx cs' W c _ hI hr' => by
      rw [app_l]
      exact (ar1_any fs B n Pm x hx cs' W ok hr' (hP1.kp hI) (hk1.kp hI (fun b hb => by cases hb))).mono fun _ _ h => ret_kp h hI)
    (enters_of Tryz.func100 (by kernel_rfl) rfl) f.body (by omega) _ W1 0 (r3.keep keepsS (fun _ h => h) (fun g hg => hb1.block g (hok g hg))) (by omega) (grown_id _ _)
  obtain ⟨q, hq⟩ : ∃ q, f.body.all (allS (arS fs)) = q := ⟨_, rfl⟩
  obtain ⟨t3, ht3⟩ : ∃ t, Value.slice A3 f.body.length c3 = t := ⟨_, rfl⟩
  have d3 : cs[3]? = some t3 := by rw [hcs, ← ht3]; rfl
  rw [hq, ht3] at hev
  rw [hq]
  have x0 : w.cell? ⟨Q, 0, none⟩ = some (.func (.func 100) #[] #[.pointer (some ⟨Pm, 0, none⟩)]) := hQ.cell 0
  have hQl := hQ.lt
  have HC := Lib.hid (And.intro hev (And.intro hb1 hW1))
  clear hev hb1 hW1 hP1 hk1 hr r1 r2 r3 r4 hok hP hk hQ hz hs hcs ht3 hq
  go_enter Tryz.func101, Tryz.ntmps101
  go_wp2_with fail
  rw [HC.out.2.2]
  refine HC.out.1.mono ?_
  rintro e w2 ⟨rfl, _, hk⟩
  have HK := Lib.hid (HC.out.2.1.trans (below_down (below_kp hk) HC.out.2.1.size))
  clear hk
  go_wp2_with fail
  go_ret
  exact retN rfl HK.out
end Go.Proofs.YtgiggkfnpbgkpaaGreatDoor
/- Stage 4: the walk of hasWrongArity, every program. -/
namespace Go.Proofs.YtgiggkfnpbgkpaaGreatDoor
open Go.RowKit (wrap64 intOf)
open Go Go.RowKit WM LX PX CX

set_option maxRecDepth 100000
set_option maxHeartbeats 4000000
def ArR (fs : List FN) (len : Nat) (S : Nat) (W1 : World) (k : Nat) (i : Value) (wr : World) : Prop :=
  ∃ j : Nat, j + k = len ∧ i = .int .i64 (j : Int) ∧ Hid (PMp (S + 1) j (parN (fs.take j)) wr) ∧ Hid (Kp (some (S + 1)) W1 wr)
theorem parN_snoc (l : List FN) (f : FN) (x : List UInt8) : parN (l ++ [f]) x = (if f.name = x then (f.params.length : Int) else parN l x) := by
  unfold parN
  rw [List.foldl_append]
  rfl
theorem PMp.eq {B c : Nat} {g g' : List UInt8 → Int} {w : World} (h : PMp B c g w) (hg : ∀ x, g x = g' x) : PMp B c g' w := by
  obtain ⟨n, D, hn, h, hm, hx⟩ := h
  exact ⟨n, D, hn, h, hm, fun x => by rw [hx x, hg x]⟩
theorem take_nx {α : Type} {l : List α} {j : Nat} {x : α} (h : l[j]? = some x) : l.take (j + 1) = l.take j ++ [x] := by
  obtain ⟨hj, rfl⟩ := List.getElem?_eq_some_iff.1 h
  exact List.take_succ_eq_append_getElem hj
theorem pm_made (w : World) : PMp w.heap.size 0 (fun _ => 0) (w.alloc (.map #[] 0)) :=
  ⟨0, .map [], Nat.le_refl _, World.ownsMap_made w _ _ _, Maps.isMap_empty, fun _ => rfl⟩
theorem ari2_all (p : PG) (va vf : Value) (w : World) (ok : Nat → Prop) (h : RepP w ok p va vf) (hok : ∀ g, ok g → g < w.heap.size) (hs : szP p ≤ 1000000000) :
    Calls Tryz.prog 48 #[.agg #[va, vf]] w (RetN (.bool (ariB p)) w) := by
  obtain ⟨A, c, rfl, _⟩ := h.1.at
  obtain ⟨A', c', rfl, hat⟩ := h.2.at
  unfold szP at hs
  have l2 := sumL_len szF p.funcs
  obtain ⟨n1, hn1⟩ : ∃ n, p.arrays.length = n := ⟨_, rfl⟩
  obtain ⟨len, hlen⟩ : ∃ n, p.funcs.length = n := ⟨_, rfl⟩
  obtain ⟨W1, hW1⟩ : ∃ W1, ((w.alloc (.cells #[.slice A n1 c, .slice A' len c'] 28)).alloc (.map #[] 0)).alloc (.cells #[.map (some (w.heap.size + 1))] 136) = W1 := ⟨_, rfl⟩
  have hb0 : Below w.heap.size w ((w.alloc (.cells #[.slice A n1 c, .slice A' len c'] 28)).alloc (.map #[] 0)) := ((Below.refl _ _).alloc (Nat.le_refl _) _).alloc (by simp) _
  have hb1 : Below w.heap.size w W1 := by rw [← hW1]; exact hb0.alloc (by simp; omega) _
  have k1 : Blk W1 w.heap.size 28 #[.slice A n1 c, .slice A' len c'] := by rw [← hW1]; exact ((Blk.new _ _ _).alloc _).alloc _
  have k2 : Blk W1 (w.heap.size + 1 + 1) 136 #[.map (some (w.heap.size + 1))] := by rw [← hW1]; exact blk_at (by simp) _ _
  have hz1 : W1.heap.size = w.heap.size + 1 + 1 + 1 := by rw [← hW1]; simp
  have hp0 : PMp (w.heap.size + 1) 0 (parN (p.funcs.take 0)) W1 := by
    have h0 := pm_made (w.alloc (.cells #[.slice A n1 c, .slice A' len c'] 28))
    rw [show (w.alloc (.cells #[.slice A n1 c, .slice A' len c'] 28)).heap.size = w.heap.size + 1 by simp] at h0
    have h1 := h0.kp (kp_below ((Below.refl _ _).alloc (Nat.le_refl _) (.cells #[.map (some (w.heap.size + 1))] 136)) none)
    rw [hW1] at h1
    exact h1.eq fun x => rfl
  have hcf := fun W Q (hW : Below w.heap.size w W) (hp : PMp (w.heap.size + 1) len (parN p.funcs) W) (kk : Blk W (w.heap.size + 1 + 1) 136 #[.map (some (w.heap.size + 1))]) (kQ : Blk W Q 135 #[.func (.func 100) #[] #[.pointer (some ⟨w.heap.size + 1 + 1, 0, none⟩)]]) =>
    every_F keepsF onesF p.funcs _ W ok (h.keep (w' := W) (fun _ h => h) (fun x hx => hW.block x (hok x hx))).2 (by omega) (fun f => f.body.all (allS (arS p.funcs))) none 101 #[] #[.pointer (some ⟨Q, 0, none⟩)] (enters_of Tryz.func101 (by kernel_rfl) rfl)
      (fun _ => Kp none W) (inv_kp none W (fun _ h => by cases h) ok (fun b hb => ⟨Nat.lt_of_lt_of_le (hok b hb) hW.size, by simp⟩)) (fun _ => 0) (fun i x hx cs' W' c _ hI hr' => by
        rw [app_l]
        have hsx := sumL_at szF p.funcs i x hx
        exact (ar2_any p.funcs (w.heap.size + 1) len (w.heap.size + 1 + 1) Q x (by omega) cs' W' ok hr' (fun g hg => Nat.lt_of_lt_of_le (hok g hg) (Nat.le_trans hW.size hI.size)) (hp.kp hI) (kk.kp hI (fun b hb => by cases hb)) (kQ.kp hI (fun b hb => by cases hb))).mono fun _ _ h => ret_kp h hI) 0 (by rw [sumL_zero]; omega) W (grown_id _ _)
  obtain ⟨q, hq⟩ : ∃ q, (p.funcs.all fun f => f.body.all (allS (arS p.funcs))) = q := ⟨_, rfl⟩
  have har : ariB p = !q := by rw [← hq]; rfl
  rw [har, hn1]
  rw [hlen, hq] at hcf
  rw [hlen]
  have hll : len ≤ 1000000000 := by omega
  have hsz : ∀ (j : Nat) (f : FN), p.funcs[j]? = some f → f.name.length ≤ 1000000000 ∧ f.params.length ≤ 1000000000 := fun j f hf => by
    have h1 := sumL_at szF p.funcs j f hf
    have h2 : szF f = 1 + f.name.length + sumL List.length f.params + sumL List.length f.locals + sumL szS f.body + szE f.value := rfl
    have h3 := sumL_len List.length f.params
    omega
  have H := Lib.hid (And.intro hat (And.intro hok (And.intro hlen hsz)))
  have HCF := Lib.hid hcf
  have HB := Lib.hid (And.intro hb1 (And.intro k1 (And.intro k2 (And.intro hz1 hW1))))
  have HP0 := Lib.hid hp0
  have hmm := @run_makeMap Tryz.prog
  clear hcf hat h hok hb0 hb1 k1 k2 hz1 hW1 hp0 hs l2 hn1 hq har hsz hlen
  go_enter Tryz.func48, Tryz.ntmps48
  go_wp2_with fail
  rw [HB.out.2.2.2.2]
  go_loopg [11] len (fun k i wr => ArR p.funcs len w.heap.size W1 k i wr)
  case atStart => exact ⟨0, Nat.zero_add _, rfl, HP0, Lib.hid (grown_id _ _)⟩
  case round =>
    obtain ⟨j, hj, rfl, HP, HK⟩ := hrel
    have hb1s := HB.out.1.size
    have hz1 := HB.out.2.2.2.1
    have hws := HK.out.size
    by_cases hlt : j < len
    · obtain ⟨x, hx⟩ : ∃ x, p.funcs[j]? = some x := ⟨_, List.getElem?_eq_getElem (by rw [H.out.2.2.1]; exact hlt)⟩
      obtain ⟨g, cs, rfl, hg, hrep, hcell⟩ := H.out.1 j x hx
      have hgw := H.out.2.1 g hg
      have hwk : wr.heap[g]? = w.heap[g]? := (HK.out.block g (Nat.lt_of_lt_of_le hgw hb1s) (fun e => by injection e with e; omega)).trans (HB.out.1.block g hgw)
      obtain ⟨A1, c1, A2, c2, A3, c3, kd, nn, nm, op, A0, L0, c0, rfl, _⟩ := fun_of hrep
      obtain ⟨m1, m2⟩ := H.out.2.2.2 j x hx
      obtain ⟨l1, hl1⟩ : ∃ n, x.params.length = n := ⟨_, rfl⟩
      obtain ⟨l2, hl2⟩ : ∃ n, x.locals.length = n := ⟨_, rfl⟩
      obtain ⟨l3, hl3⟩ : ∃ n, x.body.length = n := ⟨_, rfl⟩
      obtain ⟨sx, hsx⟩ : ∃ sx : ByteArray, (⟨x.name.toArray⟩ : ByteArray) = sx := ⟨_, rfl⟩
      rw [hl1, hl2, hl3, hsx] at hcell
      rw [hl1] at m2
      have hc := fun i u hu => (World.cell?_of_block hwk).trans (hcell i u hu)
      have z0 : wr.cell? ⟨g, j * 9, none⟩ = some (.string sx) := hc 0 _ rfl
      have z1 : wr.cell? ⟨g, j * 9 + 1, none⟩ = some (.slice A1 l1 c1) := hc 1 _ rfl
      have z2 : wr.cell? ⟨g, j * 9 + 2, none⟩ = some (.slice A2 l2 c2) := hc 2 _ rfl
      have z3 : wr.cell? ⟨g, j * 9 + 3, none⟩ = some (.slice A3 l3 c3) := hc 3 _ rfl
      have z4 : wr.cell? ⟨g, j * 9 + 4, none⟩ = some (.int .i64 kd) := hc 4 _ rfl
      have z5 : wr.cell? ⟨g, j * 9 + 5, none⟩ = some (.int .i64 nn) := hc 5 _ rfl
      have z6 : wr.cell? ⟨g, j * 9 + 6, none⟩ = some (.string ⟨nm.toArray⟩) := hc 6 _ rfl
      have z7 : wr.cell? ⟨g, j * 9 + 7, none⟩ = some (.int .i64 op) := hc 7 _ rfl
      have z8 : wr.cell? ⟨g, j * 9 + 8, none⟩ = some (.slice A0 L0 c0) := hc 8 _ rfl
      have kk : Blk wr (w.heap.size + 1 + 1) 136 #[.map (some (w.heap.size + 1))] := HB.out.2.2.1.kp HK.out (fun b hb => by injection hb with hb; omega)
      have y0 : wr.cell? ⟨w.heap.size + 1 + 1, 0, none⟩ = some (.map (some (w.heap.size + 1))) := kk.cell 0
      have hgr : g < wr.heap.size := by omega
      have hpr : w.heap.size + 1 + 1 < wr.heap.size := kk.lt
      have e1 : (j : Int) < (len : Int) := by omega
      obtain ⟨wa, hwa⟩ : ∃ wa, wr.alloc (.cells #[.string sx, .slice A1 l1 c1, .slice A2 l2 c2, .slice A3 l3 c3, .int .i64 kd, .int .i64 nn, .string ⟨nm.toArray⟩, .int .i64 op, .slice A0 L0 c0] 47) = wa := ⟨_, rfl⟩
      have hba : Below wr.heap.size wr wa := by rw [← hwa]; exact (Below.refl _ _).alloc (Nat.le_refl _) _
      obtain ⟨w4, r1, r2, r3⟩ := put_pm (HP.out.kp (kp_below hba none)) (by unfold maxLen; omega) x.name m1 (l1 : Int) (by simp [Lit.wf, IntKind.min, IntKind.max, IntKind.signed, IntKind.bits]; omega)
      rw [hsx, ← hwa] at r1
      have hr2 : PMp (w.heap.size + 1) (j + 1) (parN (p.funcs.take (j + 1))) w4 := r2.eq fun y => by rw [take_nx hx, parN_snoc, hl1]
      have hr3 : Kp (some (w.heap.size + 1)) W1 w4 := kp_to HK.out (kp_to (kp_below hba _) r3)
      have H4 := Lib.hid (And.intro hr2 hr3)
      clear hx hcell hc hwk hg hrep hl1 hl2 hl3 hsx m1 m2 hba hwa r2 r3 hr2 hr3 kk
      go_wp2_with fail
      go_roundg (gk - 1)
      case measure => omega
      case rel => exact ⟨j + 1, by omega, by go_num, Lib.hid H4.out.1, Lib.hid H4.out.2⟩
    · obtain rfl : j = len := by omega
      have hall : p.funcs.take j = p.funcs := List.take_of_length_le (by rw [H.out.2.2.1]; exact Nat.le_refl _)
      have hpf := HP.out
      rw [hall] at hpf
      obtain ⟨V, hV⟩ : ∃ V, wr.alloc (.cells #[.func (.func 100) #[] #[.pointer (some ⟨w.heap.size + 1 + 1, 0, none⟩)]] 135) = V := ⟨_, rfl⟩
      have hbV : Below wr.heap.size wr V := by rw [← hV]; exact (Below.refl _ _).alloc (Nat.le_refl _) _
      have kV : Blk V wr.heap.size 135 #[.func (.func 100) #[] #[.pointer (some ⟨w.heap.size + 1 + 1, 0, none⟩)]] := by rw [← hV]; exact Blk.new _ _ _
      have hwV : Below w.heap.size w V := (HB.out.1.trans (kp_under HK.out (fun y hy => by injection hy with hy; omega) hb1s)).trans (below_down hbV (by omega))
      have kk : Blk wr (w.heap.size + 1 + 1) 136 #[.map (some (w.heap.size + 1))] := HB.out.2.2.1.kp HK.out (fun b hb => by injection hb with hb; omega)
      have kp1 : Blk wr w.heap.size 28 #[.slice A n1 c, .slice A' j c'] := HB.out.2.1.kp HK.out (fun b hb => by injection hb with hb; omega)
      have hcall := HCF.out V wr.heap.size hwV (hpf.kp (kp_below hbV none)) (kk.on hbV kk.lt) kV
      have y1 : wr.cell? ⟨w.heap.size, 1, none⟩ = some (.slice A' j c') := kp1.cell 1
      have hpr : w.heap.size < wr.heap.size := kp1.lt
      have HC := Lib.hid (And.intro hcall (And.intro hwV hV))
      clear hcall hwV hV kV hbV kk kp1 hpf hall
      go_wp2_with fail
      rw [HC.out.2.2]
      refine HC.out.1.mono ?_
      rintro e w2 ⟨rfl, _, hk⟩
      have HKK := Lib.hid (HC.out.2.1.trans (below_down (below_kp hk) HC.out.2.1.size))
      clear hk
      go_wp2_with fail
      go_ret
      exact retN rfl HKK.out
end Go.Proofs.YtgiggkfnpbgkpaaGreatDoor
/- Stage 4: Check, every program of at most a million signs. -/
namespace Go.Proofs.YtgiggkfnpbgkpaaGreatDoor
open Go.RowKit (wrap64 intOf)
open Go Go.RowKit WM LX PX CX

set_option maxRecDepth 100000
set_option maxHeartbeats 4000000
theorem chk2_any (p : PG) (va vf : Value) (w : World) (ok : Nat → Prop) (h : RepQ w ok p va vf) (hok : ∀ g, ok g → g < w.heap.size) (hs : szP p ≤ 1000000) (he : PEnv w) :
    Calls Tryz.prog 23 #[.agg #[va, vf]] w (RetN (.int .i64 (chkF p : Int)) w) := by
  have hpP := h.p
  obtain ⟨A, c, rfl, _⟩ := h.1.at
  obtain ⟨A', c', rfl, _⟩ := h.2.at
  obtain ⟨n1, hn1⟩ : ∃ n, p.arrays.length = n := ⟨_, rfl⟩
  obtain ⟨n2, hn2⟩ : ∃ n, p.funcs.length = n := ⟨_, rfl⟩
  obtain ⟨W1, hW1⟩ : ∃ W1, w.alloc (.cells #[.slice A n1 c, .slice A' n2 c'] 28) = W1 := ⟨_, rfl⟩
  have hb1 : Below w.heap.size w W1 := by rw [← hW1]; exact (Below.refl _ _).alloc (Nat.le_refl _) _
  have k1 : Blk W1 w.heap.size 28 #[.slice A n1 c, .slice A' n2 c'] := by rw [← hW1]; exact Blk.new _ _ _
  have hokW : ∀ W, Below w.heap.size w W → ∀ g, ok g → g < W.heap.size := fun W hW g hg => Nat.lt_of_lt_of_le (hok g hg) hW.size
  have hrep := fun W (hW : Below w.heap.size w W) => hpP.keep (w' := W) (fun _ h => h) (fun x hx => hW.block x (hok x hx))
  have hrepQ := fun W (hW : Below w.heap.size w W) => h.keep (w' := W) (fun _ h => h) (fun x hx => hW.block x (hok x hx))
  have c1 := fun W (hW : Below w.heap.size w W) => lim_any p _ _ W ok (hrep W hW) (hokW W hW) (by omega)
  have c2 := fun W (hW : Below w.heap.size w W) => wf2_any p _ _ W ok (hrep W hW) (hokW W hW) (by omega) (he.on hW)
  have c3 := fun W (hW : Below w.heap.size w W) => dup2_any p _ _ W ok (hrepQ W hW) (hokW W hW) hs
  have c4 := fun W (hW : Below w.heap.size w W) => und2_any p _ _ W ok (hrepQ W hW) (hokW W hW) hs
  have c5 := fun W (hW : Below w.heap.size w W) => ari2_all p _ _ W ok (hrep W hW) (hokW W hW) (by omega)
  obtain ⟨q1, hq1⟩ : ∃ q, limB p = q := ⟨_, rfl⟩
  obtain ⟨q2, hq2⟩ : ∃ q, shpB p = q := ⟨_, rfl⟩
  obtain ⟨q3, hq3⟩ : ∃ q, dupB p = q := ⟨_, rfl⟩
  obtain ⟨q4, hq4⟩ : ∃ q, undB p = q := ⟨_, rfl⟩
  obtain ⟨q5, hq5⟩ : ∃ q, ariB p = q := ⟨_, rfl⟩
  have hchk : chkF p = (if q1 = true then 6 else if q2 = false then 2 else if q3 = true then 4 else if q4 = true then 3 else if q5 = true then 5 else 0) := by unfold chkF; rw [hq1, hq2, hq3, hq4, hq5]
  obtain ⟨res, hres⟩ : ∃ res : Nat, (if q1 = true then 6 else if q2 = false then 2 else if q3 = true then 4 else if q4 = true then 3 else if q5 = true then 5 else 0) = res := ⟨_, rfl⟩
  rw [hchk, hres]
  have HRES := Lib.hid hres
  rw [hn1, hn2, hq1] at c1
  rw [hn1, hn2, hq2] at c2
  rw [hn1, hn2, hq3] at c3
  rw [hn1, hn2, hq4] at c4
  rw [hn1, hn2, hq5] at c5
  rw [hn1, hn2]
  have C1 := Lib.hid c1
  have C2 := Lib.hid c2
  have C3 := Lib.hid c3
  have C4 := Lib.hid c4
  have C5 := Lib.hid c5
  have HB := Lib.hid (And.intro hb1 (And.intro k1 hW1))
  clear c1 c2 c3 c4 c5 hb1 k1 hW1 hokW hrep hrepQ hpP h hn1 hn2 hq1 hq2 hq3 hq4 hq5 hchk hres hs he hok
  go_enter Tryz.func23, Tryz.ntmps23
  go_wp2_with fail
  rw [HB.out.2.2]
  refine (C1.out W1 HB.out.1).mono ?_
  rintro e w2 ⟨rfl, hb⟩
  have k2 := (HB.out.2.1).on hb (HB.out.2.1).lt
  obtain ⟨x2, y2, _⟩ := k2.cells2
  have H2 := Lib.hid (And.intro ((HB.out.1).trans (below_down hb (HB.out.1).size)) k2)
  clear hb k2
  cases q1 with
  | true =>
    go_wp2_with fail
    go_ret
    exact retN (by rw [← HRES.out]; rfl) H2.out.1
  | false =>
    go_wp2_with fail
    refine (C2.out w2 H2.out.1).mono ?_
    rintro e w3 ⟨rfl, hb⟩
    have k3 := (H2.out.2).on hb (H2.out.2).lt
    obtain ⟨x3, y3, _⟩ := k3.cells2
    have H3 := Lib.hid (And.intro ((H2.out.1).trans (below_down hb (H2.out.1).size)) k3)
    clear hb k3 x2 y2
    cases q2 with
    | false =>
      go_wp2_with fail
      go_ret
      exact retN (by rw [← HRES.out]; rfl) H3.out.1
    | true =>
      go_wp2_with fail
      refine (C3.out w3 H3.out.1).mono ?_
      rintro e w4 ⟨rfl, hb⟩
      have k4 := (H3.out.2).on hb (H3.out.2).lt
      obtain ⟨x4, y4, _⟩ := k4.cells2
      have H4 := Lib.hid (And.intro ((H3.out.1).trans (below_down hb (H3.out.1).size)) k4)
      clear hb k4 x3 y3
      cases q3 with
      | true =>
        go_wp2_with fail
        go_ret
        exact retN (by rw [← HRES.out]; rfl) H4.out.1
      | false =>
        go_wp2_with fail
        refine (C4.out w4 H4.out.1).mono ?_
        rintro e w5 ⟨rfl, hb⟩
        have k5 := (H4.out.2).on hb (H4.out.2).lt
        obtain ⟨x5, y5, _⟩ := k5.cells2
        have H5 := Lib.hid (And.intro ((H4.out.1).trans (below_down hb (H4.out.1).size)) k5)
        clear hb k5 x4 y4
        cases q4 with
        | true =>
          go_wp2_with fail
          go_ret
          exact retN (by rw [← HRES.out]; rfl) H5.out.1
        | false =>
          go_wp2_with fail
          refine (C5.out w5 H5.out.1).mono ?_
          rintro e w9 ⟨rfl, hb⟩
          have H9 := Lib.hid ((H5.out.1).trans (below_down hb (H5.out.1).size))
          clear hb x5 y5
          cases q5 with
          | true =>
            go_wp2_with fail
            go_ret
            exact retN (by rw [← HRES.out]; rfl) H9.out
          | false =>
            go_wp2_with fail
            go_ret
            exact retN (by rw [← HRES.out]; rfl) H9.out
end Go.Proofs.YtgiggkfnpbgkpaaGreatDoor
