/- Stage 4: the walks of hasWrongArity (no functions) and of Check. -/
import Derived.Test.YtkjbjjiajopfpaaGreatDoorDh
import Derived.Test.YtkjbjjiajopfpaaGreatDoorDb
import Derived.Laws.EntriesVeiled
namespace Go.Proofs.YtkjbjjiajopfpaaGreatDoor
open Go.RowKit (wrap64 intOf)
open Go Go.RowKit WM LX PX CX

set_option maxRecDepth 100000
set_option maxHeartbeats 4000000
theorem ari0_any (p : PG) (hf : p.funcs = []) (va vf : Value) (w : World) (ok : Nat → Prop) (h : RepP w ok p va vf) (hok : ∀ g, ok g → g < w.heap.size) :
    Calls Tryz.prog 18 #[.agg #[va, vf]] w (RetN (.bool false) w) := by
  obtain ⟨h1, h2⟩ := h
  rw [hf] at h2
  obtain ⟨A, c, rfl, _⟩ := h1.at
  obtain ⟨A', c', rfl, _⟩ := h2.at
  obtain ⟨n1, hn1⟩ : ∃ n, p.arrays.length = n := ⟨_, rfl⟩
  have h2 : RepL RepF 9 w ok [] (.slice A' 0 c') := h2
  obtain ⟨W1, hW1⟩ : ∃ W1, (((w.alloc (.cells #[.slice A n1 c, .slice A' 0 c'] 32)).alloc (.map #[] 0)).alloc (.cells #[.map (some (w.heap.size + 1))] 80)).alloc (.cells #[.func (.func 47) #[] #[.pointer (some ⟨w.heap.size + 1 + 1, 0, none⟩)]] 79) = W1 := ⟨_, rfl⟩
  have hb1 : Below w.heap.size w W1 := by rw [← hW1]; exact ((((Below.refl _ _).alloc (Nat.le_refl _) _).alloc (by simp) _).alloc (by simp; omega) _).alloc (by simp; omega) _
  have hcall := every_F (p := fun _ => true) keepsF onesF [] _ W1 ok (h2.keep keepsF (fun _ h => h) (fun x hx => hb1.block x (hok x hx))) (by decide) none 48 #[] #[.pointer (some ⟨w.heap.size + 1 + 1 + 1, 0, none⟩)] (enters_of Tryz.func48 (by kernel_rfl) rfl)
    (fun _ => Kp none W1) (inv_kp none W1 (fun _ h => by cases h) ok (fun b hb => ⟨Nat.lt_of_lt_of_le (hok b hb) hb1.size, by simp⟩)) (fun _ => 0) (fun i x hx => by simp at hx) 0 (by decide) W1 (grown_id _ _)
  have HC := Lib.hid (And.intro hcall (And.intro hb1 hW1))
  have hmm := @run_makeMap Tryz.prog
  show Calls _ _ #[.agg #[.slice A p.arrays.length c, .slice A' 0 c']] _ _
  rw [hn1]
  clear hcall hb1 hW1 h1 h2 hf hn1 hok
  go_enter Tryz.func18, Tryz.ntmps18
  go_wp2_with fail
  go_loop [11] (fun i => i = .int .i64 0) (fun _ => 0)
  case atStart => rfl
  case round =>
    obtain rfl := hrel
    go_wp2_with fail
    rw [HC.out.2.2]
    refine HC.out.1.mono ?_
    rintro e w2 ⟨rfl, _, hk⟩
    have HK := Lib.hid (HC.out.2.1.trans (below_down (below_kp hk) HC.out.2.1.size))
    clear hk
    go_wp2_with fail
    go_ret
    exact retN rfl HK.out
theorem chk_any (p : PG) (hp : p.arrays = []) (hbody : ∀ f ∈ p.funcs, f.body = []) (hari : p.funcs = [] ∨ undB p = true ∨ dupB p = true) (va vf : Value) (w : World) (ok : Nat → Prop) (h : RepQ w ok p va vf) (hok : ∀ g, ok g → g < w.heap.size) (hs : szP p ≤ 1000000) (he : PEnv w) :
    Calls Tryz.prog 8 #[.agg #[va, vf]] w (RetN (.int .i64 (chkF p : Int)) w) := by
  have hpP := h.p
  obtain ⟨A, c, rfl, _⟩ := h.1.at
  obtain ⟨A', c', rfl, _⟩ := h.2.at
  obtain ⟨n1, hn1⟩ : ∃ n, p.arrays.length = n := ⟨_, rfl⟩
  obtain ⟨n2, hn2⟩ : ∃ n, p.funcs.length = n := ⟨_, rfl⟩
  obtain ⟨W1, hW1⟩ : ∃ W1, w.alloc (.cells #[.slice A n1 c, .slice A' n2 c'] 32) = W1 := ⟨_, rfl⟩
  have hb1 : Below w.heap.size w W1 := by rw [← hW1]; exact (Below.refl _ _).alloc (Nat.le_refl _) _
  have k1 : Blk W1 w.heap.size 32 #[.slice A n1 c, .slice A' n2 c'] := by rw [← hW1]; exact Blk.new _ _ _
  have hokW : ∀ W, Below w.heap.size w W → ∀ g, ok g → g < W.heap.size := fun W hW g hg => Nat.lt_of_lt_of_le (hok g hg) hW.size
  have hrep := fun W (hW : Below w.heap.size w W) => hpP.keep (w' := W) (fun _ h => h) (fun x hx => hW.block x (hok x hx))
  have hrepQ := fun W (hW : Below w.heap.size w W) => h.keep (w' := W) (fun _ h => h) (fun x hx => hW.block x (hok x hx))
  have c1 := fun W (hW : Below w.heap.size w W) => lim_any p _ _ W ok (hrep W hW) (hokW W hW) (by omega)
  have c2 := fun W (hW : Below w.heap.size w W) => wf_any p hbody _ _ W ok (hrep W hW) (hokW W hW) (by omega) (he.on hW)
  have c3 := fun W (hW : Below w.heap.size w W) => dup_any p hp _ _ W ok (hrepQ W hW) (hokW W hW) hs
  have c4 := fun W (hW : Below w.heap.size w W) => und_any p hp hbody _ _ W ok (hrepQ W hW) (hokW W hW) hs
  have c5 := fun (hf : p.funcs = []) W (hW : Below w.heap.size w W) => ari0_any p hf _ _ W ok (hrep W hW) (hokW W hW)
  have ha0 : p.funcs = [] → ariB p = false := fun hf => by unfold ariB; rw [hf]; rfl
  obtain ⟨q1, hq1⟩ : ∃ q, limB p = q := ⟨_, rfl⟩
  obtain ⟨q2, hq2⟩ : ∃ q, shpB p = q := ⟨_, rfl⟩
  obtain ⟨q3, hq3⟩ : ∃ q, dupB p = q := ⟨_, rfl⟩
  obtain ⟨q4, hq4⟩ : ∃ q, undB p = q := ⟨_, rfl⟩
  obtain ⟨q5, hq5⟩ : ∃ q, ariB p = q := ⟨_, rfl⟩
  have hchk : chkF p = (if q1 = true then 6 else if q2 = false then 2 else if q3 = true then 4 else if q4 = true then 3 else if q5 = true then 5 else 0) := by unfold chkF; rw [hq1, hq2, hq3, hq4, hq5]
  obtain ⟨res, hres⟩ : ∃ res : Nat, (if q1 = true then 6 else if q2 = false then 2 else if q3 = true then 4 else if q4 = true then 3 else if q5 = true then 5 else 0) = res := ⟨_, rfl⟩
  rw [hchk, hres]
  have HRES := Lib.hid hres
  rw [hn1, hn2, hq1] at c1
  rw [hn1, hn2, hq2] at c2
  rw [hn1, hn2, hq3] at c3
  rw [hn1, hn2, hq4] at c4
  rw [hn1, hn2] at c5 ⊢
  rw [hq3, hq4] at hari
  rw [hq5] at ha0
  have C1 := Lib.hid c1
  have C2 := Lib.hid c2
  have C3 := Lib.hid c3
  have C4 := Lib.hid c4
  have C5 := Lib.hid (And.intro c5 ha0)
  have HA := Lib.hid hari
  have HB := Lib.hid (And.intro hb1 (And.intro k1 hW1))
  clear c1 c2 c3 c4 c5 ha0 hari hb1 k1 hW1 hokW hrep hrepQ hpP h hn1 hn2 hq1 hq2 hq3 hq4 hq5 hchk hres hs he hok hbody hp
  go_enter Tryz.func8, Tryz.ntmps8
  go_wp2_with fail
  rw [HB.out.2.2]
  refine (C1.out W1 HB.out.1).mono ?_
  rintro e w2 ⟨rfl, hb⟩
  have k2 := (HB.out.2.1).on hb (HB.out.2.1).lt
  obtain ⟨x2, y2, _⟩ := k2.cells2
  have H2 := Lib.hid (And.intro ((HB.out.1).trans (below_down hb (HB.out.1).size)) k2)
  clear hb k2
  cases q1 with
  | true =>
    go_wp2_with fail
    go_ret
    exact retN (by rw [← HRES.out]; rfl) H2.out.1
  | false =>
    go_wp2_with fail
    refine (C2.out w2 H2.out.1).mono ?_
    rintro e w3 ⟨rfl, hb⟩
    have k3 := (H2.out.2).on hb (H2.out.2).lt
    obtain ⟨x3, y3, _⟩ := k3.cells2
    have H3 := Lib.hid (And.intro ((H2.out.1).trans (below_down hb (H2.out.1).size)) k3)
    clear hb k3 x2 y2
    cases q2 with
    | false =>
      go_wp2_with fail
      go_ret
      exact retN (by rw [← HRES.out]; rfl) H3.out.1
    | true =>
      go_wp2_with fail
      refine (C3.out w3 H3.out.1).mono ?_
      rintro e w4 ⟨rfl, hb⟩
      have k4 := (H3.out.2).on hb (H3.out.2).lt
      obtain ⟨x4, y4, _⟩ := k4.cells2
      have H4 := Lib.hid (And.intro ((H3.out.1).trans (below_down hb (H3.out.1).size)) k4)
      clear hb k4 x3 y3
      cases q3 with
      | true =>
        go_wp2_with fail
        go_ret
        exact retN (by rw [← HRES.out]; rfl) H4.out.1
      | false =>
        go_wp2_with fail
        refine (C4.out w4 H4.out.1).mono ?_
        rintro e w5 ⟨rfl, hb⟩
        have k5 := (H4.out.2).on hb (H4.out.2).lt
        obtain ⟨x5, y5, _⟩ := k5.cells2
        have H5 := Lib.hid (And.intro ((H4.out.1).trans (below_down hb (H4.out.1).size)) k5)
        clear hb k5 x4 y4
        cases q4 with
        | true =>
          go_wp2_with fail
          go_ret
          exact retN (by rw [← HRES.out]; rfl) H5.out.1
        | false =>
          have hf : p.funcs = [] := by
            rcases HA.out with h | h | h
            · exact h
            · cases h
            · cases h
          obtain rfl := C5.out.2 hf
          have CC := Lib.hid (C5.out.1 hf w5 H5.out.1)
          clear hf
          go_wp2_with fail
          refine CC.out.mono ?_
          rintro e w9 ⟨rfl, hb⟩
          have H9 := Lib.hid ((H5.out.1).trans (below_down hb (H5.out.1).size))
          clear hb x5 y5
          go_wp2_with fail
          go_ret
          exact retN (by rw [← HRES.out]; rfl) H9.out
end Go.Proofs.YtkjbjjiajopfpaaGreatDoor
