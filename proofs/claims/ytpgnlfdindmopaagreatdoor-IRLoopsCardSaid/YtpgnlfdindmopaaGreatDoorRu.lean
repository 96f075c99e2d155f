/- Stage 7: the walk of Valid. -/
import Derived.Test.YtpgnlfdindmopaaGreatDoorRt
namespace Go.Proofs.YtpgnlfdindmopaaGreatDoor
open Go.RowKit (wrap64 intOf)
open Go Go.RowKit WM LX PX CX GX

set_option maxRecDepth 100000
set_option maxHeartbeats 4000000
def vaG (na : Nat) (fs : List GR) (idn : GR → Bool) (f : GR) : Bool := vgB na fs f.params f.nodes f.value f.state (idn f)
/-- What Valid answers. -/
def vaB (ars : List (List UInt8 × Int)) (fs : List GR) (idn : GR → Bool) : Bool :=
  if 8 < fs.length then false else if chkF ⟨ars, fs.map outG⟩ = 0 then fs.all (vaG ars.length fs idn) else false
def VaR (na : Nat) (fs : List GR) (idn : GR → Bool) (F : Nat) (w : World) (z : Value) (wr : World) : Prop :=
  ∃ j k : Nat, z = .int .i64 (j : Int) ∧ j + k = F ∧ (∀ (q : Nat) (f : GR), q < j → fs[q]? = some f → vaG na fs idn f = true) ∧ Below w.heap.size w wr
theorem va_any (ars : List (List UInt8 × Int)) (fs : List GR) (va vf : Value) (w : World) (ok : Nat → Prop) (ha : RepL RepA 2 w ok ars va) (hf : RepL RepGr 5 w ok fs vf) (hok : ∀ g, ok g → g < w.heap.size) (hs : szP ⟨ars, fs.map outG⟩ ≤ 1000000) (hfit : ∀ f ∈ fs, Fits f.nodes) (he : PEnv w)
    (idn : GR → Bool) (hid : ∀ f ∈ fs, ∀ (v : Value) (W : World) (ok' : Nat → Prop), RepL RepD 3 W ok' f.nodes v → (∀ g, ok' g → g < W.heap.size) → Calls Tryz.prog 54 #[v] W (RetN (.bool (idn f)) W)) :
    Calls Tryz.prog 12 #[.agg #[va, vf]] w (RetN (.bool (vaB ars fs idn)) w) := by
  have hka := fun W (hW : Below w.heap.size w W) => ha.keep (w' := W) (ok' := ok) keepsA (fun _ h => h) (fun g hg => hW.block g (hok g hg))
  have hkf := fun W (hW : Below w.heap.size w W) => hf.keep (w' := W) (ok' := ok) keepsGr (fun _ h => h) (fun g hg => hW.block g (hok g hg))
  have hko := fun W (hW : Below w.heap.size w W) g (hg : ok g) => Nat.lt_of_lt_of_le (hok g hg) hW.size
  obtain ⟨Aa, ca, rfl, _⟩ := ha.at
  obtain ⟨Af, cf, rfl, _⟩ := hf.at
  obtain ⟨B, hB⟩ : ∃ B, vaB ars fs idn = B := ⟨_, rfl⟩
  rw [hB]
  obtain ⟨na, hna⟩ : ∃ n, ars.length = n := ⟨_, rfl⟩
  obtain ⟨F, hF⟩ : ∃ n, fs.length = n := ⟨_, rfl⟩
  obtain ⟨r, hr⟩ : ∃ r, chkF ⟨ars, fs.map outG⟩ = r := ⟨_, rfl⟩
  have hBB : B = if 8 < F then false else if r = 0 then fs.all (vaG na fs idn) else false := by rw [← hB, ← hna, ← hF, ← hr]; rfl
  have hck := fun (W : World) (hW : Below w.heap.size w W) (v : Value) (h : RepL RepF 9 W (fun g => g < W.heap.size) (fs.map outG) v) => chk2_any ⟨ars, fs.map outG⟩ (.slice Aa ars.length ca) v W (fun g => g < W.heap.size) (repQ_of ((hka W hW).keep keepsA (fun g hg => hko W hW g hg) (fun _ _ => rfl)) h) (fun _ h => h) hs (he.on hW)
  rw [hna, hF]
  rw [hna] at hka hck
  rw [hF] at hkf
  rw [hr] at hck
  obtain ⟨W1, hW1⟩ : ∃ W1, w.alloc (.cells #[.slice Aa na ca, .slice Af F cf] 57) = W1 := ⟨_, rfl⟩
  have hb1 : Below w.heap.size w W1 := by rw [← hW1]; exact (Below.refl _ _).alloc (Nat.le_refl _) _
  have kU : Blk W1 w.heap.size 57 #[.slice Aa na ca, .slice Af F cf] := by rw [← hW1]; exact Blk.new _ _ _
  have hz1 : W1.heap.size = w.heap.size + 1 := by rw [← hW1]; simp
  have HW := Lib.hid (And.intro hW1 (And.intro hb1 (And.intro kU hz1)))
  have HC := Lib.hid (And.intro hck (And.intro hka (And.intro hkf (And.intro hko (And.intro hid hfit)))))
  have HN := Lib.hid (And.intro hF (And.intro hna hBB))
  obtain ⟨u0, u1, _, _⟩ := kU.cells2
  have hUl := kU.lt
  clear ha hf hok hs hfit he hid hka hkf hko hck hB hna hF hr hBB hW1 hb1 kU hz1
  by_cases h8 : 8 < F
  · have hb : B = false := by rw [HN.out.2.2, if_pos h8]
    have e8 : (8 : Int) < (F : Int) := by omega
    have HBF := Lib.hid hb
    clear hb
    go_enter Tryz.func12, Tryz.ntmps12
    go_wp2_with fail
    go_ret
    exact retN (congrArg Value.bool HBF.out.symm) ((Below.refl _ _).alloc (Nat.le_refl _) _)
  have e8 : (F : Int) ≤ 8 := by omega
  go_enter Tryz.func12, Tryz.ntmps12
  go_wp2_with fail
  rw [HW.out.1]
  (with_reducible refine (ol_any na Aa ca fs (.slice Af F cf) W1 ok (HC.out.2.2.1 _ HW.out.2.1) (HC.out.2.2.2.1 _ HW.out.2.1) (by rw [HN.out.1]; omega)).mono ?_)
  rintro e w2 ⟨Ax, Lx, cx, rfl, hrx, hb2⟩
  have HB2 := Lib.hid (And.intro (HW.out.2.1.trans (below_down hb2 HW.out.2.1.size)) (And.intro hb2 hrx))
  clear hrx hb2
  obtain ⟨v0, v1, _, _⟩ := (HW.out.2.2.1.on HB2.out.2.1 HW.out.2.2.1.lt).cells2
  have hU2 := (HW.out.2.2.1.on HB2.out.2.1 HW.out.2.2.1.lt).lt
  by_cases hr0 : r = 0
  · subst hr0
    have hne : (((0 : Nat) : Int) != 0) = false := rfl
    have hall : B = fs.all (vaG na fs idn) := by rw [HN.out.2.2, if_neg h8, if_pos rfl]
    have HAL := Lib.hid hall
    clear hall u0 u1 hUl
    go_wp2_with fail
    (with_reducible refine (HC.out.1 _ HB2.out.1 _ (HB2.out.2.2.keep keepsF (fun g hg => hg.2) (fun _ _ => rfl))).mono ?_)
    rintro e w3 ⟨rfl, hb3⟩
    have HB3 := Lib.hid (HB2.out.2.1.trans (below_down hb3 HB2.out.2.1.size))
    clear hb3 v0 v1 hU2
    obtain ⟨t0, t1, _, _⟩ := (HW.out.2.2.1.on HB3.out HW.out.2.2.1.lt).cells2
    have hU3 := (HW.out.2.2.1.on HB3.out HW.out.2.2.1.lt).lt
    go_wp2_with fail
    go_loopw [18] (fun z wr => Hid (VaR na fs idn F W1 z wr)) (fun z _ => F - (intOf z).toNat)
    case atStart => exact Lib.hid ⟨0, F, rfl, Nat.zero_add _, fun q f h => absurd h (Nat.not_lt_zero _), HB3.out⟩
    case round =>
      obtain ⟨j, k, rfl, hjk, hq, hb⟩ := hrel.out
      have HR := Lib.hid (And.intro hq hb)
      have HBW := Lib.hid (HW.out.2.1.trans (below_down hb HW.out.2.1.size))
      clear t0 t1 hU3
      obtain ⟨y0, y1, _, _⟩ := (HW.out.2.2.1.on hb HW.out.2.2.1.lt).cells2
      have hUr := (HW.out.2.2.1.on hb HW.out.2.2.1.lt).lt
      clear hrel hq hb
      obtain ⟨wo, rfl⟩ : ∃ wo : World, wo = wr := ⟨_, rfl⟩
      cases k with
      | zero =>
        obtain rfl : j = F := by omega
        have hb : true = B := by
          rw [HAL.out, eq_comm, List.all_eq_true]
          intro f hf
          obtain ⟨q, hq⟩ := List.getElem?_of_mem hf
          have hlt := (List.getElem?_eq_some_iff.1 hq).1
          exact HR.out.1 q f (by rw [← HN.out.1]; exact hlt) hq
        have HBF := Lib.hid hb
        clear hb
        go_wp2_with fail
        go_ret
        exact retN (congrArg Value.bool HBF.out) HBW.out
      | succ k =>
        have e1 : (j : Int) < (F : Int) := by omega
        obtain ⟨f, hfx⟩ : ∃ f, fs[j]? = some f := ⟨_, List.getElem?_eq_getElem (by rw [HN.out.1]; omega)⟩
        obtain ⟨gf, cf', vn, hvf, hgf, z0, z1, z2, z3, z4, hvn⟩ := gr_at (HC.out.2.2.1 _ HBW.out) hfx
        obtain ⟨An, cn, rfl, _⟩ := hvn.at
        injection hvf with e5 e6 e7
        clear e6
        subst e5 e7
        have hgr := HC.out.2.2.2.1 _ HBW.out gf hgf
        have hfm := List.mem_of_getElem? hfx
        have hcall := fun (W : World) (hW : Below w.heap.size w W) (hV : RepL RepD 3 W ok f.nodes (.slice An f.nodes.length cn)) => vg_any na Aa ca fs (.slice (some ⟨gf, 0, none⟩) F cf) ⟨f.name.toArray⟩ f.params f.value f.state f.nodes _ W ok hV (HC.out.2.2.1 _ hW) (HC.out.2.2.2.1 _ hW) (HC.out.2.2.2.2.2 f hfm) (idn f)
          (fun W' hW' => HC.out.2.2.2.2.1 f hfm _ W' ok (hV.keep keepsD (fun _ h => h) (fun g hg => hW'.block g (HC.out.2.2.2.1 _ hW g hg))) (fun g hg => Nat.lt_of_lt_of_le (HC.out.2.2.2.1 _ hW g hg) hW'.size))
        obtain ⟨b, hbq⟩ : ∃ b, vaG na fs idn f = b := ⟨_, rfl⟩
        have hbq2 := hbq
        unfold vaG at hbq2
        rw [hbq2] at hcall
        obtain ⟨wc, hwc⟩ : ∃ wc, wo.alloc (.cells #[.string ⟨f.name.toArray⟩, .int .i64 f.params, .slice An f.nodes.length cn, .int .i64 f.value, .int .i64 f.state] 52) = wc := ⟨_, rfl⟩
        have hbc : Below wo.heap.size wo wc := by rw [← hwc]; exact (Below.refl _ _).alloc (Nat.le_refl _) _
        have hbwc := HBW.out.trans (below_down hbc HBW.out.size)
        have hcl := hcall wc hbwc (hvn.keep keepsD (fun _ h => h) (fun g hg => hbc.block g (HC.out.2.2.2.1 _ HBW.out g hg)))
        have HCL := Lib.hid hcl
        have HX := Lib.hid (And.intro hfx (And.intro hbq (And.intro hfm (And.intro hbc hwc))))
        generalize f.name = fnm at *
        generalize f.params = fpa at *
        generalize f.value = fva at *
        generalize f.state = fst at *
        generalize f.nodes.length = fl at *
        clear hcall hcl hbq hbq2 hfx hfm hvn hbc hbwc hwc
        go_wp2_with fail
        rw [HX.out.2.2.2.2]
        (with_reducible refine HCL.out.mono ?_)
        rintro e w4 ⟨rfl, hb4⟩
        have HB4 := Lib.hid (HX.out.2.2.2.1.trans (below_down hb4 HX.out.2.2.2.1.size))
        clear hb4
        cases b with
        | false =>
          have hb : B = false := by
            rw [HAL.out, List.all_eq_false]
            exact ⟨f, HX.out.2.2.1, by rw [HX.out.2.1]; decide⟩
          have HBF := Lib.hid hb
          clear hb
          go_wp2_with fail
          go_ret
          exact retN (congrArg Value.bool HBF.out.symm) (HBW.out.trans (below_down HB4.out HBW.out.size))
        | true =>
          go_wp2_with fail
          refine ⟨Lib.hid ⟨j + 1, k, by go_num, by omega, fun q g hq hg => ?_, HR.out.2.trans (below_down HB4.out HR.out.2.size)⟩, by simp only [intOf]; omega⟩
          rcases Nat.lt_succ_iff_lt_or_eq.1 hq with h | h
          · exact HR.out.1 q g h hg
          · subst h
            rw [HX.out.1] at hg
            injection hg with hg
            rw [← hg]
            exact HX.out.2.1
  · have hb : B = false := by rw [HN.out.2.2, if_neg h8, if_neg hr0]
    have hne : ((r : Int) != 0) = true := by rw [bne_iff_ne]; omega
    have HBF := Lib.hid hb
    clear hb u0 u1 hUl
    go_wp2_with fail
    (with_reducible refine (HC.out.1 _ HB2.out.1 _ (HB2.out.2.2.keep keepsF (fun g hg => hg.2) (fun _ _ => rfl))).mono ?_)
    rintro e w3 ⟨rfl, hb3⟩
    have HB3 := Lib.hid (HB2.out.1.trans (below_down hb3 HB2.out.1.size))
    clear hb3
    go_wp2_with fail
    go_ret
    exact retN (congrArg Value.bool HBF.out.symm) HB3.out
end Go.Proofs.YtpgnlfdindmopaaGreatDoor
