/- Stage 7: the walk of outline. -/
import Derived.Test.YtpgnlfdindmopaaGreatDoorRs
import Derived.Test.YtpgnlfdindmopaaGreatDoorK7
namespace Go.Proofs.YtpgnlfdindmopaaGreatDoor
open Go.RowKit (wrap64 intOf)
open Go Go.RowKit WM LX PX CX GX

set_option maxRecDepth 100000
set_option maxHeartbeats 4000000
def outG (f : GR) : FN := ⟨f.name, [], [], [], numE 0⟩
theorem own_form {w : World} {B n sz : Nat} {e : TypeId} {v : Value} {xs : List Value} (h : w.ownsRow B e sz v n xs) : ∃ A L c, v = .slice A L c := by
  rcases h.2 with ⟨rfl, _⟩ | ⟨g, cap, cur, rfl, _⟩
  · exact ⟨_, _, _, rfl⟩
  · exact ⟨_, _, _, rfl⟩
abbrev fnC (nm : List UInt8) : List Value := [.string ⟨nm.toArray⟩, .slice none 0 0, .slice none 0 0, .slice none 0 0, .int .i64 1, .int .i64 0, .string ⟨#[]⟩, .int .i64 0, .slice none 0 0]
theorem repF_out (w : World) (ok : Nat → Prop) (f : GR) : RepF w ok (outG f) (fnC f.name) :=
  ⟨none, 0, 0, none, 0, 0, none, 0, 0, 1, 0, [], 0, none, 0, 0, rfl, repL_nil _ _ _ _, repL_nil _ _ _ _, repL_nil _ _ _ _, repE_leaf w ok 1 0 [] 0 none 0⟩
theorem func_info : (Tryz.prog.info? 38).map (fun i => (i.zero, i.size, i.bytes)) = some (some (.agg #[.string ⟨#[]⟩, .slice none 0 0, .slice none 0 0, .slice none 0 0, .int .i64 0, .int .i64 0, .string ⟨#[]⟩, .int .i64 0, .slice none 0 0]), 9, 152) := by kernel_rfl
/-- What outline leaves. -/
def OlP (Aa : Option Addr) (na ca : Nat) (fs : List GR) (w : World) (e : Ending) (w' : World) : Prop :=
  ∃ Af Lf cf, e = .returned (.agg #[.slice Aa na ca, .slice Af Lf cf]) ∧ RepL RepF 9 w' (Rg w.heap.size w'.heap.size) (fs.map outG) (.slice Af Lf cf) ∧ Below w.heap.size w w'
def OlR (Aa : Option Addr) (na ca : Nat) (fs : List GR) (F : Nat) (w W1 : World) (z : Value) (wr : World) : Prop :=
  ∃ (j k : Nat) (css : List (List Value)) (Ar : Option Addr) (Lr cr : Nat), z = .int .i64 (j : Int) ∧ j + k = F ∧ css.length = j ∧ Coll RepF 9 38 (w.heap.size + 3) ((fs.take j).map outG) css (.slice Ar Lr cr) wr ∧
    Blk wr (w.heap.size + 2) 26 #[.slice Aa na ca, .slice Ar Lr cr] ∧ Below (w.heap.size + 2) W1 wr ∧ W1.heap.size ≤ wr.heap.size
theorem ol_any (na : Nat) (Aa : Option Addr) (ca : Nat) (fs : List GR) (vf : Value) (w : World) (ok : Nat → Prop) (hfs : RepL RepGr 5 w ok fs vf) (hok : ∀ g, ok g → g < w.heap.size) (hfl : fs.length ≤ 1000000) :
    Calls Tryz.prog 28 #[.agg #[.slice Aa na ca, vf]] w (OlP Aa na ca fs w) := by
  have HL := Lib.hid (And.intro hfs hok)
  obtain ⟨Af, cf, rfl, _⟩ := hfs.at
  obtain ⟨F, hF⟩ : ∃ F, fs.length = F := ⟨_, rfl⟩
  rw [hF] at hfl ⊢
  have HF := Lib.hid hF
  obtain ⟨W1, hW1⟩ : ∃ W1, ((w.alloc (.cells #[.slice Aa na ca, .slice Af F cf] 57)).alloc (.cells #[.slice none 0 0, .slice none 0 0] 26)).alloc (.cells #[.slice Aa na ca, .slice none 0 0] 26) = W1 := ⟨_, rfl⟩
  have hb1 : Below w.heap.size w W1 := by rw [← hW1]; exact (((Below.refl _ _).alloc (Nat.le_refl _) _).alloc (by simp) _).alloc (by simp; omega) _
  have kP : Blk W1 (w.heap.size + 2) 26 #[.slice Aa na ca, .slice none 0 0] := by rw [← hW1]; exact blk_at (by simp) _ _
  have kR : Blk W1 (w.heap.size + 1) 26 #[.slice none 0 0, .slice none 0 0] := by rw [← hW1]; exact (blk_at (by simp) _ _).alloc _
  have hz1 : W1.heap.size = w.heap.size + 3 := by rw [← hW1]; simp
  have HW := Lib.hid (And.intro hW1 (And.intro hb1 (And.intro kP (And.intro kR hz1))))
  obtain ⟨i0, hi, hz0, hs0, hby0⟩ := info_parts func_info
  have HI := Lib.hid (And.intro hi (And.intro hz0 (And.intro hs0 hby0)))
  clear hfs hok hF hW1 hb1 kP kR hz1 hi hz0 hs0 hby0
  go_enter Tryz.func28, Tryz.ntmps28
  go_wp2_with fail
  rw [HW.out.1]
  go_loopw [12] (fun z wr => Hid (OlR Aa na ca fs F w W1 z wr)) (fun z _ => F - (intOf z).toNat)
  case atStart => exact Lib.hid ⟨0, F, [], none, 0, 0, rfl, Nat.zero_add _, rfl, coll_nil _ _ _ _ _, HW.out.2.2.1, Below.refl _ _, Nat.le_refl _⟩
  case round =>
    obtain ⟨j, k, css, Ar, Lr, cr, rfl, hjk, hcl, hcoll, kP, hb, hsz⟩ := hrel.out
    have HC := Lib.hid (And.intro hcoll (And.intro kP (And.intro hb (And.intro hsz hcl))))
    obtain ⟨p0, p1, _, fp1⟩ := kP.cells2
    have hPl := kP.lt
    have kR := HW.out.2.2.2.1.on hb (Nat.lt_succ_self _)
    have kRl := kR.lt
    obtain ⟨r0, r1, fr0, fr1⟩ := kR.cells2
    have hbw : Below w.heap.size w wr := HW.out.2.1.trans (hb.mono (by omega))
    have HBW := Lib.hid hbw
    clear hrel hcoll kP hb kR hbw
    obtain ⟨wo, rfl⟩ : ∃ wo : World, wo = wr := ⟨_, rfl⟩
    cases k with
    | zero =>
      obtain rfl : j = F := by omega
      have hrep : RepL RepF 9 wo (Rg (w.heap.size + 3) wo.heap.size) (fs.map outG) (.slice Ar Lr cr) := by
        have := HC.out.1.out keepsF
        rwa [List.take_of_length_le (Nat.le_of_eq HF.out)] at this
      have HRE := Lib.hid hrep
      clear hrep hcl
      obtain ⟨WX, hWX⟩ : ∃ WX, (wo.setCell ⟨w.heap.size + 1, 0, none⟩ (.slice Aa na ca)).setCell ⟨w.heap.size + 1, 1, none⟩ (.slice Ar Lr cr) = WX := ⟨_, rfl⟩
      have kR2 := HW.out.2.2.2.1.on HC.out.2.2.1 (Nat.lt_succ_self _)
      have kX : Blk WX (w.heap.size + 1) 26 #[.slice Aa na ca, .slice Ar Lr cr] := by
        rw [← hWX]
        exact (kR2.set 0 _).set 1 _
      have hrx : RepL RepF 9 WX (Rg w.heap.size WX.heap.size) (fs.map outG) (.slice Ar Lr cr) := by
        rw [← hWX]
        exact HRE.out.keep keepsF (fun g hg => ⟨by have := hg.1; omega, by simpa [World.setCell] using hg.2⟩) (fun g hg => by
          have := hg.1
          exact (Below.heap_setCell _ ⟨w.heap.size + 1, 1, none⟩ _ g (by show g ≠ w.heap.size + 1; omega)).trans (Below.heap_setCell _ ⟨w.heap.size + 1, 0, none⟩ _ g (by show g ≠ w.heap.size + 1; omega)))
      have hbx : Below w.heap.size w WX := by
        rw [← hWX]
        exact (HBW.out.setCell (p := ⟨w.heap.size + 1, 0, none⟩) (Nat.le_succ _) _).setCell (p := ⟨w.heap.size + 1, 1, none⟩) (Nat.le_succ _) _
      obtain ⟨c0, c1, _, _⟩ := kX.cells2
      have HX := Lib.hid (And.intro hWX (And.intro hrx hbx))
      have hXl := kX.lt
      clear hWX kR2 kX hrx hbx
      go_wp2_with fail
      rw [HX.out.1]
      exact bodyPost_ret (v := .agg #[.slice Aa na ca, .slice Ar Lr cr]) (by simp [results, Tryz.results28, go_sem, c0, c1]) rfl ⟨Ar, Lr, cr, rfl, HX.out.2.1, HX.out.2.2⟩
    | succ k =>
      have e1 : (j : Int) < (F : Int) := by omega
      obtain ⟨hfs, hok⟩ := HL.out
      obtain ⟨f, hfx⟩ : ∃ f, fs[j]? = some f := ⟨_, List.getElem?_eq_getElem (by rw [HF.out]; omega)⟩
      obtain ⟨gf, cf', vn, hvf, hgf, z0, z1, z2, z3, z4, hvn⟩ := gr_at hfs hfx
      obtain ⟨An, cn, rfl, _⟩ := hvn.at
      injection hvf with e8 _ e9
      subst e8 e9
      have hgw := hok gf hgf
      have z0 := (HBW.out.cell (p := ⟨gf, j * 5, none⟩) hgw).trans z0
      have z1 := (HBW.out.cell (p := ⟨gf, j * 5 + 1, none⟩) hgw).trans z1
      have z2 := (HBW.out.cell (p := ⟨gf, j * 5 + 2, none⟩) hgw).trans z2
      have z3 := (HBW.out.cell (p := ⟨gf, j * 5 + 3, none⟩) hgw).trans z3
      have z4 := (HBW.out.cell (p := ⟨gf, j * 5 + 4, none⟩) hgw).trans z4
      have hgr : gf < wo.heap.size := Nat.lt_of_lt_of_le hgw HBW.out.size
      obtain ⟨fnm, hfnm⟩ : ∃ x, f.name = x := ⟨_, rfl⟩
      rw [hfnm] at z0
      obtain ⟨fl, hfl2⟩ : ∃ x, f.nodes.length = x := ⟨_, rfl⟩
      rw [hfl2] at z2
      generalize f.params = fpa at z1
      generalize f.value = fva at z3
      generalize f.state = fst at z4
      have hown := HC.out.1.own
      have hcs : css.length ≤ 1000000 := by omega
      have hBo : w.heap.size + 3 ≤ wo.heap.size := by rw [← HW.out.2.2.2.2]; exact hsz
      have HX := Lib.hid (And.intro hfx hfnm)
      obtain ⟨hi, hz0, hs0, hby0⟩ := HI.out
      have hP2 : w.heap.size + 1 + 1 < wo.heap.size := hPl
      have p1' : wo.cell? ⟨w.heap.size + 1 + 1, 1, none⟩ = some (.slice Ar Lr cr) := p1
      clear hfs hok hfx hvn hfnm hfl2 r0 r1 fr0 fr1 hcl
      go_wp2_with (at_builtin; refine wpList_append_own_at _ rfl (.tmp 17) (.tmp 22) 24 rfl (w.heap.size + 3) 38 i0 _ 9 152 Tryz.underlying24 hi hz0 hs0 hby0 rfl (by decide) _ _ _ rfl ((hown.alloc _).alloc _) ⟨wo.heap.size + 1, 0, none⟩ 1 1 (fnC fnm) rfl rfl (World.news_of_block (blk_at (by simp) _ _)) (by simp [Value.oneCell']) (by unfold maxLen; omega) (by omega) (by simp; omega) ?_; intro v2 w4 hown2 hgr2 _ hob; obtain ⟨A2, L2, c2, rfl⟩ := own_form hown2; have kP4 := Blk.grown ((HC.out.2.1.alloc _).alloc _) hgr2 (own_ne hown (Or.inl (Nat.lt_succ_self _))); have hP4l : w.heap.size + 1 + 1 < w4.heap.size := kP4.lt; have q1 : w4.cell? ⟨w.heap.size + 1 + 1, 1, none⟩ = some (.slice Ar Lr cr) := kP4.cells2.2.1; have fq1 : w4.frozen? ⟨w.heap.size + 1 + 1, 1, none⟩ = false := kP4.cells2.2.2.2)
      refine ⟨Lib.hid ?_, by simp only [intOf]; omega⟩
      have hrow : ∀ g, (Value.slice Ar Lr cr).ownBlock = some g → w.heap.size + 3 ≤ g := fun g hg => (HC.out.1.own.lt g hg).1
      have hcl2 := HC.out.1.kept_low ((Below.refl wo.heap.size wo).alloc (Nat.le_refl _) (.cells #[.string ⟨fnm.toArray⟩, .int .i64 fpa, .slice An fl cn, .int .i64 fva, .int .i64 fst] 52)) keepsF
      have hrf := repF_out (wo.alloc (.cells #[.string ⟨fnm.toArray⟩, .int .i64 fpa, .slice An fl cn, .int .i64 fva, .int .i64 fst] 52)) (Rg wo.heap.size (wo.heap.size + 1)) f
      rw [HX.out.2] at hrf
      have hc4 := hcl2.snoc (Rep := RepF) (x := outG f) (cs := fnC fnm) keepsF (lo := wo.heap.size) (by rw [World.size_alloc]; exact hrf) hBo HC.out.1.blk rfl hown2 hgr2 hob
      have hgs : w4.grownBy (w4.setCell ⟨w.heap.size + 1 + 1, 1, none⟩ (.slice A2 L2 c2)) (some (w.heap.size + 2)) := ⟨rfl, rfl, rfl, by simp [World.setCell], fun i _ hne => Below.heap_setCell _ _ _ i (fun e => hne (by rw [e]))⟩
      have hc5 := hc4.grown keepsF hgs (Nat.lt_succ_self _)
      have hb4 : Below (w.heap.size + 2) W1 w4 := below_grow ((HC.out.2.2.1.alloc (by omega) _).alloc (by simp; omega) _) hgr2 (fun g hg => by have := hrow g hg; omega) (by simp; omega)
      refine ⟨j + 1, k, css ++ [fnC fnm], A2, L2, c2, by go_num, by omega, by rw [List.length_append, HC.out.2.2.2.2]; rfl, ?_, kP4.set 1 _, hb4.setCell (p := ⟨w.heap.size + 1 + 1, 1, none⟩) (Nat.le_refl _) _, by rw [HW.out.2.2.2.2] at hsz ⊢; simp [World.setCell]; omega⟩
      rw [take_next HX.out.1, List.map_append]
      exact hc5
end Go.Proofs.YtpgnlfdindmopaaGreatDoor
