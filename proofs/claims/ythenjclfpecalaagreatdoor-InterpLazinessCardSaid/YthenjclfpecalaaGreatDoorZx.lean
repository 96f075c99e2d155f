/- InterpLaziness walked. -/
import Derived.Test.YthenjclfpecalaaGreatDoorIy
import Derived.Test.YthenjclfpecalaaGreatDoorZa
import Derived.Deep.RegionHeld3
import Derived.Deep.DeepCutAuto
namespace Go.Proofs.YthenjclfpecalaaGreatDoor
open Go.RowKit (wrap64 intOf)
open Go Go.RowKit WM LX PX CX IX

set_option maxRecDepth 100000
set_option maxHeartbeats 4000000
theorem il_sz : szP ilP ≤ 1000000 := of_decide_eq_true (by kernel_rfl)
/-- An outcome, its output left open. -/
def OcB (k c v : Int) (w : World) (e : Ending) (w' : World) : Prop := ∃ (A : Option Addr) (n cp : Nat), e = .returned (.agg #[.int .i64 k, .int .i64 c, .slice A n cp, .int .i64 v]) ∧ Below w.heap.size w w'
theorem ocB_of {k c v : Int} {o : List Int} {w : World} {e : Ending} {w' : World} (h : OcP ⟨k, c, o, v⟩ w e w') : OcB k c v w e w' := by
  obtain ⟨ov, rfl, ⟨A, cc, rfl, _⟩, hb⟩ := h
  exact ⟨_, _, _, rfl, hb⟩
theorem bal {a w : World} (h : Below a.heap.size a w) (o : Obj) : Below a.heap.size a (w.alloc o) := h.alloc h.size o
theorem bdr {a w : World} (h : Below a.heap.size a w) : Below a.heap.size a w.drew := below_drewN h 1
theorem bst {a w : World} {p : Addr} (h : Below a.heap.size a w) (hp : a.heap.size ≤ p.block) (u : Value) : Below a.heap.size a (w.setCell p u) := h.setCell hp u
/-- Two outcomes in variables. -/
def FgR (w3 : World) (kf cf vf kg cg vg : Int) (f g : Value) (wx : World) : Prop := ∃ bf bg, f = .pointer (some ⟨bf, 0, none⟩) ∧ g = .pointer (some ⟨bg, 0, none⟩) ∧ (bf < wx.heap.size ∧ bg < wx.heap.size) ∧
  (wx.cell? ⟨bf, 0, none⟩ = some (.int .i64 kf) ∧ wx.cell? ⟨bf, 1, none⟩ = some (.int .i64 cf) ∧ wx.cell? ⟨bf, 3, none⟩ = some (.int .i64 vf)) ∧
  (wx.cell? ⟨bg, 0, none⟩ = some (.int .i64 kg) ∧ wx.cell? ⟨bg, 1, none⟩ = some (.int .i64 cg) ∧ wx.cell? ⟨bg, 3, none⟩ = some (.int .i64 vg)) ∧ Below w3.heap.size w3 wx
theorem btr {a w w' : World} (h : Below a.heap.size a w) (k : Below w.heap.size w w') : Below a.heap.size a w' := h.trans (below_down k h.size)
theorem lzy_any (c x : Int) (sw : Bool) (w : World) (he : PEnv w) : Calls Tryz.prog 4 #[.int .i64 c, .int .i64 x, .bool sw] w (RetN (.bool true) w) := by
  have HP := Lib.hid (fun s hs => prs_any ilT ilP il_parse s hs w)
  have HE := Lib.hid he
  clear he
  go_enter Tryz.func4, Tryz.ntmps4
  go_wp2_with fail
  refine (HP.out _ rfl).mono ?_
  rintro e w1 ⟨A, L, c1, A', L', c2, rfl, hpg, hb1⟩
  obtain ⟨w2, hw2⟩ : ∃ w2, (w1.alloc (.cells #[.slice A L c1, .slice A' L' c2] 25)).alloc (.cells #[.int .i64 0, .int .i64 0] 28) = w2 := ⟨_, rfl⟩
  have hb2 : Below w1.heap.size w1 w2 := by rw [← hw2]; exact ((Below.refl _ _).alloc (Nat.le_refl _) _).alloc (by simp) _
  have k1 : Blk w2 w1.heap.size 25 #[.slice A L c1, .slice A' L' c2] := by rw [← hw2]; exact (Blk.new _ _ _).alloc _
  have hbw := hb1.trans (below_down hb2 hb1.size)
  have hpg2 := hpg.low hb2
  have hsz : w2.heap.size = w1.heap.size + 1 + 1 := by rw [← hw2]; simp
  obtain ⟨w3, hw3⟩ : ∃ w3, w2.alloc (.cells #[.int .i64 c, .int .i64 x] 2) = w3 := ⟨_, rfl⟩
  have hb3 : Below w2.heap.size w2 w3 := by rw [← hw3]; exact (Below.refl _ _).alloc (Nat.le_refl _) _
  have ka : Blk w3 (w1.heap.size + 1 + 1) 2 #[.int .i64 c, .int .i64 x] := by rw [← hw3, ← hsz]; exact Blk.new _ _ _
  have k3 := k1.on hb3 k1.lt
  have hpg3 := hpg2.low hb3
  have hbw3 := hbw.trans (below_down hb3 hbw.size)
  have HX := Lib.hid (And.intro hw2 (And.intro hw3 (And.intro hbw3 (And.intro hpg3 (And.intro k3 ka)))))
  obtain ⟨x0, x1, _, _⟩ := k3.cells2
  have hl1 := k3.lt
  have hl2 := ka.lt
  clear hw2 hb2 k1 hbw hpg2 hsz hw3 hb3 ka k3 hpg3 hbw3 hpg hb1
  have hru := fun (nm : List UInt8) (hnm : nm.length ≤ 1000000000) (oc : OC) (hgo : goF 30 ilP nm [c, x] 0 = some oc) (W : World) (hW : Below w3.heap.size w3 W) =>
    runc 30 (HX.out.2.2.2.1.low hW) il_sz il_chk (HE.out.on (HX.out.2.2.1.trans (below_down hW HX.out.2.2.1.size))) (fuel := 0) (by decide) nm hnm (argV_2 (c := 2) (HX.out.2.2.2.2.2.on hW HX.out.2.2.2.2.2.lt)) hgo
  have HR := Lib.hid hru
  clear hru
  go_wp2_with fail
  rw [HX.out.1, HX.out.2.1]
  have B3 : Hid (Below w3.heap.size w3 w3) := Lib.hid (Below.refl _ _)
  by_cases hc : c = 0
  · subst hc
    have hf : ∀ W, Below w3.heap.size w3 W → Calls Tryz.prog 9 #[.agg #[.slice A L c1, .slice A' L' c2], .string ⟨#[102]⟩, .slice (some ⟨w1.heap.size + 1 + 1, 0, none⟩) 2 2, .int .i64 0] W (OcB 2 1 0 W) := fun W hW => (HR.out [102] (by decide) _ (il_f0 x) W hW).mono fun _ _ => ocB_of
    have hg : ∀ W, Below w3.heap.size w3 W → Calls Tryz.prog 9 #[.agg #[.slice A L c1, .slice A' L' c2], .string ⟨#[103]⟩, .slice (some ⟨w1.heap.size + 1 + 1, 0, none⟩) 2 2, .int .i64 0] W (OcB 1 0 x W) := fun W hW => (HR.out [103] (by decide) _ (il_g0 x) W hW).mono fun _ _ => ocB_of
    have hh : ∀ W, Below w3.heap.size w3 W → Calls Tryz.prog 9 #[.agg #[.slice A L c1, .slice A' L' c2], .string ⟨#[104]⟩, .slice (some ⟨w1.heap.size + 1 + 1, 0, none⟩) 2 2, .int .i64 0] W (OcB 2 2 0 W) := fun W hW => (HR.out [104] (by decide) _ (il_h 0 x) W hW).mono fun _ _ => ocB_of
    have hk : ∀ W, Below w3.heap.size w3 W → Calls Tryz.prog 9 #[.agg #[.slice A L c1, .slice A' L' c2], .string ⟨#[107]⟩, .slice (some ⟨w1.heap.size + 1 + 1, 0, none⟩) 2 2, .int .i64 0] W (OcB 2 1 0 W) := fun W hW => (HR.out [107] (by decide) _ (il_k 0 x) W hW).mono fun _ _ => ocB_of
    have HF := Lib.hid hf
    have HG := Lib.hid hg
    have HH := Lib.hid hh
    have HK := Lib.hid hk
    clear HR hf hg hh hk
    have hn3 : ¬ w1.heap.size = w3.heap.size := by omega
    have hn3a : ¬ w1.heap.size = w3.heap.size + 1 := by omega
    have hn3b : ¬ w3.heap.size = w1.heap.size := by omega
    have hn3c : ¬ w3.heap.size + 1 = w1.heap.size := by omega
    go_cut [10, 11] (fun f g wx => FgR w3 2 1 0 1 0 x f g wx)
    case first =>
      go_region_held3 (fun w' => w'.cell? ⟨w1.heap.size, 0, none⟩ = some (.slice A L c1) ∧ w'.cell? ⟨w1.heap.size, 1, none⟩ = some (.slice A' L' c2)) (first | with_reducible exact ⟨x0, x1⟩ | with_reducible exact ⟨e40, e41⟩ | with_reducible exact ⟨e50, e51⟩ | go_keep)
        (first
          | (go_at_call 9; (with_reducible refine (HF.out _ ?_).mono ?_); (first | with_reducible exact (bdr B3.out) | with_reducible exact (bdr (bal B3.out _)) | with_reducible exact (bdr (bal (bal B3.out _) _))); rintro e w4 ⟨A4, n4, c4, rfl, hb4⟩; have H4' : Below w3.heap.size w3 w4 := (by first | with_reducible exact btr (bdr B3.out) hb4 | with_reducible exact btr (bdr (bal B3.out _)) hb4 | with_reducible exact btr (bdr (bal (bal B3.out _) _)) hb4); obtain ⟨hc4, hf4⟩ := bcell hb4; have hz4 := hb4.size; (try simp at hz4); (try have hz4b : w3.heap.size < w4.heap.size := by omega); (try have hz4c : w3.heap.size + 1 < w4.heap.size := by omega); have hl4 : w1.heap.size < w4.heap.size := Nat.lt_of_lt_of_le hl1 H4'.size; have hn4 : ¬ w1.heap.size = w4.heap.size := (by omega); have hn4a : ¬ w1.heap.size = w4.heap.size + 1 := (by omega); have hn4b : ¬ w4.heap.size = w1.heap.size := (by omega); have hn4c : ¬ w4.heap.size + 1 = w1.heap.size := (by omega); have e40 := (H4'.cell (p := ⟨w1.heap.size, 0, none⟩) hl1).trans x0; have e41 := (H4'.cell (p := ⟨w1.heap.size, 1, none⟩) hl1).trans x1; have H4 := Lib.hid H4'; clear hb4 H4')
          | (go_at_call 9; (with_reducible refine (HG.out _ ?_).mono ?_); (first | with_reducible exact H4.out | with_reducible exact (bal H4.out _) | with_reducible exact (bal (bal H4.out _) _)); rintro e w5 ⟨A5, n5, c5, rfl, hb5⟩; have H5' : Below w3.heap.size w3 w5 := (by first | with_reducible exact btr H4.out hb5 | with_reducible exact btr (bal H4.out _) hb5 | with_reducible exact btr (bal (bal H4.out _) _) hb5); obtain ⟨hc5, hf5⟩ := bcell hb5; have hz5 := hb5.size; (try simp at hz5); (try have hz5b : w4.heap.size < w5.heap.size := by omega); (try have hz5c : w4.heap.size + 1 < w5.heap.size := by omega); (try have hz5d : w3.heap.size < w5.heap.size := by omega); (try have hz5e : w3.heap.size + 1 < w5.heap.size := by omega); have hl5 : w1.heap.size < w5.heap.size := Nat.lt_of_lt_of_le hl1 H5'.size; have hn5 : ¬ w1.heap.size = w5.heap.size := (by omega); have hn5a : ¬ w1.heap.size = w5.heap.size + 1 := (by omega); have hn5b : ¬ w5.heap.size = w1.heap.size := (by omega); have hn5c : ¬ w5.heap.size + 1 = w1.heap.size := (by omega); have e50 := (H5'.cell (p := ⟨w1.heap.size, 0, none⟩) hl1).trans x0; have e51 := (H5'.cell (p := ⟨w1.heap.size, 1, none⟩) hl1).trans x1; have H5 := Lib.hid H5'; clear hb5 H5'))
      all_goals
        go_wp2_with fail
        go_meet
        case rel =>
          have h5s := H5.out.size
          have h4s := H4.out.size
          refine ⟨_, _, rfl, rfl, ⟨?_, ?_⟩, ⟨?_, ?_, ?_⟩, ⟨?_, ?_, ?_⟩, ?_⟩
          · (first | (simp; done) | (simp; omega))
          · (first | (simp; done) | (simp; omega))
          · (first | (go_simp; done) | (go_simp; exact World.cell?_setCell_same' _ _ _ (by simp [go_sem, *])))
          · (first | (go_simp; done) | (go_simp; exact World.cell?_setCell_same' _ _ _ (by simp [go_sem, *])))
          · (first | (go_simp; done) | (go_simp; exact World.cell?_setCell_same' _ _ _ (by simp [go_sem, *])))
          · (first | (go_simp; done) | (go_simp; exact World.cell?_setCell_same' _ _ _ (by simp [go_sem, *])))
          · (first | (go_simp; done) | (go_simp; exact World.cell?_setCell_same' _ _ _ (by simp [go_sem, *])))
          · (first | (go_simp; done) | (go_simp; exact World.cell?_setCell_same' _ _ _ (by simp [go_sem, *])))
          · repeat' (first | with_reducible exact H5.out | with_reducible refine bal ?_ _ | with_reducible refine bst ?_ ?_ _)
            all_goals (first | exact h5s | exact h4s | (simp; done) | (simp; omega))
    case rest =>
      obtain ⟨bf, bg, rfl, rfl, ⟨hbf, hbg⟩, ⟨f0, f1, f3⟩, ⟨g0, g1, g3⟩, hbx⟩ := hcut
      have p0 := (hbx.cell (p := ⟨w1.heap.size, 0, none⟩) hl1).trans x0
      have p1 := (hbx.cell (p := ⟨w1.heap.size, 1, none⟩) hl1).trans x1
      have HBX := Lib.hid hbx
      clear hbx hn3 hn3a hn3b hn3c x0 x1
      cases sw with
      | false =>
        go_wp2_with fail
        (with_reducible refine (HH.out _ HBX.out).mono ?_)
        rintro e w7 ⟨A7, n7, c7, rfl, hb7⟩
        have q0 := (hb7.cell (p := ⟨bf, 0, none⟩) hbf).trans f0
        have q1 := (hb7.cell (p := ⟨bf, 1, none⟩) hbf).trans f1
        have q3 := (hb7.cell (p := ⟨bf, 3, none⟩) hbf).trans f3
        have r0 := (hb7.cell (p := ⟨bg, 0, none⟩) hbg).trans g0
        have r1 := (hb7.cell (p := ⟨bg, 1, none⟩) hbg).trans g1
        have r3 := (hb7.cell (p := ⟨bg, 3, none⟩) hbg).trans g3
        have hbf7 : bf < w7.heap.size := Nat.lt_of_lt_of_le hbf hb7.size
        have hbg7 : bg < w7.heap.size := Nat.lt_of_lt_of_le hbg hb7.size
        have HZ : Hid (Below w.heap.size w w7) := Lib.hid (HX.out.2.2.1.trans (below_down (btr HBX.out hb7) HX.out.2.2.1.size))
        have HEX := Lib.hid (fun W (hW : Below w7.heap.size w7 W) => ixs_any W (HE.out.on (HZ.out.trans (below_down hW HZ.out.size))))
        clear hb7 hbf hbg f0 f1 f3 g0 g1 g3 p0 p1 HH HK HF HG
        go_wp2_with (go_at_call 11; (with_reducible refine (HEX.out _ ?_).mono ?_); (first | with_reducible exact bal (Below.refl _ _) _ | with_reducible exact bdr (bal (Below.refl _ _) _)); rintro e w8 ⟨rfl, hb8⟩; have HQ : Hid (Below w.heap.size w w8) := (by first | with_reducible exact Lib.hid (btr (HZ.out.trans (below_down (bal (Below.refl _ _) _) HZ.out.size)) hb8) | with_reducible exact Lib.hid (btr (HZ.out.trans (below_down (bdr (bal (Below.refl _ _) _)) HZ.out.size)) hb8)); clear hb8)
        go_ret
        exact retN rfl HQ.out
      | true =>
        go_wp2_with fail
        (with_reducible refine (HK.out _ HBX.out).mono ?_)
        rintro e w7 ⟨A7, n7, c7, rfl, hb7⟩
        have q0 := (hb7.cell (p := ⟨bf, 0, none⟩) hbf).trans f0
        have q1 := (hb7.cell (p := ⟨bf, 1, none⟩) hbf).trans f1
        have q3 := (hb7.cell (p := ⟨bf, 3, none⟩) hbf).trans f3
        have r0 := (hb7.cell (p := ⟨bg, 0, none⟩) hbg).trans g0
        have r1 := (hb7.cell (p := ⟨bg, 1, none⟩) hbg).trans g1
        have r3 := (hb7.cell (p := ⟨bg, 3, none⟩) hbg).trans g3
        have hbf7 : bf < w7.heap.size := Nat.lt_of_lt_of_le hbf hb7.size
        have hbg7 : bg < w7.heap.size := Nat.lt_of_lt_of_le hbg hb7.size
        have HZ : Hid (Below w.heap.size w w7) := Lib.hid (HX.out.2.2.1.trans (below_down (btr HBX.out hb7) HX.out.2.2.1.size))
        have HEX := Lib.hid (fun W (hW : Below w7.heap.size w7 W) => ixs_any W (HE.out.on (HZ.out.trans (below_down hW HZ.out.size))))
        clear hb7 hbf hbg f0 f1 f3 g0 g1 g3 p0 p1 HH HK HF HG
        go_wp2_with (go_at_call 11; (with_reducible refine (HEX.out _ ?_).mono ?_); (first | with_reducible exact bal (Below.refl _ _) _ | with_reducible exact bdr (bal (Below.refl _ _) _)); rintro e w8 ⟨rfl, hb8⟩; have HQ : Hid (Below w.heap.size w w8) := (by first | with_reducible exact Lib.hid (btr (HZ.out.trans (below_down (bal (Below.refl _ _) _) HZ.out.size)) hb8) | with_reducible exact Lib.hid (btr (HZ.out.trans (below_down (bdr (bal (Below.refl _ _) _)) HZ.out.size)) hb8)); clear hb8)
        go_ret
        exact retN rfl HQ.out
  · have hcb : (c != 0) = true := bne_iff_ne.2 hc
    have hf : ∀ W, Below w3.heap.size w3 W → Calls Tryz.prog 9 #[.agg #[.slice A L c1, .slice A' L' c2], .string ⟨#[102]⟩, .slice (some ⟨w1.heap.size + 1 + 1, 0, none⟩) 2 2, .int .i64 0] W (OcB 1 0 x W) := fun W hW => (HR.out [102] (by decide) _ (il_f1 c x hc) W hW).mono fun _ _ => ocB_of
    have hg : ∀ W, Below w3.heap.size w3 W → Calls Tryz.prog 9 #[.agg #[.slice A L c1, .slice A' L' c2], .string ⟨#[103]⟩, .slice (some ⟨w1.heap.size + 1 + 1, 0, none⟩) 2 2, .int .i64 0] W (OcB 2 2 0 W) := fun W hW => (HR.out [103] (by decide) _ (il_g1 c x hc) W hW).mono fun _ _ => ocB_of
    have hh : ∀ W, Below w3.heap.size w3 W → Calls Tryz.prog 9 #[.agg #[.slice A L c1, .slice A' L' c2], .string ⟨#[104]⟩, .slice (some ⟨w1.heap.size + 1 + 1, 0, none⟩) 2 2, .int .i64 0] W (OcB 2 2 0 W) := fun W hW => (HR.out [104] (by decide) _ (il_h c x) W hW).mono fun _ _ => ocB_of
    have hk : ∀ W, Below w3.heap.size w3 W → Calls Tryz.prog 9 #[.agg #[.slice A L c1, .slice A' L' c2], .string ⟨#[107]⟩, .slice (some ⟨w1.heap.size + 1 + 1, 0, none⟩) 2 2, .int .i64 0] W (OcB 2 1 0 W) := fun W hW => (HR.out [107] (by decide) _ (il_k c x) W hW).mono fun _ _ => ocB_of
    have HF := Lib.hid hf
    have HG := Lib.hid hg
    have HH := Lib.hid hh
    have HK := Lib.hid hk
    clear HR hf hg hh hk hc
    have hn3 : ¬ w1.heap.size = w3.heap.size := by omega
    have hn3a : ¬ w1.heap.size = w3.heap.size + 1 := by omega
    have hn3b : ¬ w3.heap.size = w1.heap.size := by omega
    have hn3c : ¬ w3.heap.size + 1 = w1.heap.size := by omega
    go_cut [10, 11] (fun f g wx => FgR w3 1 0 x 2 2 0 f g wx)
    case first =>
      go_region_held3 (fun w' => w'.cell? ⟨w1.heap.size, 0, none⟩ = some (.slice A L c1) ∧ w'.cell? ⟨w1.heap.size, 1, none⟩ = some (.slice A' L' c2)) (first | with_reducible exact ⟨x0, x1⟩ | with_reducible exact ⟨e40, e41⟩ | with_reducible exact ⟨e50, e51⟩ | go_keep)
        (first
          | (go_at_call 9; (with_reducible refine (HF.out _ ?_).mono ?_); (first | with_reducible exact (bdr B3.out) | with_reducible exact (bdr (bal B3.out _)) | with_reducible exact (bdr (bal (bal B3.out _) _))); rintro e w4 ⟨A4, n4, c4, rfl, hb4⟩; have H4' : Below w3.heap.size w3 w4 := (by first | with_reducible exact btr (bdr B3.out) hb4 | with_reducible exact btr (bdr (bal B3.out _)) hb4 | with_reducible exact btr (bdr (bal (bal B3.out _) _)) hb4); obtain ⟨hc4, hf4⟩ := bcell hb4; have hz4 := hb4.size; (try simp at hz4); (try have hz4b : w3.heap.size < w4.heap.size := by omega); (try have hz4c : w3.heap.size + 1 < w4.heap.size := by omega); have hl4 : w1.heap.size < w4.heap.size := Nat.lt_of_lt_of_le hl1 H4'.size; have hn4 : ¬ w1.heap.size = w4.heap.size := (by omega); have hn4a : ¬ w1.heap.size = w4.heap.size + 1 := (by omega); have hn4b : ¬ w4.heap.size = w1.heap.size := (by omega); have hn4c : ¬ w4.heap.size + 1 = w1.heap.size := (by omega); have e40 := (H4'.cell (p := ⟨w1.heap.size, 0, none⟩) hl1).trans x0; have e41 := (H4'.cell (p := ⟨w1.heap.size, 1, none⟩) hl1).trans x1; have H4 := Lib.hid H4'; clear hb4 H4')
          | (go_at_call 9; (with_reducible refine (HG.out _ ?_).mono ?_); (first | with_reducible exact H4.out | with_reducible exact (bal H4.out _) | with_reducible exact (bal (bal H4.out _) _)); rintro e w5 ⟨A5, n5, c5, rfl, hb5⟩; have H5' : Below w3.heap.size w3 w5 := (by first | with_reducible exact btr H4.out hb5 | with_reducible exact btr (bal H4.out _) hb5 | with_reducible exact btr (bal (bal H4.out _) _) hb5); obtain ⟨hc5, hf5⟩ := bcell hb5; have hz5 := hb5.size; (try simp at hz5); (try have hz5b : w4.heap.size < w5.heap.size := by omega); (try have hz5c : w4.heap.size + 1 < w5.heap.size := by omega); (try have hz5d : w3.heap.size < w5.heap.size := by omega); (try have hz5e : w3.heap.size + 1 < w5.heap.size := by omega); have hl5 : w1.heap.size < w5.heap.size := Nat.lt_of_lt_of_le hl1 H5'.size; have hn5 : ¬ w1.heap.size = w5.heap.size := (by omega); have hn5a : ¬ w1.heap.size = w5.heap.size + 1 := (by omega); have hn5b : ¬ w5.heap.size = w1.heap.size := (by omega); have hn5c : ¬ w5.heap.size + 1 = w1.heap.size := (by omega); have e50 := (H5'.cell (p := ⟨w1.heap.size, 0, none⟩) hl1).trans x0; have e51 := (H5'.cell (p := ⟨w1.heap.size, 1, none⟩) hl1).trans x1; have H5 := Lib.hid H5'; clear hb5 H5'))
      all_goals
        go_wp2_with fail
        go_meet
        case rel =>
          have h5s := H5.out.size
          have h4s := H4.out.size
          refine ⟨_, _, rfl, rfl, ⟨?_, ?_⟩, ⟨?_, ?_, ?_⟩, ⟨?_, ?_, ?_⟩, ?_⟩
          · (first | (simp; done) | (simp; omega))
          · (first | (simp; done) | (simp; omega))
          · (first | (go_simp; done) | (go_simp; exact World.cell?_setCell_same' _ _ _ (by simp [go_sem, *])))
          · (first | (go_simp; done) | (go_simp; exact World.cell?_setCell_same' _ _ _ (by simp [go_sem, *])))
          · (first | (go_simp; done) | (go_simp; exact World.cell?_setCell_same' _ _ _ (by simp [go_sem, *])))
          · (first | (go_simp; done) | (go_simp; exact World.cell?_setCell_same' _ _ _ (by simp [go_sem, *])))
          · (first | (go_simp; done) | (go_simp; exact World.cell?_setCell_same' _ _ _ (by simp [go_sem, *])))
          · (first | (go_simp; done) | (go_simp; exact World.cell?_setCell_same' _ _ _ (by simp [go_sem, *])))
          · repeat' (first | with_reducible exact H5.out | with_reducible refine bal ?_ _ | with_reducible refine bst ?_ ?_ _)
            all_goals (first | exact h5s | exact h4s | (simp; done) | (simp; omega))
    case rest =>
      obtain ⟨bf, bg, rfl, rfl, ⟨hbf, hbg⟩, ⟨f0, f1, f3⟩, ⟨g0, g1, g3⟩, hbx⟩ := hcut
      have p0 := (hbx.cell (p := ⟨w1.heap.size, 0, none⟩) hl1).trans x0
      have p1 := (hbx.cell (p := ⟨w1.heap.size, 1, none⟩) hl1).trans x1
      have HBX := Lib.hid hbx
      clear hbx hn3 hn3a hn3b hn3c x0 x1
      cases sw with
      | false =>
        go_wp2_with fail
        (with_reducible refine (HH.out _ HBX.out).mono ?_)
        rintro e w7 ⟨A7, n7, c7, rfl, hb7⟩
        have q0 := (hb7.cell (p := ⟨bf, 0, none⟩) hbf).trans f0
        have q1 := (hb7.cell (p := ⟨bf, 1, none⟩) hbf).trans f1
        have q3 := (hb7.cell (p := ⟨bf, 3, none⟩) hbf).trans f3
        have r0 := (hb7.cell (p := ⟨bg, 0, none⟩) hbg).trans g0
        have r1 := (hb7.cell (p := ⟨bg, 1, none⟩) hbg).trans g1
        have r3 := (hb7.cell (p := ⟨bg, 3, none⟩) hbg).trans g3
        have hbf7 : bf < w7.heap.size := Nat.lt_of_lt_of_le hbf hb7.size
        have hbg7 : bg < w7.heap.size := Nat.lt_of_lt_of_le hbg hb7.size
        have HZ : Hid (Below w.heap.size w w7) := Lib.hid (HX.out.2.2.1.trans (below_down (btr HBX.out hb7) HX.out.2.2.1.size))
        have HEX := Lib.hid (fun W (hW : Below w7.heap.size w7 W) => ixs_any W (HE.out.on (HZ.out.trans (below_down hW HZ.out.size))))
        clear hb7 hbf hbg f0 f1 f3 g0 g1 g3 p0 p1 HH HK HF HG
        go_wp2_with (go_at_call 11; (with_reducible refine (HEX.out _ ?_).mono ?_); (first | with_reducible exact bal (Below.refl _ _) _ | with_reducible exact bdr (bal (Below.refl _ _) _)); rintro e w8 ⟨rfl, hb8⟩; have HQ : Hid (Below w.heap.size w w8) := (by first | with_reducible exact Lib.hid (btr (HZ.out.trans (below_down (bal (Below.refl _ _) _) HZ.out.size)) hb8) | with_reducible exact Lib.hid (btr (HZ.out.trans (below_down (bdr (bal (Below.refl _ _) _)) HZ.out.size)) hb8)); clear hb8)
        go_ret
        exact retN rfl HQ.out
      | true =>
        go_wp2_with fail
        (with_reducible refine (HK.out _ HBX.out).mono ?_)
        rintro e w7 ⟨A7, n7, c7, rfl, hb7⟩
        have q0 := (hb7.cell (p := ⟨bf, 0, none⟩) hbf).trans f0
        have q1 := (hb7.cell (p := ⟨bf, 1, none⟩) hbf).trans f1
        have q3 := (hb7.cell (p := ⟨bf, 3, none⟩) hbf).trans f3
        have r0 := (hb7.cell (p := ⟨bg, 0, none⟩) hbg).trans g0
        have r1 := (hb7.cell (p := ⟨bg, 1, none⟩) hbg).trans g1
        have r3 := (hb7.cell (p := ⟨bg, 3, none⟩) hbg).trans g3
        have hbf7 : bf < w7.heap.size := Nat.lt_of_lt_of_le hbf hb7.size
        have hbg7 : bg < w7.heap.size := Nat.lt_of_lt_of_le hbg hb7.size
        have HZ : Hid (Below w.heap.size w w7) := Lib.hid (HX.out.2.2.1.trans (below_down (btr HBX.out hb7) HX.out.2.2.1.size))
        have HEX := Lib.hid (fun W (hW : Below w7.heap.size w7 W) => ixs_any W (HE.out.on (HZ.out.trans (below_down hW HZ.out.size))))
        clear hb7 hbf hbg f0 f1 f3 g0 g1 g3 p0 p1 HH HK HF HG
        go_wp2_with (go_at_call 11; (with_reducible refine (HEX.out _ ?_).mono ?_); (first | with_reducible exact bal (Below.refl _ _) _ | with_reducible exact bdr (bal (Below.refl _ _) _)); rintro e w8 ⟨rfl, hb8⟩; have HQ : Hid (Below w.heap.size w w8) := (by first | with_reducible exact Lib.hid (btr (HZ.out.trans (below_down (bal (Below.refl _ _) _) HZ.out.size)) hb8) | with_reducible exact Lib.hid (btr (HZ.out.trans (below_down (bdr (bal (Below.refl _ _) _)) HZ.out.size)) hb8)); clear hb8)
        go_ret
        exact retN rfl HQ.out
end Go.Proofs.YthenjclfpecalaaGreatDoor
