/- Stage 4: the walks of node, expression and expressionField. -/
import Derived.Test.YtkjbjjiajopfpaaGreatDoorCj
namespace Go.Proofs.YtkjbjjiajopfpaaGreatDoor
open Go.RowKit (wrap64 intOf)
open Go Go.RowKit WM LX PX CX

set_option maxRecDepth 100000
set_option maxHeartbeats 4000000
theorem node_any (b B : Nat) (hbB : b ≤ B) (w0 : World) (ok : Nat → Prop) (e : PE) (hs : szE e ≤ 1000000000) : Tst Tryz.prog RepE ok (ShI b B w0) (some B) 90 #[.agg #[.map (some B)]] #[] nodeB (fun _ => 0) e := by
  intro cs w c hc hw hr
  rw [app_r]
  cases e with
  | mk kd n nm op kids =>
    obtain ⟨A, cp, rfl, _⟩ := exp_of hr
    have hI := inv_sh b B w0 hbB (fun _ => False) (fun _ h => h.elim)
    rw [szE_eq] at hs
    have hfew := sumL_len szE kids
    have hc' : c + (1 + 0) ≤ 1000000000000 := hc
    obtain ⟨len, hlen⟩ : ∃ len, kids.length = len := ⟨_, rfl⟩
    obtain ⟨W1, hW1⟩ : ∃ W1, (w.alloc (.cells #[.map (some B)] 71)).alloc (.cells #[.int .i64 kd, .int .i64 n, .string ⟨nm.toArray⟩, .int .i64 op, .slice A len cp] 24) = W1 := ⟨_, rfl⟩
    have hb1 : Below w.heap.size w W1 := by rw [← hW1]; exact ((Below.refl _ _).alloc (Nat.le_refl _) _).alloc (by simp) _
    have k1 : Blk W1 w.heap.size 71 #[.map (some B)] := by rw [← hW1]; exact (Blk.new _ _ _).alloc _
    have k2 : Blk W1 (w.heap.size + 1) 24 #[.int .i64 kd, .int .i64 n, .string ⟨nm.toArray⟩, .int .i64 op, .slice A len cp] := by rw [← hW1]; exact blk_at (by simp) _ _
    have hfe := fe_any kd n nm op A len cp W1
    have hBw : B < w.heap.size := hw.1.lt
    have hnode : nodeB (.mk kd n nm op kids) = (match exU kd op with | none => false | some u => (u.1 || decide (n = 0)) && (nmFB nm u.2.1 && (opFB op u.2.2.1 && decide ((len : Int) = u.2.2.2)))) := by rw [← hlen]; rfl
    have HN := Lib.hid (fun w c h => (hI.mono c (c + (1 + 0)) w h (Nat.le_add_right _ _)))
    have HB := Lib.hid (And.intro hb1 (And.intro hW1 (And.intro k1 k2)))
    have HF := Lib.hid hfe
    have h1 := hI.easy c w W1 hw hb1
    have HI := Lib.hid hI
    have H1 := Lib.hid h1
    have m1 : len ≤ 1000000000 := by omega
    have m2 : nm.length ≤ 1000000000 := by omega
    rw [hlen, hnode]
    clear hnode hlen hfew hs hr hb1 hW1 k1 k2 hfe hw h1 hI hc
    cases hu : exU kd op with
    | none =>
      rw [hu] at HF
      clear hu
      go_enter Tryz.func90, Tryz.ntmps90
      go_wp2_with fail
      rw [HB.out.2.1]
      refine HF.out.mono ?_
      rintro e w2 ⟨rfl, hb2⟩
      unfold exUV
      dsimp only
      have HB2 := Lib.hid hb2
      clear hb2
      go_wp2_with fail
      go_ret
      exact retK rfl (HN.out _ _ (HI.out.easy _ _ _ (HI.out.easy _ _ _ H1.out HB2.out) ((Below.refl _ _).alloc (Nat.le_refl _) _))) (kp_to (kp_below HB.out.1 _) (kp_to (kp_below HB2.out _) (kp_below ((Below.refl _ _).alloc (Nat.le_refl _) _) _)))
    | some u =>
      obtain ⟨u1, u2, u3, u4⟩ := u
      rw [hu] at HF
      clear hu
      dsimp only
      obtain ⟨tot, htot⟩ : ∃ tot, ((u1 || decide (n = 0)) && (nmFB nm u2 && (opFB op u3 && decide ((len : Int) = u4)))) = tot := ⟨_, rfl⟩
      rw [htot]
      have HT := Lib.hid htot
      clear htot
      go_enter Tryz.func90, Tryz.ntmps90
      go_wp2_with fail
      rw [HB.out.2.1]
      refine HF.out.mono ?_
      rintro e w2 ⟨rfl, hb2⟩
      unfold exUV
      dsimp only
      obtain ⟨W3, hW3⟩ : ∃ W3, w2.alloc (.cells #[.bool u1, .bool u2, .bool u3, .int .i64 u4] 128) = W3 := ⟨_, rfl⟩
      have hb3 : Below w2.heap.size w2 W3 := by rw [← hW3]; exact (Below.refl _ _).alloc (Nat.le_refl _) _
      have j1 := HB.out.2.2.1.on hb2 HB.out.2.2.1.lt
      have j2 := HB.out.2.2.2.on hb2 HB.out.2.2.2.lt
      have k3 : Blk W3 w2.heap.size 128 #[.bool u1, .bool u2, .bool u3, .int .i64 u4] := by rw [← hW3]; exact Blk.new _ _ _
      have l1 := j1.lt
      have l2 := j2.lt
      have x0 : w2.cell? ⟨w.heap.size, 0, none⟩ = some (.map (some B)) := j1.cell 0
      obtain ⟨_, y1, y2, y3, y4, _⟩ := j2.cells5
      have h3 := HI.out.easy _ _ _ (HI.out.easy _ _ _ H1.out hb2) hb3
      have hk3 : Kp (some B) w W3 := kp_to (kp_below HB.out.1 _) (kp_to (kp_below hb2 _) (kp_below hb3 _))
      have H3 := Lib.hid (And.intro h3 (And.intro hk3 (And.intro hW3 (And.intro (j1.on hb3 l1) (And.intro (j2.on hb3 l2) k3)))))
      clear hb2 hb3 j1 j2 k3 h3 hk3 hW3
      by_cases hg : (u1 || decide (n = 0)) = false
      · obtain ⟨rfl, hn0⟩ := Bool.or_eq_false_iff.1 hg
        have hn1 := neI (of_decide_eq_false hn0)
        have HG := Lib.hid hg
        clear hg hn0
        go_wp2_with fail
        go_ret
        rw [H3.out.2.2.1]
        exact retK (by rw [← HT.out, HG.out]; rfl) (HN.out _ _ H3.out.1) H3.out.2.1
      · have hg : (u1 || decide (n = 0)) = true := by
          cases hx : (u1 || decide (n = 0))
          · exact absurd hx hg
          · rfl
        have hnf := nf_any b B hbB w0 nm m2 u2 c (by omega) W3 H3.out.1
        have HNF := Lib.hid hnf
        have HG := Lib.hid hg
        have hn : u1 = true ∨ (u1 = false ∧ n = 0) := by
          cases u1
          · exact Or.inr ⟨rfl, of_decide_eq_true (by rw [Bool.false_or] at hg; exact hg)⟩
          · exact Or.inl rfl
        clear hnf hg
        obtain ⟨q, hq⟩ : ∃ q, nmFB nm u2 = q := ⟨_, rfl⟩
        rw [hq] at HNF
        have HQ := Lib.hid hq
        clear hq
        have hof := fun W => of_any op u3 W
        obtain ⟨o, ho⟩ : ∃ o, opFB op u3 = o := ⟨_, rfl⟩
        rw [ho] at hof
        have HOF := Lib.hid hof
        have HO := Lib.hid ho
        clear hof ho
        rcases hn with rfl | ⟨rfl, rfl⟩
        all_goals
          go_wp2_with fail
          rw [H3.out.2.2.1]
          refine HNF.out.mono ?_
          rintro e w4 ⟨rfl, hi, hk⟩
          have j2 := H3.out.2.2.2.2.1.kp hk (fun y hy => by injection hy with hy; omega)
          have j3 := H3.out.2.2.2.2.2.kp hk (fun y hy => by injection hy with hy; omega)
          have z3 : w4.cell? ⟨w.heap.size + 1, 3, none⟩ = some (.int .i64 op) := j2.cell 3
          have z2 : w4.cell? ⟨w2.heap.size, 2, none⟩ = some (.bool u3) := j3.cell 2
          have H4 := Lib.hid (And.intro hi (And.intro (kp_to H3.out.2.1 hk) (And.intro j2 j3)))
          clear hi hk j2 j3 x0 y1 y2 y3 y4
          cases q with
          | false =>
            go_wp2_with fail
            go_ret
            exact retK (by rw [← HT.out, HG.out, HQ.out]; rfl) H4.out.1 H4.out.2.1
          | true =>
            go_wp2_with fail
            refine (HOF.out w4).mono ?_
            rintro e w5 ⟨rfl, hb5⟩
            have z4 : w5.cell? ⟨w.heap.size + 1, 4, none⟩ = some (.slice A len cp) := (H4.out.2.2.1.on hb5 H4.out.2.2.1.lt).cell 4
            have z5 : w5.cell? ⟨w2.heap.size, 3, none⟩ = some (.int .i64 u4) := (H4.out.2.2.2.on hb5 H4.out.2.2.2.lt).cell 3
            have H5 := Lib.hid (And.intro (HI.out.easy _ _ _ H4.out.1 hb5) (kp_to H4.out.2.1 (kp_below hb5 _)))
            clear hb5 z3 z2
            cases o with
            | false =>
              go_wp2_with fail
              go_ret
              exact retK (by rw [← HT.out, HG.out, HQ.out, HO.out]; rfl) H5.out.1 H5.out.2
            | true =>
              go_wp2_with fail
              go_ret
              exact retK (by rw [← HT.out, HG.out, HQ.out, HO.out, Bool.true_and, Bool.true_and, Bool.true_and]; exact congrArg Value.bool (beqI _ _)) H5.out.1 H5.out.2
theorem sumL_szN (e : PE) : 1 ≤ szE e := by cases e; rw [szE_eq]; omega
theorem expr_any (b B : Nat) (hbB : b ≤ B) (w0 : World) (ok : Nat → Prop) (hok : ∀ x, ok x → x < w0.heap.size ∧ x ≠ B) (e : PE) (hs : szE e ≤ 1000000000) (cs : List Value) (w : World) (c : Nat) (hc : c + 2 * szE e ≤ 1000000000000) (hw : ShI b B w0 c w) (hr : RepE w ok e cs) :
    Calls Tryz.prog 68 #[.agg #[.map (some B)], .agg cs.toArray] w (RetK (.bool (allE nodeB e)) (some B) w (ShI b B w0 (c + 2 * szE e))) := by
  have hI := inv_sh b B w0 hbB ok hok
  obtain ⟨W1, hW1⟩ : ∃ W1, (w.alloc (.cells #[.map (some B)] 71)).alloc (.cells cs.toArray 24) = W1 := ⟨_, rfl⟩
  have hb1 : Below w.heap.size w W1 := by rw [← hW1]; exact ((Below.refl _ _).alloc (Nat.le_refl _) _).alloc (by simp) _
  have h1 := hI.easy c w W1 hw hb1
  have hcall := evN_any (some B) 90 #[.agg #[.map (some B)]] #[] (enters_of Tryz.func90 (by kernel_rfl) rfl) (ShI b B w0) ok w0 hI nodeB (fun x hx => node_any b B hbB w0 ok x hx) 1000000000 (Nat.le_refl _) e cs W1 c hs hc h1 (hr.keep (fun _ h => h) (fun x hx => hb1.block x (hI.ok c w hw x hx).1))
  obtain ⟨h5, _⟩ := onesE _ _ _ _ hr
  have HS : Hid ((Tryz.prog.info? 24).map (·.size) = some cs.toArray.size) := by
    have : cs.toArray.size = 5 := by simpa using h5
    rw [this]; exact sizeE
  have HK2 : Hid (Blk ((w.alloc (.cells #[.map (some B)] 71)).alloc (.cells cs.toArray 24)) (w.heap.size + 1) 24 cs.toArray) := blk_at (by simp) _ _
  have HC := Lib.hid (And.intro hcall (And.intro hb1 hW1))
  clear hcall h1 hr h5 hW1 hb1 hw hI hs hc hok
  go_enter Tryz.func68, Tryz.ntmps68
  go_wp2_with (refine wpList_load_row rfl 24 _ rfl (w.heap.size + 1) rfl 24 cs.toArray (0, 0) _ HK2.out Tryz.underlying24 rfl HS.out ?_)
  rw [HC.out.2.2]
  refine HC.out.1.mono ?_
  rintro e w2 ⟨rfl, hi, hk⟩
  have HK := Lib.hid (And.intro hi hk)
  clear hi hk
  go_wp2_with fail
  go_ret
  exact retK rfl HK.out.1 (kp_to (kp_below HC.out.2.1 _) HK.out.2)
end Go.Proofs.YtkjbjjiajopfpaaGreatDoor
