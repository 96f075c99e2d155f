/- Stage 4: the walk of the counts of statements and loops. -/
import Derived.Test.YtkjbjjiajopfpaaGreatDoorCe
import Derived.Test.YtkjbjjiajopfpaaGreatDoorCo
import Derived.Deep.DeepCutAuto
namespace Go.Proofs.YtkjbjjiajopfpaaGreatDoor
open Go.RowKit (wrap64 intOf)
open Go Go.RowKit WM LX PX CX

set_option maxRecDepth 100000
set_option maxHeartbeats 4000000
/-- The counts behind a list, at block B. -/
def CntP (B : Nat) (r : Option (Nat × Nat)) (w : World) (e : Ending) (w' : World) : Prop :=
  e = .returned (.bool r.isNone) ∧ Kp (some B) w w' ∧ ∀ c, r = some c → Blk w' B 93 #[.int .i64 (c.1 : Int), .int .i64 (c.2 : Int)] ∧ c.1 ≤ 200 ∧ c.2 ≤ 16
def CtR (B d len : Nat) (l : List ST) (r : Option (Nat × Nat)) (w : World) (k : Nat) (i : Value) (wr : World) : Prop :=
  ∃ (j a b : Nat), j + k = len ∧ i = .int .i64 (j : Int) ∧ a ≤ 200 ∧ b ≤ 16 ∧ Hid (cntL d (a, b) (l.drop j) = r) ∧ Hid (Kp (some B) w wr) ∧ Hid (Blk wr B 93 #[.int .i64 (a : Int), .int .i64 (b : Int)])
abbrev CntC (d : Nat) : Prop := ∀ (l : List ST) (a b : Nat) (v : Value) (w : World) (ok : Nat → Prop) (B : Nat), RepL RepS 17 w ok l v → (∀ g, ok g → g < w.heap.size ∧ g ≠ B) → Blk w B 93 #[.int .i64 (a : Int), .int .i64 (b : Int)] →
  a ≤ 200 → b ≤ 16 → sumL szS l ≤ 1000000000 → Calls Tryz.prog 63 #[.pointer (some ⟨B, 0, none⟩), v, .int .i64 (d : Int)] w (CntP B (cntL d (a, b) l) w)
theorem drop_at {α : Type} {l : List α} {j : Nat} {x : α} (h : l[j]? = some x) : l.drop j = x :: l.drop (j + 1) := by
  obtain ⟨hj, rfl⟩ := List.getElem?_eq_some_iff.1 h
  exact List.drop_eq_getElem_cons hj
theorem cnt_step (d : Nat) (hd : d ≤ 21) (ih : d ≤ 20 → CntC (d + 1)) : CntC d := by
    intro l a b v w ok B hl hok hB ha hb hs
    have IH := Lib.hid ih
    clear ih
    obtain ⟨A, cp, rfl, hat⟩ := hl.at
    have hfew := sumL_len szS l
    obtain ⟨len, hlen⟩ : ∃ len, l.length = len := ⟨_, rfl⟩
    have HL := Lib.hid hlen
    have H := Lib.hid (And.intro hat (And.intro hok hs))
    rw [hlen] at hfew ⊢
    have hfew2 : len ≤ 1000000000 := by omega
    obtain ⟨r, hr⟩ : ∃ r, cntL d (a, b) l = r := ⟨_, rfl⟩
    have HR := Lib.hid hr
    have HB := Lib.hid hB
    rw [hr]
    have hBw := hB.lt
    clear hlen hat hok hl hs hfew hr hB
    go_enter Tryz.func63, Tryz.ntmps63
    go_wp2_with fail
    go_loopg [11] len (fun k i wr => CtR B d len l r w k i wr)
    case atStart => exact ⟨0, a, b, Nat.zero_add _, rfl, ha, hb, Lib.hid HR.out, Lib.hid (grown_id _ _), HB⟩
    case round =>
      clear ha hb HR HB
      obtain ⟨j, a, b, hj, rfl, ha, hb, HQ, HG, HK⟩ := hrel
      by_cases hlt : j < len
      · obtain ⟨s, hx⟩ : ∃ s, l[j]? = some s := ⟨_, List.getElem?_eq_getElem (by rw [HL.out]; exact hlt)⟩
        obtain ⟨h1, h2, h3⟩ := H.out
        obtain ⟨g, cs, rfl, hg, hrep, hcell⟩ := h1 j s hx
        have hgw := h2 g hg
        have hkeep : ∀ x, ok x → wr.heap[x]? = w.heap[x]? := fun x hx => HG.out.block x (h2 x hx).1 (fun e => by injection e with e; exact (h2 x hx).2 e)
        have hc : ∀ i u, cs[i]? = some u → wr.cell? ⟨g, j * 17 + i, none⟩ = some u := fun i u hu => (World.cell?_of_block (hkeep g hg)).trans (hcell i u hu)
        have hws := HG.out.size
        have hsz := sumL_at szS l j s hx
        have hdr := drop_at hx
        cases s with
        | mk kd nm tn n pos value args thn els =>
          have hq' := HQ.out
          rw [hdr, cntL_cons, cntS_eq] at hq'
          have hq := Lib.hid hq'
          obtain ⟨h17, hone⟩ := onesS _ _ _ _ hrep
          obtain ⟨k1, n1, x1, o1, A1, L1, c1, k2, n2, x2, o2, A2, L2, c2, A3, c3, A4, c4, A5, c5, hcs, rp, rv, ra, rt, re⟩ := stm_of hrep
          have c0 : cs.toArray[0]? = some (.int .i64 kd) := by rw [hcs]; rfl
          have c15 : cs.toArray[15]? = some (.slice A4 thn.length c4) := by rw [hcs]; rfl
          have c16 : cs.toArray[16]? = some (.slice A5 els.length c5) := by rw [hcs]; rfl
          have HCC := Lib.hid (And.intro c15 c16)
          have HS : Hid ((Tryz.prog.info? 46).map (·.size) = some cs.length) := by rw [h17]; exact stSize
          have HO := Lib.hid (And.intro hone h17)
          have HC := Lib.hid hc
          have HREP := Lib.hid hrep
          have HRT := Lib.hid (And.intro rt re)
          rw [szS_eq] at hsz
          have HSZ := Lib.hid (And.intro (show sumL szS thn ≤ 1000000000 by omega) (show sumL szS els ≤ 1000000000 by omega))
          have HS2 : Hid (szS (.mk kd nm tn n pos value args thn els) ≤ 1000000000) := by rw [szS_eq]; show _ ≤ _; omega
          have k0 := HK.out
          have e1 : (j : Int) < (len : Int) := by omega
          have hBr : B < wr.heap.size := k0.lt
          have hgr : g < wr.heap.size := by omega
          have hneB : B ≠ wr.heap.size := Nat.ne_of_lt hBr
          clear h1 h2 h3 hrep hcell hc rp rv ra rt re hkeep hx HQ h17 hone hcs c15 c16 hsz hdr hq' k1 n1 x1 o1 A1 L1 c1 k2 n2 x2 o2 A2 L2 c2 A3 c3
          go_upto_region 4 with (first | (refine wpList_load_at rfl 46 _ rfl g (j * 17) rfl cs HC.out _ Tryz.underlying46 rfl HS.out ?_) | (refine wpList_store_row rfl _ _ _ rfl wr.heap.size cs.toArray rfl rfl _ _ (Blk.new wr _ _) (by simpa using HS.out) (by simp [HO.out.2]) HO.out.1 ?_))
          have kB : Blk ((wr.alloc (.cells st0 46)).setRow wr.heap.size cs.toArray) B 93 #[.int .i64 (a : Int), .int .i64 (b : Int)] := (row_far _ _ _ _ hneB).trans (k0.alloc _)
          have kE : Blk ((wr.alloc (.cells st0 46)).setRow wr.heap.size cs.toArray) wr.heap.size 46 cs.toArray := blk_row (Blk.new wr _ _) _
          have hgV : Kp (some B) w ((wr.alloc (.cells st0 46)).setRow wr.heap.size cs.toArray) := row_grown (grown_al HG.out _) hws _
          have HGV := Lib.hid hgV
          clear hgV k0 HC HO
          generalize (wr.alloc (.cells st0 46)).setRow wr.heap.size cs.toArray = V at *
          by_cases hkd : kd = 4
          · obtain rfl := hkd
            have q0 : V.cell? ⟨B, 0, none⟩ = some (.int .i64 (a : Int)) := kB.cell 0
            have q1 : V.cell? ⟨B, 1, none⟩ = some (.int .i64 (b : Int)) := kB.cell 1
            have y0 : V.cell? ⟨wr.heap.size, 0, none⟩ = some (.int .i64 4) := (kE.cell 0).trans c0
            have g0 : V.frozen? ⟨B, 0, none⟩ = false := kB.free 0
            have g1 : V.frozen? ⟨B, 1, none⟩ = false := kB.free 1
            have kU : Blk ((V.setCell ⟨B, 0, none⟩ (.int .i64 ((a : Int) + 1))).setCell ⟨B, 1, none⟩ (.int .i64 ((b : Int) + 1))) B 93 #[.int .i64 ((a + 1 : Nat) : Int), .int .i64 ((b + 1 : Nat) : Int)] := (kB.set 0 (.int .i64 ((a : Int) + 1))).set 1 (.int .i64 ((b : Int) + 1))
            have kEU : Blk ((V.setCell ⟨B, 0, none⟩ (.int .i64 ((a : Int) + 1))).setCell ⟨B, 1, none⟩ (.int .i64 ((b : Int) + 1))) wr.heap.size 46 cs.toArray := (kE.far (p := ⟨B, 0, none⟩) hneB (.int .i64 ((a : Int) + 1))).far (p := ⟨B, 1, none⟩) hneB (.int .i64 ((b : Int) + 1))
            have hgU : Kp (some B) w ((V.setCell ⟨B, 0, none⟩ (.int .i64 ((a : Int) + 1))).setCell ⟨B, 1, none⟩ (.int .i64 ((b : Int) + 1))) := grown_s (grown_s HGV.out (i := 0) (.int .i64 ((a : Int) + 1))) (i := 1) (.int .i64 ((b : Int) + 1))
            have HU := Lib.hid (And.intro kU (And.intro kEU hgU))
            clear kU kEU hgU kB kE c0
            by_cases o0 : 20 < d
            · have p0 : (20 : Int) < (d : Int) := by omega
              have hn : r = none := by
                rw [← hq.out, show over d (bump 4 (a, b)) = true by unfold over; simp [o0]]
                rfl
              subst hn
              go_wp2_with fail
              go_ret
              exact ⟨rfl, HU.out.2.2, fun c h => by cases h⟩
            · have p0 : ¬ (20 : Int) < (d : Int) := by omega
              by_cases o1 : 200 < a + 1
              · have p1 : (200 : Int) < (a : Int) + 1 := by omega
                have hn : r = none := by
                  rw [← hq.out, show over d (bump 4 (a, b)) = true by unfold over bump; simp [o1]]
                  rfl
                subst hn
                go_wp2_with fail
                go_ret
                exact ⟨rfl, HU.out.2.2, fun c h => by cases h⟩
              · have p1 : ¬ (200 : Int) < (a : Int) + 1 := by omega
                by_cases o2 : 16 < b + 1
                · have p2 : (16 : Int) < (b : Int) + 1 := by omega
                  have hn : r = none := by
                    rw [← hq.out, show over d (bump 4 (a, b)) = true by unfold over bump; simp; omega]
                    rfl
                  subst hn
                  go_wp2_with fail
                  go_ret
                  exact ⟨rfl, HU.out.2.2, fun c h => by cases h⟩
                · have p2 : ¬ (16 : Int) < (b : Int) + 1 := by omega
                  have hov : over d (bump 4 (a, b)) = false := by unfold over bump; simp; omega
                  have hq2 := hq.out
                  rw [hov, Bool.false_or, show bump 4 (a, b) = (a + 1, b + 1) by unfold bump; simp] at hq2
                  have HQ2 := Lib.hid hq2
                  clear hq hq2 hov
                  have hkU : ∀ x, ok x → ((V.setCell ⟨B, 0, none⟩ (.int .i64 ((a : Int) + 1))).setCell ⟨B, 1, none⟩ (.int .i64 ((b : Int) + 1))).heap[x]? = w.heap[x]? := fun x hx => HU.out.2.2.block x (H.out.2.1 x hx).1 (fun e => by injection e with e; exact (H.out.2.1 x hx).2 e)
                  have hdeep := deepX_any 4 nm tn n pos value args thn els cs _ ok (HREP.out.keep (fun _ h => h) hkU) (fun x hx => Nat.lt_of_lt_of_le (H.out.2.1 x hx).1 HU.out.2.2.size) HS2.out
                  have HD := Lib.hid hdeep
                  clear hdeep hkU
                  go_wp2_with (refine wpList_load_row rfl _ _ rfl wr.heap.size rfl 46 cs.toArray (0, 0) _ HU.out.2.1 Tryz.underlying46 rfl (by simpa using HS.out) ?_)
                  refine HD.out.mono ?_
                  rintro e w3 ⟨rfl, hb3⟩
                  have kB3 := HU.out.1.on hb3 HU.out.1.lt
                  have kE3 := HU.out.2.1.on hb3 HU.out.2.1.lt
                  have kg3 : Kp (some B) w w3 := kp_to HU.out.2.2 (kp_below hb3 _)
                  have y15 : w3.cell? ⟨wr.heap.size, 15, none⟩ = _ := (kE3.cell 15).trans HCC.out.1
                  have H3 := Lib.hid (And.intro kB3 (And.intro kE3 kg3))
                  clear hb3 kB3 kE3 kg3 q0 q1 y0 g0 g1 HD
                  cases hdx : deepX (.mk 4 nm tn n pos value args thn els) with
                  | true =>
                    have hn : r = none := by rw [← HQ2.out, if_pos hdx]; rfl
                    subst hn
                    clear hdx
                    go_wp2_with fail
                    go_ret
                    exact ⟨rfl, H3.out.2.2, fun c h => by cases h⟩
                  | false =>
                    have hq3 := HQ2.out
                    rw [if_neg (by rw [hdx]; decide)] at hq3
                    have HQ3 := Lib.hid hq3
                    clear HQ2 hq3 hdx
                    have hk3 : ∀ x, ok x → w3.heap[x]? = w.heap[x]? := fun x hx => H3.out.2.2.block x (H.out.2.1 x hx).1 (fun e => by injection e with e; exact (H.out.2.1 x hx).2 e)
                    obtain ⟨r1, hr1⟩ : ∃ r1, cntL (d + 1) (a + 1, b + 1) thn = r1 := ⟨_, rfl⟩
                    have ht := IH.out (by omega) thn (a + 1) (b + 1) _ w3 ok B (HRT.out.1.keep keepsS (fun _ h => h) hk3) (fun x hx => ⟨Nat.lt_of_lt_of_le (H.out.2.1 x hx).1 H3.out.2.2.size, (H.out.2.1 x hx).2⟩) H3.out.1 (by omega) (by omega) HSZ.out.1
                    rw [hr1] at ht
                    have hq3 := HQ3.out
                    rw [hr1] at hq3
                    have HT := Lib.hid ht
                    have HQ4 := Lib.hid hq3
                    have d1 : ((d + 1 : Nat) : Int) = (d : Int) + 1 := by omega
                    rw [d1] at HT
                    clear ht hq3 HQ3 hk3 hr1 d1
                    go_wp2_with fail
                    refine HT.out.mono ?_
                    rintro e w4 ⟨rfl, hk4, hc4⟩
                    have kE4 := H3.out.2.1.kp hk4 (fun b' hb' e => by injection hb' with hb'; exact hneB (hb'.trans e))
                    have y16 : w4.cell? ⟨wr.heap.size, 16, none⟩ = _ := (kE4.cell 16).trans HCC.out.2
                    have H4 := Lib.hid (And.intro hc4 (And.intro kE4 (kp_to H3.out.2.2 hk4)))
                    clear hk4 hc4 kE4 y15 HT
                    cases r1 with
                    | none =>
                      have hn : r = none := by rw [← HQ4.out]; rfl
                      subst hn
                      go_wp2_with fail
                      go_ret
                      exact ⟨rfl, H4.out.2.2, fun c h => by cases h⟩
                    | some c2 =>
                      obtain ⟨a2, b2'⟩ := c2
                      obtain ⟨kB4, l1, l2⟩ := H4.out.1 _ rfl
                      dsimp only at kB4 l1 l2
                      have hk4 : ∀ x, ok x → w4.heap[x]? = w.heap[x]? := fun x hx => H4.out.2.2.block x (H.out.2.1 x hx).1 (fun e => by injection e with e; exact (H.out.2.1 x hx).2 e)
                      obtain ⟨r2, hr2⟩ : ∃ r2, cntL (d + 1) (a2, b2') els = r2 := ⟨_, rfl⟩
                      have ht := IH.out (by omega) els a2 b2' _ w4 ok B (HRT.out.2.keep keepsS (fun _ h => h) hk4) (fun x hx => ⟨Nat.lt_of_lt_of_le (H.out.2.1 x hx).1 H4.out.2.2.size, (H.out.2.1 x hx).2⟩) kB4 l1 l2 HSZ.out.2
                      rw [hr2] at ht
                      have hq3 : ((r2.bind fun c2 => cntL d c2 (l.drop (j + 1))) = r) := by
                        have := HQ4.out
                        rw [← this]
                        show _ = (cntL (d + 1) (a2, b2') els).bind _
                        rw [hr2]
                      have HT := Lib.hid ht
                      have HQ5 := Lib.hid hq3
                      have d1 : ((d + 1 : Nat) : Int) = (d : Int) + 1 := by omega
                      rw [d1] at HT
                      clear ht hq3 HQ4 hk4 hr2 d1 kB4
                      go_wp2_with fail
                      refine HT.out.mono ?_
                      rintro e w5 ⟨rfl, hk5, hc5⟩
                      have H5 := Lib.hid (And.intro hc5 (kp_to H4.out.2.2 hk5))
                      clear hk5 hc5 HT y16
                      cases r2 with
                      | none =>
                        have hn : r = none := by rw [← HQ5.out]; rfl
                        subst hn
                        go_wp2_with fail
                        go_ret
                        exact ⟨rfl, H5.out.2, fun c h => by cases h⟩
                      | some c2 =>
                        obtain ⟨a3, b3⟩ := c2
                        obtain ⟨kB5, l3, l4⟩ := H5.out.1 _ rfl
                        dsimp only at kB5 l3 l4
                        have HB5 := Lib.hid kB5
                        clear kB5
                        go_wp2_with fail
                        go_roundg (gk - 1)
                        case measure => omega
                        case rel => exact ⟨j + 1, a3, b3, by omega, by go_num, l3, l4, Lib.hid HQ5.out, Lib.hid H5.out.2, HB5⟩
          · have hkd2 : (kd == 4) = false := by rw [beq_eq_false_iff_ne]; exact hkd
            have q0 : V.cell? ⟨B, 0, none⟩ = some (.int .i64 (a : Int)) := kB.cell 0
            have q1 : V.cell? ⟨B, 1, none⟩ = some (.int .i64 (b : Int)) := kB.cell 1
            have y0 : V.cell? ⟨wr.heap.size, 0, none⟩ = some (.int .i64 kd) := (kE.cell 0).trans c0
            have g0 : V.frozen? ⟨B, 0, none⟩ = false := kB.free 0
            have g1 : V.frozen? ⟨B, 1, none⟩ = false := kB.free 1
            have kU : Blk (V.setCell ⟨B, 0, none⟩ (.int .i64 ((a : Int) + 1))) B 93 #[.int .i64 ((a + 1 : Nat) : Int), .int .i64 ((b : Nat) : Int)] := kB.set 0 (.int .i64 ((a : Int) + 1))
            have kEU : Blk (V.setCell ⟨B, 0, none⟩ (.int .i64 ((a : Int) + 1))) wr.heap.size 46 cs.toArray := kE.far (p := ⟨B, 0, none⟩) hneB (.int .i64 ((a : Int) + 1))
            have hgU : Kp (some B) w (V.setCell ⟨B, 0, none⟩ (.int .i64 ((a : Int) + 1))) := grown_s HGV.out (i := 0) (.int .i64 ((a : Int) + 1))
            have HU := Lib.hid (And.intro kU (And.intro kEU hgU))
            clear kU kEU hgU kB kE c0
            by_cases o0 : 20 < d
            · have p0 : (20 : Int) < (d : Int) := by omega
              have hn : r = none := by
                rw [← hq.out, show over d (bump kd (a, b)) = true by unfold over; simp [o0]]
                rfl
              subst hn
              go_wp2_with fail
              go_ret
              exact ⟨rfl, HU.out.2.2, fun c h => by cases h⟩
            · have p0 : ¬ (20 : Int) < (d : Int) := by omega
              by_cases o1 : 200 < a + 1
              · have p1 : (200 : Int) < (a : Int) + 1 := by omega
                have hn : r = none := by
                  rw [← hq.out, show over d (bump kd (a, b)) = true by unfold over bump; simp [o1]]
                  rfl
                subst hn
                go_wp2_with fail
                go_ret
                exact ⟨rfl, HU.out.2.2, fun c h => by cases h⟩
              · have p1 : ¬ (200 : Int) < (a : Int) + 1 := by omega
                by_cases o2 : 16 < b
                · exact absurd o2 (by omega)
                · have p2 : ¬ (16 : Int) < (b : Int) := by omega
                  have hov : over d (bump kd (a, b)) = false := by unfold over bump; simp [if_neg hkd]; omega
                  have hq2 := hq.out
                  rw [hov, Bool.false_or, show bump kd (a, b) = (a + 1, b) by unfold bump; simp [if_neg hkd]] at hq2
                  have HQ2 := Lib.hid hq2
                  clear hq hq2 hov
                  have hkU : ∀ x, ok x → (V.setCell ⟨B, 0, none⟩ (.int .i64 ((a : Int) + 1))).heap[x]? = w.heap[x]? := fun x hx => HU.out.2.2.block x (H.out.2.1 x hx).1 (fun e => by injection e with e; exact (H.out.2.1 x hx).2 e)
                  have hdeep := deepX_any kd nm tn n pos value args thn els cs _ ok (HREP.out.keep (fun _ h => h) hkU) (fun x hx => Nat.lt_of_lt_of_le (H.out.2.1 x hx).1 HU.out.2.2.size) HS2.out
                  have HD := Lib.hid hdeep
                  clear hdeep hkU
                  go_wp2_with (refine wpList_load_row rfl _ _ rfl wr.heap.size rfl 46 cs.toArray (0, 0) _ HU.out.2.1 Tryz.underlying46 rfl (by simpa using HS.out) ?_)
                  refine HD.out.mono ?_
                  rintro e w3 ⟨rfl, hb3⟩
                  have kB3 := HU.out.1.on hb3 HU.out.1.lt
                  have kE3 := HU.out.2.1.on hb3 HU.out.2.1.lt
                  have kg3 : Kp (some B) w w3 := kp_to HU.out.2.2 (kp_below hb3 _)
                  have y15 : w3.cell? ⟨wr.heap.size, 15, none⟩ = _ := (kE3.cell 15).trans HCC.out.1
                  have H3 := Lib.hid (And.intro kB3 (And.intro kE3 kg3))
                  clear hb3 kB3 kE3 kg3 q0 q1 y0 g0 g1 HD
                  cases hdx : deepX (.mk kd nm tn n pos value args thn els) with
                  | true =>
                    have hn : r = none := by rw [← HQ2.out, if_pos hdx]; rfl
                    subst hn
                    clear hdx
                    go_wp2_with fail
                    go_ret
                    exact ⟨rfl, H3.out.2.2, fun c h => by cases h⟩
                  | false =>
                    have hq3 := HQ2.out
                    rw [if_neg (by rw [hdx]; decide)] at hq3
                    have HQ3 := Lib.hid hq3
                    clear HQ2 hq3 hdx
                    have hk3 : ∀ x, ok x → w3.heap[x]? = w.heap[x]? := fun x hx => H3.out.2.2.block x (H.out.2.1 x hx).1 (fun e => by injection e with e; exact (H.out.2.1 x hx).2 e)
                    obtain ⟨r1, hr1⟩ : ∃ r1, cntL (d + 1) (a + 1, b) thn = r1 := ⟨_, rfl⟩
                    have ht := IH.out (by omega) thn (a + 1) (b) _ w3 ok B (HRT.out.1.keep keepsS (fun _ h => h) hk3) (fun x hx => ⟨Nat.lt_of_lt_of_le (H.out.2.1 x hx).1 H3.out.2.2.size, (H.out.2.1 x hx).2⟩) H3.out.1 (by omega) (by omega) HSZ.out.1
                    rw [hr1] at ht
                    have hq3 := HQ3.out
                    rw [hr1] at hq3
                    have HT := Lib.hid ht
                    have HQ4 := Lib.hid hq3
                    have d1 : ((d + 1 : Nat) : Int) = (d : Int) + 1 := by omega
                    rw [d1] at HT
                    clear ht hq3 HQ3 hk3 hr1 d1
                    go_wp2_with fail
                    refine HT.out.mono ?_
                    rintro e w4 ⟨rfl, hk4, hc4⟩
                    have kE4 := H3.out.2.1.kp hk4 (fun b' hb' e => by injection hb' with hb'; exact hneB (hb'.trans e))
                    have y16 : w4.cell? ⟨wr.heap.size, 16, none⟩ = _ := (kE4.cell 16).trans HCC.out.2
                    have H4 := Lib.hid (And.intro hc4 (And.intro kE4 (kp_to H3.out.2.2 hk4)))
                    clear hk4 hc4 kE4 y15 HT
                    cases r1 with
                    | none =>
                      have hn : r = none := by rw [← HQ4.out]; rfl
                      subst hn
                      go_wp2_with fail
                      go_ret
                      exact ⟨rfl, H4.out.2.2, fun c h => by cases h⟩
                    | some c2 =>
                      obtain ⟨a2, b2'⟩ := c2
                      obtain ⟨kB4, l1, l2⟩ := H4.out.1 _ rfl
                      dsimp only at kB4 l1 l2
                      have hk4 : ∀ x, ok x → w4.heap[x]? = w.heap[x]? := fun x hx => H4.out.2.2.block x (H.out.2.1 x hx).1 (fun e => by injection e with e; exact (H.out.2.1 x hx).2 e)
                      obtain ⟨r2, hr2⟩ : ∃ r2, cntL (d + 1) (a2, b2') els = r2 := ⟨_, rfl⟩
                      have ht := IH.out (by omega) els a2 b2' _ w4 ok B (HRT.out.2.keep keepsS (fun _ h => h) hk4) (fun x hx => ⟨Nat.lt_of_lt_of_le (H.out.2.1 x hx).1 H4.out.2.2.size, (H.out.2.1 x hx).2⟩) kB4 l1 l2 HSZ.out.2
                      rw [hr2] at ht
                      have hq3 : ((r2.bind fun c2 => cntL d c2 (l.drop (j + 1))) = r) := by
                        have := HQ4.out
                        rw [← this]
                        show _ = (cntL (d + 1) (a2, b2') els).bind _
                        rw [hr2]
                      have HT := Lib.hid ht
                      have HQ5 := Lib.hid hq3
                      have d1 : ((d + 1 : Nat) : Int) = (d : Int) + 1 := by omega
                      rw [d1] at HT
                      clear ht hq3 HQ4 hk4 hr2 d1 kB4
                      go_wp2_with fail
                      refine HT.out.mono ?_
                      rintro e w5 ⟨rfl, hk5, hc5⟩
                      have H5 := Lib.hid (And.intro hc5 (kp_to H4.out.2.2 hk5))
                      clear hk5 hc5 HT y16
                      cases r2 with
                      | none =>
                        have hn : r = none := by rw [← HQ5.out]; rfl
                        subst hn
                        go_wp2_with fail
                        go_ret
                        exact ⟨rfl, H5.out.2, fun c h => by cases h⟩
                      | some c2 =>
                        obtain ⟨a3, b3⟩ := c2
                        obtain ⟨kB5, l3, l4⟩ := H5.out.1 _ rfl
                        dsimp only at kB5 l3 l4
                        have HB5 := Lib.hid kB5
                        clear kB5
                        go_wp2_with fail
                        go_roundg (gk - 1)
                        case measure => omega
                        case rel => exact ⟨j + 1, a3, b3, by omega, by go_num, l3, l4, Lib.hid HQ5.out, Lib.hid H5.out.2, HB5⟩
      · obtain rfl : j = len := by omega
        have hn : r = some (a, b) := by
          have := HQ.out
          rw [List.drop_of_length_le (by rw [HL.out]; exact Nat.le_refl _), cntL_nil] at this
          exact this.symm
        subst hn
        go_wp2_with fail
        go_ret
        exact ⟨rfl, HG.out, fun c h => by injection h with h; subst h; exact ⟨HK.out, ha, hb⟩⟩
theorem cnt_any (m : Nat) : ∀ d, d + m = 21 → CntC d := by
  induction m with
  | zero => exact fun d hd => cnt_step d (by omega) (fun h => absurd h (by omega))
  | succ m ih => exact fun d hd => cnt_step d (by omega) (fun _ => ih (d + 1) (by omega))
end Go.Proofs.YtkjbjjiajopfpaaGreatDoor
