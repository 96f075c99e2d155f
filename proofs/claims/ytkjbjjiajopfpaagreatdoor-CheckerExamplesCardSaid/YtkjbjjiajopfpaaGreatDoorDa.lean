/- Stage 4: the walks of everyStatement on no statements, of function and of isWellFormed. -/
import Derived.Test.YtkjbjjiajopfpaaGreatDoorCk
namespace Go.Proofs.YtkjbjjiajopfpaaGreatDoor
open Go.RowKit (wrap64 intOf)
open Go Go.RowKit WM LX PX CX

set_option maxRecDepth 100000
set_option maxHeartbeats 4000000
/-- A walk of a list of statements. -/
abbrev EvL (m : Option Nat) (g : Nat) (pre lb : Array Value) (I : Nat → World → Prop) (w0 : World) (ok : Nat → Prop) (p : ST → Bool) (l : List ST) : Prop := ∀ (v : Value) (w : World) (c : Nat), RepL RepS 17 w0 ok l v → c + 4 * sumL szS l ≤ 1000000000000 → I c w →
  Calls Tryz.prog 44 #[v, .func (.func g) pre lb] w (RetK (.bool (l.all (allS p))) m w (I (c + 4 * sumL szS l)))
theorem evL_nil (m : Option Nat) (g : Nat) (pre lb : Array Value) (I : Nat → World → Prop) (w0 : World) (ok : Nat → Prop) (hI : Inv I ok m w0) (p : ST → Bool) : EvL m g pre lb I w0 ok p [] := by
  intro v w c hl hc hw
  obtain ⟨W1, hW1⟩ : ∃ W1, w.alloc (.cells #[.func (.func g) pre lb] 79) = W1 := ⟨_, rfl⟩
  have hb1 : Below w.heap.size w W1 := by rw [← hW1]; exact (Below.refl _ _).alloc (Nat.le_refl _) _
  have hcall := every_S (p := allS p) keepsS onesS [] v w0 ok hl (by decide) m 72 #[] #[.pointer (some ⟨w.heap.size, 0, none⟩)] (enters_of Tryz.func72 (by kernel_rfl) rfl) I hI (fun _ => 0) (fun i x hx => by simp at hx) c (by show c + 0 ≤ _; omega) W1 (hI.easy c w W1 hw hb1)
  have HC := Lib.hid (And.intro hcall (And.intro hb1 hW1))
  have HI := Lib.hid hI
  clear hcall hl hc hw hb1 hW1 hI
  go_enter Tryz.func44, Tryz.ntmps44
  go_wp2_with fail
  rw [HC.out.2.2]
  refine HC.out.1.mono ?_
  rintro e w2 ⟨rfl, hi, hk⟩
  have HK := Lib.hid (And.intro hi hk)
  clear hi hk
  go_wp2_with fail
  go_ret
  exact retK rfl (HI.out.mono _ _ _ HK.out.1 (by show c + 0 ≤ _; omega)) (kp_to (kp_below HC.out.2.1 _) HK.out.2)
/-- The test of a function's shape; what its statements' walk must be good for. -/
theorem func_any (b B : Nat) (hbB : b ≤ B) (w0 : World) (ok : Nat → Prop) (hok : ∀ x, ok x → x < w0.heap.size ∧ x ≠ B) (f : FN) (hs : szF f ≤ 1000000000)
    (hst : EvL (some B) 67 #[.agg #[.map (some B)]] #[] (ShI b B w0) w0 ok stmB f.body) :
    Tst Tryz.prog RepF ok (ShI b B w0) (some B) 37 #[.agg #[.map (some B)]] #[] funB (fun f => 4 * szF f) f := by
  intro cs w c hc hw hr
  rw [app_r]
  have hI := inv_sh b B w0 hbB ok hok
  have hr0 := keepsF.k (w' := w0) (ok' := ok) hr (fun _ h => h) (fun x hx => (hI.ok c w hw x hx).2.symm)
  obtain ⟨A1, c1, A2, c2, A3, c3, kd, nn, nm, op, A, L, cc, rfl, r1, r2, r3, r4⟩ := fun_of hr0
  have hc' : c + (1 + 4 * szF f) ≤ 1000000000000 := hc
  have hsz := hs
  unfold szF at hsz hc'
  have f1 := sumL_len List.length f.params
  have f2 := sumL_len List.length f.locals
  have f3 := sumL_len szS f.body
  obtain ⟨fin, hfin⟩ : ∃ fin, c + (1 + (fun f => 4 * szF f) f) = fin := ⟨_, rfl⟩
  have htotal : ∀ d, d ≤ c + 1 + sumL List.length f.params + sumL List.length f.locals + 4 * sumL szS f.body + 2 * szE f.value → d ≤ fin := fun d hd => by rw [← hfin]; dsimp only; unfold szF; omega
  have hmono := fun d w (h : ShI b B w0 d w) hd => hI.mono d fin w h (htotal d hd)
  have hBw : B < w.heap.size := hw.1.lt
  have en : ∀ args w, (callFunc 35 args).run Tryz.prog w = .ok (.enter 35 args) w := enters_of Tryz.func35 (by kernel_rfl) rfl
  have hN := fun W (h : ShI b B w0 c W) => tst_nm b B hbB w0 f.name (by omega) c (by omega) W h
  have hP := fun W (h : ShI b B w0 (c + 1) W) => every_N f.params _ w0 ok r1 (by omega) nameB (some B) 35 #[.agg #[.map (some B)]] #[] en (ShI b B w0) hI (fun i x hx w' d hd h => by
    rw [app_r]
    have := sumL_at List.length f.params i x hx
    exact (tst_nm b B hbB w0 x (by omega) d (by omega) w' h).mono fun _ _ k => ⟨k.1, hI.mono _ _ _ k.2.1 (by omega), k.2.2⟩) (c + 1) (by omega) W h
  have hL := fun W (h : ShI b B w0 (c + 1 + sumL List.length f.params) W) => every_N f.locals _ w0 ok r2 (by omega) nameB (some B) 35 #[.agg #[.map (some B)]] #[] en (ShI b B w0) hI (fun i x hx w' d hd h => by
    rw [app_r]
    have := sumL_at List.length f.locals i x hx
    exact (tst_nm b B hbB w0 x (by omega) d (by omega) w' h).mono fun _ _ k => ⟨k.1, hI.mono _ _ _ k.2.1 (by omega), k.2.2⟩) (c + 1 + sumL List.length f.params) (by omega) W h
  have hB := fun W (h : ShI b B w0 (c + 1 + sumL List.length f.params + sumL List.length f.locals) W) => hst _ W _ r3 (by omega) h
  have hV := fun W (h : ShI b B w0 (c + 1 + sumL List.length f.params + sumL List.length f.locals + 4 * sumL szS f.body) W) => expr_any b B hbB w0 ok hok f.value (by omega) _ W _ (by omega) h (r4.keep (fun _ h => h) (fun x hx => (hI.ok _ W h x hx).2))
  obtain ⟨tot, htot⟩ : ∃ tot, funB f = tot := ⟨_, rfl⟩
  rw [hfin, htot]
  unfold funB at htot
  obtain ⟨q1, hq1⟩ : ∃ q, nameB f.name = q := ⟨_, rfl⟩
  obtain ⟨q2, hq2⟩ : ∃ q, f.params.all nameB = q := ⟨_, rfl⟩
  obtain ⟨q3, hq3⟩ : ∃ q, f.locals.all nameB = q := ⟨_, rfl⟩
  obtain ⟨q4, hq4⟩ : ∃ q, f.body.all (allS stmB) = q := ⟨_, rfl⟩
  obtain ⟨q5, hq5⟩ : ∃ q, allE nodeB f.value = q := ⟨_, rfl⟩
  obtain ⟨p1, hp1⟩ : ∃ p, sumL List.length f.params = p := ⟨_, rfl⟩
  obtain ⟨p2, hp2⟩ : ∃ p, sumL List.length f.locals = p := ⟨_, rfl⟩
  obtain ⟨p3, hp3⟩ : ∃ p, 4 * sumL szS f.body = p := ⟨_, rfl⟩
  obtain ⟨p4, hp4⟩ : ∃ p, 2 * szE f.value = p := ⟨_, rfl⟩
  obtain ⟨n1, hn1⟩ : ∃ n, f.params.length = n := ⟨_, rfl⟩
  obtain ⟨n2, hn2⟩ : ∃ n, f.locals.length = n := ⟨_, rfl⟩
  obtain ⟨n3, hn3⟩ : ∃ n, f.body.length = n := ⟨_, rfl⟩
  obtain ⟨fnm, hfn⟩ : ∃ x, f.name = x := ⟨_, rfl⟩
  rw [hq1, hq2, hq3, hq4, hq5] at htot
  rw [hq1] at hN
  rw [hfn] at hN
  rw [hq2, hp1, hn1] at hP
  rw [hq3, hp1, hp2, hn2] at hL
  rw [hq4, hp1, hp2, hp3, hn3] at hB
  rw [hq5, hp1, hp2, hp3, hp4] at hV
  rw [hp1, hp2, hp3, hp4] at hmono
  obtain ⟨W1, hW1⟩ : ∃ W1, (w.alloc (.cells #[.map (some B)] 71)).alloc (.cells #[.string ⟨fnm.toArray⟩, .slice A1 n1 c1, .slice A2 n2 c2, .slice A3 n3 c3, .int .i64 kd, .int .i64 nn, .string ⟨nm.toArray⟩, .int .i64 op, .slice A L cc] 28) = W1 := ⟨_, rfl⟩
  have hb1 : Below w.heap.size w W1 := by rw [← hW1]; exact ((Below.refl _ _).alloc (Nat.le_refl _) _).alloc (by simp) _
  have j1 : Blk W1 w.heap.size 71 #[.map (some B)] := by rw [← hW1]; exact (Blk.new _ _ _).alloc _
  have j2 : Blk W1 (w.heap.size + 1) 28 #[.string ⟨fnm.toArray⟩, .slice A1 n1 c1, .slice A2 n2 c2, .slice A3 n3 c3, .int .i64 kd, .int .i64 nn, .string ⟨nm.toArray⟩, .int .i64 op, .slice A L cc] := by rw [← hW1]; exact blk_at (by simp) _ _
  have h1 := hI.easy c w W1 hw hb1
  simp only [hn1, hn2, hn3, hfn]
  have HM := Lib.hid hmono
  have HN := Lib.hid (hN W1 h1)
  have HP := Lib.hid hP
  have HL := Lib.hid hL
  have HBo := Lib.hid hB
  have HV := Lib.hid hV
  have HT := Lib.hid htot
  have HB := Lib.hid (And.intro hb1 (And.intro hW1 (And.intro j1 j2)))
  have n1' : B ≠ w.heap.size := Nat.ne_of_lt hBw
  have n2' : B ≠ w.heap.size + 1 := by omega
  clear hmono hN hP hL hB hV htot hb1 hW1 j1 j2 h1 hI hr hr0 r1 r2 r3 r4 hs hsz hc hc' f1 f2 f3 hfin htotal hw hok hst hq1 hq2 hq3 hq4 hq5 hp1 hp2 hp3 hp4 hn1 hn2 hn3 hfn en
  go_enter Tryz.func37, Tryz.ntmps37
  go_wp2_with fail
  rw [HB.out.2.1]
  refine HN.out.mono ?_
  rintro e w2 ⟨rfl, hi, hk⟩
  have s2 := HB.out.2.2.1.kp hk (fun b hb e => by injection hb with hb; omega)
  have e2 := HB.out.2.2.2.kp hk (fun b hb e => by injection hb with hb; omega)
  have x0 : w2.cell? ⟨w.heap.size, 0, none⟩ = some (.map (some B)) := s2.cell 0
  have y1 : w2.cell? ⟨w.heap.size + 1, 1, none⟩ = some (.slice A1 n1 c1) := e2.cell 1
  have H2 := Lib.hid (And.intro hi (And.intro (kp_to (kp_below HB.out.1 (some B)) hk) (And.intro s2 e2)))
  clear hi hk s2 e2
  cases q1 with
  | false =>
    go_wp2_with fail
    go_ret
    exact retK (by rw [← HT.out]; rfl) (HM.out _ _ H2.out.1 (by omega)) H2.out.2.1
  | true =>
    go_wp2_with fail
    refine (HP.out _ H2.out.1).mono ?_
    rintro e w3 ⟨rfl, hi, hk⟩
    have s2 := H2.out.2.2.1.kp hk (fun b hb e => by injection hb with hb; omega)
    have e2 := H2.out.2.2.2.kp hk (fun b hb e => by injection hb with hb; omega)
    have x3 : w3.cell? ⟨w.heap.size, 0, none⟩ = some (.map (some B)) := s2.cell 0
    have y3 : w3.cell? ⟨w.heap.size + 1, 2, none⟩ = some (.slice A2 n2 c2) := e2.cell 2
    have H3 := Lib.hid (And.intro hi (And.intro (kp_to H2.out.2.1 hk) (And.intro s2 e2)))
    clear hi hk s2 e2 x0 y1
    cases q2 with
    | false =>
      go_wp2_with fail
      go_ret
      exact retK (by rw [← HT.out]; rfl) (HM.out _ _ H3.out.1 (by omega)) H3.out.2.1
    | true =>
      go_wp2_with fail
      refine (HL.out _ H3.out.1).mono ?_
      rintro e w4 ⟨rfl, hi, hk⟩
      have s2 := H3.out.2.2.1.kp hk (fun b hb e => by injection hb with hb; omega)
      have e2 := H3.out.2.2.2.kp hk (fun b hb e => by injection hb with hb; omega)
      have x4 : w4.cell? ⟨w.heap.size, 0, none⟩ = some (.map (some B)) := s2.cell 0
      have y4 : w4.cell? ⟨w.heap.size + 1, 3, none⟩ = some (.slice A3 n3 c3) := e2.cell 3
      have H4 := Lib.hid (And.intro hi (And.intro (kp_to H3.out.2.1 hk) (And.intro s2 e2)))
      clear hi hk s2 e2 x3 y3
      cases q3 with
      | false =>
        go_wp2_with fail
        go_ret
        exact retK (by rw [← HT.out]; rfl) (HM.out _ _ H4.out.1 (by omega)) H4.out.2.1
      | true =>
        go_wp2_with fail
        refine (HBo.out _ H4.out.1).mono ?_
        rintro e w5 ⟨rfl, hi, hk⟩
        have s2 := H4.out.2.2.1.kp hk (fun b hb e => by injection hb with hb; omega)
        have e2 := H4.out.2.2.2.kp hk (fun b hb e => by injection hb with hb; omega)
        have x5 : w5.cell? ⟨w.heap.size, 0, none⟩ = some (.map (some B)) := s2.cell 0
        obtain ⟨v4, v5, v6, v7, v8⟩ : w5.cell? ⟨w.heap.size + 1, 4, none⟩ = some (.int .i64 kd) ∧ w5.cell? ⟨w.heap.size + 1, 5, none⟩ = some (.int .i64 nn) ∧ w5.cell? ⟨w.heap.size + 1, 6, none⟩ = some (.string ⟨nm.toArray⟩) ∧ w5.cell? ⟨w.heap.size + 1, 7, none⟩ = some (.int .i64 op) ∧ w5.cell? ⟨w.heap.size + 1, 8, none⟩ = some (.slice A L cc) := ⟨e2.cell 4, e2.cell 5, e2.cell 6, e2.cell 7, e2.cell 8⟩
        have H5 := Lib.hid (And.intro hi (kp_to H4.out.2.1 hk))
        clear hi hk s2 e2 x4 y4
        cases q4 with
        | false =>
          go_wp2_with fail
          go_ret
          exact retK (by rw [← HT.out]; rfl) (HM.out _ _ H5.out.1 (by omega)) H5.out.2
        | true =>
          go_wp2_with fail
          refine (HV.out _ H5.out.1).mono ?_
          rintro e w6 ⟨rfl, hi, hk⟩
          have H6 := Lib.hid (And.intro hi (kp_to H5.out.2 hk))
          clear hi hk x5 v4 v5 v6 v7 v8
          go_wp2_with fail
          go_ret
          exact retK (by rw [← HT.out]; rfl) (HM.out _ _ H6.out.1 (by omega)) H6.out.2
end Go.Proofs.YtkjbjjiajopfpaaGreatDoor
