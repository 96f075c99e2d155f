/- Stage 3: the walk of function. -/
import Derived.Test.YtgiggkfnpbgkpaaGreatDoorBi
namespace Go.Proofs.YtgiggkfnpbgkpaaGreatDoor
open Go.RowKit (wrap64 intOf)
open Go Go.RowKit WM LX PX

set_option maxRecDepth 100000
set_option maxHeartbeats 4000000
theorem function_no (ts : List Tk) (p n : Nat) (s : PS) (q : FN × PS) (hq : Hid (fnF ts n s = q)) (hm : 5 * ms ts s + 9 ≤ n) (w : World) (h : PSt ts p s w) (hx : nx ts (pNF ts n (nmS ts s)).2 wVar = false) :
    Calls Tryz.prog 72 #[.pointer (some ⟨p, 0, none⟩)] w (FnP ts p q w) := by
  have hq := hq.out
  unfold fnF at hq
  obtain ⟨nm0, hv⟩ : ∃ x, nmV ts s = x := ⟨_, rfl⟩
  obtain ⟨s1, hs1⟩ : ∃ x, nmS ts s = x := ⟨_, rfl⟩
  have HV := Lib.hid hv
  have HS1 := Lib.hid hs1
  have m1 := ms_nmS (ts := ts) s
  rw [hv, hs1] at hq
  rw [hs1] at m1 hx
  obtain ⟨⟨ps, s2⟩, hp⟩ : ∃ x, pNF ts n s1 = x := ⟨_, rfl⟩
  have HP := Lib.hid hp
  have m2 := ms_pN (ts := ts) n s1
  rw [hp] at hq m2 hx
  dsimp only at hq m2 hx
  obtain ⟨⟨lc, s3⟩, hl⟩ : ∃ x, fnL ts n s2 = x := ⟨_, rfl⟩
  have m3 := ms_fnL (ts := ts) n s2
  rw [hl] at hq m3
  dsimp only at hq m3
  obtain ⟨s4, hs4⟩ : ∃ x, exs ts s3 cLc = x := ⟨_, rfl⟩
  have m4 := ms_exs (ts := ts) s3 (x := cLc) (by decide)
  rw [hs4] at hq m4
  obtain ⟨⟨bd, s5⟩, hbo⟩ : ∃ x, ssF ts n s4 = x := ⟨_, rfl⟩
  have HBo := Lib.hid hbo
  have m5 := (ms_st (ts := ts) n).1 s4
  rw [hbo] at hq m5
  dsimp only at hq m5
  obtain ⟨s6, hs6⟩ : ∃ x, exs ts s5 wReturn = x := ⟨_, rfl⟩
  have HS6 := Lib.hid hs6
  have m6 := ms_exs (ts := ts) s5 (x := wReturn) (by decide)
  rw [hs6] at hq m6
  obtain ⟨⟨ve, s7⟩, he⟩ : ∃ x, exF ts n s6 = x := ⟨_, rfl⟩
  have HE := Lib.hid he
  rw [he] at hq
  dsimp only at hq
  obtain ⟨s8, hs8⟩ : ∃ x, exs ts s7 cSemi = x := ⟨_, rfl⟩
  have HS8 := Lib.hid hs8
  rw [hs8] at hq
  obtain ⟨s9, hs9⟩ : ∃ x, exs ts s8 cRc = x := ⟨_, rfl⟩
  have HS9 := Lib.hid hs9
  rw [hs9] at hq
  subst hq
  have hP : ms ts s1 + 1 ≤ n := by omega
  have hB : 5 * ms ts s4 + 7 ≤ n := by omega
  have hE : 5 * ms ts s6 + 4 ≤ n := by omega
  have o := Own.start h 47 #[.string ⟨#[]⟩, .slice none 0 0, .slice none 0 0, .slice none 0 0, .int .i64 0, .int .i64 0, .string ⟨#[]⟩, .int .i64 0, .slice none 0 0]
  have HL0 := Lib.hid hl
  have HS40 := Lib.hid hs4
  have HM3 := Lib.hid m2
  clear hv hs1 hp hl hs4 hbo hs6 he hs8 hs9 h m1 m2 m3 m4 m5 m6
  have hl := HL0.out
  unfold fnL at hl
  rw [if_neg (by rw [hx]; decide)] at hl
  obtain ⟨rfl, rfl⟩ : [] = lc ∧ s2 = s3 := ⟨congrArg Prod.fst hl, congrArg Prod.snd hl⟩
  have HX := Lib.hid hx
  have HS4 := HS40
  clear hl hx HL0
  go_enter Tryz.func72, Tryz.ntmps72
  go_wp2_with fail
  refine (name_any ts p s s1 nm0 HV HS1 _ o.s).mono ?_
  rintro e w1 ⟨rfl, hg, hp⟩
  have hK := Blk.new w1 47 #[.string ⟨nm0.toArray⟩, .slice none 0 0, .slice none 0 0, .slice none 0 0, .int .i64 0, .int .i64 0, .string ⟨#[]⟩, .int .i64 0, .slice none 0 0]
  have hwg := Nat.lt_of_lt_of_le o.sz hg.size
  have hpg := Nat.lt_trans o.p hwg
  replace o := (o.acc hg hp).al (.cells #[.string ⟨nm0.toArray⟩, .slice none 0 0, .slice none 0 0, .slice none 0 0, .int .i64 0, .int .i64 0, .string ⟨#[]⟩, .int .i64 0, .slice none 0 0] 47)
  clear hg hp
  go_wp2_with fail
  generalize hgg : w1.heap.size = g at *
  refine (pnlist_any ts p n s1 _ HP hP _ o.s).mono ?_
  rintro e w2 ⟨A1, L1, c1, rfl, h1, hg, hp⟩
  have hlw := hK.lt
  replace h1 := pl_new (g := g) h1 keepsN hlw
  clear hlw
  replace o := o.acc hg hp
  replace hK := hK.gr hg (Nat.ne_of_lt hpg)
  clear hg hp
  obtain ⟨a1, b1⟩ : World.cell? w2 ⟨g, 1, none⟩ = some (.slice none 0 0) ∧ World.frozen? w2 ⟨g, 1, none⟩ = false := ⟨hK.cell 1, hK.free 1⟩
  go_wp2_with fail
  replace hK := hK.set 1 (.slice A1 L1 c1)
  replace o := o.far (a := ⟨g, 1, none⟩) (by show w.heap.size < g; exact hwg) (.slice A1 L1 c1)
  replace h1 := pl_set (i := 1) h1 keepsN (.slice A1 L1 c1)
  clear a1 b1
  refine (accept_no ts p s2 wVar HX _ o.s).mono ?_
  rintro e w3 ⟨rfl, hg, hp⟩
  replace o := o.acc hg hp
  replace hK := hK.gr hg (Nat.ne_of_lt hpg)
  replace h1 := pl_acc h1 keepsN hpg hg
  clear hg hp
  go_wp2_with fail
  refine (expect_any ts p s2 s4 cLc (by decide) HS4 _ o.s).mono ?_
  rintro e w5 ⟨rfl, hg, hp⟩
  replace o := o.acc hg hp
  replace hK := hK.gr hg (Nat.ne_of_lt hpg)
  replace h1 := pl_acc h1 keepsN hpg hg
  clear hg hp
  go_wp2_with fail
  refine (statements_any ts p n s4 _ _ HBo hB o.s).mono ?_
  rintro e w6 ⟨A3, L3, c3, rfl, h3, hg, hp⟩
  have hlw := hK.lt
  replace h3 := pl_new (g := g) h3 keepsS hlw
  clear hlw
  replace o := o.acc hg hp
  replace hK := hK.gr hg (Nat.ne_of_lt hpg)
  replace h1 := pl_acc h1 keepsN hpg hg
  clear hg hp
  obtain ⟨a3, b3⟩ : World.cell? w6 ⟨g, 3, none⟩ = some (.slice none 0 0) ∧ World.frozen? w6 ⟨g, 3, none⟩ = false := ⟨hK.cell 3, hK.free 3⟩
  go_wp2_with fail
  replace hK := hK.set 3 (.slice A3 L3 c3)
  replace o := o.far (a := ⟨g, 3, none⟩) (by show w.heap.size < g; exact hwg) (.slice A3 L3 c3)
  replace h1 := pl_set (i := 3) h1 keepsN (.slice A3 L3 c3)
  replace h3 := pl_set (i := 3) h3 keepsS (.slice A3 L3 c3)
  clear a3 b3
  refine (expect_any ts p s5 s6 wReturn (by decide) HS6 _ o.s).mono ?_
  rintro e w7 ⟨rfl, hg, hp⟩
  replace o := o.acc hg hp
  replace hK := hK.gr hg (Nat.ne_of_lt hpg)
  replace h1 := pl_acc h1 keepsN hpg hg
  replace h3 := pl_acc h3 keepsS hpg hg
  clear hg hp
  go_wp2_with fail
  refine (expression_any ts p n s6 _ _ HE hE o.s).mono ?_
  rintro e w8 ⟨kd, nn, nm, op, A, L, c, rfl, h4, hg, hp⟩
  have hlw := hK.lt
  replace h4 := pe_new (g := g) h4 hlw
  clear hlw
  replace o := o.acc hg hp
  replace hK := hK.gr hg (Nat.ne_of_lt hpg)
  replace h1 := pl_acc h1 keepsN hpg hg
  replace h3 := pl_acc h3 keepsS hpg hg
  clear hg hp
  obtain ⟨a4, b4⟩ : World.cell? w8 ⟨g, 4, none⟩ = some (.int .i64 0) ∧ World.frozen? w8 ⟨g, 4, none⟩ = false := ⟨hK.cell 4, hK.free 4⟩
  obtain ⟨a5, b5⟩ : World.cell? w8 ⟨g, 5, none⟩ = some (.int .i64 0) ∧ World.frozen? w8 ⟨g, 5, none⟩ = false := ⟨hK.cell 5, hK.free 5⟩
  obtain ⟨a6, b6⟩ : World.cell? w8 ⟨g, 6, none⟩ = some (.string ⟨#[]⟩) ∧ World.frozen? w8 ⟨g, 6, none⟩ = false := ⟨hK.cell 6, hK.free 6⟩
  obtain ⟨a7, b7⟩ : World.cell? w8 ⟨g, 7, none⟩ = some (.int .i64 0) ∧ World.frozen? w8 ⟨g, 7, none⟩ = false := ⟨hK.cell 7, hK.free 7⟩
  obtain ⟨a8, b8⟩ : World.cell? w8 ⟨g, 8, none⟩ = some (.slice none 0 0) ∧ World.frozen? w8 ⟨g, 8, none⟩ = false := ⟨hK.cell 8, hK.free 8⟩
  go_wp2_with fail
  replace hK := hK.set 4 (.int .i64 kd)
  replace o := o.far (a := ⟨g, 4, none⟩) (by show w.heap.size < g; exact hwg) (.int .i64 kd)
  replace h1 := pl_set (i := 4) h1 keepsN (.int .i64 kd)
  replace h3 := pl_set (i := 4) h3 keepsS (.int .i64 kd)
  replace h4 := pe_set (i := 4) h4 (.int .i64 kd)
  replace hK := hK.set 5 (.int .i64 nn)
  replace o := o.far (a := ⟨g, 5, none⟩) (by show w.heap.size < g; exact hwg) (.int .i64 nn)
  replace h1 := pl_set (i := 5) h1 keepsN (.int .i64 nn)
  replace h3 := pl_set (i := 5) h3 keepsS (.int .i64 nn)
  replace h4 := pe_set (i := 5) h4 (.int .i64 nn)
  replace hK := hK.set 6 (.string ⟨nm.toArray⟩)
  replace o := o.far (a := ⟨g, 6, none⟩) (by show w.heap.size < g; exact hwg) (.string ⟨nm.toArray⟩)
  replace h1 := pl_set (i := 6) h1 keepsN (.string ⟨nm.toArray⟩)
  replace h3 := pl_set (i := 6) h3 keepsS (.string ⟨nm.toArray⟩)
  replace h4 := pe_set (i := 6) h4 (.string ⟨nm.toArray⟩)
  replace hK := hK.set 7 (.int .i64 op)
  replace o := o.far (a := ⟨g, 7, none⟩) (by show w.heap.size < g; exact hwg) (.int .i64 op)
  replace h1 := pl_set (i := 7) h1 keepsN (.int .i64 op)
  replace h3 := pl_set (i := 7) h3 keepsS (.int .i64 op)
  replace h4 := pe_set (i := 7) h4 (.int .i64 op)
  replace hK := hK.set 8 (.slice A L c)
  replace o := o.far (a := ⟨g, 8, none⟩) (by show w.heap.size < g; exact hwg) (.slice A L c)
  replace h1 := pl_set (i := 8) h1 keepsN (.slice A L c)
  replace h3 := pl_set (i := 8) h3 keepsS (.slice A L c)
  replace h4 := pe_set (i := 8) h4 (.slice A L c)
  have hK' : Blk (World.setCell (World.setCell (World.setCell (World.setCell (World.setCell w8 ⟨g, 4, none⟩ (.int .i64 kd)) ⟨g, 5, none⟩ (.int .i64 nn)) ⟨g, 6, none⟩ (.string ⟨nm.toArray⟩)) ⟨g, 7, none⟩ (.int .i64 op)) ⟨g, 8, none⟩ (.slice A L c)) g 47 #[.string ⟨nm0.toArray⟩, .slice A1 L1 c1, .slice none 0 0, .slice A3 L3 c3, .int .i64 kd, .int .i64 nn, .string ⟨nm.toArray⟩, .int .i64 op, .slice A L c] := hK
  clear hK
  have hK := hK'
  clear hK'
  clear a4 b4 a5 b5 a6 b6 a7 b7 a8 b8
  refine (expect_any ts p s7 s8 cSemi (by decide) HS8 _ o.s).mono ?_
  rintro e w9 ⟨rfl, hg, hp⟩
  replace o := o.acc hg hp
  replace hK := hK.gr hg (Nat.ne_of_lt hpg)
  replace h1 := pl_acc h1 keepsN hpg hg
  replace h3 := pl_acc h3 keepsS hpg hg
  replace h4 := pe_acc h4 hpg hg
  clear hg hp
  go_wp2_with fail
  refine (expect_any ts p s8 s9 cRc (by decide) HS9 _ o.s).mono ?_
  rintro e w10 ⟨rfl, hg, hp⟩
  replace o := o.acc hg hp
  replace hK := hK.gr hg (Nat.ne_of_lt hpg)
  replace h1 := pl_acc h1 keepsN hpg hg
  replace h3 := pl_acc h3 keepsS hpg hg
  replace h4 := pe_acc h4 hpg hg
  clear hg hp
  go_wp2_with (first | (refine wpList_load_row rfl _ _ rfl g rfl _ _ _ _ hK Tryz.underlying47 rfl fnSize ?_) | (refine wpList_store_row rfl _ _ _ rfl w.heap.size #[.string ⟨nm0.toArray⟩, .slice A1 L1 c1, .slice none 0 0, .slice A3 L3 c3, .int .i64 kd, .int .i64 nn, .string ⟨nm.toArray⟩, .int .i64 op, .slice A L c] rfl rfl _ _ o.r fnSize rfl (by simp [Value.oneCell']) ?_))
  have hfin : RepF w10 (Rg (g + 1) w10.heap.size) ⟨nm0, ps, [], bd, ve⟩ [.string ⟨nm0.toArray⟩, .slice A1 L1 c1, .slice none 0 0, .slice A3 L3 c3, .int .i64 kd, .int .i64 nn, .string ⟨nm.toArray⟩, .int .i64 op, .slice A L c] :=
    ⟨A1, L1, c1, none, 0, 0, A3, L3, c3, kd, nn, nm, op, A, L, c, rfl, h1, repL_nil _ _ _ _, h3, h4⟩
  exact bodyPost_ret (results_cell_row rfl _ _ _ _ _ _ _ rfl (row_blk o.r _) Tryz.underlying47 rfl fnSize) rfl
    ⟨_, rfl, rfl, by simp [Value.oneCell'], keepsF.k hfin (fun x h => ⟨Nat.le_trans (Nat.le_of_lt hwg) (Nat.le_of_succ_le h.1), by rw [row_size]; exact h.2⟩) (fun x h => row_far _ _ _ _ (by have := h.1; omega)), row_grown o.g (Nat.le_refl _) _, row_pst o.s o.p _⟩
end Go.Proofs.YtgiggkfnpbgkpaaGreatDoor
