/- Stage 7: the walk of isValidGraph (hasIdenticalNodes is a premise). -/
import Derived.Test.YtpgnlfdindmopaaGreatDoorRr
namespace Go.Proofs.YtpgnlfdindmopaaGreatDoor
open Go.RowKit (wrap64 intOf)
open Go Go.RowKit WM LX PX CX GX

set_option maxRecDepth 100000
set_option maxHeartbeats 4000000
def vgR (na : Nat) (fs : List GR) (par : Int) (l : List ND) (val st : Int) (idn : Bool) : Option (List Nat) → Bool
  | none => false
  | some ss => !idn && (refB na fs par l && (conB l && (resB ss (loopsF l) val 1 && resB ss (loopsF l) st 2)))
def vgB (na : Nat) (fs : List GR) (par : Int) (l : List ND) (val st : Int) (idn : Bool) : Bool :=
  if par < 0 ∨ 6 < par ∨ 2000 < l.length then false else vgR na fs par l val st idn (sortsF l)
theorem vg_any (na : Nat) (Aa : Option Addr) (ca : Nat) (fs : List GR) (vf : Value) (nm : ByteArray) (par val st : Int) (l : List ND) (v : Value) (w : World) (ok : Nat → Prop) (hl : RepL RepD 3 w ok l v) (hfs : RepL RepGr 5 w ok fs vf) (hok : ∀ g, ok g → g < w.heap.size) (hf : Fits l)
    (idn : Bool) (hid : ∀ W, Below w.heap.size w W → Calls Tryz.prog 54 #[v] W (RetN (.bool idn) W)) :
    Calls Tryz.prog 29 #[.agg #[.slice Aa na ca, vf], grV nm par v val st] w (RetN (.bool (vgB na fs par l val st idn)) w) := by
  have hll := hf.1
  have HL := Lib.hid (And.intro hl (And.intro hfs (And.intro hok hf)))
  have hkl := fun W (hW : Below w.heap.size w W) => hl.keep (w' := W) (ok' := ok) keepsD (fun _ h => h) (fun g hg => hW.block g (hok g hg))
  have hkf := fun W (hW : Below w.heap.size w W) => hfs.keep (w' := W) (ok' := ok) keepsGr (fun _ h => h) (fun g hg => hW.block g (hok g hg))
  have hko := fun W (hW : Below w.heap.size w W) g (hg : ok g) => Nat.lt_of_lt_of_le (hok g hg) hW.size
  obtain ⟨A, c, rfl, _⟩ := hl.at
  obtain ⟨Af, cf, rfl, _⟩ := hfs.at
  have hsa := fun W hW => sa_any l _ W ok (hkl W hW) (hko W hW) hf
  obtain ⟨N, hN⟩ : ∃ N, l.length = N := ⟨_, rfl⟩
  obtain ⟨F, hF⟩ : ∃ F, fs.length = F := ⟨_, rfl⟩
  obtain ⟨R, hR⟩ : ∃ R, vgB na fs par l val st idn = R := ⟨_, rfl⟩
  have HR := Lib.hid hR
  rw [hN] at hll
  rw [hR]
  have HNF := Lib.hid (And.intro hN hF)
  obtain ⟨W1, hW1⟩ : ∃ W1, (w.alloc (.cells #[.slice Aa na ca, .slice Af F cf] 57)).alloc (.cells #[.string nm, .int .i64 par, .slice A N c, .int .i64 val, .int .i64 st] 52) = W1 := ⟨_, rfl⟩
  have hb1 : Below w.heap.size w W1 := by rw [← hW1]; exact ((Below.refl _ _).alloc (Nat.le_refl _) _).alloc (by simp) _
  have kU : Blk W1 w.heap.size 57 #[.slice Aa na ca, .slice Af F cf] := by rw [← hW1]; exact (Blk.new _ _ _).alloc _
  have kG : Blk W1 (w.heap.size + 1) 52 #[.string nm, .int .i64 par, .slice A N c, .int .i64 val, .int .i64 st] := by rw [← hW1]; exact blk_at (by simp) _ _
  have HW := Lib.hid (And.intro hW1 (And.intro hb1 (And.intro kU kG)))
  have hfa : ∀ W, Below W1.heap.size W1 W → (W.cell? ⟨w.heap.size, 0, none⟩ = some (.slice Aa na ca) ∧ W.cell? ⟨w.heap.size, 1, none⟩ = some (.slice Af F cf)) ∧ (W.cell? ⟨w.heap.size + 1, 0, none⟩ = some (.string nm) ∧ W.cell? ⟨w.heap.size + 1, 1, none⟩ = some (.int .i64 par) ∧ W.cell? ⟨w.heap.size + 1, 2, none⟩ = some (.slice A N c) ∧ W.cell? ⟨w.heap.size + 1, 3, none⟩ = some (.int .i64 val) ∧ W.cell? ⟨w.heap.size + 1, 4, none⟩ = some (.int .i64 st)) ∧ w.heap.size < W.heap.size ∧ w.heap.size + 1 < W.heap.size :=
    fun W hW => ⟨⟨(kU.on hW kU.lt).cell 0, (kU.on hW kU.lt).cell 1⟩, ⟨(kG.on hW kG.lt).cell 0, (kG.on hW kG.lt).cell 1, (kG.on hW kG.lt).cell 2, (kG.on hW kG.lt).cell 3, (kG.on hW kG.lt).cell 4⟩, (kU.on hW kU.lt).lt, (kG.on hW kG.lt).lt⟩
  have HFA := Lib.hid hfa
  obtain ⟨⟨u0, u1⟩, ⟨g0, g1, g2, g3, g4⟩, hlU, hlG⟩ := hfa W1 (Below.refl _ _)
  rw [hN] at hid hsa
  rw [hN, hF]
  have HC := Lib.hid (And.intro hsa (And.intro hid (And.intro hkl (And.intro hkf hko))))
  have hn0 : (0 : Int) ≤ (N : Int) := by omega
  clear hl hfs hok hkl hkf hko hsa hid hN hF hR hW1 hb1 kU kG hfa hf
  by_cases hp0 : par < 0
  · have hr : false = R := by rw [← HR.out]; unfold vgB; rw [if_pos (.inl hp0)]
    have HRR := Lib.hid hr
    clear hr
    go_enter Tryz.func29, Tryz.ntmps29
    go_wp2_with fail
    go_ret
    exact retN (congrArg Value.bool HRR.out) (((Below.refl _ _).alloc (Nat.le_refl _) _).alloc (by simp) _)
  by_cases hp6 : 6 < par
  · have hr : false = R := by rw [← HR.out]; unfold vgB; rw [if_pos (.inr (.inl hp6))]
    have HRR := Lib.hid hr
    have hp : 0 ≤ par := by omega
    clear hr hp0
    go_enter Tryz.func29, Tryz.ntmps29
    go_wp2_with fail
    go_ret
    exact retN (congrArg Value.bool HRR.out) (((Below.refl _ _).alloc (Nat.le_refl _) _).alloc (by simp) _)
  by_cases hn2 : 2000 < N
  · have hr : false = R := by rw [← HR.out]; unfold vgB; rw [if_pos (.inr (.inr (by rw [HNF.out.1]; exact hn2)))]
    have HRR := Lib.hid hr
    have hp : 0 ≤ par := by omega
    have hq : par ≤ 6 := by omega
    have hn3 : (2000 : Int) < (N : Int) := by omega
    clear hr hp0 hp6
    go_enter Tryz.func29, Tryz.ntmps29
    go_wp2_with fail
    go_ret
    exact retN (congrArg Value.bool HRR.out) (((Below.refl _ _).alloc (Nat.le_refl _) _).alloc (by simp) _)
  have hp : 0 ≤ par := by omega
  have hq : par ≤ 6 := by omega
  have hn3 : (N : Int) ≤ 2000 := by omega
  obtain ⟨q, hqs⟩ : ∃ q, sortsF l = q := ⟨_, rfl⟩
  have hrr : vgR na fs par l val st idn q = R := by
    rw [← HR.out, ← hqs]
    unfold vgB
    rw [if_neg (by rw [HNF.out.1]; omega)]
  have HRR := Lib.hid hrr
  have hsa := HC.out.1 W1 HW.out.2.1
  rw [hqs] at hsa
  have HSA := Lib.hid hsa
  have HQS := Lib.hid hqs
  clear hsa hqs hrr hp0 hp6 hn2
  cases q with
  | none =>
    go_enter Tryz.func29, Tryz.ntmps29
    go_wp2_with fail
    rw [HW.out.1]
    (with_reducible refine HSA.out.mono ?_)
    rintro e w2 ⟨hb2, rfl⟩
    have HB2 : Hid (Below w.heap.size w w2) := Lib.hid (HW.out.2.1.trans (below_down hb2 HW.out.2.1.size))
    clear hb2
    go_wp2_with fail
    go_ret
    exact retN (congrArg Value.bool HRR.out) (HB2.out.alloc HB2.out.size _)
  | some ss =>
    obtain ⟨hss, hear, himm⟩ := sorts_prop HQS.out
    have h30 : ∀ n ∈ l, n.op = 30 → 0 ≤ n.imm := fun n hn ho => by have := (himm n hn).1; rw [ho] at this; exact this
    have h31 : ∀ n ∈ l, n.op = 31 → 0 ≤ n.imm ∧ n.imm ≤ 15 := fun n hn ho => by have := himm n hn; rw [ho] at this; exact this
    have h03 : ∀ n ∈ l, n.op = 3 → 0 ≤ n.imm ∧ n.imm ≤ 255 := fun n hn ho => by have := himm n hn; rw [ho] at this; exact this
    obtain ⟨hl, hfs, hok, hf⟩ := HL.out
    have hre := fun W (hW : Below w.heap.size w W) => re_any na Aa ca fs _ nm par val st l _ W ok (HC.out.2.2.1 W hW) (HC.out.2.2.2.1 W hW) (HC.out.2.2.2.2 W hW) hf h30
    have hco := fun W (hW : Below w.heap.size w W) => con_any l _ W ok (HC.out.2.2.1 W hW) (HC.out.2.2.2.2 W hW) hf h31 h03
    have hlo := fun W (hW : Below w.heap.size w W) => lo_any l _ W ok (HC.out.2.2.1 W hW) (HC.out.2.2.2.2 W hW) hf hear h31 h03
    obtain ⟨rb, hrb⟩ : ∃ b, refB na fs par l = b := ⟨_, rfl⟩
    obtain ⟨cb, hcb⟩ : ∃ b, conB l = b := ⟨_, rfl⟩
    rw [HNF.out.1, HNF.out.2, hrb] at hre
    rw [HNF.out.1, hcb] at hco
    rw [HNF.out.1] at hlo hss
    have hr2 : (!idn && (rb && (cb && (resB ss (loopsF l) val 1 && resB ss (loopsF l) st 2)))) = R := by rw [← hrb, ← hcb]; exact HRR.out
    have HC2 := Lib.hid (And.intro hre (And.intro hco (And.intro hlo (And.intro hss hr2))))
    clear hl hfs hok hf hre hco hlo hss hr2 hear himm h30 h31 h03 hrb hcb
    go_enter Tryz.func29, Tryz.ntmps29
    go_wp2_with fail
    rw [HW.out.1]
    (with_reducible refine HSA.out.mono ?_)
    rintro e w2 ⟨hb2, S, cS, rfl, kS⟩
    rw [HC2.out.2.2.2.1]
    obtain ⟨w3, hw3⟩ : ∃ w3, w2.alloc (.cells #[.slice (some ⟨S, 0, none⟩) N cS] 88) = w3 := ⟨_, rfl⟩
    have hb3 : Below w2.heap.size w2 w3 := by rw [← hw3]; exact (Below.refl _ _).alloc (Nat.le_refl _) _
    have k5 : Blk w3 w2.heap.size 88 #[.slice (some ⟨S, 0, none⟩) N cS] := by rw [← hw3]; exact Blk.new _ _ _
    have kS3 := kS.on hb3 kS.lt
    have hB : Below W1.heap.size W1 w3 := hb2.trans (below_down hb3 hb2.size)
    obtain ⟨B5, hB5⟩ : ∃ B, w2.heap.size = B := ⟨_, rfl⟩
    have H3 := Lib.hid (And.intro hw3 (And.intro hB (And.intro (hB5 ▸ k5) kS3)))
    obtain ⟨⟨v0, v1⟩, ⟨f0, f1, f2, f3, f4⟩, hm0, hm1⟩ := HFA.out _ (hb2.alloc hb2.size (.cells #[.slice (some ⟨S, 0, none⟩) N cS] 88))
    have HBW3 := Lib.hid (HW.out.2.1.trans (below_down hB HW.out.2.1.size))
    have hb5lt : B5 < w3.heap.size := hB5 ▸ k5.lt
    clear hb2 kS hw3 hb3 k5 kS3 hB u0 u1 g0 g1 g2 g3 g4 hlU hlG
    go_wp2_with fail
    rw [H3.out.1]
    try rw [hB5]
    (with_reducible refine (HC.out.2.1 w3 HBW3.out).mono ?_)
    rintro e w4 ⟨rfl, hb4⟩
    have hB4 : Below W1.heap.size W1 w4 := (H3.out.2.1 : Below W1.heap.size W1 w3).trans (below_down hb4 (H3.out.2.1 : Below W1.heap.size W1 w3).size)
    have H4 := Lib.hid (And.intro (HW.out.2.1.trans (below_down hB4 HW.out.2.1.size)) (And.intro hB4 (And.intro (H3.out.2.2.1.on hb4 H3.out.2.2.1.lt) (H3.out.2.2.2.on hb4 H3.out.2.2.2.lt))))
    clear v0 v1 f0 f1 f2 f3 f4 hm0 hm1
    obtain ⟨⟨v0, v1⟩, ⟨f0, f1, f2, f3, f4⟩, hm0, hm1⟩ := HFA.out w4 hB4
    clear hb4 hB4
    cases idn with
    | true =>
      go_wp2_with fail
      go_ret
      exact retN (congrArg Value.bool (by rw [← HC2.out.2.2.2.2]; rfl)) H4.out.1
    | false =>
      go_wp2_with fail
      (with_reducible refine (HC2.out.1 w4 H4.out.1).mono ?_)
      rintro e w5 ⟨rfl, hb5⟩
      have hB5 : Below W1.heap.size W1 w5 := H4.out.2.1.trans (below_down hb5 H4.out.2.1.size)
      have H5 := Lib.hid (And.intro (HW.out.2.1.trans (below_down hB5 HW.out.2.1.size)) (And.intro hB5 (And.intro (H4.out.2.2.1.on hb5 H4.out.2.2.1.lt) (H4.out.2.2.2.on hb5 H4.out.2.2.2.lt))))
      clear v0 v1 f0 f1 f2 f3 f4 hm0 hm1
      obtain ⟨⟨v0, v1⟩, ⟨f0, f1, f2, f3, f4⟩, hm0, hm1⟩ := HFA.out w5 hB5
      clear hb5 hB5
      cases rb with
      | false =>
        go_wp2_with fail
        go_ret
        exact retN (congrArg Value.bool (by rw [← HC2.out.2.2.2.2]; rfl)) H5.out.1
      | true =>
        go_wp2_with fail
        (with_reducible refine (HC2.out.2.1 w5 H5.out.1).mono ?_)
        rintro e w6 ⟨rfl, hb6⟩
        have hB6 : Below W1.heap.size W1 w6 := H5.out.2.1.trans (below_down hb6 H5.out.2.1.size)
        have H6 := Lib.hid (And.intro (HW.out.2.1.trans (below_down hB6 HW.out.2.1.size)) (And.intro hB6 (And.intro (H5.out.2.2.1.on hb6 H5.out.2.2.1.lt) (H5.out.2.2.2.on hb6 H5.out.2.2.2.lt))))
        clear v0 v1 f0 f1 f2 f3 f4 hm0 hm1
        obtain ⟨⟨v0, v1⟩, ⟨f0, f1, f2, f3, f4⟩, hm0, hm1⟩ := HFA.out w6 hB6
        clear hb6 hB6
        cases cb with
        | false =>
          go_wp2_with fail
          go_ret
          exact retN (congrArg Value.bool (by rw [← HC2.out.2.2.2.2]; rfl)) H6.out.1
        | true =>
          go_wp2_with fail
          (with_reducible refine (HC2.out.2.2.1 w6 H6.out.1).mono ?_)
          rintro e w7 ⟨T, cT, rfl, kT, hb7⟩
          rw [HNF.out.1]
          obtain ⟨w8, hw8⟩ : ∃ w8, w7.alloc (.cells #[.slice (some ⟨T, 0, none⟩) N cT] 124) = w8 := ⟨_, rfl⟩
          have hb8 : Below w7.heap.size w7 w8 := by rw [← hw8]; exact (Below.refl _ _).alloc (Nat.le_refl _) _
          have k7 : Blk w8 w7.heap.size 124 #[.slice (some ⟨T, 0, none⟩) N cT] := by rw [← hw8]; exact Blk.new _ _ _
          have kT8 := kT.on hb8 kT.lt
          have hB8 : Below w6.heap.size w6 w8 := hb7.trans (below_down hb8 hb7.size)
          have k58 := H6.out.2.2.1.on hB8 H6.out.2.2.1.lt
          have kS8 := H6.out.2.2.2.on hB8 H6.out.2.2.2.lt
          have hB1 : Below W1.heap.size W1 w8 := H6.out.2.1.trans (below_down hB8 H6.out.2.1.size)
          clear v0 v1 f0 f1 f2 f3 f4 hm0 hm1
          obtain ⟨⟨v0, v1⟩, ⟨f0, f1, f2, f3, f4⟩, hm0, hm1⟩ := HFA.out _ ((H6.out.2.1.trans (below_down hb7 H6.out.2.1.size)).alloc (Nat.le_trans H6.out.2.1.size hb7.size) (.cells #[.slice (some ⟨T, 0, none⟩) N cT] 124))
          have z4 := (HFA.out w8 hB1).2.1.2.2.2.2
          have hll2 : (loopsF l).length = N := by unfold loopsF; rw [lp_len, List.length_replicate]; exact HNF.out.1
          obtain ⟨B7, hB7⟩ : ∃ B, w7.heap.size = B := ⟨_, rfl⟩
          have hc1 : Calls Tryz.prog 58 #[.int .i64 val, .int .u8 1, .pointer (some ⟨B5, 0, none⟩), .pointer (some ⟨B7, 0, none⟩)] w8 (fun e w' => e = .returned (.bool (resB ss (loopsF l) val 1)) ∧ w8 = w') := cl_any ss (loopsF l) val 1 w8 S T B5 B7 N cS cT _ _ _ _ kS8 kT8 HC2.out.2.2.2.1 hll2 k58 (hB7 ▸ k7)
          have hc2 : Calls Tryz.prog 58 #[.int .i64 st, .int .u8 2, .pointer (some ⟨B5, 0, none⟩), .pointer (some ⟨B7, 0, none⟩)] w8 (fun e w' => e = .returned (.bool (resB ss (loopsF l) st 2)) ∧ w8 = w') := cl_any ss (loopsF l) st 2 w8 S T B5 B7 N cS cT _ _ _ _ kS8 kT8 HC2.out.2.2.2.1 hll2 k58 (hB7 ▸ k7)
          obtain ⟨r1, hr1⟩ : ∃ r, resB ss (loopsF l) val 1 = r := ⟨_, rfl⟩
          obtain ⟨r2, hr2⟩ : ∃ r, resB ss (loopsF l) st 2 = r := ⟨_, rfl⟩
          rw [hr1] at hc1
          rw [hr2] at hc2
          have hfin : (r1 && r2) = R := by rw [← hr1, ← hr2]; exact HC2.out.2.2.2.2
          have hb7lt : B7 < w8.heap.size := hB7 ▸ k7.lt
          have H8 := Lib.hid (And.intro (HW.out.2.1.trans (below_down hB1 HW.out.2.1.size)) (And.intro hw8 hfin))
          have HCL1 := Lib.hid hc1
          have HCL2 := Lib.hid hc2
          clear hb7 kT hw8 hb8 k7 kT8 hB8 k58 kS8 hB1 hll2 hc1 hc2 hr1 hr2 hfin
          go_wp2_with fail
          rw [H8.out.2.1]
          try rw [hB7]
          (with_reducible refine HCL1.out.mono ?_)
          rintro e w' ⟨rfl, rfl⟩
          cases r1 with
          | false =>
            go_wp2_with fail
            go_ret
            exact retN (congrArg Value.bool (by rw [← H8.out.2.2]; rfl)) H8.out.1
          | true =>
            go_wp2_with fail
            (with_reducible refine HCL2.out.mono ?_)
            rintro e w' ⟨rfl, rfl⟩
            go_wp2_with fail
            go_ret
            exact retN (congrArg Value.bool (by rw [← H8.out.2.2]; rfl)) H8.out.1
end Go.Proofs.YtpgnlfdindmopaaGreatDoor
