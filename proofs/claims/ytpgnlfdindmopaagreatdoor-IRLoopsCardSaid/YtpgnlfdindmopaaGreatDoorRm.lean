/- Stage 7: the walk of sortsOfAll. -/
import Derived.Test.YtpgnlfdindmopaaGreatDoorRj
namespace Go.Proofs.YtpgnlfdindmopaaGreatDoor
open Go.RowKit (wrap64 intOf)
open Go Go.RowKit WM LX PX CX GX

set_option maxRecDepth 100000
set_option maxHeartbeats 4000000
theorem al_0 (l : List ND) (j : Nat) (ss : List Nat) : allF l 0 j ss = some ss := rfl
theorem al_no {l : List ND} {g j : Nat} {ss : List Nat} (h : earB (l.getD j nd0) j = false) : allF l (g + 1) j ss = none := by rw [allF, h]; rfl
theorem al_bad {l : List ND} {g j : Nat} {ss : List Nat} (h : earB (l.getD j nd0) j = true) (h2 : srtF l (l.getD j nd0) ss = 0) : allF l (g + 1) j ss = none := by rw [allF, h, h2]; rfl
theorem al_ok {l : List ND} {g j : Nat} {ss : List Nat} (h : earB (l.getD j nd0) j = true) (h2 : srtF l (l.getD j nd0) ss ≠ 0) : allF l (g + 1) j ss = allF l g (j + 1) (ss.set j (srtF l (l.getD j nd0) ss)) := by
  rw [allF, h, if_pos rfl, if_neg h2]
theorem al_prop (l : List ND) : ∀ (g j : Nat) (ss ss' : List Nat), allF l g j ss = some ss' → ss'.length = ss.length ∧ ((∀ x ∈ ss, x ≤ 3) → ∀ x ∈ ss', x ≤ 3) ∧ ∀ k, j ≤ k → k < j + g → earB (l.getD k nd0) k = true := fun g => by
  induction g with
  | zero =>
    intro j ss ss' h
    rw [al_0] at h
    injection h with h
    subst h
    exact ⟨rfl, id, fun k h1 h2 => by omega⟩
  | succ g ih =>
    intro j ss ss' h
    cases hb : earB (l.getD j nd0) j with
    | false => rw [al_no hb] at h; cases h
    | true =>
      by_cases hz : srtF l (l.getD j nd0) ss = 0
      · rw [al_bad hb hz] at h; cases h
      · rw [al_ok hb hz] at h
        obtain ⟨h1, h2, h3⟩ := ih _ _ _ h
        rw [List.length_set] at h1
        refine ⟨h1, fun hs => h2 (fun x hx => by
          rcases List.mem_or_eq_of_mem_set hx with h | h
          · exact hs x h
          · rw [h]; exact srtF_le l _ hs), fun k hk1 hk2 => ?_⟩
        by_cases e : k = j
        · subst e; exact hb
        · exact h3 k (by omega) (by omega)
def SaR (l : List ND) (R : Option (List Nat)) (N S : Nat) (w : World) (z : Value) (wr : World) : Prop :=
  ∃ (j k : Nat) (ss : List Nat), z = .int .i64 (j : Int) ∧ j + k = N ∧ ss.length = N ∧ allF l k j ss = R ∧ (∀ q, j ≤ q → ss.getD q 0 = 0) ∧ Below w.heap.size w wr ∧ Blk wr S 91 (srtA ss)
theorem sa_any (l : List ND) (v : Value) (w : World) (ok : Nat → Prop) (hl : RepL RepD 3 w ok l v) (hok : ∀ g, ok g → g < w.heap.size) (hf : Fits l) :
    Calls Tryz.prog 53 #[v] w (SuP (sortsF l) w) := by
  have hll := hf.1
  obtain ⟨A, c, hv, _⟩ := hl.at
  obtain ⟨R, hR⟩ : ∃ R, sortsF l = R := ⟨_, rfl⟩
  rw [hR]
  unfold sortsF at hR
  have HL := Lib.hid (And.intro hl (And.intro hok hf))
  obtain ⟨N, hN⟩ : ∃ N, l.length = N := ⟨_, rfl⟩
  rw [hN] at hR hll
  have HR := Lib.hid (And.intro hR hN)
  have hlD : ∀ j, j < N → l[j]? = some (l.getD j nd0) := fun j hj => by rw [List.getD_eq_getElem?_getD, List.getElem?_eq_getElem (by omega)]; rfl
  have HLD := Lib.hid hlD
  obtain ⟨i0, hi0, hz0, hs0, hby0⟩ := info_parts sort_info
  have hmk := run_make (P := Tryz.prog) w 88 91 i0 _ Tryz.underlying88 hi0 hz0 .i64 .i64 (N : Int) (N : Int) (by omega) (Int.le_refl _) (by rw [hby0]; omega) (by omega)
  rw [hs0, Nat.mul_one, Int.toNat_natCast, show (Value.int IntKind.u8 0).cells = #[.int .u8 0] from rfl, made_srts] at hmk
  obtain ⟨S, hS⟩ : ∃ S, w.heap.size = S := ⟨_, rfl⟩
  obtain ⟨W1, hW1⟩ : ∃ W1, w.alloc (.cells (srtA (List.replicate N 0)) 91) = W1 := ⟨_, rfl⟩
  have hbw : Below w.heap.size w W1 := by rw [← hW1]; exact (Below.refl _ _).alloc (Nat.le_refl _) _
  have kS : Blk W1 S 91 (srtA (List.replicate N 0)) := by rw [← hW1, ← hS]; exact Blk.new _ _ _
  rw [hW1, hS] at hmk
  have hSW : S < W1.heap.size := kS.lt
  have H1 := Lib.hid (And.intro hbw (And.intro kS (Nat.le_of_eq hS)))
  subst hv
  rw [hN]
  clear hl hok hf hR hN hi0 hz0 hs0 hby0 hS hW1 hbw kS hlD
  go_enter Tryz.func53, Tryz.ntmps53
  go_wp2_with fail
  go_loopw [11] (fun z wr => Hid (SaR l R N S w z wr)) (fun z _ => N - (intOf z).toNat)
  case atStart => exact Lib.hid ⟨0, N, _, rfl, Nat.zero_add _, by simp, HR.out.1, fun q _ => by (rw [List.getD_eq_getElem?_getD, List.getElem?_replicate]; split <;> rfl), H1.out.1, H1.out.2.1⟩
  case round =>
    obtain ⟨j, k, ss, rfl, hjk, hss, hsu, hz, hb, kS⟩ := hrel.out
    have HB := Lib.hid (And.intro hb kS)
    have HSU := Lib.hid (And.intro hsu (And.intro hss hz))
    have hSr : S < wr.heap.size := kS.lt
    clear hrel hsu hss hz hb kS
    obtain ⟨wo, rfl⟩ : ∃ wo : World, wo = wr := ⟨_, rfl⟩
    cases k with
    | zero =>
      obtain rfl : j = N := by omega
      go_wp2_with fail
      go_ret2
      exact suP_yes (HSU.out.1.symm.trans (al_0 l j ss)) HSU.out.2.1.symm HB.out.1 HB.out.2
    | succ k =>
      have hj : j < N := by omega
      have e1 : (j : Int) < (N : Int) := by omega
      obtain ⟨hl, hok, hf⟩ := HL.out
      have hkp := hl.keep keepsD (ok' := ok) (fun _ h => h) (fun g hg => HB.out.1.block g (hok g hg))
      have hko := fun g (hg : ok g) => Nat.lt_of_lt_of_le (hok g hg) HB.out.1.size
      have heo := eo_any l _ wo ok hkp hko hf j (by rw [HR.out.2]; exact hj)
      rw [HR.out.2] at heo
      obtain ⟨b, hbj⟩ : ∃ b, earB (l.getD j nd0) j = b := ⟨_, rfl⟩
      rw [hbj] at heo
      have HEO := Lib.hid heo
      have HBJ := Lib.hid hbj
      clear heo hbj hl hok hf hkp hko
      cases b with
      | false =>
        go_wp2_with fail
        (with_reducible refine HEO.out.mono ?_)
        rintro e w2 ⟨rfl, hb2⟩
        have k2 := HB.out.2.on hb2 HB.out.2.lt
        have HB2 : Hid (Below w.heap.size w w2) := Lib.hid (HB.out.1.trans (below_down hb2 HB.out.1.size))
        have xS : w2.cell? ⟨S, j, none⟩ = some (.int .u8 0) := by
          rw [k2.cell, srtA_at _ _ (by rw [HSU.out.2.1]; exact hj), HSU.out.2.2 j (Nat.le_refl _)]
          rfl
        clear hb2 k2
        go_wp2_with fail
        go_ret2
        exact suP_no (HSU.out.1.symm.trans (al_no HBJ.out)) HB2.out
      | true =>
        go_wp2_with fail
        (with_reducible refine HEO.out.mono ?_)
        rintro e w2 ⟨rfl, hb2⟩
        have HB2 : Hid (Below w.heap.size w w2 ∧ Blk w2 S 91 (srtA ss)) := Lib.hid (And.intro (HB.out.1.trans (below_down hb2 HB.out.1.size)) (HB.out.2.on hb2 HB.out.2.lt))
        have hS2 : S < w2.heap.size := HB2.out.2.lt
        clear hb2
        obtain ⟨hl, hok, hf⟩ := HL.out
        have hso := so_any l _ w2 ok (hl.keep keepsD (fun _ h => h) (fun g hg => HB2.out.1.block g (hok g hg))) (fun g hg => Nat.lt_of_lt_of_le (hok g hg) HB2.out.1.size) hf j _ (HLD.out j hj) HBJ.out S N N _ ss HB2.out.2 HSU.out.2.1 (by omega)
        obtain ⟨q, hq⟩ : ∃ q, srtF l (l.getD j nd0) ss = q := ⟨_, rfl⟩
        rw [hq, HR.out.2] at hso
        have HSO := Lib.hid hso
        have HQ := Lib.hid hq
        clear hl hok hf hso hq
        go_wp2_with fail
        (with_reducible refine HSO.out.mono ?_)
        rintro e w3 ⟨rfl, hb3⟩
        have kS3 := HB2.out.2.on hb3 HB2.out.2.lt
        have xS : w3.cell? ⟨S, j, none⟩ = some (.int .u8 ((ss.getD j 0 : Nat) : Int)) := by rw [kS3.cell, srtA_at _ _ (by rw [HSU.out.2.1]; exact hj)]
        have fS : w3.frozen? ⟨S, j, none⟩ = false := kS3.free _
        have hB1 : Below w.heap.size w (w3.setCell ⟨S, j, none⟩ (.int .u8 (q : Int))) := (HB2.out.1.trans (below_down hb3 HB2.out.1.size)).setCell H1.out.2.2 _
        have kS4 : Blk (w3.setCell ⟨S, j, none⟩ (.int .u8 (q : Int))) S 91 (srtA (ss.set j q)) := by rw [← srtA_set]; exact kS3.set _ _
        have H4 := Lib.hid (And.intro hB1 kS4)
        clear hb3 kS3 hB1 kS4
        by_cases hq0 : q = 0
        · subst hq0
          go_wp2_with fail
          go_ret2
          exact suP_no (HSU.out.1.symm.trans (al_bad HBJ.out HQ.out)) H4.out.1
        · have hne : ((q : Int) == 0) = false := beq_eq_false_iff_ne.2 (by omega)
          have HNE := Lib.hid hq0
          clear hq0
          go_wp2_with fail
          go_roundw
          case rel => exact Lib.hid ⟨j + 1, k, ss.set j q, by go_num, by omega, by rw [List.length_set]; exact HSU.out.2.1, by
            have := (al_ok HBJ.out (by rw [HQ.out]; exact HNE.out)).symm.trans HSU.out.1
            rwa [HQ.out] at this, fun p hp => by
              rw [List.getD_eq_getElem?_getD, List.getElem?_set_ne (by omega), ← List.getD_eq_getElem?_getD]
              exact HSU.out.2.2 p (by omega), H4.out.1, H4.out.2⟩
          case measure => (first | (simp [intOf]; done) | (simp [intOf]; omega))
end Go.Proofs.YtpgnlfdindmopaaGreatDoor
