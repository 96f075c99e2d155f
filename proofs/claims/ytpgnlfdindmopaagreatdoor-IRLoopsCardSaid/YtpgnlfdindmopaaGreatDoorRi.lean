/- Stage 7: the walk of sortsOfUsed. -/
import Derived.Test.YtpgnlfdindmopaaGreatDoorRh
namespace Go.Proofs.YtpgnlfdindmopaaGreatDoor
open Go.RowKit (wrap64 intOf)
open Go Go.RowKit WM LX PX CX GX

set_option maxRecDepth 100000
set_option maxHeartbeats 4000000
theorem setAll_ge (j : Nat) : ∀ (r : List Int) (u : List Bool), (∀ x ∈ r, 0 ≤ x ∧ x < (j : Int)) → ∀ k, j ≤ k → (setAll u r).getD k false = u.getD k false := fun r => by
  induction r with
  | nil => intro u _ k _; rfl
  | cons x r ih =>
    intro u h k hk
    unfold setAll
    rw [ih _ (fun y hy => h y (by simp [hy])) k hk]
    have := h x (by simp)
    have hne : x.toNat ≠ k := by omega
    rw [List.getD_eq_getElem?_getD, List.getD_eq_getElem?_getD, List.getElem?_set_ne hne]
theorem mk_ear (l : List ND) : ∀ (n : Nat) (u u' : List Bool), mkF l n u = some u' → u'.length = u.length ∧ (∀ k, n ≤ k → u'.getD k false = u.getD k false) ∧ ∀ k, k < n → u'.getD k false = true → earB (l.getD k nd0) k = true := fun n => by
  induction n with
  | zero =>
    intro u u' h
    rw [mk_0] at h
    injection h with h
    subst h
    exact ⟨rfl, fun _ _ => rfl, fun k hk => absurd hk (Nat.not_lt_zero _)⟩
  | succ j ih =>
    intro u u' h
    cases hb : u.getD j false with
    | false =>
      rw [mk_no hb] at h
      obtain ⟨h1, h2, h3⟩ := ih u u' h
      refine ⟨h1, fun k hk => h2 k (by omega), fun k hk hu => ?_⟩
      by_cases e : k = j
      · subst e; rw [h2 k (Nat.le_refl _), hb] at hu; cases hu
      · exact h3 k (by omega) hu
    | true =>
      cases he : earB (l.getD j nd0) j with
      | false => rw [mk_bad hb he] at h; cases h
      | true =>
        rw [mk_ok hb he] at h
        obtain ⟨h1, h2, h3⟩ := ih _ u' h
        rw [setAll_len] at h1
        refine ⟨h1, fun k hk => ?_, fun k hk hu => ?_⟩
        · rw [h2 k (by omega), setAll_ge j _ _ (ear_in he).2 k (by omega)]
        · by_cases e : k = j
          · subst e; exact he
          · exact h3 k (by omega) hu
theorem mark_ear {l : List ND} {i : Int} {u : List Bool} (h : markF l i = some u) : (0 ≤ i ∧ i < (l.length : Int)) ∧ u.length = i.toNat + 1 ∧ ∀ k, u.getD k false = true → k < l.length ∧ earB (l.getD k nd0) k = true := by
  unfold markF at h
  by_cases hi : i < 0 ∨ (l.length : Int) ≤ i
  · rw [if_pos hi] at h; cases h
  · rw [if_neg hi] at h
    obtain ⟨h1, h2, h3⟩ := mk_ear l _ _ u h
    have hlen : u.length = i.toNat + 1 := by rw [h1]; simp
    refine ⟨by omega, hlen, fun k hk => ?_⟩
    have hku : k < u.length := by
      apply Classical.byContradiction
      intro hn
      rw [List.getD_eq_getElem?_getD, List.getElem?_eq_none (by omega)] at hk
      cases hk
    exact ⟨by omega, h3 k (by omega) hk⟩
theorem su_0 (l : List ND) (u : List Bool) (j : Nat) (ss : List Nat) : suF l u 0 j ss = some ss := rfl
theorem su_no {l : List ND} {u : List Bool} {g j : Nat} {ss : List Nat} (h : u.getD j false = false) : suF l u (g + 1) j ss = suF l u g (j + 1) ss := by rw [suF, h]; rfl
theorem su_bad {l : List ND} {u : List Bool} {g j : Nat} {ss : List Nat} (h : u.getD j false = true) (h2 : srtF l (l.getD j nd0) ss = 0) : suF l u (g + 1) j ss = none := by rw [suF, h, h2]; rfl
theorem su_ok {l : List ND} {u : List Bool} {g j : Nat} {ss : List Nat} (h : u.getD j false = true) (h2 : srtF l (l.getD j nd0) ss ≠ 0) : suF l u (g + 1) j ss = suF l u g (j + 1) (ss.set j (srtF l (l.getD j nd0) ss)) := by
  rw [suF, h, if_pos rfl, if_neg h2]
/-- What a call's sorts are. -/
def SuP (r : Option (List Nat)) (w : World) (e : Ending) (w' : World) : Prop := Below w.heap.size w w' ∧ match r with
  | none => e = .returned (.tuple #[.slice none 0 0, .bool false])
  | some ss => ∃ S c, e = .returned (.tuple #[.slice (some ⟨S, 0, none⟩) ss.length c, .bool true]) ∧ Blk w' S 91 (srtA ss)
theorem suP_no {r : Option (List Nat)} {w w' : World} (h : r = none) (hb : Below w.heap.size w w') : SuP r w (.returned (.tuple #[.slice none 0 0, .bool false])) w' := by subst h; exact ⟨hb, rfl⟩
theorem suP_yes {r : Option (List Nat)} {ss : List Nat} {w w' : World} {S n c : Nat} (h : r = some ss) (hn : n = ss.length) (hb : Below w.heap.size w w') (hS : Blk w' S 91 (srtA ss)) : SuP r w (.returned (.tuple #[.slice (some ⟨S, 0, none⟩) n c, .bool true])) w' := by
  subst h hn; exact ⟨hb, S, c, rfl, hS⟩
theorem used_no {l : List ND} {i : Int} (h : markF l i = none) : usedF l i = none := by unfold usedF; rw [h]
theorem used_yes {l : List ND} {i : Int} {u : List Bool} (h : markF l i = some u) : usedF l i = suF l u u.length 0 (List.replicate u.length 0) := by unfold usedF; rw [h]
/-- The rounds: k are left. -/
def SuR (l : List ND) (u : List Bool) (R : Option (List Nat)) (N S : Nat) (w w2 : World) (z : Value) (wr : World) : Prop :=
  ∃ (j k : Nat) (ss : List Nat), z = .int .i64 (j : Int) ∧ j + k = N ∧ ss.length = N ∧ suF l u k j ss = R ∧ Below w.heap.size w wr ∧ Below S w2 wr ∧ Blk wr S 91 (srtA ss)
theorem su_any (l : List ND) (v : Value) (w : World) (ok : Nat → Prop) (hl : RepL RepD 3 w ok l v) (hok : ∀ g, ok g → g < w.heap.size) (hf : Fits l) (i : Int) (hi64 : -9223372036854775808 ≤ i ∧ i ≤ 9223372036854775807) :
    Calls Tryz.prog 27 #[v, .int .i64 i] w (SuP (usedF l i) w) := by
  have hll := hf.1
  have hmu := mu_any l v w ok hl hok hf i hi64
  obtain ⟨A, c, hv, _⟩ := hl.at
  obtain ⟨mk, hmk⟩ : ∃ mk, markF l i = mk := ⟨_, rfl⟩
  rw [hmk] at hmu
  obtain ⟨R, hR⟩ : ∃ R, usedF l i = R := ⟨_, rfl⟩
  rw [hR]
  cases mk with
  | none =>
    have HR := Lib.hid (hR.symm.trans (used_no hmk))
    have HM := Lib.hid hmu
    clear hl hok hf hR hll hi64 hmk hmu
    subst hv
    obtain ⟨L, hL⟩ : ∃ L, l.length = L := ⟨_, rfl⟩
    rw [hL] at HM ⊢
    clear hL
    go_enter Tryz.func27, Tryz.ntmps27
    go_wp2_with fail
    refine HM.out.mono ?_
    rintro e w2 ⟨hb, rfl⟩
    have HB := Lib.hid hb
    clear hb
    go_wp2_with fail
    go_ret2
    exact suP_no HR.out HB.out
  | some u =>
    have hru := hR.symm.trans (used_yes hmk)
    obtain ⟨hi2, hul, hear⟩ := mark_ear hmk
    have HM := Lib.hid hmu
    have HL := Lib.hid (And.intro hl (And.intro hok hf))
    have HEAR := Lib.hid hear
    obtain ⟨N, hN⟩ : ∃ N, u.length = N := ⟨_, rfl⟩
    have hN2 : N ≤ 1000000000000 := by omega
    have hN1 : 1 ≤ N := by omega
    rw [hN] at hru
    have HRU := Lib.hid (And.intro hru hN)
    clear hl hok hf hR hll hi64 hmk hmu hru hear hul hi2
    subst hv
    obtain ⟨L, hL⟩ : ∃ L, l.length = L := ⟨_, rfl⟩
    have HLL := Lib.hid hL
    rw [hL] at HM ⊢
    clear hL
    go_enter Tryz.func27, Tryz.ntmps27
    go_wp2_with fail
    refine HM.out.mono ?_
    rintro e w2 ⟨hb, Su, cu, rfl, kU⟩
    rw [hN]
    obtain ⟨i0, hi0, hz0, hs0, hby0⟩ := info_parts sort_info
    have hmk := run_make (P := Tryz.prog) w2 88 91 i0 _ Tryz.underlying88 hi0 hz0 .i64 .i64 (N : Int) (N : Int) (by omega) (Int.le_refl _) (by rw [hby0]; omega) (by omega)
    rw [hs0, Nat.mul_one, Int.toNat_natCast, show (Value.int IntKind.u8 0).cells = #[.int .u8 0] from rfl, made_srts] at hmk
    obtain ⟨S, hS⟩ : ∃ S, w2.heap.size = S := ⟨_, rfl⟩
    obtain ⟨W1, hW1⟩ : ∃ W1, w2.alloc (.cells (srtA (List.replicate N 0)) 91) = W1 := ⟨_, rfl⟩
    have hbw : Below w2.heap.size w2 W1 := by rw [← hW1]; exact (Below.refl _ _).alloc (Nat.le_refl _) _
    have kS : Blk W1 S 91 (srtA (List.replicate N 0)) := by rw [← hW1, ← hS]; exact Blk.new _ _ _
    rw [hW1, hS] at hmk
    have hb1 : Below w.heap.size w W1 := hb.trans (below_down hbw hb.size)
    have hUS : Su < S := by rw [← hS]; exact kU.lt
    have hwS : w.heap.size ≤ S := by rw [← hS]; exact hb.size
    have H1 := Lib.hid (And.intro hb1 kS)
    have KU := Lib.hid kU
    have hSW : S < W1.heap.size := kS.lt
    have hbS : Below S w2 W1 := by rw [← hS]; exact hbw
    have H2 := Lib.hid hbS
    clear hb kU hi0 hz0 hs0 hby0 hS hW1 hbw kS hb1 hbS
    go_wp2_with fail
    go_loopw [23] (fun z wr => Hid (SuR l u R N S w w2 z wr)) (fun z _ => N - (intOf z).toNat)
    case atStart => exact Lib.hid ⟨0, N, _, rfl, Nat.zero_add _, by simp, HRU.out.1.symm, H1.out.1, H2.out, H1.out.2⟩
    case round =>
      obtain ⟨j, k, ss, rfl, hjk, hss, hsu, hb, hb2, kS⟩ := hrel.out
      have HB := Lib.hid (And.intro hb (And.intro hb2 kS))
      have HSU := Lib.hid (And.intro hsu hss)
      have hSr : S < wr.heap.size := kS.lt
      clear hrel hsu hss hb hb2 kS
      obtain ⟨wo, rfl⟩ : ∃ wo : World, wo = wr := ⟨_, rfl⟩
      cases k with
      | zero =>
        obtain rfl : j = N := by omega
        go_wp2_with fail
        go_ret2
        exact suP_yes (HSU.out.1.symm.trans (su_0 l u j ss)) HSU.out.2.symm HB.out.1 HB.out.2.2
      | succ k =>
        have hj : j < N := by omega
        have e1 : (j : Int) < (N : Int) := by omega
        have xU : wo.cell? ⟨Su, j, none⟩ = some (.bool (u.getD j false)) := by rw [(KU.out.on HB.out.2.1 hUS).cell, bolA_at _ _ (by rw [HRU.out.2]; exact hj)]
        obtain ⟨b, hbj⟩ : ∃ b, u.getD j false = b := ⟨_, rfl⟩
        rw [hbj] at xU
        have HBJ := Lib.hid hbj
        clear hbj
        cases b with
        | false =>
          go_wp2_with fail
          go_roundw
          case rel => exact Lib.hid ⟨j + 1, k, ss, by go_num, by omega, HSU.out.2, (su_no HBJ.out).symm.trans HSU.out.1, HB.out.1, HB.out.2.1, HB.out.2.2⟩
          case measure => (first | (simp [intOf]; done) | (simp [intOf]; omega))
        | true =>
          obtain ⟨hjl, hej⟩ := HEAR.out j HBJ.out
          obtain ⟨hl, hok, hf⟩ := HL.out
          have hxn : l[j]? = some (l.getD j nd0) := by rw [List.getD_eq_getElem?_getD, List.getElem?_eq_getElem hjl]; rfl
          have hso := so_any l _ wo ok (hl.keep keepsD (fun _ h => h) (fun g hg => HB.out.1.block g (hok g hg))) (fun g hg => Nat.lt_of_lt_of_le (hok g hg) HB.out.1.size) hf j _ hxn hej S N N _ ss HB.out.2.2 HSU.out.2 (by omega)
          obtain ⟨q, hq⟩ : ∃ q, srtF l (l.getD j nd0) ss = q := ⟨_, rfl⟩
          rw [hq, HLL.out] at hso
          have HSO := Lib.hid hso
          have HQ := Lib.hid hq
          clear hjl hej hl hok hf hxn hso hq
          go_wp2_with fail
          (with_reducible refine HSO.out.mono ?_)
          rintro e w3 ⟨rfl, hb3⟩
          have kS3 := HB.out.2.2.on hb3 HB.out.2.2.lt
          have xS : w3.cell? ⟨S, j, none⟩ = some (.int .u8 ((ss.getD j 0 : Nat) : Int)) := by rw [kS3.cell, srtA_at _ _ (by rw [HSU.out.2]; exact hj)]
          have fS : w3.frozen? ⟨S, j, none⟩ = false := kS3.free _
          have hB1 : Below w.heap.size w (w3.setCell ⟨S, j, none⟩ (.int .u8 (q : Int))) := (HB.out.1.trans (below_down hb3 HB.out.1.size)).setCell hwS _
          have hB2 : Below S w2 (w3.setCell ⟨S, j, none⟩ (.int .u8 (q : Int))) := (HB.out.2.1.trans (below_down hb3 (Nat.le_of_lt hSr))).setCell (Nat.le_refl _) _
          have kS4 : Blk (w3.setCell ⟨S, j, none⟩ (.int .u8 (q : Int))) S 91 (srtA (ss.set j q)) := by rw [← srtA_set]; exact kS3.set _ _
          have H4 := Lib.hid (And.intro hB1 (And.intro hB2 kS4))
          clear hb3 kS3 hB1 hB2 kS4 xU
          by_cases hq0 : q = 0
          · subst hq0
            go_wp2_with fail
            go_ret2
            exact suP_no (HSU.out.1.symm.trans (su_bad HBJ.out HQ.out)) H4.out.1
          · have hne : ((q : Int) == 0) = false := beq_eq_false_iff_ne.2 (by omega)
            have HNE := Lib.hid hq0
            clear hq0
            go_wp2_with fail
            go_roundw
            case rel => exact Lib.hid ⟨j + 1, k, ss.set j q, by go_num, by omega, by rw [List.length_set]; exact HSU.out.2, by
              have := (su_ok HBJ.out (by rw [HQ.out]; exact HNE.out)).symm.trans HSU.out.1
              rwa [HQ.out] at this, H4.out.1, H4.out.2.1, H4.out.2.2⟩
            case measure => (first | (simp [intOf]; done) | (simp [intOf]; omega))
end Go.Proofs.YtpgnlfdindmopaaGreatDoor
