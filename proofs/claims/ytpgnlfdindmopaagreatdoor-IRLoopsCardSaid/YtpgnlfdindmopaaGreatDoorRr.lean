/- Stage 7: what a graph's result must be: the closure of isValidGraph. -/
import Derived.Test.YtpgnlfdindmopaaGreatDoorRm
import Derived.Test.YtpgnlfdindmopaaGreatDoorRn
import Derived.Test.YtpgnlfdindmopaaGreatDoorRo
import Derived.Test.YtpgnlfdindmopaaGreatDoorRq
namespace Go.Proofs.YtpgnlfdindmopaaGreatDoor
open Go.RowKit (wrap64 intOf)
open Go Go.RowKit WM LX PX CX GX

set_option maxRecDepth 100000
set_option maxHeartbeats 4000000
def resB (ss : List Nat) (ls : List Int) (i : Int) (s : Nat) : Bool := decide (0 ≤ i) && (decide (i < (ss.length : Int)) && (decide (knd ss i = s) && decide (ls.getD i.toNat 0 = 0)))
theorem retb {b R : Bool} (h : b = R) : Ending.returned (.bool b) = .returned (.bool R) := by rw [h]
theorem cl_any (ss : List Nat) (ls : List Int) (i : Int) (s : Nat) (w : World) (S T B5 B7 N cs cl : Nat) (tS tT t5 t7 : TypeId) (hS : Blk w S tS (srtA ss)) (hT : Blk w T tT (setA ls)) (hN : ss.length = N) (hL : ls.length = N)
    (k5 : Blk w B5 t5 #[.slice (some ⟨S, 0, none⟩) N cs]) (k7 : Blk w B7 t7 #[.slice (some ⟨T, 0, none⟩) N cl]) :
    Calls Tryz.prog 58 #[.int .i64 i, .int .u8 (s : Int), .pointer (some ⟨B5, 0, none⟩), .pointer (some ⟨B7, 0, none⟩)] w fun e w' => e = .returned (.bool (resB ss ls i s)) ∧ w = w' := by
  have x5 : w.cell? ⟨B5, 0, none⟩ = some (.slice (some ⟨S, 0, none⟩) N cs) := k5.cell 0
  have x7 : w.cell? ⟨B7, 0, none⟩ = some (.slice (some ⟨T, 0, none⟩) N cl) := k7.cell 0
  have hl5 := k5.lt
  have hl7 := k7.lt
  have hSl := hS.lt
  have hTl := hT.lt
  obtain ⟨R, hR⟩ : ∃ R, resB ss ls i s = R := ⟨_, rfl⟩
  have hR2 := hR
  rw [hR]
  unfold resB at hR2
  rw [hN] at hR2
  have HR := Lib.hid hR2
  by_cases h0 : 0 ≤ i
  · by_cases h1 : i < (N : Int)
    · have y0 := srt_cell hS h0 (by rw [hN]; exact h1)
      have y1 : w.cell? ⟨T, i.toNat, none⟩ = some (.int .u64 (ls.getD i.toNat 0)) := by rw [hT.cell, setA_at _ _ (by omega)]
      obtain ⟨q, hq⟩ : ∃ q, knd ss i = q := ⟨_, rfl⟩
      obtain ⟨u, hu⟩ : ∃ u, ls.getD i.toNat 0 = u := ⟨_, rfl⟩
      rw [hq] at y0
      rw [hu] at y1
      have hRR : (decide (q = s) && decide (u = 0)) = R := by
        have := HR.out
        rw [hq, hu, decide_eq_true h0, decide_eq_true h1] at this
        simpa using this
      have HRR := Lib.hid hRR
      clear hR hR2 hS hT hN hL k5 k7 hq hu hRR
      by_cases hqs : q = s
      · subst hqs
        by_cases hu0 : u = 0
        · subst hu0
          go_enter Tryz.func58, Tryz.ntmps58
          go_wp2_with fail
          go_ret
          exact ⟨retb (b := true) (by rw [← HRR.out]; simp), rfl⟩
        · have b1 : (u == 0) = false := beq_eq_false_iff_ne.2 hu0
          have HU := Lib.hid hu0
          clear hu0
          go_enter Tryz.func58, Tryz.ntmps58
          go_wp2_with fail
          go_ret
          exact ⟨retb (b := false) (by rw [← HRR.out, decide_eq_false HU.out, Bool.and_false]), rfl⟩
      · have b1 : ((q : Int) == (s : Int)) = false := beq_eq_false_iff_ne.2 (by omega)
        have HU := Lib.hid hqs
        clear hqs
        go_enter Tryz.func58, Tryz.ntmps58
        go_wp2_with fail
        go_ret
        exact ⟨retb (b := false) (by rw [← HRR.out, decide_eq_false HU.out, Bool.false_and]), rfl⟩
    · have hRR : false = R := by
        have := HR.out
        rw [decide_eq_false h1, Bool.false_and, Bool.and_false] at this
        exact this
      have HRR := Lib.hid hRR
      have h2 : (N : Int) ≤ i := by omega
      clear hR hR2 hS hT hN hL k5 k7 hRR h1
      go_enter Tryz.func58, Tryz.ntmps58
      go_wp2_with fail
      go_ret
      exact ⟨retb (b := false) HRR.out, rfl⟩
  · have hRR : false = R := by
      have := HR.out
      rw [decide_eq_false h0, Bool.false_and] at this
      exact this
    have HRR := Lib.hid hRR
    have h2 : i < 0 := by omega
    clear hR hR2 hS hT hN hL k5 k7 hRR h0
    go_enter Tryz.func58, Tryz.ntmps58
    go_wp2_with fail
    go_ret
    exact ⟨retb (b := false) HRR.out, rfl⟩
theorem al_imm (l : List ND) : ∀ (g j : Nat) (ss ss' : List Nat), allF l g j ss = some ss' → ∀ k, j ≤ k → k < j + g → immLo (l.getD k nd0).op ≤ (l.getD k nd0).imm ∧ (l.getD k nd0).imm ≤ immHi (l.getD k nd0).op := fun g => by
  induction g with
  | zero => intro j ss ss' _ k h1 h2; omega
  | succ g ih =>
    intro j ss ss' h k hk1 hk2
    cases hb : earB (l.getD j nd0) j with
    | false => rw [al_no hb] at h; cases h
    | true =>
      by_cases hz : srtF l (l.getD j nd0) ss = 0
      · rw [al_bad hb hz] at h; cases h
      · rw [al_ok hb hz] at h
        by_cases e : k = j
        · subst e
          apply Classical.byContradiction
          intro hn
          apply hz
          unfold srtF
          rw [if_pos (by omega)]
        · exact ih _ _ _ h k (by omega) (by omega)
theorem sorts_prop {l : List ND} {ss : List Nat} (h : sortsF l = some ss) : ss.length = l.length ∧ (∀ j, j < l.length → earB (l.getD j nd0) j = true) ∧ ∀ n ∈ l, immLo n.op ≤ n.imm ∧ n.imm ≤ immHi n.op := by
  unfold sortsF at h
  obtain ⟨h1, _, h3⟩ := al_prop l _ _ _ _ h
  refine ⟨by rw [h1, List.length_replicate], fun j hj => h3 j (Nat.zero_le _) (by omega), fun n hn => ?_⟩
  obtain ⟨k, hk⟩ := List.getElem?_of_mem hn
  have hkl := (List.getElem?_eq_some_iff.1 hk).1
  have := al_imm l _ _ _ _ h k (Nat.zero_le _) (by omega)
  rwa [getD_of hk] at this
end Go.Proofs.YtpgnlfdindmopaaGreatDoor
