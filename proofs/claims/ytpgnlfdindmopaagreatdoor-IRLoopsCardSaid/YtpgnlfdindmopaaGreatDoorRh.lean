/- Stage 7: the walk of markUsed. -/
import Derived.Test.YtpgnlfdindmopaaGreatDoorRg
namespace Go.Proofs.YtpgnlfdindmopaaGreatDoor
open Go.RowKit (wrap64 intOf)
open Go Go.RowKit WM LX PX CX GX

set_option maxRecDepth 100000
set_option maxHeartbeats 4000000
/-- What a call's marks are. -/
def MuP (r : Option (List Bool)) (w : World) (e : Ending) (w' : World) : Prop := Below w.heap.size w w' ∧ match r with
  | none => e = .returned (.tuple #[.slice none 0 0, .bool false])
  | some u => ∃ S c, e = .returned (.tuple #[.slice (some ⟨S, 0, none⟩) u.length c, .bool true]) ∧ Blk w' S 4 (bolA u)
theorem muP_no {r : Option (List Bool)} {w w' : World} (h : r = none) (hb : Below w.heap.size w w') : MuP r w (.returned (.tuple #[.slice none 0 0, .bool false])) w' := by subst h; exact ⟨hb, rfl⟩
theorem muP_yes {r : Option (List Bool)} {u : List Bool} {w w' : World} {S n c : Nat} (h : r = some u) (hn : n = u.length) (hb : Below w.heap.size w w') (hS : Blk w' S 4 (bolA u)) : MuP r w (.returned (.tuple #[.slice (some ⟨S, 0, none⟩) n c, .bool true])) w' := by
  subst h hn; exact ⟨hb, S, c, rfl, hS⟩
theorem mark_lo {l : List ND} {i : Int} (h : i < 0) : markF l i = none := by unfold markF; rw [if_pos (.inl h)]
theorem mark_hi {l : List ND} {i : Int} (h : (l.length : Int) ≤ i) : markF l i = none := by unfold markF; rw [if_pos (.inr h)]
theorem mark_in {l : List ND} {i : Nat} (h : i < l.length) : markF l (i : Int) = mkF l (i + 1) ((List.replicate (i + 1) false).set i true) := by
  unfold markF; rw [if_neg (by omega), Int.toNat_natCast]
theorem mk_0 (l : List ND) (u : List Bool) : mkF l 0 u = some u := rfl
theorem mk_no {l : List ND} {j : Nat} {u : List Bool} (h : u.getD j false = false) : mkF l (j + 1) u = mkF l j u := by rw [mkF, h]; rfl
theorem mk_bad {l : List ND} {j : Nat} {u : List Bool} (h : u.getD j false = true) (h2 : earB (l.getD j nd0) j = false) : mkF l (j + 1) u = none := by rw [mkF, h, h2]; rfl
theorem mk_ok {l : List ND} {j : Nat} {u : List Bool} (h : u.getD j false = true) (h2 : earB (l.getD j nd0) j = true) : mkF l (j + 1) u = mkF l j (setAll u (l.getD j nd0).kids) := by rw [mkF, h, h2]; rfl
/-- The rounds of markUsed: jn nodes are left. -/
def MuR (l : List ND) (R : Option (List Bool)) (n S : Nat) (w : World) (z : Value) (wr : World) : Prop :=
  ∃ (jn : Nat) (u : List Bool), z = .int .i64 ((jn : Int) - 1) ∧ jn ≤ n ∧ u.length = n ∧ mkF l jn u = R ∧ Below w.heap.size w wr ∧ Blk wr S 4 (bolA u)
theorem mu_any (l : List ND) (v : Value) (w : World) (ok : Nat → Prop) (hl : RepL RepD 3 w ok l v) (hok : ∀ g, ok g → g < w.heap.size) (hf : Fits l) (i : Int) (hi64 : -9223372036854775808 ≤ i ∧ i ≤ 9223372036854775807) :
    Calls Tryz.prog 51 #[v, .int .i64 i] w (MuP (markF l i) w) := by
  have hll := hf.1
  obtain ⟨A, c, hv, _⟩ := hl.at
  by_cases h0 : i < 0
  · have hr := mark_lo (l := l) h0
    obtain ⟨R, hR⟩ : ∃ R, markF l i = R := ⟨_, rfl⟩
    rw [hR] at hr ⊢
    subst hv
    obtain ⟨L, hL⟩ : ∃ L, l.length = L := ⟨_, rfl⟩
    rw [hL]
    have HR := Lib.hid hr
    clear hl hok hf hr hR hL hll hi64
    go_enter Tryz.func51, Tryz.ntmps51
    go_wp2_with fail
    go_ret2
    exact muP_no HR.out (Below.refl _ _)
  · by_cases h1 : (l.length : Int) ≤ i
    · have hr := mark_hi (l := l) h1
      obtain ⟨R, hR⟩ : ∃ R, markF l i = R := ⟨_, rfl⟩
      rw [hR] at hr ⊢
      subst hv
      obtain ⟨L, hL⟩ : ∃ L, l.length = L := ⟨_, rfl⟩
      rw [hL] at h1 ⊢
      have HR := Lib.hid hr
      have h2 : 0 ≤ i := by omega
      clear hl hok hf hr hR hL hll hi64 h0
      go_enter Tryz.func51, Tryz.ntmps51
      go_wp2_with fail
      go_ret2
      exact muP_no HR.out (Below.refl _ _)
    · obtain ⟨I, rfl⟩ : ∃ I : Nat, i = (I : Int) := ⟨i.toNat, by omega⟩
      have hIl : I < l.length := by omega
      have hr := mark_in hIl
      obtain ⟨R, hR⟩ : ∃ R, markF l (I : Int) = R := ⟨_, rfl⟩
      rw [hR] at hr ⊢
      have HL := Lib.hid (And.intro hl (And.intro hok hf))
      have HEO := Lib.hid (fun (W : World) (hW : Below w.heap.size w W) (j : Nat) (hj : j < l.length) => eo_any l v W ok (hl.keep keepsD (fun _ h => h) (fun g hg => hW.block g (hok g hg))) (fun g hg => Nat.lt_of_lt_of_le (hok g hg) hW.size) hf j hj)
      subst hv
      obtain ⟨L, hL⟩ : ∃ L, l.length = L := ⟨_, rfl⟩
      have HLL := Lib.hid hL
      rw [hL] at hIl hll h1 HEO ⊢
      obtain ⟨i0, hi0, hz0, hs0, hby0⟩ := info_parts bool_info
      have hmk := run_make (P := Tryz.prog) w 118 4 i0 _ Tryz.underlying118 hi0 hz0 .i64 .i64 ((I : Int) + 1) ((I : Int) + 1) (by omega) (Int.le_refl _) (by rw [hby0]; omega) (by omega)
      rw [hs0, Nat.mul_one, show ((I : Int) + 1).toNat = I + 1 by omega, show (Value.bool false).cells = #[.bool false] from rfl, made_bols] at hmk
      obtain ⟨S, hS⟩ : ∃ S, w.heap.size = S := ⟨_, rfl⟩
      obtain ⟨W0, hW0⟩ : ∃ W0, w.alloc (.cells (bolA (List.replicate (I + 1) false)) 4) = W0 := ⟨_, rfl⟩
      have hbw : Below w.heap.size w W0 := by rw [← hW0]; exact (Below.refl _ _).alloc (Nat.le_refl _) _
      have kS : Blk W0 S 4 (bolA (List.replicate (I + 1) false)) := by rw [← hW0, ← hS]; exact Blk.new _ _ _
      rw [hW0, hS] at hmk
      have x0 : W0.cell? ⟨S, I, none⟩ = some (.bool false) := by rw [kS.cell, bolA_at _ _ (by simp)]; simp
      have f0 : W0.frozen? ⟨S, I, none⟩ = false := kS.free I
      have hSw : S < W0.heap.size := kS.lt
      have kS1 : Blk (W0.setCell ⟨S, I, none⟩ (.bool true)) S 4 (bolA ((List.replicate (I + 1) false).set I true)) := by rw [← bolA_set]; exact kS.set I _
      have hb1 : Below w.heap.size w (W0.setCell ⟨S, I, none⟩ (.bool true)) := hbw.setCell (Nat.le_of_eq hS) _
      have H1 := Lib.hid (And.intro hb1 (And.intro kS1 hr))
      have HS := Lib.hid hS
      have e1 : (I : Int) < (L : Int) := by omega
      have e0 : (0 : Int) ≤ (I : Int) := by omega
      have e2 : (I : Int) < (I : Int) + 1 := by omega
      have e00 : decide ((I : Int) < 0) = false := decide_eq_false (by omega)
      have e01 : decide ((L : Int) ≤ (I : Int)) = false := decide_eq_false (by omega)
      have e02 : decide (L ≤ I) = false := decide_eq_false (by omega)
      clear hl hok hf hL hr hR hi64 h0 h1 hi0 hz0 hs0 hby0 hW0 hbw kS hb1 kS1 hS
      go_enter Tryz.func51, Tryz.ntmps51
      go_wp2_with fail
      go_loopw [7] (fun z wr => Hid (MuR l R (I + 1) S w z wr)) (fun z _ => (intOf z + 1).toNat)
      case atStart => exact Lib.hid ⟨I + 1, _, by congr 1; omega, Nat.le_refl _, by simp, H1.out.2.2.symm, H1.out.1, H1.out.2.1⟩
      case round =>
        obtain ⟨jn, u, rfl, hjn, hun, hmkf, hb, kS⟩ := hrel.out
        clear hrel
        have HMK := Lib.hid hmkf
        have HB := Lib.hid hb
        have KS := Lib.hid kS
        have HUN := Lib.hid hun
        have hSr : S < wr.heap.size := kS.lt
        clear hmkf hb kS hun x0 f0
        obtain ⟨wo, rfl⟩ : ∃ wo : World, wo = wr := ⟨_, rfl⟩
        cases jn with
        | zero =>
          rw [show ((0 : Nat) : Int) - 1 = -1 from rfl]
          go_wp2_with fail
          go_ret2
          exact muP_yes (HMK.out.symm.trans (mk_0 l u)) HUN.out.symm HB.out KS.out
        | succ j =>
          rw [show ((j + 1 : Nat) : Int) - 1 = (j : Int) by omega]
          have hj : j < I + 1 := by omega
          have hjL : j < L := by omega
          have e3 : (j : Int) < (I : Int) + 1 := by omega
          have e4 : (0 : Int) ≤ (j : Int) := by omega
          have hju : j < u.length := by rw [HUN.out]; exact hj
          have xj : wo.cell? ⟨S, j, none⟩ = some (.bool (u.getD j false)) := by rw [KS.out.cell, bolA_at _ _ hju]
          obtain ⟨b, hbj⟩ : ∃ b, u.getD j false = b := ⟨_, rfl⟩
          rw [hbj] at xj
          have HBJ := Lib.hid hbj
          clear hbj hju hjn hj
          cases b with
          | false =>
            go_wp2_with fail
            go_roundw
            case rel => exact Lib.hid ⟨j, u, rfl, by omega, HUN.out, (mk_no HBJ.out).symm.trans HMK.out, HB.out, KS.out⟩
            case measure => (first | (simp [intOf]; done) | (simp [intOf]; omega))
          | true =>
            have hcall := HEO.out wo HB.out j hjL
            obtain ⟨q, hq⟩ : ∃ q, earB (l.getD j nd0) j = q := ⟨_, rfl⟩
            rw [hq] at hcall
            have HC := Lib.hid hcall
            have HQ := Lib.hid hq
            clear hcall hq
            cases q with
            | false =>
              go_wp2_with fail
              refine HC.out.mono ?_
              rintro e w2 ⟨rfl, hb2⟩
              have HB2 : Hid (Below w.heap.size w w2) := Lib.hid (HB.out.trans (below_down hb2 HB.out.size))
              clear hb2
              go_wp2_with fail
              go_ret2
              exact muP_no (HMK.out.symm.trans (mk_bad HBJ.out HQ.out)) HB2.out
            | true =>
              go_wp2_with fail
              refine HC.out.mono ?_
              rintro e w2 ⟨rfl, hb2⟩
              have HB2 : Hid (Below w.heap.size w w2) := Lib.hid (HB.out.trans (below_down hb2 HB.out.size))
              have K2 := Lib.hid (KS.out.on hb2 KS.out.lt)
              have hS2 : S < w2.heap.size := K2.out.lt
              clear hb2 xj
              obtain ⟨hl, hok, hf⟩ := HL.out
              obtain ⟨⟨op, imm, kids⟩, hxn⟩ : ∃ n, l[j]? = some n := ⟨_, List.getElem?_eq_getElem (by rw [HLL.out]; exact hjL)⟩
              obtain ⟨g, cc, A', c', hvv, hg, x0, x1, x2, hkid⟩ := node_at hl hxn
              injection hvv with e5 _ e7
              subst e5 e7
              have hgw := hok g hg
              have y2 : w2.cell? ⟨g, j * 3 + 2, none⟩ = some (.slice A' kids.length c') := (HB2.out.cell (p := ⟨g, j * 3 + 2, none⟩) hgw).trans x2
              have hin := (ear_in HQ.out).2
              have hgd := getD_of (d := nd0) hxn
              rw [hgd] at hin
              dsimp only at hin
              have hkl := hf.at hxn
              dsimp only at hkl
              obtain ⟨m, hm⟩ : ∃ m, kids.length = m := ⟨_, rfl⟩
              rw [hm] at y2 hkl
              have HKID := Lib.hid (And.intro hkid (And.intro hm (And.intro hin hgd)))
              have HOK := Lib.hid hok
              clear hl hok hf hxn x0 x1 x2 hkid hin hgd hm
              go_wp2_with fail
              go_loopw [44] (fun z wr => ∃ k : Nat, k ≤ m ∧ z = .int .i64 (k : Int) ∧ Hid (Below w.heap.size w wr) ∧ Hid (Blk wr S 4 (bolA (setAll u (kids.take k))))) (fun z _ => m - (intOf z).toNat)
              case atStart => exact ⟨0, Nat.zero_le _, rfl, HB2, K2⟩
              case round =>
                obtain ⟨k, hk, rfl, HBk, HKk⟩ := hrel
                have hSk : S < wr.heap.size := HKk.out.lt
                by_cases hlt : k < m
                · obtain ⟨hkid, hm, hin, _⟩ := HKID.out
                  obtain ⟨x, hx⟩ : ∃ x, kids[k]? = some x := ⟨_, List.getElem?_eq_getElem (by omega)⟩
                  obtain ⟨g', o, rfl, hg', hcx⟩ := hkid k x hx
                  have z0 : wr.cell? ⟨g', o + k, none⟩ = some (.int .i64 x) := (HBk.out.cell (p := ⟨g', o + k, none⟩) (HOK.out _ hg')).trans hcx
                  obtain ⟨hx0, hx1⟩ := hin x (List.mem_of_getElem? hx)
                  have hx2 : x < (I : Int) + 1 := by omega
                  have hxl : x.toNat < (setAll u (kids.take k)).length := by rw [setAll_len, HUN.out]; omega
                  have xS : wr.cell? ⟨S, x.toNat, none⟩ = some (.bool ((setAll u (kids.take k)).getD x.toNat false)) := by rw [HKk.out.cell, bolA_at _ _ hxl]
                  have fS : wr.frozen? ⟨S, x.toNat, none⟩ = false := HKk.out.free _
                  have hB' := HBk.out.setCell (p := ⟨S, x.toNat, none⟩) (Nat.le_of_eq HS.out) (.bool true)
                  have hK' : Blk (wr.setCell ⟨S, x.toNat, none⟩ (.bool true)) S 4 (bolA (setAll u (kids.take (k + 1)))) := by
                    rw [itake_nx hx, setAll_snoc, ← bolA_set]
                    exact HKk.out.set _ _
                  have HN := Lib.hid (And.intro hB' hK')
                  have e6 : (k : Int) < (m : Int) := by omega
                  clear hkid hm hin hcx hx hxl hB' hK' hx1
                  go_wp2_with fail
                  go_roundw
                  case rel => exact ⟨k + 1, by omega, by go_num, Lib.hid HN.out.1, Lib.hid HN.out.2⟩
                  case measure => simp [intOf]; omega
                · obtain rfl : k = m := by omega
                  have HKm : Hid (Blk wr S 4 (bolA (setAll u kids))) := Lib.hid (by
                    have := HKk.out
                    rwa [List.take_of_length_le (Nat.le_of_eq HKID.out.2.1)] at this)
                  go_wp2_with fail
                  go_roundw
                  case rel =>
                    have hfin : mkF l j (setAll u kids) = R := by
                      have := (mk_ok HBJ.out HQ.out).symm.trans HMK.out
                      rwa [HKID.out.2.2.2] at this
                    have hlen : (setAll u kids).length = I + 1 := by rw [setAll_len]; exact HUN.out
                    have hfit : Hid (MuR l R (I + 1) S w (.int .i64 ((j : Int) - 1)) wr) := Lib.hid ⟨j, setAll u kids, rfl, by omega, hlen, hfin, HBk.out, HKm.out⟩
                    first
                      | exact hfit
                      | (trace_state; (repeat apply Exists.intro); trace_state; exact ⟨hfit, rfl⟩)
                  case measure => (first | (simp [intOf]; done) | (simp [intOf]; omega))
end Go.Proofs.YtpgnlfdindmopaaGreatDoor
