/- Stage 7: the walk of loopsOfAll. -/
import Derived.Test.YtpgnlfdindmopaaGreatDoorRp
import Derived.Deep.RegionHeld3
namespace Go.Proofs.YtpgnlfdindmopaaGreatDoor
open Go.RowKit (wrap64 intOf)
open Go Go.RowKit WM LX PX CX GX

set_option maxRecDepth 100000
set_option maxHeartbeats 4000000
theorem repI_take {w : World} {ok : Nat → Prop} {ks : List Int} {g o n c : Nat} (h : RepI w ok ks (.slice (some ⟨g, o, none⟩) n c)) (k : Nat) (hk : k ≤ ks.length) : RepI w ok (ks.take k) (.slice (some ⟨g, o, none⟩) k c) := by
  obtain ⟨A, c', hv, h, hcap⟩ := h
  injection hv with e1 e2 e3
  subst e1 e2 e3
  refine ⟨_, _, by rw [List.length_take, Nat.min_eq_left hk], fun i x hx => h i x ?_, by rw [List.length_take]; omega⟩
  rw [List.getElem?_take] at hx
  split at hx
  · exact hx
  · cases hx
theorem repI_drop {w : World} {ok : Nat → Prop} {ks : List Int} {g o n c : Nat} (h : RepI w ok ks (.slice (some ⟨g, o, none⟩) n c)) (k : Nat) (hk : k ≤ ks.length) : RepI w ok (ks.drop k) (.slice (some ⟨g, o + k, none⟩) (n - k) (c - k)) := by
  obtain ⟨A, c', hv, h, hcap⟩ := h
  injection hv with e1 e2 e3
  subst e1 e2 e3
  refine ⟨_, _, by rw [List.length_drop], fun i x hx => ?_, by rw [List.length_drop]; omega⟩
  rw [List.getElem?_drop] at hx
  obtain ⟨g', o', e, hg, hc⟩ := h (k + i) x hx
  injection e with e
  injection e with e1 e2 _
  subst e1 e2
  exact ⟨_, _, rfl, hg, by rwa [Nat.add_assoc]⟩
def shU (k : Int) : Int := IntKind.u64.wrap (2 ^ k.toNat)
def loopN (ls : List Int) (n : ND) : Int :=
  if n.op = 3 then shU (n.imm / 16) else if n.op = 31 then bits .or .u64 (uniF ls (n.kids.take (varN n))) (bits .andNot .u64 (uniF ls (n.kids.drop (varN n))) (shU n.imm)) else uniF ls n.kids
def lpF (l : List ND) : Nat → Nat → List Int → List Int
  | 0, _, ls => ls
  | k + 1, j, ls => lpF l k (j + 1) (ls.set j (loopN ls (l.getD j nd0)))
def loopsF (l : List ND) : List Int := lpF l l.length 0 (List.replicate l.length 0)
def LpP (l : List ND) (w : World) (e : Ending) (w' : World) : Prop := ∃ S c, e = .returned (.slice (some ⟨S, 0, none⟩) l.length c) ∧ Blk w' S 127 (setA (loopsF l)) ∧ Below w.heap.size w w'
theorem lp_len (l : List ND) : ∀ (k j : Nat) (ls : List Int), (lpF l k j ls).length = ls.length := fun k => by
  induction k with
  | zero => intro j ls; rfl
  | succ k ih => intro j ls; unfold lpF; rw [ih, List.length_set]
theorem set_info : (Tryz.prog.info? 127).map (fun i => (i.zero, i.size, i.bytes)) = some (some (.int .u64 0), 1, 8) := by kernel_rfl
def LpR (l : List ND) (R : List Int) (N S : Nat) (w : World) (z : Value) (wr : World) : Prop :=
  ∃ (j k : Nat) (ls : List Int), z = .int .i64 (j : Int) ∧ j + k = N ∧ ls.length = N ∧ lpF l k j ls = R ∧ Below w.heap.size w wr ∧ Blk wr S 127 (setA ls)
theorem lo_any (l : List ND) (v : Value) (w : World) (ok : Nat → Prop) (hl : RepL RepD 3 w ok l v) (hok : ∀ g, ok g → g < w.heap.size) (hf : Fits l) (hear : ∀ j, j < l.length → earB (l.getD j nd0) j = true)
    (h31 : ∀ n ∈ l, n.op = 31 → 0 ≤ n.imm ∧ n.imm ≤ 15) (h3 : ∀ n ∈ l, n.op = 3 → 0 ≤ n.imm ∧ n.imm ≤ 255) :
    Calls Tryz.prog 57 #[v] w (LpP l w) := by
  have hll := hf.1
  obtain ⟨A, c, hv, _⟩ := hl.at
  obtain ⟨R, hR⟩ : ∃ R, loopsF l = R := ⟨_, rfl⟩
  obtain ⟨N, hN⟩ : ∃ N, l.length = N := ⟨_, rfl⟩
  have HL := Lib.hid (And.intro hl (And.intro hok (And.intro hf (And.intro hear (And.intro h31 h3)))))
  have hpost : ∀ e w', (∃ S c, e = .returned (.slice (some ⟨S, 0, none⟩) N c) ∧ Blk w' S 127 (setA R) ∧ Below w.heap.size w w') → LpP l w e w' := fun e w' ⟨S, c, h1, h2, h3⟩ => ⟨S, c, by rw [hN]; exact h1, by rw [hR]; exact h2, h3⟩
  have HP := Lib.hid hpost
  unfold loopsF at hR
  rw [hN] at hR hll
  have HR := Lib.hid (And.intro hR hN)
  obtain ⟨i0, hi0, hz0, hs0, hby0⟩ := info_parts set_info
  have hmk := run_make (P := Tryz.prog) w 124 127 i0 _ Tryz.underlying124 hi0 hz0 .i64 .i64 (N : Int) (N : Int) (by omega) (Int.le_refl _) (by rw [hby0]; omega) (by omega)
  rw [hs0, Nat.mul_one, Int.toNat_natCast, show (Value.int IntKind.u64 0).cells = #[.int .u64 0] from rfl, made_sets] at hmk
  obtain ⟨S, hS⟩ : ∃ S, w.heap.size = S := ⟨_, rfl⟩
  obtain ⟨W1, hW1⟩ : ∃ W1, w.alloc (.cells (setA (List.replicate N 0)) 127) = W1 := ⟨_, rfl⟩
  have hbw : Below w.heap.size w W1 := by rw [← hW1]; exact (Below.refl _ _).alloc (Nat.le_refl _) _
  have kS : Blk W1 S 127 (setA (List.replicate N 0)) := by rw [← hW1, ← hS]; exact Blk.new _ _ _
  rw [hW1, hS] at hmk
  have hSW : S < W1.heap.size := kS.lt
  have H1 := Lib.hid (And.intro hbw (And.intro kS (Nat.le_of_eq hS)))
  subst hv
  rw [hN]
  refine Calls.mono ?_ (fun e w' h => HP.out e w' h)
  clear hl hok hf hear h31 h3 hR hN hi0 hz0 hs0 hby0 hS hW1 hbw kS hpost HP
  go_enter Tryz.func57, Tryz.ntmps57
  go_wp2_with fail
  go_loopw [13] (fun z wr => Hid (LpR l R N S w z wr)) (fun z _ => N - (intOf z).toNat)
  case atStart => exact Lib.hid ⟨0, N, _, rfl, Nat.zero_add _, by simp, HR.out.1, H1.out.1, H1.out.2.1⟩
  case round =>
    obtain ⟨j, k, ls, rfl, hjk, hls, hlp, hb, kS⟩ := hrel.out
    have HB := Lib.hid (And.intro hb (And.intro kS (And.intro hls hlp)))
    have hSr : S < wr.heap.size := kS.lt
    clear hrel hls hlp hb kS
    obtain ⟨wo, rfl⟩ : ∃ wo : World, wo = wr := ⟨_, rfl⟩
    cases k with
    | zero =>
      obtain rfl : j = N := by omega
      go_wp2_with fail
      go_ret
      exact ⟨S, _, rfl, by have := HB.out.2.1; rwa [show ls = R from HB.out.2.2.2] at this, HB.out.1⟩
    | succ k =>
      have hj : j < N := by omega
      have e1 : (j : Int) < (N : Int) := by omega
      obtain ⟨hl, hok, hf, hear, h31, h3⟩ := HL.out
      have hjl : j < l.length := by rw [HR.out.2]; exact hj
      obtain ⟨⟨op, imm, kids⟩, hx⟩ : ∃ n, l[j]? = some n := ⟨_, List.getElem?_eq_getElem hjl⟩
      have hgd := getD_of (d := nd0) hx
      have he := hear j hjl
      rw [hgd] at he
      obtain ⟨hcnt, hin⟩ := ear_in he
      dsimp only at hcnt hin
      obtain ⟨g, cc, A', c', hvv, hg, x0, x1, x2, hki, hcap⟩ := node_at2 hl hx
      injection hvv with e5 _ e7
      subst e5 e7
      have hgw := hok g hg
      have x0 := (HB.out.1.cell (p := ⟨g, j * 3, none⟩) hgw).trans x0
      have x1 := (HB.out.1.cell (p := ⟨g, j * 3 + 1, none⟩) hgw).trans x1
      have x2 := (HB.out.1.cell (p := ⟨g, j * 3 + 2, none⟩) hgw).trans x2
      have hgr : g < wo.heap.size := Nat.lt_of_lt_of_le hgw HB.out.1.size
      have hkl := hf.at hx
      have hi31 := h31 _ (List.mem_of_getElem? hx)
      have hi3 := h3 _ (List.mem_of_getElem? hx)
      dsimp only at hkl hi31 hi3
      have hinN : ∀ x ∈ kids, 0 ≤ x ∧ x < (N : Int) := fun x h => ⟨(hin x h).1, by have := (hin x h).2; omega⟩
      obtain ⟨wc, hwc⟩ : ∃ wc, wo.alloc (.cells #[.int .i64 op, .int .i64 imm, .slice A' kids.length c'] 49) = wc := ⟨_, rfl⟩
      have hbc : Below wo.heap.size wo wc := by rw [← hwc]; exact (Below.refl _ _).alloc (Nat.le_refl _) _
      have kP : Blk wc wo.heap.size 49 #[.int .i64 op, .int .i64 imm, .slice A' kids.length c'] := by rw [← hwc]; exact Blk.new _ _ _
      have hbwc : Below w.heap.size w wc := HB.out.1.trans (below_down hbc HB.out.1.size)
      have kSc := HB.out.2.1.on hbc HB.out.2.1.lt
      have hkc : ∀ W, Below w.heap.size w W → RepI W ok kids (.slice A' kids.length c') := fun W hW => hki.keep (fun _ h => h) (fun g hg => hW.block g (hok g hg))
      obtain ⟨m, hm⟩ : ∃ m, kids.length = m := ⟨_, rfl⟩
      rw [hm] at x2 hkl hcap hwc kP hkc hcnt
      obtain ⟨p0, p1, p2, _⟩ := kP.cells3
      have hPc := kP.lt
      have hSc := kSc.lt
      have xS : wc.cell? ⟨S, j, none⟩ = some (.int .u64 (ls.getD j 0)) := by rw [kSc.cell, setA_at _ _ (by rw [HB.out.2.2.1]; exact hj)]
      have fS : wc.frozen? ⟨S, j, none⟩ = false := kSc.free _
      have xSo : wo.cell? ⟨S, j, none⟩ = some (.int .u64 (ls.getD j 0)) := by rw [HB.out.2.1.cell, setA_at _ _ (by rw [HB.out.2.2.1]; exact hj)]
      have fSo : wo.frozen? ⟨S, j, none⟩ = false := HB.out.2.1.free _
      have hPS : ¬ wo.heap.size = S := by omega
      have hSP : ¬ S = wo.heap.size := by omega
      have HC := Lib.hid (And.intro hwc (And.intro hbwc kSc))
      have HK := Lib.hid (And.intro hm (And.intro hinN (And.intro hkc hgd)))
      have HI := Lib.hid (And.intro hi31 (And.intro hi3 hcnt))
      clear hl hok hf hear h31 h3 hjl hx hgd he hin hki hi31 hi3 hinN hwc hbc kP hbwc kSc hkc hm hcnt
      by_cases h3 : op = 3
      · subst h3
        obtain ⟨hi0, hi1⟩ := HI.out.2.1 rfl
        have hd0 : 0 ≤ imm / 16 := by omega
        have hd1 : imm / 16 < 16 := by omega
        have hlp : lpF l k (j + 1) (ls.set j (shU (imm / 16))) = R := by
          have := HB.out.2.2.2
          unfold lpF at this
          rw [HK.out.2.2.2] at this
          exact this
        have hkS : Blk ((wo.setCell ⟨S, j, none⟩ (.int .u64 (shU (imm / 16)))).alloc (.cells #[.int .i64 3, .int .i64 imm, .slice A' m c'] 49)) S 127 (setA (ls.set j (shU (imm / 16)))) := by
          rw [← setA_set]
          exact (HB.out.2.1.set _ _).alloc _
        have hbl : Below w.heap.size w ((wo.setCell ⟨S, j, none⟩ (.int .u64 (shU (imm / 16)))).alloc (.cells #[.int .i64 3, .int .i64 imm, .slice A' m c'] 49)) := by
          have h1 := HB.out.1.setCell (p := ⟨S, j, none⟩) H1.out.2.2 (.int .u64 (shU (imm / 16)))
          exact h1.alloc h1.size _
        have HN := Lib.hid (And.intro hlp (And.intro hkS hbl))
        clear hlp hkS hbl
        go_wp2_with fail
        go_roundw
        case rel => exact Lib.hid ⟨j + 1, k, _, by go_num, by omega, by rw [List.length_set]; exact HB.out.2.2.1, HN.out.1, HN.out.2.2, HN.out.2.1⟩
        case measure => (first | (simp [intOf]; done) | (simp [intOf]; omega))
      · have b3 : (op == 3) = false := beq_eq_false_iff_ne.2 h3
        by_cases h31 : op = 31
        · subst h31
          obtain ⟨hi0, hi1⟩ := HI.out.1 rfl
          have hcm := HI.out.2.2
          rw [cnt_31] at hcm
          obtain ⟨h, hh⟩ : ∃ h, m / 2 = h := ⟨_, rfl⟩
          rw [hh] at hcm
          have hmh : m = 2 * h + 1 ∧ 1 ≤ h ∧ h ≤ 16 := by simpa using hcm
          obtain ⟨g', o, rfl⟩ : ∃ g' o, A' = some ⟨g', o, none⟩ := by
            obtain ⟨A2, c2, hv2, hk2, _⟩ := HK.out.2.2.1 wo HB.out.1
            injection hv2 with e1 _ _
            subst e1
            obtain ⟨x, hx⟩ : ∃ x, kids[0]? = some x := ⟨_, List.getElem?_eq_getElem (by rw [HK.out.1]; omega)⟩
            obtain ⟨g', o, hA, _⟩ := hk2 0 x hx
            exact ⟨g', o, hA⟩
          have hvn : varN ⟨31, imm, kids⟩ = h := by rw [← hh, ← HK.out.1]; rfl
          obtain ⟨U1, hU1⟩ : ∃ U1, uniF ls (kids.take h) = U1 := ⟨_, rfl⟩
          obtain ⟨U2, hU2⟩ : ∃ U2, uniF ls (kids.drop h) = U2 := ⟨_, rfl⟩
          obtain ⟨V, hV⟩ : ∃ V, bits .or .u64 U1 (bits .andNot .u64 U2 (shU imm)) = V := ⟨_, rfl⟩
          have hlp : lpF l k (j + 1) (ls.set j V) = R := by
            have := HB.out.2.2.2
            unfold lpF at this
            rw [HK.out.2.2.2, show loopN ls ⟨31, imm, kids⟩ = V by rw [← hV, ← hU1, ← hU2, ← hvn]; rfl] at this
            exact this
          have hu1 : ∀ W, Below w.heap.size w W → Blk W S 127 (setA ls) → Calls Tryz.prog 100 #[.slice (some ⟨S, 0, none⟩) N N, .slice (some ⟨g', o, none⟩) h c'] W fun e w' => e = .returned (.int .u64 U1) ∧ w' = W := fun W hW kW => by
            rw [← hU1]
            exact iun_any ls (kids.take h) _ W ok (repI_take (HK.out.2.2.1 W hW) h (by rw [HK.out.1]; omega)) S N N _ kW HB.out.2.2.1 (fun x hx => HK.out.2.1 x (List.mem_of_mem_take hx)) (by rw [List.length_take, HK.out.1]; omega)
          have hu2 : ∀ W, Below w.heap.size w W → Blk W S 127 (setA ls) → Calls Tryz.prog 100 #[.slice (some ⟨S, 0, none⟩) N N, .slice (some ⟨g', o + h, none⟩) (m - h) (c' - h)] W fun e w' => e = .returned (.int .u64 U2) ∧ w' = W := fun W hW kW => by
            rw [← hU2]
            exact iun_any ls (kids.drop h) _ W ok (repI_drop (HK.out.2.2.1 W hW) h (by rw [HK.out.1]; omega)) S N N _ kW HB.out.2.2.1 (fun x hx => HK.out.2.1 x (List.mem_of_mem_drop hx)) (by rw [List.length_drop, HK.out.1]; omega)
          have hvc := fun W => vc_any 31 imm (some ⟨g', o, none⟩) m c' (by omega) W
          rw [hh] at hvc
          have HU := Lib.hid (And.intro hu1 (And.intro hu2 (And.intro hlp hV)))
          have HV := Lib.hid hvc
          have hc0 : (0 : Int) ≤ (h : Int) := by omega
          have hc1 : (h : Int) ≤ (c' : Int) := by omega
          have hc2 : (h : Int) ≤ (m : Int) := by omega
          have hc3 : (h : Int) < (c' : Int) := by omega
          have hc4 : h < c' := by omega
          have hc5 : h ≤ m := by omega
          have hc6 : ¬ c' = h := by omega
          clear hcm hh hmh hvn hU1 hU2 hV hlp hu1 hu2 hvc h3
          go_wp2_with fail
          rw [HC.out.1]
          go_region_held3 (fun w' => w'.cell? ⟨wo.heap.size, 0, none⟩ = some (.int .i64 31) ∧ w'.cell? ⟨wo.heap.size, 1, none⟩ = some (.int .i64 imm) ∧ w'.cell? ⟨wo.heap.size, 2, none⟩ = some (.slice (some ⟨g', o, none⟩) m c')) (first | exact ⟨p0, p1, p2⟩ | exact ⟨q0, q1, q2⟩ | exact ⟨d0, d1, d2⟩)
            (first
              | (go_at_call 95; (with_reducible refine (HV.out _).mono ?_); rintro e w3 ⟨rfl, hb3⟩; have HB3 := Lib.hid hb3; have q0 := (HB3.out.cell (p := ⟨wo.heap.size, 0, none⟩) hP2).trans d0; have q1 := (HB3.out.cell (p := ⟨wo.heap.size, 1, none⟩) hP2).trans d1; have q2 := (HB3.out.cell (p := ⟨wo.heap.size, 2, none⟩) hP2).trans d2; clear hb3)
              | (go_at_call 95; (with_reducible refine (HV.out _).mono ?_); rintro e w2 ⟨rfl, hb2⟩; have HB2 := Lib.hid (below_drew (Nat.le_refl _) hb2); have hP2 := Nat.lt_of_lt_of_le hPc HB2.out.size; have d0 := (HB2.out.cell (p := ⟨wo.heap.size, 0, none⟩) hPc).trans p0; have d1 := (HB2.out.cell (p := ⟨wo.heap.size, 1, none⟩) hPc).trans p1; have d2 := (HB2.out.cell (p := ⟨wo.heap.size, 2, none⟩) hPc).trans p2; clear hb2))
          have hBW3 : Below w.heap.size w w3 := HC.out.2.1.trans (below_down (HB2.out.trans (below_down HB3.out HB2.out.size)) HC.out.2.1.size)
          have kS3 : Blk w3 S 127 (setA ls) := (HC.out.2.2.on HB2.out hSc).on HB3.out (Nat.lt_of_lt_of_le hSc HB2.out.size)
          have UA := Lib.hid (HU.out.1 w3.drew (below_drewN hBW3 1) (kS3.drewN 1))
          have UB := Lib.hid (HU.out.2.1 w3.drew (below_drewN hBW3 1) (kS3.drewN 1))
          have y0 : w3.cell? ⟨S, j, none⟩ = some (.int .u64 (ls.getD j 0)) := by rw [kS3.cell, setA_at _ _ (by rw [HB.out.2.2.1]; exact hj)]
          have y1 : w3.frozen? ⟨S, j, none⟩ = false := kS3.free _
          have hS3 : S < w3.heap.size := kS3.lt
          have hkS : Blk ((w3.setCell ⟨S, j, none⟩ (.int .u64 V)).drewN 1) S 127 (setA (ls.set j V)) := by
            rw [← setA_set]
            exact (kS3.set _ _).drewN 1
          have hbl : Below w.heap.size w ((w3.setCell ⟨S, j, none⟩ (.int .u64 V)).drewN 1) := below_drewN (hBW3.setCell (p := ⟨S, j, none⟩) H1.out.2.2 _) 1
          have HN := Lib.hid (And.intro HU.out.2.2.1 (And.intro hkS hbl))
          have hV2 : bits .or .u64 U1 (bits .andNot .u64 U2 (IntKind.u64.wrap (2 ^ imm.toNat))) = V := HU.out.2.2.2
          have HV2 := Lib.hid hV2
          clear hBW3 kS3 hkS hbl hV2 HU HV d0 d1 d2
          go_wp2_with fail
          go_region_held3 (fun w' => w'.cell? ⟨wo.heap.size, 1, none⟩ = some (.int .i64 imm)) (first | exact q1 | go_keep)
            (first
              | (go_at_call 100; (with_reducible refine UA.out.mono ?_); rintro e w' ⟨rfl, rfl⟩)
              | (go_at_call 100; (with_reducible refine UB.out.mono ?_); rintro e w' ⟨rfl, rfl⟩))
          go_wp2_with fail
          go_roundw
          case rel =>
            rw [HV2.out]
            exact Lib.hid ⟨j + 1, k, ls.set j V, by go_num, by omega, by rw [List.length_set]; exact HB.out.2.2.1, HN.out.1, HN.out.2.2, HN.out.2.1⟩
          case measure => (first | (simp [intOf]; done) | (simp [intOf]; omega))
        · have b31 : (op == 31) = false := beq_eq_false_iff_ne.2 h31
          obtain ⟨U1, hU1⟩ : ∃ U1, uniF ls kids = U1 := ⟨_, rfl⟩
          have hlp : lpF l k (j + 1) (ls.set j U1) = R := by
            have := HB.out.2.2.2
            unfold lpF at this
            rw [HK.out.2.2.2, show loopN ls ⟨op, imm, kids⟩ = U1 by unfold loopN; rw [if_neg h3, if_neg h31]; exact hU1] at this
            exact this
          have hu1 := iun_any ls kids _ wc ok (HK.out.2.2.1 wc HC.out.2.1) S N N _ HC.out.2.2 HB.out.2.2.1 HK.out.2.1 (by rw [HK.out.1]; exact hkl)
          rw [hU1] at hu1
          have hkS : Blk (wc.setCell ⟨S, j, none⟩ (.int .u64 U1)) S 127 (setA (ls.set j U1)) := by
            rw [← setA_set]
            exact HC.out.2.2.set _ _
          have hbl : Below w.heap.size w (wc.setCell ⟨S, j, none⟩ (.int .u64 U1)) := HC.out.2.1.setCell (p := ⟨S, j, none⟩) H1.out.2.2 _
          have HN := Lib.hid (And.intro hlp (And.intro hkS hbl))
          have HU := Lib.hid hu1
          clear hU1 hlp hu1 hkS hbl h3 h31
          go_wp2_with fail
          rw [HC.out.1]
          (with_reducible refine HU.out.mono ?_)
          rintro e w' ⟨rfl, rfl⟩
          go_wp2_with fail
          go_roundw
          case rel => exact Lib.hid ⟨j + 1, k, ls.set j U1, by go_num, by omega, by rw [List.length_set]; exact HB.out.2.2.1, HN.out.1, HN.out.2.2, HN.out.2.1⟩
          case measure => (first | (simp [intOf]; done) | (simp [intOf]; omega))
end Go.Proofs.YtpgnlfdindmopaaGreatDoor
