/- Stage 7: the walk of hasConsistentLoops. -/
import Derived.Test.YtpgnlfdindmopaaGreatDoorRj
import Derived.Deep.RegionHeld3
namespace Go.Proofs.YtpgnlfdindmopaaGreatDoor
open Go.RowKit (wrap64 intOf)
open Go Go.RowKit WM LX PX CX GX

set_option maxRecDepth 100000
set_option maxHeartbeats 4000000
/-- How many variables each loop has; none if two have one number. -/
def loopsV : List Nat → List ND → Option (List Nat)
  | vs, [] => some vs
  | vs, n :: r => if n.op = 31 then (if vs.getD n.imm.toNat 0 = 0 then loopsV (vs.set n.imm.toNat (varN n)) r else none) else loopsV vs r
def lvB (vs : List Nat) (n : ND) : Bool := !decide (n.op = 3) || (decide (vs.getD (n.imm / 16).toNat 0 = 0) || decide (n.imm % 16 < ((vs.getD (n.imm / 16).toNat 0 : Nat) : Int)))
def conR (l : List ND) : Option (List Nat) → Bool
  | none => false
  | some vs => l.all (lvB vs)
def conB (l : List ND) : Bool := conR l (loopsV (List.replicate 16 0) l)
def natA (u : List Nat) : Array Value := (u.map fun n : Nat => Value.int .i64 (n : Int)).toArray
theorem natA_at (u : List Nat) (k : Nat) (h : k < u.length) : (natA u)[k]? = some (.int .i64 ((u.getD k 0 : Nat) : Int)) := by
  unfold natA
  rw [List.getElem?_toArray, List.getElem?_map, List.getElem?_eq_getElem h, List.getD_eq_getElem?_getD, List.getElem?_eq_getElem h]
  rfl
theorem natA_set (u : List Nat) (k b : Nat) : (natA u).setIfInBounds k (.int .i64 (b : Int)) = natA (u.set k b) := by
  unfold natA
  rw [List.setIfInBounds_toArray, List.map_set]
theorem lv_nil (vs : List Nat) : loopsV vs [] = some vs := rfl
theorem lv_no {vs : List Nat} {n : ND} {r : List ND} (h : n.op ≠ 31) : loopsV vs (n :: r) = loopsV vs r := by rw [loopsV, if_neg h]
theorem lv_bad {vs : List Nat} {n : ND} {r : List ND} (h : n.op = 31) (h2 : vs.getD n.imm.toNat 0 ≠ 0) : loopsV vs (n :: r) = none := by rw [loopsV, if_pos h, if_neg h2]
theorem lv_ok {vs : List Nat} {n : ND} {r : List ND} (h : n.op = 31) (h2 : vs.getD n.imm.toNat 0 = 0) : loopsV vs (n :: r) = loopsV (vs.set n.imm.toNat (varN n)) r := by rw [loopsV, if_pos h, if_pos h2]
theorem lv_prop : ∀ (l : List ND) (vs vs' : List Nat), loopsV vs l = some vs' → vs'.length = vs.length ∧ ((∀ x ∈ vs, x ≤ 1000000000000) → (∀ n ∈ l, varN n ≤ 1000000000000) → ∀ x ∈ vs', x ≤ 1000000000000) := fun l => by
  induction l with
  | nil => intro vs vs' h; rw [lv_nil] at h; injection h with h; subst h; exact ⟨rfl, fun h _ => h⟩
  | cons n r ih =>
    intro vs vs' h
    by_cases h31 : n.op = 31
    · by_cases h0 : vs.getD n.imm.toNat 0 = 0
      · rw [lv_ok h31 h0] at h
        obtain ⟨h1, h2⟩ := ih _ _ h
        rw [List.length_set] at h1
        exact ⟨h1, fun hv hn => h2 (fun x hx => by
          rcases List.mem_or_eq_of_mem_set hx with h | h
          · exact hv x h
          · rw [h]; exact hn n (by simp)) (fun m hm => hn m (by simp [hm]))⟩
      · rw [lv_bad h31 h0] at h; cases h
    · rw [lv_no h31] at h
      obtain ⟨h1, h2⟩ := ih _ _ h
      exact ⟨h1, fun hv hn => h2 hv (fun m hm => hn m (by simp [hm]))⟩
def vrZ : Array Value := #[.int .i64 0, .int .i64 0, .int .i64 0, .int .i64 0, .int .i64 0, .int .i64 0, .int .i64 0, .int .i64 0, .int .i64 0, .int .i64 0, .int .i64 0, .int .i64 0, .int .i64 0, .int .i64 0, .int .i64 0, .int .i64 0]
theorem vrZ_eq : vrZ = natA (List.replicate 16 0) := rfl
def V1R (l : List ND) (R : Option (List Nat)) (N V : Nat) (w : World) (z : Value) (wr : World) : Prop :=
  ∃ (j k : Nat) (vs : List Nat), z = .int .i64 (j : Int) ∧ j + k = N ∧ vs.length = 16 ∧ loopsV vs (l.drop j) = R ∧ Below w.heap.size w wr ∧ Blk wr V 168 (natA vs)
theorem con_any (l : List ND) (v : Value) (w : World) (ok : Nat → Prop) (hl : RepL RepD 3 w ok l v) (hok : ∀ g, ok g → g < w.heap.size) (hf : Fits l) (h31 : ∀ n ∈ l, n.op = 31 → 0 ≤ n.imm ∧ n.imm ≤ 15) (h3 : ∀ n ∈ l, n.op = 3 → 0 ≤ n.imm ∧ n.imm ≤ 255) :
    Calls Tryz.prog 56 #[v] w (RetN (.bool (conB l)) w) := by
  have hll := hf.1
  have HL := Lib.hid (And.intro hl (And.intro hok (And.intro hf (And.intro h31 h3))))
  obtain ⟨A, c, rfl, _⟩ := hl.at
  obtain ⟨N, hN⟩ : ∃ N, l.length = N := ⟨_, rfl⟩
  rw [hN] at hll ⊢
  obtain ⟨R, hR⟩ : ∃ R, loopsV (List.replicate 16 0) l = R := ⟨_, rfl⟩
  obtain ⟨B, hB⟩ : ∃ B, conB l = B := ⟨_, rfl⟩
  rw [hB]
  have hB2 : B = conR l R := by rw [← hB, ← hR]; rfl
  have HR := Lib.hid (And.intro hR (And.intro hN hB2))
  obtain ⟨W1, hW1⟩ : ∃ W1, w.alloc (.cells vrZ 168) = W1 := ⟨_, rfl⟩
  have hb1 : Below w.heap.size w W1 := by rw [← hW1]; exact (Below.refl _ _).alloc (Nat.le_refl _) _
  have kV : Blk W1 w.heap.size 168 vrZ := by rw [← hW1]; exact Blk.new _ _ _
  unfold vrZ at hW1
  have HW := Lib.hid (And.intro hW1 (And.intro hb1 kV))
  clear hl hok hf h31 h3 hN hR hB hB2 hW1 hb1 kV
  go_enter Tryz.func56, Tryz.ntmps56
  go_wp2_with fail
  rw [HW.out.1]
  go_wp2_with fail
  go_loopw [11] (fun z wr => Hid (V1R l R N w.heap.size w z wr)) (fun z _ => N - (intOf z).toNat)
  case atStart => exact Lib.hid ⟨0, N, _, rfl, Nat.zero_add _, by simp, HR.out.1, HW.out.2.1, by rw [← vrZ_eq]; exact HW.out.2.2⟩
  case round =>
    obtain ⟨j, k, vs, rfl, hjk, hvs, hlv, hb, kV⟩ := hrel.out
    have HB := Lib.hid (And.intro hb (And.intro kV (And.intro hvs hlv)))
    have hVr := kV.lt
    clear hrel hvs hlv hb kV
    obtain ⟨wo, rfl⟩ : ∃ wo : World, wo = wr := ⟨_, rfl⟩
    cases k with
    | succ k =>
      have e1 : (j : Int) < (N : Int) := by omega
      obtain ⟨hl, hok, hf, h31, h3⟩ := HL.out
      have hjl : j < l.length := by rw [HR.out.2.1]; omega
      obtain ⟨⟨op, imm, kids⟩, hx⟩ : ∃ n, l[j]? = some n := ⟨_, List.getElem?_eq_getElem hjl⟩
      obtain ⟨g, cc, A', c', hvv, hg, x0, x1, x2, _⟩ := node_at hl hx
      injection hvv with e5 _ e7
      subst e5 e7
      have hgw := hok g hg
      have x0 := (HB.out.1.cell (p := ⟨g, j * 3, none⟩) hgw).trans x0
      have x1 := (HB.out.1.cell (p := ⟨g, j * 3 + 1, none⟩) hgw).trans x1
      have x2 := (HB.out.1.cell (p := ⟨g, j * 3 + 2, none⟩) hgw).trans x2
      have hgr : g < wo.heap.size := Nat.lt_of_lt_of_le hgw HB.out.1.size
      have hkl := hf.at hx
      have hi31 := h31 _ (List.mem_of_getElem? hx)
      dsimp only at hkl hi31
      have hdr : l.drop j = ⟨op, imm, kids⟩ :: l.drop (j + 1) := by
        rw [List.drop_eq_getElem_cons hjl]
        congr 1
        exact Option.some.inj ((List.getElem?_eq_getElem hjl).symm.trans hx)
      obtain ⟨m, hm⟩ : ∃ m, kids.length = m := ⟨_, rfl⟩
      rw [hm] at x2 hkl
      have hlv := HB.out.2.2.2
      rw [hdr] at hlv
      have HX := Lib.hid (And.intro hlv hm)
      have HI := Lib.hid hi31
      clear hl hok hf h31 h3 hx hm hdr hlv hi31 hjl
      by_cases hop : op = 31
      · subst hop
        obtain ⟨hi0, hi1⟩ := HI.out rfl
        have hi2 : imm < 16 := by omega
        have hiv : imm.toNat < vs.length := by rw [HB.out.2.2.1]; omega
        have v0 : wo.cell? ⟨w.heap.size, imm.toNat, none⟩ = some (.int .i64 ((vs.getD imm.toNat 0 : Nat) : Int)) := by rw [HB.out.2.1.cell, natA_at _ _ hiv]
        obtain ⟨q, hq⟩ : ∃ q, vs.getD imm.toNat 0 = q := ⟨_, rfl⟩
        rw [hq] at v0
        have HQ := Lib.hid hq
        clear hq hiv
        by_cases hq0 : q = 0
        · subst hq0
          obtain ⟨wc, hwc⟩ : ∃ wc, wo.alloc (.cells #[.int .i64 31, .int .i64 imm, .slice A' m c'] 49) = wc := ⟨_, rfl⟩
          have hbc : Below wo.heap.size wo wc := by rw [← hwc]; exact (Below.refl _ _).alloc (Nat.le_refl _) _
          have kP : Blk wc wo.heap.size 49 #[.int .i64 31, .int .i64 imm, .slice A' m c'] := by rw [← hwc]; exact Blk.new _ _ _
          obtain ⟨p0, p1, p2, _⟩ := kP.cells3
          have hPc := kP.lt
          have HC := Lib.hid (And.intro hwc hbc)
          have HV := Lib.hid (fun W => vc_any 31 imm A' m c' (by omega) W)
          have hVc : w.heap.size < wc.heap.size := by omega
          have hne : ¬ wo.heap.size = w.heap.size := by omega
          have hne2 : ¬ w.heap.size = wo.heap.size := by omega
          have v1 : wc.cell? ⟨w.heap.size, imm.toNat, none⟩ = some (.int .i64 0) := (hbc.cell (p := ⟨w.heap.size, imm.toNat, none⟩) hVr).trans v0
          have f1 : wc.frozen? ⟨w.heap.size, imm.toNat, none⟩ = false := (HB.out.2.1.on hbc HB.out.2.1.lt).free _
          clear hwc hbc kP
          go_wp2_with fail
          rw [HC.out.1]
          go_region_held3 (fun w' => w'.cell? ⟨wo.heap.size, 0, none⟩ = some (.int .i64 31) ∧ w'.cell? ⟨wo.heap.size, 1, none⟩ = some (.int .i64 imm) ∧ w'.cell? ⟨wo.heap.size, 2, none⟩ = some (.slice A' m c')) (first | exact ⟨p0, p1, p2⟩ | exact ⟨d0, d1, d2⟩ | go_keep)
            ((go_at_call 95; (with_reducible refine (HV.out _).mono ?_); rintro e w2 ⟨rfl, hb2⟩; have HB2 := Lib.hid (below_drew (Nat.le_refl _) hb2); have d0 := (HB2.out.cell (p := ⟨wo.heap.size, 0, none⟩) hPc).trans p0; have d1 := (HB2.out.cell (p := ⟨wo.heap.size, 1, none⟩) hPc).trans p1; have d2 := (HB2.out.cell (p := ⟨wo.heap.size, 2, none⟩) hPc).trans p2; have d3 := (HB2.out.cell (p := ⟨w.heap.size, imm.toNat, none⟩) hVc).trans v1; have d4 := (HB2.out.frozen (p := ⟨w.heap.size, imm.toNat, none⟩) hVc).trans f1; clear hb2))
          have hB3 : Below w.heap.size w (w2.setCell ⟨w.heap.size, imm.toNat, none⟩ (.int .i64 ((m / 2 : Nat) : Int))) := (HB.out.1.trans (below_down (HC.out.2.trans (below_down HB2.out HC.out.2.size)) HB.out.1.size)).setCell (Nat.le_refl _) _
          have kV3 : Blk (w2.setCell ⟨w.heap.size, imm.toNat, none⟩ (.int .i64 ((m / 2 : Nat) : Int))) w.heap.size 168 (natA (vs.set imm.toNat (m / 2))) := by
            rw [← natA_set]
            exact ((HB.out.2.1.on HC.out.2 HB.out.2.1.lt).on HB2.out hVc).set _ _
          have hl3 : loopsV (vs.set imm.toNat (m / 2)) (l.drop (j + 1)) = R := by
            have := (lv_ok (n := ⟨31, imm, kids⟩) rfl HQ.out).symm.trans HX.out.1
            rwa [show varN ⟨31, imm, kids⟩ = m / 2 by rw [← HX.out.2]; rfl] at this
          have HN := Lib.hid (And.intro hB3 (And.intro kV3 hl3))
          clear hB3 kV3 hl3
          go_wp2_with fail
          go_roundw
          case rel => exact Lib.hid ⟨j + 1, k, _, by go_num, by omega, by rw [List.length_set]; exact HB.out.2.2.1, HN.out.2.2, HN.out.1, HN.out.2.1⟩
          case measure => (first | (simp [intOf]; done) | (simp [intOf]; omega))
        · have hne : ((q : Int) != 0) = true := by rw [bne_iff_ne]; omega
          have hbad : B = false := by
            rw [HR.out.2.2, ← HX.out.1, lv_bad rfl (by show vs.getD imm.toNat 0 ≠ 0; rw [HQ.out]; exact hq0)]
            rfl
          have HBAD := Lib.hid hbad
          clear hbad hq0
          go_wp2_with fail
          go_ret
          exact retN (congrArg Value.bool HBAD.out.symm) (HB.out.1.alloc HB.out.1.size _)
      · have hne : (op != 31) = true := bne_iff_ne.2 hop
        have hl3 := (lv_no (vs := vs) (n := ⟨op, imm, kids⟩) (r := l.drop (j + 1)) hop).symm.trans HX.out.1
        have HN := Lib.hid hl3
        clear hl3 hop
        go_wp2_with fail
        go_roundw
        case rel => exact Lib.hid ⟨j + 1, k, vs, by go_num, by omega, HB.out.2.2.1, HN.out, HB.out.1.alloc HB.out.1.size _, HB.out.2.1.alloc _⟩
        case measure => (first | (simp [intOf]; done) | (simp [intOf]; omega))
    | zero =>
      obtain rfl : j = N := by omega
      have hRs : R = some vs := by
        rw [← HB.out.2.2.2, List.drop_of_length_le (Nat.le_of_eq HR.out.2.1)]
        rfl
      have hBv : B = l.all (lvB vs) := by rw [HR.out.2.2, hRs]; rfl
      have hvb : ∀ x ∈ vs, x ≤ 1000000000000 := by
        have h1 := (lv_prop l _ _ (HR.out.1.trans hRs)).2
        refine h1 (fun x hx => by rw [(List.mem_replicate.1 hx).2]; exact Nat.zero_le _) (fun n hn => ?_)
        have := HL.out.2.2.1.2 n hn
        unfold varN
        omega
      have HBV := Lib.hid (And.intro hBv hvb)
      clear hRs hBv hvb
      go_wp2_with fail
      go_loopw [31] (fun z wr => Hid (∃ (i k : Nat), z = .int .i64 (i : Int) ∧ i + k = j ∧ (∀ (q : Nat) (n : ND), q < i → l[q]? = some n → lvB vs n = true) ∧ Below w.heap.size w wr ∧ Blk wr w.heap.size 168 (natA vs))) (fun z _ => j - (intOf z).toNat)
      case atStart => exact Lib.hid ⟨0, j, rfl, Nat.zero_add _, fun q n h => absurd h (Nat.not_lt_zero _), HB.out.1, HB.out.2.1⟩
      case round =>
        obtain ⟨i, k, rfl, hik, hall, hb, kV⟩ := hrel.out
        have HB2 := Lib.hid (And.intro hb (And.intro kV hall))
        have hVr2 := kV.lt
        clear hrel hall hb kV
        obtain ⟨wp, rfl⟩ : ∃ wp : World, wp = wr := ⟨_, rfl⟩
        cases k with
        | zero =>
          obtain rfl : i = j := by omega
          have HA := Lib.hid (all_done (lvB vs) l (fun q n hn => HB2.out.2.2 q n (by have := (List.getElem?_eq_some_iff.1 hn).1; have := HR.out.2.1; omega) hn))
          go_wp2_with fail
          go_ret
          exact retN (congrArg Value.bool (HA.out.symm.trans HBV.out.1.symm)) HB2.out.1
        | succ k =>
          have e1 : (i : Int) < (j : Int) := by omega
          obtain ⟨hl, hok, hf, h31, h3⟩ := HL.out
          obtain ⟨⟨op, imm, kids⟩, hx⟩ : ∃ n, l[i]? = some n := ⟨_, List.getElem?_eq_getElem (by rw [HR.out.2.1]; omega)⟩
          obtain ⟨g, cc, A', c', hvv, hg, x0, x1, x2, _⟩ := node_at hl hx
          injection hvv with e5 _ e7
          subst e5 e7
          have hgw := hok g hg
          have x0 := (HB2.out.1.cell (p := ⟨g, i * 3, none⟩) hgw).trans x0
          have x1 := (HB2.out.1.cell (p := ⟨g, i * 3 + 1, none⟩) hgw).trans x1
          have x2 := (HB2.out.1.cell (p := ⟨g, i * 3 + 2, none⟩) hgw).trans x2
          have hgr : g < wp.heap.size := Nat.lt_of_lt_of_le hgw HB2.out.1.size
          have hi3 := h3 _ (List.mem_of_getElem? hx)
          dsimp only at hi3
          obtain ⟨m, hm⟩ : ∃ m, kids.length = m := ⟨_, rfl⟩
          rw [hm] at x2
          have HX := Lib.hid hx
          have HI := Lib.hid hi3
          clear hl hok hf h31 h3 hx hm hi3
          by_cases hop : op = 3
          · subst hop
            obtain ⟨hi0, hi1⟩ := HI.out rfl
            have hd0 : 0 ≤ imm / 16 := by omega
            have hd1 : imm / 16 < 16 := by omega
            have hiv : (imm / 16).toNat < vs.length := by rw [HB.out.2.2.1]; omega
            have v0 : wp.cell? ⟨w.heap.size, (imm / 16).toNat, none⟩ = some (.int .i64 ((vs.getD (imm / 16).toNat 0 : Nat) : Int)) := by rw [HB2.out.2.1.cell, natA_at _ _ hiv]
            have hqb : vs.getD (imm / 16).toNat 0 ≤ 1000000000000 := by
              rw [List.getD_eq_getElem?_getD, List.getElem?_eq_getElem hiv]
              exact HBV.out.2 _ (List.getElem_mem hiv)
            obtain ⟨q, hq⟩ : ∃ q, vs.getD (imm / 16).toNat 0 = q := ⟨_, rfl⟩
            rw [hq] at v0 hqb
            have HQ := Lib.hid hq
            clear hq hiv
            have hlv : lvB vs ⟨3, imm, kids⟩ = (decide (q = 0) || decide (imm % 16 < (q : Int))) := by
              show (!decide ((3 : Int) = 3) || (decide (vs.getD (imm / 16).toNat 0 = 0) || decide (imm % 16 < ((vs.getD (imm / 16).toNat 0 : Nat) : Int)))) = _
              rw [HQ.out]
              rfl
            have HLV := Lib.hid hlv
            clear hlv
            by_cases hq0 : q = 0
            · subst hq0
              have HOK : Hid (lvB vs ⟨3, imm, kids⟩ = true) := Lib.hid (by rw [HLV.out]; rfl)
              go_wp2_with fail
              go_roundw
              case rel => exact Lib.hid ⟨i + 1, k, by go_num, by omega, ev_step HB2.out.2.2 HX.out HOK.out, HB2.out.1.alloc HB2.out.1.size _, HB2.out.2.1.alloc _⟩
              case measure => (first | (simp [intOf]; done) | (simp [intOf]; omega))
            · have hne : ((q : Int) != 0) = true := by rw [bne_iff_ne]; omega
              by_cases hlt : imm % 16 < (q : Int)
              · have HOK : Hid (lvB vs ⟨3, imm, kids⟩ = true) := Lib.hid (by rw [HLV.out, decide_eq_true hlt, Bool.or_true])
                clear hq0
                go_wp2_with fail
                go_roundw
                case rel => exact Lib.hid ⟨i + 1, k, by go_num, by omega, ev_step HB2.out.2.2 HX.out HOK.out, HB2.out.1.alloc HB2.out.1.size _, HB2.out.2.1.alloc _⟩
                case measure => (first | (simp [intOf]; done) | (simp [intOf]; omega))
              · have hbad : lvB vs ⟨3, imm, kids⟩ = false := by rw [HLV.out, decide_eq_false hlt, decide_eq_false hq0]; rfl
                have HF := Lib.hid (all_upto (lvB vs) l i _ HX.out hbad)
                have hge : (q : Int) ≤ imm % 16 := by omega
                clear hbad hlt hq0
                go_wp2_with fail
                go_ret
                exact retN (congrArg Value.bool (HF.out.symm.trans HBV.out.1.symm)) (HB2.out.1.alloc HB2.out.1.size _)
          · have hne : (op != 3) = true := bne_iff_ne.2 hop
            have HOK : Hid (lvB vs ⟨op, imm, kids⟩ = true) := Lib.hid (by
              show (!decide (op = 3) || _) = true
              rw [decide_eq_false hop]
              rfl)
            clear hop
            go_wp2_with fail
            go_roundw
            case rel => exact Lib.hid ⟨i + 1, k, by go_num, by omega, ev_step HB2.out.2.2 HX.out HOK.out, HB2.out.1.alloc HB2.out.1.size _, HB2.out.2.1.alloc _⟩
            case measure => (first | (simp [intOf]; done) | (simp [intOf]; omega))
end Go.Proofs.YtpgnlfdindmopaaGreatDoor
