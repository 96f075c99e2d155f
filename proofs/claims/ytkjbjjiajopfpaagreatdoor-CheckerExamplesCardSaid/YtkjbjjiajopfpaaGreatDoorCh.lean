/- Stage 4: the walks of isParsedAsName and isName: a map that remembers names. -/
import Derived.Test.YtkjbjjiajopfpaaGreatDoorCg
import Derived.Test.YtkjbjjiajopfpaaGreatDoorCn
import Derived.Test.YtkjbjjiajopfpaaGreatDoorBl
import Derived.Maps.OwnOps
import Derived.Maps.Views
import Derived.Maps.OwnSet
import Derived.Deep.RegionWith
namespace Go.Proofs.YtkjbjjiajopfpaaGreatDoor
open Go.RowKit (wrap64 intOf)
open Go Go.RowKit WM LX PX CX

set_option maxRecDepth 100000
set_option maxHeartbeats 4000000
/-- The tables that the parser reads stand, below block b. -/
def En (b : Nat) (w : World) : Prop := Tab b w ∧ Env b w
theorem En.on {b : Nat} {w w' : World} (h : En b w) (hb : Below b w w') : En b w' := ⟨h.1.on hb, h.2.on hb⟩
theorem En.pe {b : Nat} {w : World} (h : En b w) (hb : b ≤ w.heap.size) : PEnv w := ⟨h.1.up hb, ⟨h.2.1.up hb, h.2.2.1.up hb, fun w2 h2 => h.2.2.2 w2 (below_down h2 hb)⟩⟩
theorem kp_under {m : Option Nat} {w w' : World} {b : Nat} (h : Kp m w w') (hm : ∀ x, m = some x → b ≤ x) (hb : b ≤ w.heap.size) : Below b w w' :=
  ⟨h.os, h.tape, h.output, h.size, fun i hi => h.block i (Nat.lt_of_lt_of_le hi hb) (fun e => by have := hm i e.symm; omega)⟩
/-- A map from names to bools that says true of names alone, of at most c entries, at block B. -/
def NMp (B c : Nat) (w : World) : Prop :=
  ∃ (n : Nat) (D : DataW Unit), n ≤ c ∧ w.ownsMap Tryz.prog 9 (plainElem Tryz.prog 4) B n D ∧ Maps.IsMap D ∧ ∀ x : List UInt8, D.atKey (.string x) (.lit (.bool false)) = .lit (.bool true) → nameB x = true
theorem NMp.lt {B c : Nat} {w : World} (h : NMp B c w) : B < w.heap.size := by
  obtain ⟨n, D, _, h, _⟩ := h
  exact h.lt
theorem NMp.on {B c c' : Nat} {w w' : World} (h : NMp B c w) (hb : Below w.heap.size w w') (hc : c ≤ c') : NMp B c' w' := by
  obtain ⟨n, D, hn, h, hm, hx⟩ := h
  exact ⟨n, D, Nat.le_trans hn hc, h.kept (grown_below hb none) (by simp), hm, hx⟩
theorem boolElem (x : Bool) : plainElem (H := Unit) Tryz.prog 4 (.bool x) = some (.lit (.bool x), []) := plainElem_bool Tryz.underlying4 x
theorem boolElem_inv {v : Value} {z : DataW Unit × List MemPlace} (h : plainElem Tryz.prog 4 v = some z) : ∃ x, v = .bool x ∧ z = (.lit (.bool x), []) := by
  unfold plainElem at h
  rw [Tryz.underlying4] at h
  cases v <;> simp at h
  exact ⟨_, rfl, h.symm⟩
theorem keyS (x : List UInt8) (hx : x.length ≤ 1000000000) : keyOf Tryz.prog 9 (.string ⟨x.toArray⟩) = some (.string x) :=
  WideMaps.keyOf_string_mk (s := ⟨x.toArray⟩) Tryz.underlying9 (by show x.toArray.size ≤ maxLen; unfold maxLen; simp; omega)
theorem lawS : Maps.Keyed Tryz.prog 9 := Maps.string_keyed Tryz.underlying9
theorem mapT : Tryz.prog.underlying 69 = some (.map 9 4) := Tryz.underlying69
theorem look_nm {B n : Nat} {w : World} {D : DataW Unit} (h : w.ownsMap Tryz.prog 9 (plainElem Tryz.prog 4) B n D) (x : List UInt8) (hx : x.length ≤ 1000000000) :
    ∃ b : Bool, (Instr.lookup 69 (.map (some B)) (.string ⟨x.toArray⟩) false).run Tryz.prog w = .ok (.bool b) w ∧ D.atKey (.string x) (.lit (.bool false)) = .lit (.bool b) := by
  obtain ⟨v, ps, hrun, hv⟩ := h.lookup lawS mapT (z := .bool false) (by kernel_rfl) (boolElem false) (keyS x hx)
  obtain ⟨b, rfl, hb⟩ := boolElem_inv hv
  simp only [Prod.mk.injEq] at hb
  exact ⟨b, hrun, hb.1⟩
theorem put_nm {B n : Nat} {w : World} {D : DataW Unit} (h : w.ownsMap Tryz.prog 9 (plainElem Tryz.prog 4) B n D) (hn : n < maxLen) (x : List UInt8) (hx : x.length ≤ 1000000000) (b : Bool) :
    ∃ w', (Instr.mapUpdate 69 (.map (some B)) (.string ⟨x.toArray⟩) (.bool b)).run Tryz.prog w = .ok () w' ∧ w'.ownsMap Tryz.prog 9 (plainElem Tryz.prog 4) B (n + 1) (D.put (.string x) (.lit (.bool b))) ∧ w.grownBy w' (some B) :=
  h.update lawS mapT hn (keyS x hx) (boolElem b)
theorem parsed_any (x : List UInt8) (hx : x.length ≤ 1000000000) (w : World) (h : PEnv w) : Calls Tryz.prog 65 #[.string ⟨x.toArray⟩] w (RetN (.bool (nameB x)) w) := by
  obtain ⟨sx, hsx⟩ : ∃ sx : ByteArray, (⟨x.toArray⟩ : ByteArray) = sx := ⟨_, rfl⟩
  have l1 : sx.size ≤ 1000000000 := by rw [← hsx]; show x.toArray.size ≤ _; simpa using hx
  have ht : sx.data.toList = x := by rw [← hsx]
  obtain ⟨r, hr⟩ : ∃ r, parseF (nmA ++ x ++ nmZ) = r := ⟨_, rfl⟩
  have hpar := parse_any (⟨#[97, 114, 114, 97, 121, 32]⟩ ++ sx ++ ⟨#[32, 49, 59]⟩) r (Lib.hid (by rw [← hr]; congr 1; simp [nmA, nmZ, ByteArray.data_append, ht])) w h
  have hnm : nameB x = (decide (r.2.1 = 0) && (decide (r.1.arrays.length = 1) && decide ((r.1.arrays.getD 0 ([], 0)).1 = x))) := by unfold nameB; rw [hr]
  rw [hsx, hnm]
  have hal : ∀ (q : PG × Nat × Nat), r = q → True := fun _ _ => trivial
  clear hal
  obtain ⟨⟨ars, fs⟩, y, a⟩ := r
  dsimp only at hpar ⊢
  obtain ⟨b3, hb3⟩ : ∃ b3, decide ((ars.getD 0 ([], 0)).1 = x) = b3 := ⟨_, rfl⟩
  rw [hb3]
  have H3 := Lib.hid (And.intro hb3 ht)
  have HP := Lib.hid hpar
  clear hpar hr hnm hx h hsx ht hb3
  go_enter Tryz.func65, Tryz.ntmps65
  go_wp2_with fail
  refine HP.out.mono ?_
  rintro e w1 ⟨A, L, c, A', L', c', rfl, ra, _, hb⟩
  dsimp only at ra
  obtain rfl := repL_len ra
  obtain ⟨A0, c0, hv, hat⟩ := ra.at
  injection hv with hv1 hv2 hv3
  subst hv1 hv3
  obtain ⟨la, hla⟩ : ∃ la, ars.length = la := ⟨_, rfl⟩
  have HA := Lib.hid (And.intro hat hla)
  have HB := Lib.hid hb
  rw [hla]
  clear hat hla hb ra HP
  have hb2 : Below w.heap.size w ((w1.alloc (.cells #[.slice A la c, .slice A' L' c'] 32)).alloc (.cells #[.int .i64 (y : Int), .int .i64 (a : Int)] 106)) := (HB.out.alloc HB.out.size _).alloc (Nat.le_trans HB.out.size (by simp)) _
  have HB2 := Lib.hid hb2
  clear hb2
  by_cases h0 : y = 0
  · subst h0
    have HB2 : Hid (Below w.heap.size w ((w1.alloc (.cells #[.slice A la c, .slice A' L' c'] 32)).alloc (.cells #[.int .i64 0, .int .i64 (a : Int)] 106))) := HB2
    by_cases h1 : la = 1
    · subst h1
      obtain ⟨a0, ha0⟩ : ∃ a0, ars[0]? = some a0 := ⟨_, List.getElem?_eq_getElem (by rw [HA.out.2]; decide)⟩
      obtain ⟨g, cs, rfl, hg, hcs, hcell⟩ := HA.out.1 0 a0 ha0
      obtain ⟨s0, hs0⟩ : ∃ s0 : ByteArray, (⟨a0.1.toArray⟩ : ByteArray) = s0 := ⟨_, rfl⟩
      have hc := hcell 0 (.string s0) (by rw [show cs = _ from hcs, ← hs0]; rfl)
      have hc2 : w1.cell? ⟨g, 0, none⟩ = some (.string s0) := by rwa [Nat.zero_mul, Nat.add_zero] at hc
      have hg2 := hg.2
      have hfin : (s0.data.toList == sx.data.toList) = b3 := by
        rw [← H3.out.1, H3.out.2, ← hs0, beq_dec]
        show decide (a0.1 = x) = _
        rw [List.getD_eq_getElem?_getD, ha0]
        rfl
      have HF := Lib.hid hfin
      have e1 : decide ((1 : Int) = 1) = true := rfl
      have HA2 := Lib.hid HA.out.2
      clear hcell hc hcs hg ha0 hs0 hfin HA HB H3
      go_wp2_with fail
      go_ret
      exact retN (by show Value.bool _ = Value.bool _; congr 1; rw [show ars.length = 1 from HA2.out, ByteArray.toList_eq, ByteArray.toList_eq, HF.out]; simp) HB2.out
    · have h2 : ((la : Int) == 1) = false := by rw [beq_eq_false_iff_ne]; omega
      go_wp2_with fail
      go_ret
      exact retN (by show Value.bool false = Value.bool _; congr 1; rw [show ars.length = la from HA.out.2]; simp [h1]) HB2.out
  · have h2 : ((y : Int) == 0) = false := by rw [beq_eq_false_iff_ne]; omega
    go_wp2_with fail
    go_ret
    exact retN (by show Value.bool false = Value.bool _; congr 1; simp [h0]) HB2.out
/-- What a test of shapes keeps: the map, the tables; of the old blocks the map alone turns. -/
def ShI (b B : Nat) (w0 : World) (c : Nat) (w : World) : Prop := NMp B c w ∧ En b w ∧ Kp (some B) w0 w
theorem nm_any (b B : Nat) (hbB : b ≤ B) (x : List UInt8) (hx : x.length ≤ 1000000000) (c : Nat) (hc : c ≤ 1000000000000) (w : World) (hN : NMp B c w) (hE : En b w) :
    Calls Tryz.prog 35 #[.agg #[.map (some B)], .string ⟨x.toArray⟩] w (RetK (.bool (nameB x)) (some B) w (fun w' => NMp B (c + 1) w' ∧ En b w')) := by
  have hBw := hN.lt
  obtain ⟨n, D, hn, hown, hm, hD⟩ := hN
  obtain ⟨W1, hW1⟩ : ∃ W1, w.alloc (.cells #[.map (some B)] 71) = W1 := ⟨_, rfl⟩
  have k1 : Blk W1 w.heap.size 71 #[.map (some B)] := by rw [← hW1]; exact Blk.new _ _ _
  have hb1 : Below w.heap.size w W1 := by rw [← hW1]; exact (Below.refl _ _).alloc (Nat.le_refl _) _
  have hown1 := hown.kept (grown_below hb1 none) (by simp)
  obtain ⟨v, hrun, hat⟩ := look_nm hown1 x hx
  have hne : B ≠ w.heap.size := Nat.ne_of_lt hBw
  obtain ⟨sx, hsx⟩ : ∃ sx : ByteArray, (⟨x.toArray⟩ : ByteArray) = sx := ⟨_, rfl⟩
  cases v with
  | true =>
    rw [hD x hat]
    rw [hsx] at hrun ⊢
    rw [← hW1] at hrun
    have HH := Lib.hid (And.intro hW1 (And.intro hb1 (And.intro hown1 (And.intro hm (And.intro hD hE)))))
    clear hW1 hb1 hown1 hown hm hD hE k1 hat hsx
    go_enter Tryz.func35, Tryz.ntmps35
    go_wp2_with fail
    go_ret
    obtain ⟨h1, h2, h3, h4, h5, h6⟩ := HH.out
    rw [h1]
    exact retK rfl ⟨⟨n, D, by omega, h3, h4, h5⟩, h6.on (below_down h2 (by omega))⟩ (kp_below h2 _)
  | false =>
    have hpar := fun W (h : PEnv W) => parsed_any x hx W h
    obtain ⟨nb, hnb⟩ : ∃ nb, nameB x = nb := ⟨_, rfl⟩
    rw [hnb] at hpar ⊢
    have HW1 := Lib.hid hW1
    have hrun0 := hrun
    rw [hsx] at hrun hpar ⊢
    rw [← hW1] at hrun
    have HP := Lib.hid hpar
    have HH := Lib.hid (And.intro hb1 (And.intro hown1 (And.intro hm (And.intro hD (And.intro hE (And.intro k1 (And.intro hnb hsx)))))))
    clear hW1 hb1 hown1 hown hm hD hE k1 hat hsx hpar hnb hrun0
    go_enter Tryz.func35, Tryz.ntmps35
    go_wp2_with fail
    rw [HW1.out]
    have y0 : W1.cell? ⟨w.heap.size, 0, none⟩ = some (.map (some B)) := HH.out.2.2.2.2.2.1.cell 0
    clear hrun
    have hE1 : ∀ W, Below W1.heap.size W1 W → PEnv W := fun W hW => (HH.out.2.2.2.2.1.on (below_down (HH.out.1.trans (below_down hW HH.out.1.size)) (by omega))).pe (Nat.le_trans (by omega) (Nat.le_trans HH.out.1.size hW.size))
    have HE1 := Lib.hid hE1
    clear hE1
    have hput : ∀ W3, Below W1.heap.size W1 W3 → ∃ w4, (Instr.mapUpdate 69 (.map (some B)) (.string sx) (.bool nb)).run Tryz.prog W3 = .ok () w4 ∧ NMp B (c + 1) w4 ∧ W3.grownBy w4 (some B) ∧
        (Instr.lookup 69 (.map (some B)) (.string sx) false).run Tryz.prog w4 = .ok (.bool nb) w4 ∧ W3.cell? ⟨w.heap.size, 0, none⟩ = some (.map (some B)) ∧ w4.cell? ⟨w.heap.size, 0, none⟩ = some (.map (some B)) := fun W3 hW3 => by
      obtain ⟨h1, h2, h3, h4, h5, h6, h7, h8⟩ := HH.out
      have hown3 := h2.kept (grown_below hW3 none) (by simp)
      obtain ⟨w4, r1, r2, r3⟩ := put_nm hown3 (by unfold maxLen; omega) x hx nb
      rw [h8] at r1
      obtain ⟨v, s1, s2⟩ := look_nm r2 x hx
      rw [h8] at s1
      rw [Maps.atKey_put_same h3 (lawS.key (keyS x hx))] at s2
      obtain rfl : nb = v := by injection s2 with s2; injection s2
      refine ⟨w4, r1, ⟨n + 1, _, by omega, r2, h3.put _ _, fun y hy => ?_⟩, r3, s1, (World.cell?_of_block (hW3.block _ h6.lt)).trans (h6.cell 0), (World.cell?_of_block ((r3.block _ (Nat.lt_of_lt_of_le h6.lt hW3.size) (fun e => by injection e with e; omega)).trans (hW3.block _ h6.lt))).trans (h6.cell 0)⟩
      by_cases hxy : y = x
      · subst hxy
        rw [Maps.atKey_put_same h3 (lawS.key (keyS y hx))] at hy
        injection hy with hy
        injection hy with hy
        rw [h7, hy]
      · rw [Maps.atKey_put_other (fun e => hxy (by injection e))] at hy
        exact h4 y hy
    have HPUT := Lib.hid hput
    clear hput
    go_region_with (go_at_call 65; ((with_reducible refine (HP.out _ (HE1.out _ ?_)).mono ?_)); rotate_left; (rintro e w3 ⟨rfl, hb3⟩; obtain ⟨w4, q1, q2, q3, q4, q5, q6⟩ := HPUT.out w3 ⟨hb3.os, hb3.tape, hb3.output, hb3.size, hb3.block⟩); rotate_left; (first | exact Below.refl _ _ | exact below_drewN (Below.refl _ _) _))
    all_goals
      have HQ := Lib.hid (And.intro q2 q3)
      have HB3 := Lib.hid hb3
      clear q2 q3 hb3
      clear q1 q5
      go_wp2_with fail
      go_ret
      have hk : Kp (some B) w w4 := kp_to (kp_below (HH.out.1.trans (below_down (⟨HB3.out.os, HB3.out.tape, HB3.out.output, HB3.out.size, HB3.out.block⟩ : Below W1.heap.size W1 w3) HH.out.1.size)) _) HQ.out.2
      exact retK rfl ⟨HQ.out.1, HH.out.2.2.2.2.1.on (kp_under hk (fun y hy => by injection hy with hy; omega) (by omega))⟩ hk
/-- The invariant of the tests of shapes. -/
theorem inv_sh (b B : Nat) (w0 : World) (hbB : b ≤ B) (ok : Nat → Prop) (hok : ∀ x, ok x → x < w0.heap.size ∧ x ≠ B) : Inv (ShI b B w0) ok (some B) w0 :=
  ⟨fun _ _ h y hy => by injection hy with hy; rw [← hy]; exact h.1.lt,
   fun _ _ _ h hb => ⟨h.1.on hb (Nat.le_refl _), h.2.1.on (below_down hb (Nat.le_trans hbB (Nat.le_of_lt h.1.lt))), kp_to h.2.2 (kp_below hb _)⟩,
   fun _ _ w h hc => ⟨h.1.on (Below.refl _ w) hc, h.2⟩,
   fun _ _ h x hx => ⟨Nat.lt_of_lt_of_le (hok x hx).1 h.2.2.size, h.2.2.block x (hok x hx).1 (fun e => by injection e with e; exact (hok x hx).2 e)⟩⟩
theorem ret_sh {v : Value} {b B : Nat} {w0 w : World} {c : Nat} {e : Ending} {w' : World} (h : RetK v (some B) w (fun w' => NMp B c w' ∧ En b w') e w') (hk : Kp (some B) w0 w) : RetK v (some B) w (ShI b B w0 c) e w' :=
  ⟨h.1, ⟨h.2.1.1, h.2.1.2, kp_to hk h.2.2⟩, h.2.2⟩
/-- isName as a test. -/
theorem tst_nm (b B : Nat) (hbB : b ≤ B) (w0 : World) (x : List UInt8) (hx : x.length ≤ 1000000000) (c : Nat) (hc : c ≤ 1000000000000) (w : World) (h : ShI b B w0 c w) :
    Calls Tryz.prog 35 #[.agg #[.map (some B)], .string ⟨x.toArray⟩] w (RetK (.bool (nameB x)) (some B) w (ShI b B w0 (c + 1))) :=
  (nm_any b B hbB x hx c hc w h.1 h.2.1).mono fun _ _ k => ret_sh k h.2.2
end Go.Proofs.YtkjbjjiajopfpaaGreatDoor
