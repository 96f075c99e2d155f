/- Stage 3: the walk of ParserPrecedence. -/
import Derived.Test.YtkjbjjiajopfpaaDoorRb
import Derived.Test.YtkjbjjiajopfpaaDoorPp
import Derived.Test.YtkjbjjiajopfpaaDoorBx
import Derived.Deep.QuietTactic
import Derived.BigQuiet
namespace Go.Proofs.YtkjbjjiajopfpaaDoor
open Go.RowKit (wrap64 intOf)
open Go Go.RowKit WM LX PX

set_option maxRecDepth 100000
set_option maxHeartbeats 4000000
/-- One function with an empty body was parsed: its cells, its lists, its expression with two kids. -/
def PrP (nm : List UInt8) (ps ls : List (List UInt8)) (ve : PE) (n1 n2 : Nat) (w : World) (e : Ending) (w' : World) : Prop :=
  ∃ (A : Option Addr) (c g cf : Nat) (A1 : Option Addr) (L1 c1 : Nat) (A2 : Option Addr) (L2 c2 : Nat) (A3 : Option Addr) (c3 : Nat) (kd nn : Int) (xn : List UInt8) (op : Int) (kg c4 : Nat) (A5 : Option Addr) (c5 : Nat) (A6 : Option Addr) (c6 : Nat),
    e = .returned (.tuple #[.agg #[.slice A 0 c, .slice (some ⟨g, 0, none⟩) 1 cf], .agg #[.int .i64 0, .int .i64 0]]) ∧ g < w'.heap.size ∧
    (∀ j u, (fnC nm A1 L1 c1 A2 L2 c2 A3 c3 kd nn xn op (some ⟨kg, 0, none⟩) 2 c4)[j]? = some u → w'.cell? ⟨g, j, none⟩ = some u) ∧
    RepL RepN 1 w' (fun x => x < w'.heap.size) ps (.slice A1 L1 c1) ∧ RepL RepN 1 w' (fun x => x < w'.heap.size) ls (.slice A2 L2 c2) ∧ RepE w' (fun x => x < w'.heap.size) ve (exC kd nn xn op (some ⟨kg, 0, none⟩) 2 c4) ∧
    kg < w'.heap.size ∧ w'.cell? ⟨kg, 4, none⟩ = some (.slice A5 n1 c5) ∧ w'.cell? ⟨kg, 9, none⟩ = some (.slice A6 n2 c6) ∧ Below w.heap.size w w'
theorem two_kids {w : World} {ok : Nat → Prop} {o k1 m1 : Int} {x1 : List UInt8} {o1 : Int} {l1 : List PE} {k2 m2 : Int} {x2 : List UInt8} {o2 : Int} {l2 : List PE} {cs : List Value} (h : RepE w ok (opE o [.mk k1 m1 x1 o1 l1, .mk k2 m2 x2 o2 l2]) cs) :
    ∃ kg c A5 c5 A6 c6, cs = exC 4 0 [] o (some ⟨kg, 0, none⟩) 2 c ∧ ok kg ∧ w.cell? ⟨kg, 4, none⟩ = some (.slice A5 l1.length c5) ∧ w.cell? ⟨kg, 9, none⟩ = some (.slice A6 l2.length c6) := by
  cases h with
  | mk _ _ _ _ _ A c g F hA hc hk =>
    obtain ⟨rfl, hok⟩ := hA (by simp)
    have h1 := hk 0 _ rfl
    have h2 := hk 1 _ rfl
    generalize e1 : F 0 = f0 at h1
    generalize e2 : F 1 = f1 at h2
    cases h1 with
    | mk _ _ _ _ _ A5 c5 g5 F5 _ _ _ =>
      cases h2 with
      | mk _ _ _ _ _ A6 c6 g6 F6 _ _ _ =>
        exact ⟨g, c, A5, c5, A6, c6, rfl, hok, hc 0 4 _ (by simp) (by rw [e1]; rfl), hc 1 4 _ (by simp) (by rw [e2]; rfl)⟩
theorem prP_of {nm : List UInt8} {ps ls : List (List UInt8)} {o k1 m1 : Int} {x1 : List UInt8} {o1 : Int} {l1 : List PE} {k2 m2 : Int} {x2 : List UInt8} {o2 : Int} {l2 : List PE} {w : World} {e : Ending} {w' : World}
    (h : PaP (⟨[], [⟨nm, ps, ls, [], opE o [.mk k1 m1 x1 o1 l1, .mk k2 m2 x2 o2 l2]⟩]⟩, 0, 0) w e w') : PrP nm ps ls (opE o [.mk k1 m1 x1 o1 l1, .mk k2 m2 x2 o2 l2]) l1.length l2.length w e w' := by
  obtain ⟨A, L, c, A', L', c', rfl, ⟨F0, ⟨A0, cc0, hv0, _⟩, _⟩, ⟨F, ⟨A2, cc, hv, hrow⟩, hel⟩, hb⟩ := h
  obtain ⟨g, rfl, hg, hcell⟩ := hrow (by show 0 < 1; decide)
  injection hv with h1 h2 h3
  injection hv0 with h4 h5 h6
  subst h1 h2 h3 h4 h5 h6
  obtain ⟨B1, K1, d1, B2, K2, d2, B3, K3, d3, kd, nn, xn, op, A3, L3, c3, hF, r1, r2, r3, hE⟩ := hel 0 _ rfl
  obtain ⟨kg, c4, A5, c5, A6, c6, hcs, hkg, y1, y2⟩ := two_kids hE
  simp only [List.cons.injEq, Value.int.injEq, Value.slice.injEq] at hcs
  obtain ⟨⟨_, rfl⟩, ⟨_, rfl⟩, hxn, ⟨_, rfl⟩, ⟨rfl, rfl, rfl⟩, _⟩ := hcs
  obtain ⟨F3, ⟨A7, c7, hv3, _⟩, _⟩ := r3
  injection hv3 with q1 q2 q3
  subst q1 q2 q3
  have hc := fun j u (h : (F 0)[j]? = some u) => hcell 0 j u (by show 0 < 1; decide) h
  rw [hF] at hc
  exact ⟨A, _, g, _, B1, K1, d1, B2, K2, d2, B3, _, 4, 0, xn, _, kg, _, A5, c5, A6, c6, rfl, hg.2, fun j u hu => by
      have := hc j u (by simpa using hu)
      rwa [Nat.zero_mul, Nat.zero_add] at this,
    r1.keep keepsN (fun _ h => h.2) (fun _ _ => rfl), r2.keep keepsN (fun _ h => h.2) (fun _ _ => rfl), hE.keep (fun _ h => h.2) (fun _ _ => rfl), hkg.2, y1, y2, hb⟩
/-- How many kids the two kids have. -/
def prN1 (p q : Nat) : Nat := if q ≤ p then 2 else 0
def prN2 (p q : Nat) : Nat := if q ≤ p then 0 else 2
theorem prec_parse (s : ByteArray) (p q : Nat) (hs : parseF s.data.toList = prR p q) (w : World) (h : PEnv w) :
    Calls Tryd.prog 5 #[.string s] w (PrP [102] [[120], [121], [122]] [] (prV p q) (prN1 p q) (prN2 p q) w) := by
  refine (parse_any s _ (Lib.hid hs) w h).mono fun _ _ h => ?_
  unfold prR at h
  unfold prV prN1 prN2 at *
  by_cases hpq : q ≤ p
  · rw [if_pos hpq] at h
    simp only [if_pos hpq]
    exact prP_of h
  · rw [if_neg hpq] at h
    simp only [if_neg hpq]
    exact prP_of h
theorem prE_text {p q : Nat} {sp sq : ByteArray} (h1 : sp.data.toList = prS p) (h2 : sq.data.toList = prS q) (hp : p < 8) (hq : q < 8) :
    parseF (((⟨#[102, 117, 110, 99, 32, 102, 40, 120, 44, 32, 121, 44, 32, 122, 41, 32, 123, 32, 114, 101, 116, 117, 114, 110, 32]⟩ : ByteArray) ++ (⟨#[120, 32]⟩ ++ sp ++ ⟨#[32, 121, 32]⟩ ++ sq ++ ⟨#[32, 122]⟩)) ++ ⟨#[59, 32, 125]⟩).data.toList = prR p q := by
  rw [← prE_parse hp hq]
  congr 1
  simp [prE, prA, prH, h1, h2, ByteArray.data_append]
theorem prF_text1 {p q : Nat} {sp sq : ByteArray} (h1 : sp.data.toList = prS p) (h2 : sq.data.toList = prS q) (hp : p < 8) (hq : q < 8) (hpq : q ≤ p) :
    parseF (((⟨#[102, 117, 110, 99, 32, 102, 40, 120, 44, 32, 121, 44, 32, 122, 41, 32, 123, 32, 114, 101, 116, 117, 114, 110, 32, 40]⟩ : ByteArray) ++ (⟨#[40, 40, 120, 41, 32]⟩ ++ sp ++ ⟨#[32, 121, 41, 32]⟩ ++ sq ++ ⟨#[32, 40, 40, 40, 122, 41, 41, 41]⟩)) ++ ⟨#[41, 59, 32, 125]⟩).data.toList = prR p q := by
  rw [← prF_parse hp hq]
  congr 1
  simp [prF', prB, prH, h1, h2, ByteArray.data_append, if_pos hpq]
theorem prF_text2 {p q : Nat} {sp sq : ByteArray} (h1 : sp.data.toList = prS p) (h2 : sq.data.toList = prS q) (hp : p < 8) (hq : q < 8) (hpq : ¬ q ≤ p) :
    parseF (((⟨#[102, 117, 110, 99, 32, 102, 40, 120, 44, 32, 121, 44, 32, 122, 41, 32, 123, 32, 114, 101, 116, 117, 114, 110, 32, 40]⟩ : ByteArray) ++ (⟨#[120, 32]⟩ ++ sp ++ ⟨#[32, 40, 121, 32]⟩ ++ sq ++ ⟨#[32, 122, 41]⟩)) ++ ⟨#[41, 59, 32, 125]⟩).data.toList = prR p q := by
  rw [← prF_parse hp hq]
  congr 1
  simp [prF', prB, prH, h1, h2, ByteArray.data_append, if_neg hpq]
theorem prV_deep (p q : Nat) : KD 2 (prV p q) := by
  unfold prV
  split
  · refine ⟨by show 2 ≤ 1000; decide, fun k hk => ?_⟩
    rcases List.mem_cons.1 hk with h | h
    · rw [h]; exact ⟨by show 2 ≤ 1000; decide, fun k hk => by
        rcases List.mem_cons.1 hk with h | h
        · rw [h]; rfl
        · rw [List.mem_singleton] at h; rw [h]; rfl⟩
    · rw [List.mem_singleton] at h; rw [h]; exact ⟨by show 0 ≤ 1000; decide, fun k hk => by simp at hk⟩
  · refine ⟨by show 2 ≤ 1000; decide, fun k hk => ?_⟩
    rcases List.mem_cons.1 hk with h | h
    · rw [h]; exact ⟨by show 0 ≤ 1000; decide, fun k hk => by simp at hk⟩
    · rw [List.mem_singleton] at h; rw [h]; exact ⟨by show 2 ≤ 1000; decide, fun k hk => by
        rcases List.mem_cons.1 hk with h | h
        · rw [h]; rfl
        · rw [List.mem_singleton] at h; rw [h]; rfl⟩
abbrev signC : Array Value := #[.string ⟨#[124]⟩, .string ⟨#[94]⟩, .string ⟨#[38]⟩, .string ⟨#[61, 61]⟩, .string ⟨#[60]⟩, .string ⟨#[60, 60]⟩, .string ⟨#[43]⟩, .string ⟨#[42]⟩]
theorem sign_at : ∀ p, p < 8 → signC[p]? = some (.string ⟨(prS p).toArray⟩) := by
  intro p hp
  match p, hp with
  | 0, _ | 1, _ | 2, _ | 3, _ | 4, _ | 5, _ | 6, _ | 7, _ => rfl
theorem prec_any (a b : Int) (p q : Nat) (hp : p < 8) (hq : q < 8) (ha : a % 8 = (p : Int)) (hb : b % 8 = (q : Int)) (w : World) (h : PEnv w) :
    Calls Tryd.prog 3 #[.int .i64 a, .int .i64 b] w (RetN (.bool true) w) := by
  obtain ⟨sp, hsp⟩ : ∃ sp : ByteArray, (⟨(prS p).toArray⟩ : ByteArray) = sp := ⟨_, rfl⟩
  obtain ⟨sq, hsq⟩ : ∃ sq : ByteArray, (⟨(prS q).toArray⟩ : ByteArray) = sq := ⟨_, rfl⟩
  have t1 : sp.data.toList = prS p := by rw [← hsp]
  have t2 : sq.data.toList = prS q := by rw [← hsq]
  have l1 : sp.size ≤ 2 := by rw [← hsp]; show (prS p).toArray.size ≤ 2; simpa using prS_len p hp
  have l2 : sq.size ≤ 2 := by rw [← hsq]; show (prS q).toArray.size ≤ 2; simpa using prS_len q hq
  obtain ⟨W1, hW1⟩ : ∃ W1, w.alloc (.cells signC 9) = W1 := ⟨_, rfl⟩
  have k1 : Blk W1 w.heap.size 9 signC := by rw [← hW1]; exact Blk.new _ _ _
  have hb1 : Below w.heap.size w W1 := by rw [← hW1]; exact (Below.refl _ _).alloc (Nat.le_refl _) _
  have y1 : W1.cell? ⟨w.heap.size, p, none⟩ = some (.string sp) := by rw [← hsp]; exact (k1.cell p).trans (sign_at p hp)
  have y2 : W1.cell? ⟨w.heap.size, q, none⟩ = some (.string sq) := by rw [← hsq]; exact (k1.cell q).trans (sign_at q hq)
  have HT := Lib.hid (And.intro t1 (And.intro t2 (And.intro ha (And.intro hb hW1))))
  have HB1 := Lib.hid (And.intro hb1 (h.on hb1))
  have i1 : (p : Int) < 8 := by omega
  have i2 : (q : Int) < 8 := by omega
  clear hsp hsq t1 t2 ha hb k1 hW1 hb1 h
  by_cases hpq : q ≤ p
  · have g1 : (q : Int) ≤ (p : Int) := by omega
    have hN1 : prN1 p q = 2 := by unfold prN1; rw [if_pos hpq]
    have hN2 : prN2 p q = 0 := by unfold prN2; rw [if_pos hpq]
    have HN := Lib.hid (And.intro hN1 hN2)
    clear hN1 hN2
    go_enter Tryd.func3, Tryd.ntmps3
    go_wp2_with (first | (go_at_call_of 4 (Value.int .i64 a); ((with_reducible refine (pick_any _ 8 _ (by decide) (by decide) HT.out.2.2.1 _).mono ?_); rintro e w' ⟨rfl, rfl⟩)) | (go_at_call 4; ((with_reducible refine (pick_any _ 8 _ (by decide) (by decide) HT.out.2.2.2.1 _).mono ?_); rintro e w' ⟨rfl, rfl⟩)))
    rw [HT.out.2.2.2.2]
    go_quiet (fail)
    have q1 : (W1.drewN nq).cell? ⟨w.heap.size, p, none⟩ = some (.string sp) := y1
    have q2 : (W1.drewN nq).cell? ⟨w.heap.size, q, none⟩ = some (.string sq) := y2
    have D1 := Lib.hid (And.intro (below_drewN (Below.refl W1.heap.size W1) nq) (show (W1.drewN nq).heap.size = W1.heap.size from rfl))
    clear y1 y2
    generalize W1.drewN nq = U1 at *
    clear nq
    have y1 := q1
    have y2 := q2
    clear q1 q2
    go_wp2_with fail
    go_quiet (fail)
    have q1 : (U1.drewN nq).cell? ⟨w.heap.size, p, none⟩ = some (.string sp) := y1
    have q2 : (U1.drewN nq).cell? ⟨w.heap.size, q, none⟩ = some (.string sq) := y2
    have D2 := Lib.hid (And.intro (below_drewN (Below.refl U1.heap.size U1) nq) (show (U1.drewN nq).heap.size = U1.heap.size from rfl))
    clear y1 y2
    generalize U1.drewN nq = U2 at *
    clear nq
    have y1 := q1
    have y2 := q2
    clear q1 q2
    go_wp2_with fail
    go_quiet (fail)
    have q1 : (U2.drewN nq).cell? ⟨w.heap.size, p, none⟩ = some (.string sp) := y1
    have q2 : (U2.drewN nq).cell? ⟨w.heap.size, q, none⟩ = some (.string sq) := y2
    have D3 := Lib.hid (And.intro (below_drewN (Below.refl U2.heap.size U2) nq) (show (U2.drewN nq).heap.size = U2.heap.size from rfl))
    clear y1 y2
    generalize U2.drewN nq = U3 at *
    clear nq
    have y1 := q1
    have y2 := q2
    clear q1 q2
    go_wp2_with fail
    have hb2 : Below w.heap.size w U3 := (HB1.out.1.trans (below_down (D1.out.1.trans (below_down (D2.out.1.trans (below_down D3.out.1 (Nat.le_of_eq D2.out.2.symm))) (Nat.le_of_eq D1.out.2.symm))) HB1.out.1.size))
    have HB2 := Lib.hid (And.intro hb2 (((HB1.out.2.on D1.out.1).on D2.out.1).on D3.out.1))
    clear hb2 y1 y2
    refine (prec_parse _ p q (prE_text HT.out.1 HT.out.2.1 hp hq) _ HB2.out.2).mono ?_
    rintro e w2 ⟨A, c, g, cf, A1, L1, c1, A2, L2, c2, A3, c3, kd, nn, xn, op, kg, c4, A5, c5, A6, c6, rfl, hg, hcs, r1, r2, r3, hkg, z1, z2, hb⟩
    obtain ⟨V2, hV2⟩ : ∃ V2, (w2.alloc (.cells #[.slice A 0 c, .slice (some ⟨g, 0, none⟩) 1 cf] 27)).alloc (.cells #[.int .i64 0, .int .i64 0] 30) = V2 := ⟨_, rfl⟩
    have hbV : Below w2.heap.size w2 V2 := by rw [← hV2]; exact ((Below.refl _ _).alloc (Nat.le_refl _) _).alloc (by simp) _
    have kP : Blk V2 w2.heap.size 27 #[.slice A 0 c, .slice (some ⟨g, 0, none⟩) 1 cf] := by rw [← hV2]; exact (Blk.new _ _ _).alloc _
    have kE : Blk V2 (w2.heap.size + 1) 30 #[.int .i64 0, .int .i64 0] := by rw [← hV2]; exact blk_at (by simp) _ _
    have hbw2 : Below w.heap.size w V2 := HB2.out.1.trans (below_down (hb.trans (below_down hbV hb.size)) HB2.out.1.size)
    have HA := Lib.hid (And.intro hcs (And.intro r1 (And.intro r2 (And.intro r3 (And.intro z1 z2)))))
    have HAg := Lib.hid (And.intro hg hkg)
    have HV := Lib.hid (And.intro hbV (And.intro kP (And.intro kE (And.intro hV2 (And.intro hbw2 ((HB2.out.2.on hb).on hbV))))))
    clear hcs r1 r2 r3 hkg z1 z2 hb hbV kP kE hV2 hbw2 hg
    go_wp2_with fail
    rw [HV.out.2.2.2.1]
    refine (prec_parse _ p q (prF_text1 HT.out.1 HT.out.2.1 hp hq hpq) _ HV.out.2.2.2.2.2).mono ?_
    rintro e w4 ⟨A', c', g', cf', A1', L1', c1', A2', L2', c2', A3', c3', kd', nn', xn', op', kg', c4', A5', c5', A6', c6', rfl, hg', hcs', r1', r2', r3', hkg', z1', z2', hb'⟩
    obtain ⟨V3, hV3⟩ : ∃ V3, (w4.alloc (.cells #[.slice A' 0 c', .slice (some ⟨g', 0, none⟩) 1 cf'] 27)).alloc (.cells #[.int .i64 0, .int .i64 0] 30) = V3 := ⟨_, rfl⟩
    have hbV : Below w4.heap.size w4 V3 := by rw [← hV3]; exact ((Below.refl _ _).alloc (Nat.le_refl _) _).alloc (by simp) _
    have kP' : Blk V3 w4.heap.size 27 #[.slice A' 0 c', .slice (some ⟨g', 0, none⟩) 1 cf'] := by rw [← hV3]; exact (Blk.new _ _ _).alloc _
    have kE' : Blk V3 (w4.heap.size + 1) 30 #[.int .i64 0, .int .i64 0] := by rw [← hV3]; exact blk_at (by simp) _ _
    have hb23 : Below V2.heap.size V2 V3 := hb'.trans (below_down hbV hb'.size)
    have hbw3 : Below w.heap.size w V3 := HV.out.2.2.2.2.1.trans (below_down hb23 HV.out.2.2.2.2.1.size)
    have kP := HV.out.2.1.on hb23 HV.out.2.1.lt
    have kE := HV.out.2.2.1.on hb23 HV.out.2.2.1.lt
    have hb2V : Below w2.heap.size w2 V3 := HV.out.1.trans (below_down hb23 HV.out.1.size)
    have HA' := Lib.hid (And.intro (fun j u (h : (fnC [102] A1' L1' c1' A2' L2' c2' A3' c3' kd' nn' xn' op' (some ⟨kg', 0, none⟩) 2 c4')[j]? = some u) => (World.cell?_of_block (hbV.block g' hg')).trans (hcs' j u h)) (And.intro (r1'.keep keepsN (ok' := fun x => x < V3.heap.size) (fun x h => Nat.lt_of_lt_of_le h hbV.size) (fun x h => hbV.block x h)) (And.intro (r2'.keep keepsN (ok' := fun x => x < V3.heap.size) (fun x h => Nat.lt_of_lt_of_le h hbV.size) (fun x h => hbV.block x h)) (r3'.keep (ok' := fun x => x < V3.heap.size) (fun x h => Nat.lt_of_lt_of_le h hbV.size) (fun x h => hbV.block x h)))))
    have HA3 := Lib.hid (And.intro (fun j u (h : (fnC [102] A1 L1 c1 A2 L2 c2 A3 c3 kd nn xn op (some ⟨kg, 0, none⟩) 2 c4)[j]? = some u) => (World.cell?_of_block (hb2V.block g HAg.out.1)).trans (HA.out.1 j u h)) (And.intro (HA.out.2.1.keep keepsN (ok' := fun x => x < V3.heap.size) (fun x h => Nat.lt_of_lt_of_le h hb2V.size) (fun x h => hb2V.block x h)) (And.intro (HA.out.2.2.1.keep keepsN (ok' := fun x => x < V3.heap.size) (fun x h => Nat.lt_of_lt_of_le h hb2V.size) (fun x h => hb2V.block x h)) (HA.out.2.2.2.1.keep (ok' := fun x => x < V3.heap.size) (fun x h => Nat.lt_of_lt_of_le h hb2V.size) (fun x h => hb2V.block x h)))))
    have hgV := Nat.lt_of_lt_of_le HAg.out.1 hb2V.size
    have hgV' := Nat.lt_of_lt_of_le hg' hbV.size
    have hkgV := Nat.lt_of_lt_of_le HAg.out.2 hb2V.size
    have z3 := (World.cell?_of_block (hb2V.block kg HAg.out.2)).trans HA.out.2.2.2.2.1
    have z4 := (World.cell?_of_block (hb2V.block kg HAg.out.2)).trans HA.out.2.2.2.2.2
    obtain ⟨a0, a1, _⟩ := (HV.out.2.1.on hb' HV.out.2.1.lt).cells2
    obtain ⟨b0, _⟩ := (HV.out.2.2.1.on hb' HV.out.2.2.1.lt).cells2
    have s1 := (HV.out.2.1.on hb' HV.out.2.1.lt).lt
    have s2 := (HV.out.2.2.1.on hb' HV.out.2.2.1.lt).lt
    have HX := Lib.hid (And.intro hbw3 (And.intro hV3 (And.intro kP (And.intro z3 (And.intro z4 ((HV.out.2.2.2.2.2.on hb23)))))))
    have HL := Lib.hid (And.intro hgV (And.intro hgV' hkgV))
    clear hcs' r1' r2' r3' hkg' z1' z2' hb' hbV kP' kE' kE hb23 hbw3 hb2V kP hV3 hgV hgV' hkgV z3 z4 hg'
    go_wp2_with fail
    rw [HX.out.2.1]
    refine (same_P [102] [[120], [121], [122]] [] (prV p q) 2 (prV_deep p q) (by decide) (by decide) V3 (fun x => x < V3.heap.size) (fun _ h => h) A c g cf A1 L1 c1 A2 L2 c2 A3 c3 kd nn xn op (some ⟨kg, 0, none⟩) 2 c4 HL.out.1 HA3.out.1 HA3.out.2.1 HA3.out.2.2.1 HA3.out.2.2.2
      A' c' g' cf' A1' L1' c1' A2' L2' c2' A3' c3' kd' nn' xn' op' (some ⟨kg', 0, none⟩) 2 c4' HL.out.2.1 HA'.out.1 HA'.out.2.1 HA'.out.2.2.1 HA'.out.2.2.2).mono ?_
    rintro e w6 ⟨rfl, hb6⟩
    have kP6 := HX.out.2.2.1.on hb6 HX.out.2.2.1.lt
    obtain ⟨_, a1', _⟩ := kP6.cells2
    have hc6 := fun j u (h : (fnC [102] A1 L1 c1 A2 L2 c2 A3 c3 kd nn xn op (some ⟨kg, 0, none⟩) 2 c4)[j]? = some u) => (World.cell?_of_block (hb6.block g HL.out.1)).trans (HA3.out.1 j u h)
    obtain ⟨e4, e5, e6, e7, e8⟩ : w6.cell? ⟨g, 4, none⟩ = _ ∧ w6.cell? ⟨g, 5, none⟩ = _ ∧ w6.cell? ⟨g, 6, none⟩ = _ ∧ w6.cell? ⟨g, 7, none⟩ = _ ∧ w6.cell? ⟨g, 8, none⟩ = _ := ⟨hc6 4 _ rfl, hc6 5 _ rfl, hc6 6 _ rfl, hc6 7 _ rfl, hc6 8 _ rfl⟩
    have x4 := (World.cell?_of_block (hb6.block kg HL.out.2.2)).trans HX.out.2.2.2.1
    have x9 := (World.cell?_of_block (hb6.block kg HL.out.2.2)).trans HX.out.2.2.2.2.1
    rw [HN.out.1] at x4
    rw [HN.out.2] at x9
    have hk6 := Nat.lt_of_lt_of_le HL.out.2.2 hb6.size
    have hg6 := Nat.lt_of_lt_of_le HL.out.1 hb6.size
    have hw6 := kP6.lt
    have HE6 := Lib.hid (And.intro (HX.out.1.trans (below_down hb6 HX.out.1.size)) (HX.out.2.2.2.2.2.on hb6))
    clear kP6 hc6 hb6 a0 a1 b0 s1 s2
    go_wp2_with fail
    have hbt : Below w6.heap.size w6 (w6.alloc (.cells #[.int .i64 kd, .int .i64 nn, .string ⟨xn.toArray⟩, .int .i64 op, .slice (some ⟨kg, 0, none⟩) 2 c4] 37)) := (Below.refl _ _).alloc (Nat.le_refl _) _
    refine (examples_any _ (HE6.out.2.on hbt)).mono ?_
    rintro e w7 ⟨rfl, hb7⟩
    have HB7 := Lib.hid (HE6.out.1.trans (below_down (hbt.trans (below_down hb7 (by simp))) HE6.out.1.size))
    clear hb7 hbt
    go_wp2_with fail
    go_ret
    exact retN rfl HB7.out
  · have g1 : ¬ (q : Int) ≤ (p : Int) := by omega
    have hN1 : prN1 p q = 0 := by unfold prN1; rw [if_neg hpq]
    have hN2 : prN2 p q = 2 := by unfold prN2; rw [if_neg hpq]
    have HN := Lib.hid (And.intro hN1 hN2)
    clear hN1 hN2
    go_enter Tryd.func3, Tryd.ntmps3
    go_wp2_with (first | (go_at_call_of 4 (Value.int .i64 a); ((with_reducible refine (pick_any _ 8 _ (by decide) (by decide) HT.out.2.2.1 _).mono ?_); rintro e w' ⟨rfl, rfl⟩)) | (go_at_call 4; ((with_reducible refine (pick_any _ 8 _ (by decide) (by decide) HT.out.2.2.2.1 _).mono ?_); rintro e w' ⟨rfl, rfl⟩)))
    rw [HT.out.2.2.2.2]
    go_quiet (fail)
    have q1 : (W1.drewN nq).cell? ⟨w.heap.size, p, none⟩ = some (.string sp) := y1
    have q2 : (W1.drewN nq).cell? ⟨w.heap.size, q, none⟩ = some (.string sq) := y2
    have D1 := Lib.hid (And.intro (below_drewN (Below.refl W1.heap.size W1) nq) (show (W1.drewN nq).heap.size = W1.heap.size from rfl))
    clear y1 y2
    generalize W1.drewN nq = U1 at *
    clear nq
    have y1 := q1
    have y2 := q2
    clear q1 q2
    go_wp2_with fail
    go_quiet (fail)
    have q1 : (U1.drewN nq).cell? ⟨w.heap.size, p, none⟩ = some (.string sp) := y1
    have q2 : (U1.drewN nq).cell? ⟨w.heap.size, q, none⟩ = some (.string sq) := y2
    have D2 := Lib.hid (And.intro (below_drewN (Below.refl U1.heap.size U1) nq) (show (U1.drewN nq).heap.size = U1.heap.size from rfl))
    clear y1 y2
    generalize U1.drewN nq = U2 at *
    clear nq
    have y1 := q1
    have y2 := q2
    clear q1 q2
    go_wp2_with fail
    have hb2 : Below w.heap.size w U2 := HB1.out.1.trans (below_down (D1.out.1.trans (below_down D2.out.1 (Nat.le_of_eq D1.out.2.symm))) HB1.out.1.size)
    have HB2 := Lib.hid (And.intro hb2 (((HB1.out.2.on D1.out.1).on D2.out.1)))
    clear hb2 y1 y2
    refine (prec_parse _ p q (prE_text HT.out.1 HT.out.2.1 hp hq) _ HB2.out.2).mono ?_
    rintro e w2 ⟨A, c, g, cf, A1, L1, c1, A2, L2, c2, A3, c3, kd, nn, xn, op, kg, c4, A5, c5, A6, c6, rfl, hg, hcs, r1, r2, r3, hkg, z1, z2, hb⟩
    obtain ⟨V2, hV2⟩ : ∃ V2, (w2.alloc (.cells #[.slice A 0 c, .slice (some ⟨g, 0, none⟩) 1 cf] 27)).alloc (.cells #[.int .i64 0, .int .i64 0] 30) = V2 := ⟨_, rfl⟩
    have hbV : Below w2.heap.size w2 V2 := by rw [← hV2]; exact ((Below.refl _ _).alloc (Nat.le_refl _) _).alloc (by simp) _
    have kP : Blk V2 w2.heap.size 27 #[.slice A 0 c, .slice (some ⟨g, 0, none⟩) 1 cf] := by rw [← hV2]; exact (Blk.new _ _ _).alloc _
    have kE : Blk V2 (w2.heap.size + 1) 30 #[.int .i64 0, .int .i64 0] := by rw [← hV2]; exact blk_at (by simp) _ _
    have hbw2 : Below w.heap.size w V2 := HB2.out.1.trans (below_down (hb.trans (below_down hbV hb.size)) HB2.out.1.size)
    have HA := Lib.hid (And.intro hcs (And.intro r1 (And.intro r2 (And.intro r3 (And.intro z1 z2)))))
    have HAg := Lib.hid (And.intro hg hkg)
    have HV := Lib.hid (And.intro hbV (And.intro kP (And.intro kE (And.intro hV2 (And.intro hbw2 ((HB2.out.2.on hb).on hbV))))))
    clear hcs r1 r2 r3 hkg z1 z2 hb hbV kP kE hV2 hbw2 hg
    go_wp2_with fail
    rw [HV.out.2.2.2.1]
    refine (prec_parse _ p q (prF_text2 HT.out.1 HT.out.2.1 hp hq hpq) _ HV.out.2.2.2.2.2).mono ?_
    rintro e w4 ⟨A', c', g', cf', A1', L1', c1', A2', L2', c2', A3', c3', kd', nn', xn', op', kg', c4', A5', c5', A6', c6', rfl, hg', hcs', r1', r2', r3', hkg', z1', z2', hb'⟩
    obtain ⟨V3, hV3⟩ : ∃ V3, (w4.alloc (.cells #[.slice A' 0 c', .slice (some ⟨g', 0, none⟩) 1 cf'] 27)).alloc (.cells #[.int .i64 0, .int .i64 0] 30) = V3 := ⟨_, rfl⟩
    have hbV : Below w4.heap.size w4 V3 := by rw [← hV3]; exact ((Below.refl _ _).alloc (Nat.le_refl _) _).alloc (by simp) _
    have kP' : Blk V3 w4.heap.size 27 #[.slice A' 0 c', .slice (some ⟨g', 0, none⟩) 1 cf'] := by rw [← hV3]; exact (Blk.new _ _ _).alloc _
    have kE' : Blk V3 (w4.heap.size + 1) 30 #[.int .i64 0, .int .i64 0] := by rw [← hV3]; exact blk_at (by simp) _ _
    have hb23 : Below V2.heap.size V2 V3 := hb'.trans (below_down hbV hb'.size)
    have hbw3 : Below w.heap.size w V3 := HV.out.2.2.2.2.1.trans (below_down hb23 HV.out.2.2.2.2.1.size)
    have kP := HV.out.2.1.on hb23 HV.out.2.1.lt
    have kE := HV.out.2.2.1.on hb23 HV.out.2.2.1.lt
    have hb2V : Below w2.heap.size w2 V3 := HV.out.1.trans (below_down hb23 HV.out.1.size)
    have HA' := Lib.hid (And.intro (fun j u (h : (fnC [102] A1' L1' c1' A2' L2' c2' A3' c3' kd' nn' xn' op' (some ⟨kg', 0, none⟩) 2 c4')[j]? = some u) => (World.cell?_of_block (hbV.block g' hg')).trans (hcs' j u h)) (And.intro (r1'.keep keepsN (ok' := fun x => x < V3.heap.size) (fun x h => Nat.lt_of_lt_of_le h hbV.size) (fun x h => hbV.block x h)) (And.intro (r2'.keep keepsN (ok' := fun x => x < V3.heap.size) (fun x h => Nat.lt_of_lt_of_le h hbV.size) (fun x h => hbV.block x h)) (r3'.keep (ok' := fun x => x < V3.heap.size) (fun x h => Nat.lt_of_lt_of_le h hbV.size) (fun x h => hbV.block x h)))))
    have HA3 := Lib.hid (And.intro (fun j u (h : (fnC [102] A1 L1 c1 A2 L2 c2 A3 c3 kd nn xn op (some ⟨kg, 0, none⟩) 2 c4)[j]? = some u) => (World.cell?_of_block (hb2V.block g HAg.out.1)).trans (HA.out.1 j u h)) (And.intro (HA.out.2.1.keep keepsN (ok' := fun x => x < V3.heap.size) (fun x h => Nat.lt_of_lt_of_le h hb2V.size) (fun x h => hb2V.block x h)) (And.intro (HA.out.2.2.1.keep keepsN (ok' := fun x => x < V3.heap.size) (fun x h => Nat.lt_of_lt_of_le h hb2V.size) (fun x h => hb2V.block x h)) (HA.out.2.2.2.1.keep (ok' := fun x => x < V3.heap.size) (fun x h => Nat.lt_of_lt_of_le h hb2V.size) (fun x h => hb2V.block x h)))))
    have hgV := Nat.lt_of_lt_of_le HAg.out.1 hb2V.size
    have hgV' := Nat.lt_of_lt_of_le hg' hbV.size
    have hkgV := Nat.lt_of_lt_of_le HAg.out.2 hb2V.size
    have z3 := (World.cell?_of_block (hb2V.block kg HAg.out.2)).trans HA.out.2.2.2.2.1
    have z4 := (World.cell?_of_block (hb2V.block kg HAg.out.2)).trans HA.out.2.2.2.2.2
    obtain ⟨a0, a1, _⟩ := (HV.out.2.1.on hb' HV.out.2.1.lt).cells2
    obtain ⟨b0, _⟩ := (HV.out.2.2.1.on hb' HV.out.2.2.1.lt).cells2
    have s1 := (HV.out.2.1.on hb' HV.out.2.1.lt).lt
    have s2 := (HV.out.2.2.1.on hb' HV.out.2.2.1.lt).lt
    have HX := Lib.hid (And.intro hbw3 (And.intro hV3 (And.intro kP (And.intro z3 (And.intro z4 ((HV.out.2.2.2.2.2.on hb23)))))))
    have HL := Lib.hid (And.intro hgV (And.intro hgV' hkgV))
    clear hcs' r1' r2' r3' hkg' z1' z2' hb' hbV kP' kE' kE hb23 hbw3 hb2V kP hV3 hgV hgV' hkgV z3 z4 hg'
    go_wp2_with fail
    rw [HX.out.2.1]
    refine (same_P [102] [[120], [121], [122]] [] (prV p q) 2 (prV_deep p q) (by decide) (by decide) V3 (fun x => x < V3.heap.size) (fun _ h => h) A c g cf A1 L1 c1 A2 L2 c2 A3 c3 kd nn xn op (some ⟨kg, 0, none⟩) 2 c4 HL.out.1 HA3.out.1 HA3.out.2.1 HA3.out.2.2.1 HA3.out.2.2.2
      A' c' g' cf' A1' L1' c1' A2' L2' c2' A3' c3' kd' nn' xn' op' (some ⟨kg', 0, none⟩) 2 c4' HL.out.2.1 HA'.out.1 HA'.out.2.1 HA'.out.2.2.1 HA'.out.2.2.2).mono ?_
    rintro e w6 ⟨rfl, hb6⟩
    have kP6 := HX.out.2.2.1.on hb6 HX.out.2.2.1.lt
    obtain ⟨_, a1', _⟩ := kP6.cells2
    have hc6 := fun j u (h : (fnC [102] A1 L1 c1 A2 L2 c2 A3 c3 kd nn xn op (some ⟨kg, 0, none⟩) 2 c4)[j]? = some u) => (World.cell?_of_block (hb6.block g HL.out.1)).trans (HA3.out.1 j u h)
    obtain ⟨e4, e5, e6, e7, e8⟩ : w6.cell? ⟨g, 4, none⟩ = _ ∧ w6.cell? ⟨g, 5, none⟩ = _ ∧ w6.cell? ⟨g, 6, none⟩ = _ ∧ w6.cell? ⟨g, 7, none⟩ = _ ∧ w6.cell? ⟨g, 8, none⟩ = _ := ⟨hc6 4 _ rfl, hc6 5 _ rfl, hc6 6 _ rfl, hc6 7 _ rfl, hc6 8 _ rfl⟩
    have x4 := (World.cell?_of_block (hb6.block kg HL.out.2.2)).trans HX.out.2.2.2.1
    have x9 := (World.cell?_of_block (hb6.block kg HL.out.2.2)).trans HX.out.2.2.2.2.1
    rw [HN.out.1] at x4
    rw [HN.out.2] at x9
    have hk6 := Nat.lt_of_lt_of_le HL.out.2.2 hb6.size
    have hg6 := Nat.lt_of_lt_of_le HL.out.1 hb6.size
    have hw6 := kP6.lt
    have HE6 := Lib.hid (And.intro (HX.out.1.trans (below_down hb6 HX.out.1.size)) (HX.out.2.2.2.2.2.on hb6))
    clear kP6 hc6 hb6 a0 a1 b0 s1 s2
    go_wp2_with fail
    have hbt : Below w6.heap.size w6 (w6.alloc (.cells #[.int .i64 kd, .int .i64 nn, .string ⟨xn.toArray⟩, .int .i64 op, .slice (some ⟨kg, 0, none⟩) 2 c4] 37)) := (Below.refl _ _).alloc (Nat.le_refl _) _
    refine (examples_any _ (HE6.out.2.on hbt)).mono ?_
    rintro e w7 ⟨rfl, hb7⟩
    have HB7 := Lib.hid (HE6.out.1.trans (below_down (hbt.trans (below_down hb7 (by simp))) HE6.out.1.size))
    clear hb7 hbt
    go_wp2_with fail
    go_ret
    exact retN rfl HB7.out
/-- The remainder of a Go-like division by 8 is below 8. -/
theorem mod8 (a : Int) : ∃ p : Nat, p < 8 ∧ a % 8 = (p : Int) := ⟨(a % 8).toNat, by omega, by omega⟩
theorem prec_all (a b : Int) (w : World) (h : PEnv w) : Calls Tryd.prog 3 #[.int .i64 a, .int .i64 b] w (RetN (.bool true) w) := by
  obtain ⟨p, hp, ha⟩ := mod8 a
  obtain ⟨q, hq, hb⟩ := mod8 b
  exact prec_any a b p q hp hq ha hb w h
end Go.Proofs.YtkjbjjiajopfpaaDoor
