/- Stage 3: the walk of Parse, for every string. -/
import Derived.Test.YtjeidpfpgolonaaDoorQf
import Derived.Test.YtjeidpfpgolonaaDoorPq
import Derived.Test.YtjeidpfpgolonaaDoorLk
namespace Go.Proofs.YtjeidpfpgolonaaDoor
open Go.RowKit (wrap64 intOf)
open Go Go.RowKit WM LX PX

theorem lxN_small (m : Nat) : ∀ l p, (lxN m l p).1.length ≤ l.length ∧ ∀ t ∈ (lxN m l p).1, t.text.length ≤ l.length := by
  induction m with
  | zero => intro l p; exact ⟨Nat.zero_le _, fun t h => by simp [lxN] at h⟩
  | succ m ih =>
    intro l p
    rw [lxN]
    split
    · exact ⟨Nat.zero_le _, fun t h => by simp at h⟩
    · next h1 =>
      split
      · next h2 =>
        have h3 := tokN_pos h1 h2
        have h4 : 1 ≤ (l.drop (skipLen false l)).length := by
          cases hh : l.drop (skipLen false l) with
          | nil => exact absurd hh h1
          | cons a t => simp
        have h5 := ih ((l.drop (skipLen false l)).drop (tokN (l.drop (skipLen false l)))) (p + skipLen false l + tokN (l.drop (skipLen false l)))
        rw [List.length_drop, List.length_drop] at h5
        rw [List.length_drop] at h4
        dsimp only
        refine ⟨by rw [List.length_cons]; have := h5.1; omega, fun t ht => ?_⟩
        rcases List.mem_cons.1 ht with h | h
        · rw [h]
          show ((l.drop (skipLen false l)).take (tokN (l.drop (skipLen false l)))).length ≤ _
          rw [List.length_take, List.length_drop]; omega
        · have := h5.2 t h; omega
      · exact ⟨Nat.zero_le _, fun t h => by simp at h⟩
theorem scan_small {l : List UInt8} {q : List Tk × Nat × Nat} (h : scanF l = q) : q.1.length ≤ 20000 ∧ ∀ t ∈ q.1, t.text.length ≤ 20000 := by
  rw [← scanN_eq] at h
  subst h
  unfold scanN
  split
  · exact ⟨Nat.zero_le _, fun t h => by simp at h⟩
  · next hl =>
    have hs := lxN_small (l.length + 1) l 0
    split
    · exact ⟨by have := hs.1; show (lxN (l.length + 1) l 0).1.length ≤ _; omega, fun t ht => by have := hs.2 t ht; omega⟩
    · exact ⟨Nat.zero_le _, fun t h => by simp at h⟩
theorem scan_any (s : ByteArray) (w : World) (ht : Tab w.heap.size w) : Calls Tryd.prog 10 #[.string s] w (ScanP (scanF s.data.toList) w) := by
  by_cases h : s.size ≤ 20000
  · exact scan_short s h w ht
  · exact scan_long s (by omega) w
/-- What a caller of Scan gets to know. -/
def ScanQ (q : List Tk × Nat × Nat) (w : World) (e : Ending) (w' : World) : Prop :=
  ∃ A c, e = .returned (.tuple #[.slice A q.1.length c, .agg #[.int .i64 (q.2.1 : Int), .int .i64 (q.2.2 : Int)]]) ∧ Toks w' w'.heap.size A q.1 ∧ Below w.heap.size w w'
theorem scan_q (s : ByteArray) (q : List Tk × Nat × Nat) (hq : Hid (scanF s.data.toList = q)) (w : World) (ht : Tab w.heap.size w) : Calls Tryd.prog 10 #[.string s] w (ScanQ q w) := by
  obtain rfl := hq.out
  refine (scan_any s w ht).mono fun _ _ h => ?_
  obtain ⟨v, rfl, hown, hb⟩ := h
  obtain ⟨A, c, rfl, ht⟩ := toks_own hown
  exact ⟨A, c, rfl, ht, hb⟩
/-- What a caller of Parse gets to know. -/
def PaP (r : PG × Nat × Nat) (w : World) (e : Ending) (w' : World) : Prop :=
  ∃ A L c A' L' c', e = .returned (.tuple #[.agg #[.slice A L c, .slice A' L' c'], .agg #[.int .i64 (r.2.1 : Int), .int .i64 (r.2.2 : Int)]]) ∧
    RepL RepA 2 w' (Rg w.heap.size w'.heap.size) r.1.arrays (.slice A L c) ∧ RepL RepF 9 w' (Rg w.heap.size w'.heap.size) r.1.funcs (.slice A' L' c') ∧ Below w.heap.size w w'
/-- The tables that Parse reads. -/
def PEnv (w : World) : Prop := Tab w.heap.size w ∧ Env w.heap.size w
theorem PEnv.on {w w' : World} (h : PEnv w) (hb : Below w.heap.size w w') : PEnv w' :=
  ⟨(h.1.on hb).up hb.size, ⟨(h.2.1.on hb).up hb.size, (h.2.2.1.on hb).up hb.size, fun w2 h2 => h.2.2.2 w2 (hb.trans (below_down h2 hb.size))⟩⟩
set_option maxRecDepth 100000
set_option maxHeartbeats 4000000
abbrev er0 : Array Value := #[.int .i64 0, .int .i64 0]
theorem parse_bad (s : ByteArray) (y a : Nat) (hy : y ≠ 0) (ts : List Tk) (hq : Hid (scanF s.data.toList = (ts, y, a))) (w : World) (h : PEnv w) :
    Calls Tryd.prog 13 #[.string s] w (PaP (⟨[], []⟩, y, a) w) := by
  have hE := h.on (w' := (w.alloc (.cells pg0 38)).alloc (.cells er0 30)) (((Below.refl _ _).alloc (Nat.le_refl _) _).alloc (by simp) _)
  have hz : ((w.alloc (.cells pg0 38)).alloc (.cells er0 30)).heap.size = w.heap.size + 2 := by simp
  have hK1 : Blk ((w.alloc (.cells pg0 38)).alloc (.cells er0 30)) w.heap.size 38 pg0 := (Blk.new w _ _).alloc _
  have hK2 : Blk ((w.alloc (.cells pg0 38)).alloc (.cells er0 30)) (w.heap.size + 1) 30 er0 := blk_at (by simp) _ _
  have hB : Below w.heap.size w ((w.alloc (.cells pg0 38)).alloc (.cells er0 30)) := ((Below.refl _ _).alloc (Nat.le_refl _) _).alloc (by simp) _
  have b1 : ((y : Int) == 0) = false := by rw [beq_eq_false_iff_ne]; omega
  have b2 : ((y : Int) != 0) = true := by rw [bne, b1]; rfl
  have HK1 := Lib.hid hK1
  have HK2 := Lib.hid hK2
  have HB := Lib.hid hB
  clear hK1 hK2 hB h
  go_enter Tryd.func13, Tryd.ntmps13
  go_wp2_with fail
  generalize hW : (w.alloc (.cells pg0 38)).alloc (.cells er0 30) = W at *
  clear hW
  refine (scan_q s _ hq W hE.1).mono ?_
  rintro e w1 ⟨A, c, rfl, _, hb⟩
  have k1 := (HK1.out.on hb HK1.out.lt).alloc (.cells #[.int .i64 (y : Int), .int .i64 (a : Int)] 30)
  have k2 := (HK2.out.on hb HK2.out.lt).alloc (.cells #[.int .i64 (y : Int), .int .i64 (a : Int)] 30)
  have k3 := Blk.new w1 30 #[.int .i64 (y : Int), .int .i64 (a : Int)]
  have hb1 := HB.out.trans (below_down (hb.alloc hb.size (.cells #[.int .i64 (y : Int), .int .i64 (a : Int)] 30)) HB.out.size)
  have hsz := hb.size
  have HK := Lib.hid (And.intro k1 k2)
  have HB1 := Lib.hid hb1
  clear hb hb1
  go_wp2_with fail
  obtain ⟨r0, r1, f0, f1⟩ := k1.cells2
  obtain ⟨r2, r3, f2, f3⟩ := k2.cells2
  obtain ⟨r4, r5, _⟩ := k3.cells2
  clear k1 k2 k3
  generalize hW2 : w1.alloc (.cells #[.int .i64 (y : Int), .int .i64 (a : Int)] 30) = W2 at *
  have hs2 : w.heap.size + 1 < W2.heap.size := HK.out.2.lt
  have hne : w1.heap.size ≠ w.heap.size ∧ w1.heap.size ≠ w.heap.size + 1 := by omega
  obtain ⟨hn1, hn2⟩ := hne
  clear hW2
  go_region
  all_goals
    go_wp2_with fail
    have z1 := ((((HK.out.1.set 0 (.slice none 0 0)).set 1 (.slice none 0 0)).far (p := ⟨w.heap.size + 1, 0, none⟩) (by show w.heap.size + 1 ≠ w.heap.size; omega) (.int .i64 (y : Int))).far (p := ⟨w.heap.size + 1, 1, none⟩) (by show w.heap.size + 1 ≠ w.heap.size; omega) (.int .i64 (a : Int))).drewN 1
    have z2 := ((((HK.out.2.far (p := ⟨w.heap.size, 0, none⟩) (by show w.heap.size ≠ w.heap.size + 1; omega) (.slice none 0 0)).far (p := ⟨w.heap.size, 1, none⟩) (by show w.heap.size ≠ w.heap.size + 1; omega) (.slice none 0 0)).set 0 (.int .i64 (y : Int))).set 1 (.int .i64 (a : Int))).drewN 1
    obtain ⟨q0, q1, _⟩ := z1.cells2
    obtain ⟨q2, q3, _⟩ := z2.cells2
    exact bodyPost_ret (v := .tuple #[.agg #[.slice none 0 0, .slice none 0 0], .agg #[.int .i64 (y : Int), .int .i64 (a : Int)]]) (by simp [results, Tryd.results13, go_sem, show ∀ w : World, w.drew = w.drewN 1 from fun _ => rfl, q0, q1, q2, q3]) rfl
      ⟨none, 0, 0, none, 0, 0, rfl, repL_nil _ _ _ _, repL_nil _ _ _ _, below_drewN ((((HB1.out.setCell (Nat.le_refl _) _).setCell (Nat.le_refl _) _).setCell (Nat.le_succ _) _).setCell (Nat.le_succ _) _) 1⟩
theorem two_sets {W : World} {g : Nat} {t1 t2 : TypeId} {a0 a1 b0 b1 : Value} (h1 : Blk W g t1 #[a0, a1]) (h2 : Blk W (g + 1) t2 #[b0, b1]) (x y u v : Value) :
    Blk ((((W.setCell ⟨g, 0, none⟩ x).setCell ⟨g, 1, none⟩ y).setCell ⟨g + 1, 0, none⟩ u).setCell ⟨g + 1, 1, none⟩ v) g t1 #[x, y] ∧ Blk ((((W.setCell ⟨g, 0, none⟩ x).setCell ⟨g, 1, none⟩ y).setCell ⟨g + 1, 0, none⟩ u).setCell ⟨g + 1, 1, none⟩ v) (g + 1) t2 #[u, v] :=
  ⟨(((h1.set 0 x).set 1 y).far (p := ⟨g + 1, 0, none⟩) (by show g + 1 ≠ g; omega) u).far (p := ⟨g + 1, 1, none⟩) (by show g + 1 ≠ g; omega) v,
   (((h2.far (p := ⟨g, 0, none⟩) (by show g ≠ g + 1; omega) x).far (p := ⟨g, 1, none⟩) (by show g ≠ g + 1; omega) y).set 0 u).set 1 v⟩
theorem two_heap (W : World) (g : Nat) (x y u v : Value) (k : Nat) (h1 : k ≠ g) (h2 : k ≠ g + 1) : ((((W.setCell ⟨g, 0, none⟩ x).setCell ⟨g, 1, none⟩ y).setCell ⟨g + 1, 0, none⟩ u).setCell ⟨g + 1, 1, none⟩ v).heap[k]? = W.heap[k]? :=
  (Below.heap_setCell _ _ _ _ h2).trans ((Below.heap_setCell _ _ _ _ h2).trans ((Below.heap_setCell _ _ _ _ h1).trans (Below.heap_setCell _ _ _ _ h1)))
theorem pa_keep {α : Type} {Rep : World → (Nat → Prop) → α → List Value → Prop} (hk : Keeps Rep) {sz : Nat} {W : World} {lo g : Nat} {xs : List α} {z : Value} (h : RepL Rep sz W (Rg lo W.heap.size) xs z) (hl : g + 1 < lo) (x y u v : Value) (o : Obj) :
    RepL Rep sz (((((W.setCell ⟨g, 0, none⟩ x).setCell ⟨g, 1, none⟩ y).setCell ⟨g + 1, 0, none⟩ u).setCell ⟨g + 1, 1, none⟩ v).alloc o) (Rg g (((((W.setCell ⟨g, 0, none⟩ x).setCell ⟨g, 1, none⟩ y).setCell ⟨g + 1, 0, none⟩ u).setCell ⟨g + 1, 1, none⟩ v).alloc o).heap.size) xs z := by
  have hs : ((((W.setCell ⟨g, 0, none⟩ x).setCell ⟨g, 1, none⟩ y).setCell ⟨g + 1, 0, none⟩ u).setCell ⟨g + 1, 1, none⟩ v).heap.size = W.heap.size := by simp [World.setCell]
  refine h.keep hk (fun k hr => ⟨by have := hr.1; omega, by rw [World.size_alloc, hs]; have := hr.2; omega⟩) (fun k hr => ?_)
  exact (Below.heap_alloc _ _ _ (by rw [hs]; exact hr.2)).trans (two_heap W g x y u v k (by have := hr.1; omega) (by have := hr.1; omega))
theorem parse_ok (s : ByteArray) (ts : List Tk) (hq : Hid (scanF s.data.toList = (ts, 0, 0))) (pg : PG) (s1 : PS) (hr : Hid (pgF ts (5 * ts.length + 20) ⟨0, false⟩ = (pg, s1))) (r : PG × Nat × Nat)
    (hres : Hid ((if s1.f = true then ((⟨[], []⟩ : PG), 2, if s1.i < ts.length then (ts.getD s1.i tk0).pos else s.size) else (pg, 0, 0)) = r)) (w : World) (h : PEnv w) :
    Calls Tryd.prog 13 #[.string s] w (PaP r w) := by
  have hE := h.on (w' := (w.alloc (.cells pg0 38)).alloc (.cells er0 30)) (((Below.refl _ _).alloc (Nat.le_refl _) _).alloc (by simp) _)
  have hz : ((w.alloc (.cells pg0 38)).alloc (.cells er0 30)).heap.size = w.heap.size + 2 := by simp
  have hK1 : Blk ((w.alloc (.cells pg0 38)).alloc (.cells er0 30)) w.heap.size 38 pg0 := (Blk.new w _ _).alloc _
  have hK2 : Blk ((w.alloc (.cells pg0 38)).alloc (.cells er0 30)) (w.heap.size + 1) 30 er0 := blk_at (by simp) _ _
  have hB : Below w.heap.size w ((w.alloc (.cells pg0 38)).alloc (.cells er0 30)) := ((Below.refl _ _).alloc (Nat.le_refl _) _).alloc (by simp) _
  obtain ⟨hfew, htx⟩ := scan_small hq.out
  dsimp only at hfew htx
  have HTX := Lib.hid htx
  have HK1 := Lib.hid hK1
  have HK2 := Lib.hid hK2
  have HB := Lib.hid hB
  clear hK1 hK2 hB h htx
  go_enter Tryd.func13, Tryd.ntmps13
  go_wp2_with fail
  generalize hW : (w.alloc (.cells pg0 38)).alloc (.cells er0 30) = W at *
  clear hW
  refine (scan_q s _ hq W hE.1).mono ?_
  rintro e w1 ⟨A, c, rfl, htk, hb⟩
  have hE1 := hE.on hb
  have hsz := hb.size
  have k1 := ((HK1.out.on hb HK1.out.lt).alloc (.cells er0 30)).alloc (.cells #[.slice A ts.length c, .int .i64 0, .bool false] 66)
  have k2 := ((HK2.out.on hb HK2.out.lt).alloc (.cells er0 30)).alloc (.cells #[.slice A ts.length c, .int .i64 0, .bool false] 66)
  have hbl : Below w1.heap.size w1 ((w1.alloc (.cells er0 30)).alloc (.cells #[.slice A ts.length c, .int .i64 0, .bool false] 66)) := ((Below.refl _ _).alloc (Nat.le_refl _) _).alloc (by simp) _
  have htk2 : Toks ((w1.alloc (.cells er0 30)).alloc (.cells #[.slice A ts.length c, .int .i64 0, .bool false] 66)) (w1.heap.size + 1) A ts := (htk.on hbl).up (Nat.le_succ _)
  have hE2 : Env (w1.heap.size + 1) ((w1.alloc (.cells er0 30)).alloc (.cells #[.slice A ts.length c, .int .i64 0, .bool false] 66)) := by
    have h0 := hE1.2.on hbl
    exact ⟨h0.1.up (Nat.le_succ _), h0.2.1.up (Nat.le_succ _), fun w2 h2 => h0.2.2 w2 (below_down h2 (Nat.le_succ _))⟩
  have hps : PSt ts (w1.heap.size + 1) ⟨0, false⟩ ((w1.alloc (.cells er0 30)).alloc (.cells #[.slice A ts.length c, .int .i64 0, .bool false] 66)) :=
    ⟨A, c, blk_at (by simp) _ _, htk2, hE2, Nat.zero_le _, hfew, HTX.out⟩
  have hB1 := HB.out.trans (below_down (hb.trans (below_down hbl hb.size)) HB.out.size)
  have hm : 5 * ms ts ⟨0, false⟩ + 10 ≤ 5 * ts.length + 20 := by have := ms_le ts ⟨0, false⟩; omega
  have HK := Lib.hid (And.intro k1 k2)
  have HB1 := Lib.hid hB1
  have HPS := Lib.hid hps
  clear hE hE1 htk hb k1 k2 hbl hE2 hps hB1
  have HTK := Lib.hid htk2
  clear htk2
  go_wp2_with fail
  generalize hW2 : (w1.alloc (.cells er0 30)).alloc (.cells #[.slice A ts.length c, .int .i64 0, .bool false] 66) = W2 at *
  have hpp := HPS.out.lt
  clear hW2
  refine (program_any ts _ _ _ _ hr hm _ HPS.out).mono ?_
  rintro e w3 ⟨A1, L1, c1, A2, L2, c2, rfl, ra, rf, hg, hp⟩
  dsimp only at ra rf hp
  have k1 := HK.out.1.gr hg (by omega)
  have k2 := HK.out.2.gr hg (by omega)
  have hgs := hg.size
  have hB3 : Below w.heap.size w w3 := HB1.out.trans ⟨hg.os, hg.tape, hg.output, hg.size, fun i hi => hg.block i (by omega) (by intro e; injection e with e; omega)⟩
  have hTK3 : Toks w3 (w1.heap.size + 1) A ts := HTK.out.on (grown_below' hg (Nat.le_of_lt hpp))
  obtain ⟨Ax, cx, t0, t1, t2, hil, _⟩ := hp.bnd
  obtain ⟨i1, f1⟩ := s1
  dsimp only at t1 t2 hil
  have HRA := Lib.hid ra
  have HRF := Lib.hid rf
  have HB3 := Lib.hid hB3
  have HTK3 := Lib.hid hTK3
  have HP := Lib.hid hp
  have HKK := Lib.hid (And.intro k1 k2)
  obtain ⟨r0, r1, f0', f1'⟩ := k1.cells2
  obtain ⟨r2, r3, f2, f3⟩ := k2.cells2
  clear ra rf hg hp hB3 hTK3 k1 k2 t0
  have hl1 : w.heap.size + 1 < w3.heap.size := HKK.out.2.lt
  have hl0 : w.heap.size < w3.heap.size := HKK.out.1.lt
  have hlo : w.heap.size + 1 < W2.heap.size := by omega
  have hl2 : w1.heap.size + 1 < w3.heap.size := HP.out.lt
  cases f1
  · have hres := hres.out
    rw [if_neg (by simp)] at hres
    subst hres
    go_wp2_with fail
    obtain ⟨z1, z2⟩ := two_sets HKK.out.1 HKK.out.2 (.slice A1 L1 c1) (.slice A2 L2 c2) (.int .i64 0) (.int .i64 0)
    obtain ⟨q0, q1, _⟩ := (z1.alloc (.cells #[.slice A1 L1 c1, .slice A2 L2 c2] 38)).cells2
    obtain ⟨q2, q3, _⟩ := (z2.alloc (.cells #[.slice A1 L1 c1, .slice A2 L2 c2] 38)).cells2
    exact bodyPost_ret (v := .tuple #[.agg #[.slice A1 L1 c1, .slice A2 L2 c2], .agg #[.int .i64 0, .int .i64 0]]) (by simp [results, Tryd.results13, go_sem, q0, q1, q2, q3]) rfl
      ⟨A1, L1, c1, A2, L2, c2, rfl, pa_keep keepsA HRA.out hlo _ _ _ _ _, pa_keep keepsF HRF.out hlo _ _ _ _ _, (((((HB3.out.setCell (Nat.le_refl _) _).setCell (Nat.le_refl _) _).setCell (Nat.le_succ _) _).setCell (Nat.le_succ _) _).alloc (by simp [World.setCell]; omega) _)⟩
  · have hres := hres.out
    rw [if_pos rfl] at hres
    by_cases hi : i1 < ts.length
    · rw [if_pos hi] at hres
      subst hres
      obtain ⟨g, rfl, hgl, d0, d1, d2⟩ := tok_cells HTK3.out hi
      obtain ⟨tn, htn⟩ : ∃ tn, ts.length = tn := ⟨_, rfl⟩
      have e1 : (i1 : Int) < (tn : Int) := by omega
      have e2 : decide ((i1 : Int) < (tn : Int)) = true := decide_eq_true e1
      have hgw : g < w3.heap.size := by omega
      obtain ⟨at0, hat⟩ : ∃ x, (ts.getD i1 tk0).pos = x := ⟨_, rfl⟩
      rw [hat] at d2
      have HAT := Lib.hid hat
      rw [htn]
      clear d0 d1 hat htn
      go_wp2_with fail
      obtain ⟨z1, z2⟩ := two_sets HKK.out.1 HKK.out.2 (.slice none 0 0) (.slice none 0 0) (.int .i64 2) (.int .i64 (at0 : Int))
      obtain ⟨q0, q1, _⟩ := (z1.alloc (.cells #[.slice A1 L1 c1, .slice A2 L2 c2] 38)).cells2
      obtain ⟨q2, q3, _⟩ := (z2.alloc (.cells #[.slice A1 L1 c1, .slice A2 L2 c2] 38)).cells2
      exact bodyPost_ret (v := .tuple #[.agg #[.slice none 0 0, .slice none 0 0], .agg #[.int .i64 2, .int .i64 (at0 : Int)]]) (by simp [results, Tryd.results13, go_sem, q0, q1, q2, q3]) rfl
        ⟨none, 0, 0, none, 0, 0, by rw [← HAT.out]; rfl, repL_nil _ _ _ _, repL_nil _ _ _ _, (((((HB3.out.setCell (Nat.le_refl _) _).setCell (Nat.le_refl _) _).setCell (Nat.le_succ _) _).setCell (Nat.le_succ _) _).alloc (by simp [World.setCell]; omega) _)⟩
    · rw [if_neg hi] at hres
      subst hres
      obtain ⟨tn, htn⟩ : ∃ tn, ts.length = tn := ⟨_, rfl⟩
      have e1 : ¬ (i1 : Int) < (tn : Int) := by omega
      have e2 : decide ((i1 : Int) < (tn : Int)) = false := decide_eq_false e1
      rw [htn]
      clear htn
      go_wp2_with fail
      obtain ⟨z1, z2⟩ := two_sets HKK.out.1 HKK.out.2 (.slice none 0 0) (.slice none 0 0) (.int .i64 2) (.int .i64 (s.size : Int))
      obtain ⟨q0, q1, _⟩ := (z1.alloc (.cells #[.slice A1 L1 c1, .slice A2 L2 c2] 38)).cells2
      obtain ⟨q2, q3, _⟩ := (z2.alloc (.cells #[.slice A1 L1 c1, .slice A2 L2 c2] 38)).cells2
      exact bodyPost_ret (v := .tuple #[.agg #[.slice none 0 0, .slice none 0 0], .agg #[.int .i64 2, .int .i64 (s.size : Int)]]) (by simp [results, Tryd.results13, go_sem, q0, q1, q2, q3]) rfl
        ⟨none, 0, 0, none, 0, 0, rfl, repL_nil _ _ _ _, repL_nil _ _ _ _, (((((HB3.out.setCell (Nat.le_refl _) _).setCell (Nat.le_refl _) _).setCell (Nat.le_succ _) _).setCell (Nat.le_succ _) _).alloc (by simp [World.setCell]; omega) _)⟩
theorem parse_any (s : ByteArray) (r : PG × Nat × Nat) (hr : Hid (parseF s.data.toList = r)) (w : World) (h : PEnv w) : Calls Tryd.prog 13 #[.string s] w (PaP r w) := by
  have hr := hr.out
  unfold parseF at hr
  obtain ⟨⟨ts, y, a⟩, hq⟩ : ∃ q, scanF s.data.toList = q := ⟨_, rfl⟩
  rw [hq] at hr
  dsimp only at hr
  by_cases hy : y = 0
  · rw [if_pos hy] at hr
    subst hy
    have hq2 := hq
    unfold scanF at hq2
    by_cases hl : 20000 < s.data.toList.length
    · rw [if_pos hl] at hq2
      injection hq2 with _ h2
      injection h2 with h2 _
      cases h2
    · rw [if_neg hl] at hq2
      have ha : a = 0 := by
        by_cases h0 : (lx s.data.toList 0).2.1 = 0
        · rw [if_pos h0] at hq2
          injection hq2 with _ h2
          injection h2 with _ h2
          exact h2.symm
        · rw [if_neg h0] at hq2
          injection hq2 with _ h2
          rw [h2] at h0
          exact absurd rfl h0
      subst ha
      obtain ⟨⟨pg, s1⟩, hp⟩ : ∃ x, pgF ts (5 * ts.length + 20) ⟨0, false⟩ = x := ⟨_, rfl⟩
      rw [hp] at hr
      dsimp only at hr
      exact parse_ok s ts (Lib.hid hq) pg s1 (Lib.hid hp) r (Lib.hid hr) w h
  · rw [if_neg hy] at hr
    subst hr
    exact parse_bad s y a hy ts (Lib.hid hq) w h
end Go.Proofs.YtjeidpfpgolonaaDoor
