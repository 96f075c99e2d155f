/- Stage 3: the walk of program. -/
import Derived.Test.YtjeidpfpgolonaaDoorQe
import Derived.Deep.QuietTactic
import Derived.BigQuiet
namespace Go.Proofs.YtjeidpfpgolonaaDoor
open Go.RowKit (wrap64 intOf)
open Go Go.RowKit WM LX PX

set_option maxRecDepth 100000
set_option maxHeartbeats 4000000
theorem arInfo : (Tryd.prog.info? 69).map (fun i => (i.zero, i.size, i.bytes)) = some (some (.agg #[.string ⟨#[]⟩, .int .i64 0]), 2, 24) := by kernel_rfl
theorem fnInfo : (Tryd.prog.info? 47).map (fun i => (i.zero, i.size, i.bytes)) = some (some (.agg #[.string ⟨#[]⟩, .slice none 0 0, .slice none 0 0, .slice none 0 0, .int .i64 0, .int .i64 0, .string ⟨#[]⟩, .int .i64 0, .slice none 0 0]), 9, 152) := by kernel_rfl
theorem Own.rowg {ts : List Tk} {p : Nat} {q : PS} {t : TypeId} {cs : Array Value} {w a b : World} {row : Option Nat} (o : Own ts p q t cs w a) (g : a.grownBy b row) (hrow : ∀ k, row = some k → w.heap.size < k) : Own ts p q t cs w b :=
  ⟨grown_row o.g g (fun k hk => Nat.le_of_lt (hrow k hk)), o.s.row g (fun k hk => Nat.lt_trans o.p (hrow k hk)), (g.block _ o.r.lt (fun e => by have := hrow _ e.symm; omega)).trans o.r, o.p⟩
theorem Two.far1 {B : Nat} {xa : List (List UInt8 × Int)} {ca : List (List Value)} {va : Value} {xf : List FN} {cf : List (List Value)} {vf : Value} {w1 : World} (t : Two B xa ca va xf cf vf w1) {a : Addr} (ha : a.block < B) (u : Value) : Two B xa ca va xf cf vf (w1.setCell a u) :=
  t.grown (p := a.block) ⟨rfl, rfl, rfl, by simp [World.setCell], fun i _ hne => Below.heap_setCell w1 a u i (fun e => hne (by rw [e]))⟩ ha
/-- A program was read: its two lists. -/
def PgP (ts : List Tk) (p : Nat) (q : PG × PS) (w : World) (e : Ending) (w' : World) : Prop :=
  ∃ A L c A' L' c', e = .returned (.agg #[.slice A L c, .slice A' L' c']) ∧ RepL RepA 2 w' (Rg w.heap.size w'.heap.size) q.1.arrays (.slice A L c) ∧ RepL RepF 9 w' (Rg w.heap.size w'.heap.size) q.1.funcs (.slice A' L' c') ∧ w.grownBy w' (some p) ∧ PSt ts p q.2 w'
abbrev pg0 : Array Value := #[.slice none 0 0, .slice none 0 0]
def PgR (ts : List Tk) (p : Nat) (q : PG × PS) (w : World) (k : Nat) (wr : World) : Prop :=
  ∃ (s' : PS) (xa : List (List UInt8 × Int)) (ca : List (List Value)) (va : Value) (xf : List FN) (cf : List (List Value)) (vf : Value),
    xa ++ (pgF ts k s').1.arrays = q.1.arrays ∧ xf ++ (pgF ts k s').1.funcs = q.1.funcs ∧ (pgF ts k s').2 = q.2 ∧ 5 * ms ts s' + 10 ≤ k ∧ xa.length + xf.length + ms ts s' ≤ ts.length + 2 ∧
    Own ts p s' 38 pg0 w wr ∧ Blk wr (w.heap.size + 1) 38 #[va, vf] ∧ Two (w.heap.size + 2) xa ca va xf cf vf wr
theorem PSt.bnd {ts : List Tk} {p : Nat} {s : PS} {w : World} (h : PSt ts p s w) : ∃ A c, w.cell? ⟨p, 0, none⟩ = some (.slice A ts.length c) ∧ w.cell? ⟨p, 1, none⟩ = some (.int .i64 (s.i : Int)) ∧ w.cell? ⟨p, 2, none⟩ = some (.bool s.f) ∧ s.i ≤ ts.length ∧ ts.length ≤ 20000 := by
  obtain ⟨A, c, hb, _, _, h4, h5, _⟩ := h
  obtain ⟨c0, c1, c2, _⟩ := hb.cells3
  exact ⟨A, c, c0, c1, c2, h4, h5⟩
/-- The loop is left: the program's two slices are handed back. -/
theorem pg_done {ts : List Tk} {p : Nat} {q : PG × PS} {s' : PS} {w wr : World} {xa : List (List UInt8 × Int)} {ca : List (List Value)} {A : Option Addr} {L c : Nat} {xf : List FN} {cf : List (List Value)} {A' : Option Addr} {L' c' : Nat}
    (o : Own ts p s' 38 pg0 w wr) (t : Two (w.heap.size + 2) xa ca (.slice A L c) xf cf (.slice A' L' c') wr) (h1 : xa = q.1.arrays) (h2 : xf = q.1.funcs) (h3 : s' = q.2) :
    Blk (wr.setRow w.heap.size #[.slice A L c, .slice A' L' c']) w.heap.size 38 #[.slice A L c, .slice A' L' c'] ∧ PgP ts p q w (.returned (.agg #[.slice A L c, .slice A' L' c'])) (wr.setRow w.heap.size #[.slice A L c, .slice A' L' c']) := by
  subst h1 h2 h3
  refine ⟨row_blk o.r _, A, L, c, A', L', c', rfl, ?_, ?_, row_grown o.g (Nat.le_refl _) _, row_pst o.s o.p _⟩
  · exact (t.a.out keepsA).keep keepsA (fun g h => ⟨by have := h.1; omega, by rw [row_size]; exact h.2⟩) (fun g h => row_far _ _ _ _ (by have := h.1; omega))
  · exact t.outF.keep keepsF (fun g h => ⟨by have := h.1; omega, by rw [row_size]; exact h.2⟩) (fun g h => row_far _ _ _ _ (by have := h.1; omega))
theorem pg_stop {ts : List Tk} {k : Nat} {s : PS} (h : (s.f || decide (ts.length ≤ s.i)) = true) : pgF ts (k + 1) s = (⟨[], []⟩, s) := by rw [pgF, if_pos h]
theorem pg_arr {ts : List Tk} {k : Nat} {s s1 : PS} {a : List UInt8 × Int} (h : (s.f || decide (ts.length ≤ s.i)) = false) (hx : nx ts s wArray = true) (ha : arF ts (adv s) = (a, s1)) : pgF ts (k + 1) s = (⟨a :: (pgF ts k s1).1.arrays, (pgF ts k s1).1.funcs⟩, (pgF ts k s1).2) := by rw [pgF, h, hx, ha]; rfl
theorem pg_fun {ts : List Tk} {k : Nat} {s s1 : PS} {f : FN} (h : (s.f || decide (ts.length ≤ s.i)) = false) (hx : nx ts s wArray = false) (hy : nx ts s wFunc = true) (ha : fnF ts k (adv s) = (f, s1)) : pgF ts (k + 1) s = (⟨(pgF ts k s1).1.arrays, f :: (pgF ts k s1).1.funcs⟩, (pgF ts k s1).2) := by rw [pgF, h, hx, hy, ha]; rfl
theorem pg_bad {ts : List Tk} {k : Nat} {s : PS} (h : (s.f || decide (ts.length ≤ s.i)) = false) (hx : nx ts s wArray = false) (hy : nx ts s wFunc = false) : pgF ts (k + 1) s = (⟨[], []⟩, fl s) := by rw [pgF, h, hx, hy]; rfl
theorem pg_fl {ts : List Tk} {k : Nat} {s : PS} : pgF ts k (fl s) = (⟨[], []⟩, fl s) := by
  cases k with
  | zero => rfl
  | succ k => exact pg_stop (by simp [fl])
theorem program_any (ts : List Tk) (p n : Nat) (s : PS) (q : PG × PS) (hq : Hid (pgF ts n s = q)) (hm : 5 * ms ts s + 10 ≤ n) (w : World) (h : PSt ts p s w) :
    Calls Tryd.prog 26 #[.pointer (some ⟨p, 0, none⟩)] w (PgP ts p q w) := by
  have hq := hq.out
  have hml := ms_le ts s
  have hfew := h.few
  have o0 := (Own.start h 38 pg0).al (.cells pg0 38)
  have hK0 : Blk ((w.alloc (.cells pg0 38)).alloc (.cells pg0 38)) (w.heap.size + 1) 38 pg0 := blk_at (by simp) _ _
  have H0 : Hid (PgR ts p q w n ((w.alloc (.cells pg0 38)).alloc (.cells pg0 38))) := Lib.hid ⟨s, [], [], .slice none 0 0, [], [], .slice none 0 0, by rw [hq]; rfl, by rw [hq]; rfl, by rw [hq], hm, by simp; omega, o0, hK0, two_nil _ _⟩
  have hpw := h.lt
  clear hq h o0 hK0
  obtain ⟨i0, hi, hz0, hz1, hz2⟩ := info_parts arInfo
  obtain ⟨i1, gi, gz0, gz1, gz2⟩ := info_parts fnInfo
  go_enter Tryd.func26, Tryd.ntmps26
  go_wp2_with fail
  go_loopg [] n (fun k wr => PgR ts p q w k wr)
  case atStart => exact H0.out
  case round =>
    clear H0
    obtain ⟨s', xa, ca, va, xf, cf, vf, hA, hF, hS, hk, hln, o, hK, ht⟩ := hrel
    obtain ⟨m, rfl⟩ : ∃ m, gk = m + 1 := ⟨gk - 1, by omega⟩
    obtain ⟨At, ct, t0, t1, t2, hil, hl2⟩ := o.s.bnd
    by_cases hst : (s'.f || decide (ts.length ≤ s'.i)) = true
    · rw [pg_stop hst] at hA hF hS
      have hA : xa = q.1.arrays := by simpa using hA
      have hF : xf = q.1.funcs := by simpa using hF
      obtain ⟨A, L, c, rfl⟩ := ht.a.form
      obtain ⟨A', L', c', rfl⟩ := ht.formF
      have HA := Lib.hid hA
      have HF := Lib.hid hF
      have HS := Lib.hid hS
      have hcs : s'.f = true ∨ (s'.f = false ∧ ts.length ≤ s'.i) := by
        cases hf : s'.f with
        | true => exact Or.inl rfl
        | false => rw [hf] at hst; exact Or.inr ⟨rfl, by simpa using hst⟩
      obtain ⟨i, f⟩ := s'
      dsimp only at t1 t2 hcs hil
      clear hA hF hS hst
      obtain ⟨nn, hnn⟩ : ∃ nn, ts.length = nn := ⟨_, rfl⟩
      rw [hnn] at t0 hcs hl2 hil
      rcases hcs with rfl | ⟨rfl, hle⟩
      · clear hnn
        go_wp2_with fail
        go_quiet (fail)
        replace o := o.low (below_drewN (Below.refl _ _) nq)
        replace hK := hK.drewN nq
        replace ht := ht.grown (p := p) (grown_b (below_drewN (Below.refl _ _) nq) _) (by omega)
        go_wp2_with (first | (refine wpList_load_row rfl _ _ rfl (w.heap.size + 1) rfl _ _ _ _ hK Tryd.underlying38 rfl pgSize ?_) | (refine wpList_store_row rfl _ _ _ rfl w.heap.size #[.slice A L c, .slice A' L' c'] rfl rfl _ _ o.r pgSize rfl (by simp [Value.oneCell']) ?_))
        obtain ⟨hk, hx⟩ := pg_done o ht HA.out HF.out HS.out
        exact bodyPost_ret (results_cell_row rfl _ _ _ _ _ _ _ rfl hk Tryd.underlying38 rfl pgSize) rfl hx
      · have e1 : decide ((i : Int) < (nn : Int)) = false := decide_eq_false (by omega)
        have e2 : ¬ (i : Int) < (nn : Int) := by omega
        clear hnn
        go_wp2_with fail
        go_quiet (fail)
        replace o := o.low (below_drewN (Below.refl _ _) nq)
        replace hK := hK.drewN nq
        replace ht := ht.grown (p := p) (grown_b (below_drewN (Below.refl _ _) nq) _) (by omega)
        go_wp2_with (first | (refine wpList_load_row rfl _ _ rfl (w.heap.size + 1) rfl _ _ _ _ hK Tryd.underlying38 rfl pgSize ?_) | (refine wpList_store_row rfl _ _ _ rfl w.heap.size #[.slice A L c, .slice A' L' c'] rfl rfl _ _ o.r pgSize rfl (by simp [Value.oneCell']) ?_))
        obtain ⟨hk, hx⟩ := pg_done o ht HA.out HF.out HS.out
        exact bodyPost_ret (results_cell_row rfl _ _ _ _ _ _ _ rfl hk Tryd.underlying38 rfl pgSize) rfl hx
    · have hst : (s'.f || decide (ts.length ≤ s'.i)) = false := by simpa using hst
      have hff : s'.f = false ∧ s'.i < ts.length := by simpa using hst
      obtain ⟨nn, hnn⟩ : ∃ nn, ts.length = nn := ⟨_, rfl⟩
      have e1 : decide ((s'.i : Int) < (nn : Int)) = true := decide_eq_true (by omega)
      have e2 : (s'.i : Int) < (nn : Int) := by omega
      rw [hff.1] at t2
      rw [hnn] at t0
      have HFF := Lib.hid hff
      have HST := Lib.hid hst
      have HNN := Lib.hid hnn
      clear hff hst hnn
      by_cases hx : nx ts s' wArray = true
      · obtain ⟨⟨⟨an0, ai0⟩, s1⟩, hc⟩ : ∃ x, arF ts (adv s') = x := ⟨_, rfl⟩
        have HC := Lib.hid hc
        have hmv := ms_adv HFF.out
        have hm2 := ms_ar (ts := ts) (adv s')
        rw [hc] at hm2
        rw [pg_arr HST.out hx hc] at hA hF hS
        dsimp only at hm2 hA hF hS
        have HX := Lib.hid hx
        have HA := Lib.hid hA
        have HF := Lib.hid hF
        have HS := Lib.hid hS
        clear hx hc hA hF hS
        go_wp2_with fail
        go_quiet (fail)
        replace o := o.low (below_drewN (Below.refl _ _) nq)
        replace hK := hK.drewN nq
        replace ht := ht.grown (p := p) (grown_b (below_drewN (Below.refl _ _) nq) _) (by omega)
        generalize hwq : wr.drewN nq = wq at *
        clear hwq t0 t1 t2
        go_wp2_with fail
        refine (accept_yes ts p s' wArray (by decide) HX _ o.s).mono ?_
        rintro e w2 ⟨rfl, hg, hp⟩
        replace o := o.acc hg hp
        replace hK := hK.gr hg (by omega)
        replace ht := ht.grown hg (by omega)
        clear hg hp
        go_wp2_with fail
        have oD : Own ts p (adv s') 38 pg0 w w2.drew := o.low (below_drewN (Below.refl _ _) 1)
        have hKD : Blk w2.drew (w.heap.size + 1) 38 #[va, vf] := hK
        have htD := ht.grown (w' := w2.drew) (p := p) (grown_b (below_drewN (Below.refl _ _) 1) _) (by omega)
        have hcall := array_any ts p (adv s') _ HC _ oD.s
        obtain ⟨k0, k1, _⟩ := hK.cells2
        refine wp_region_any (by kernel_rfl) ?_
        change wpAny _ _ _ _ _ _ _ (World.drew _)
        refine wpAny_take (i := 0) (v := .pointer (some ⟨w.heap.size + 1, 0, none⟩)) rfl (by kernel_rfl) (by kernel_rfl) (by kernel_rfl) (fun _ _ _ h => h) (Or.inl ⟨by kernel_rfl, fun w => by go_simp⟩) ?_
        refine wpAny_take (i := 2) (v := .pointer (some ⟨p, 0, none⟩)) rfl (by kernel_rfl) (by kernel_rfl) (by kernel_rfl) (fun _ _ _ h => h) (Or.inl ⟨by kernel_rfl, fun w => by go_simp⟩) ?_
        refine wpAny_ready (rs := [1, 3]) (by kernel_rfl) (by simp) ?_
        refine AllReady.cons rfl (fun K hK' => ?_) (AllReady.cons rfl (fun K hK' => ?_) AllReady.nil)
        · go_simp
          refine hK' _ _ ?_
          clear hK' K
          refine wpAny_ready (rs := [3]) (by kernel_rfl) (by simp) ?_
          refine AllReady.cons rfl (fun K hK' => ?_) AllReady.nil
          go_simp
          go_wp2_with (go_at_call 44; ((with_reducible refine hcall.mono ?_); rintro e wc ⟨nm, an, rfl, hra, hg, hp⟩; have hKE := hKD.gr hg (show p ≠ w.heap.size + 1 by omega); have oE := oD.acc hg hp; have htE := htD.grown hg (show p < w.heap.size + 2 by omega)))
          have hlen := htE.a.len
          refine wpAny_ready (rs := [4]) (by kernel_rfl) (by simp) ?_
          refine AllReady.cons rfl (fun K hK' => ?_) AllReady.nil
          go_simp
          refine hK' _ _ ?_
          clear hK' K
          refine wpAny_ready (rs := [5]) (by kernel_rfl) (by simp) ?_
          refine AllReady.cons rfl (fun K hK' => ?_) AllReady.nil
          rw [if_pos (by kernel_rfl)]
          refine wp_app (.tmp 27) (.tmp 30) _ rfl (w.heap.size + 2) 69 i0 _ 2 24 Tryd.underlying35 hi hz0 hz1 hz2 rfl (by decide) _ _ _ rfl (htE.a.own.alloc _) ⟨wc.heap.size, 0, none⟩ 1 [.string ⟨nm.toArray⟩, .int .i64 an] rfl rfl (World.news_of_block (heap_alloc_new _ _)) (by simp [Value.oneCell']) (by unfold maxLen; omega) (by omega) (by have := hKE.lt; simp; omega) ?_
          intro v2 w5 hown2 hgr2 hob
          refine hK' _ _ ?_
          clear hK' K
          have hrow : ∀ k, va.ownBlock = some k → w.heap.size + 2 ≤ k := fun k hk => (htE.a.own.lt k hk).1
          have o5 := (oE.al (.cells #[.string ⟨nm.toArray⟩, .int .i64 an] 69)).rowg hgr2 (fun k hk => by have := hrow k hk; omega)
          have hK5 : Blk w5 (w.heap.size + 1) 38 #[va, vf] := (hgr2.block _ (hKE.alloc (.cells #[.string ⟨nm.toArray⟩, .int .i64 an] 69)).lt (fun e => by have := hrow _ e.symm; omega)).trans (hKE.alloc (.cells #[.string ⟨nm.toArray⟩, .int .i64 an] 69))
          have t5 := htE.snocA (x := (nm, an)) rfl hown2 hgr2 hob
          obtain ⟨A5, L5, c5, rfl⟩ := t5.a.form
          obtain ⟨q0, q1, g0, g1⟩ := hK5.cells2
          refine wpAny_take (i := 6) (v := .pointer (some ⟨w.heap.size + 1, 0, none⟩)) rfl (by kernel_rfl) (by kernel_rfl) (by kernel_rfl) (fun _ _ _ h => h) (Or.inl ⟨by kernel_rfl, fun w => by go_simp⟩) ?_
          refine wpAny_ready (rs := [7]) (by kernel_rfl) (by simp) ?_
          refine AllReady.cons rfl (fun K hK' => ?_) AllReady.nil
          go_simp
          refine hK' _ _ ?_
          clear hK' K
          refine wpAny_done (by kernel_rfl) ?_ _
          have hKf := hK5.set 0 (.slice A5 L5 c5)
          have of := o5.far (a := ⟨w.heap.size + 1, 0, none⟩) (by show w.heap.size < w.heap.size + 1; omega) (.slice A5 L5 c5)
          have tf := t5.far1 (a := ⟨w.heap.size + 1, 0, none⟩) (by show w.heap.size + 1 < w.heap.size + 2; omega) (.slice A5 L5 c5)
          go_wp2_with fail
          go_roundg m
          case measure => exact Nat.lt_succ_self m
          case rel => exact ⟨s1, xa ++ [(nm, an)], _, _, xf, cf, vf, by rw [List.append_assoc, hra]; exact HA.out, HF.out, HS.out, by omega, by simp; omega, of, hKf, tf⟩
        · go_simp
          go_wp2_with (go_at_call 44; ((with_reducible refine hcall.mono ?_); rintro e wc ⟨nm, an, rfl, hra, hg, hp⟩; have hKE := hKD.gr hg (show p ≠ w.heap.size + 1 by omega); have oE := oD.acc hg hp; have htE := htD.grown hg (show p < w.heap.size + 2 by omega)))
          obtain ⟨j0, j1, _⟩ := hKE.cells2
          refine wpAny_ready (rs := [1, 4]) (by kernel_rfl) (by simp) ?_
          refine AllReady.cons rfl (fun K hK' => ?_) (AllReady.cons rfl (fun K hK' => ?_) AllReady.nil)
          · go_simp
            refine hK' _ _ ?_
            clear hK' K j0 j1
            have hlen := htE.a.len
            refine wpAny_ready (rs := [4]) (by kernel_rfl) (by simp) ?_
            refine AllReady.cons rfl (fun K hK' => ?_) AllReady.nil
            go_simp
            refine hK' _ _ ?_
            clear hK' K
            refine wpAny_ready (rs := [5]) (by kernel_rfl) (by simp) ?_
            refine AllReady.cons rfl (fun K hK' => ?_) AllReady.nil
            rw [if_pos (by kernel_rfl)]
            refine wp_app (.tmp 27) (.tmp 30) _ rfl (w.heap.size + 2) 69 i0 _ 2 24 Tryd.underlying35 hi hz0 hz1 hz2 rfl (by decide) _ _ _ rfl (htE.a.own.alloc _) ⟨wc.heap.size, 0, none⟩ 1 [.string ⟨nm.toArray⟩, .int .i64 an] rfl rfl (World.news_of_block (heap_alloc_new _ _)) (by simp [Value.oneCell']) (by unfold maxLen; omega) (by omega) (by have := hKE.lt; simp; omega) ?_
            intro v2 w5 hown2 hgr2 hob
            refine hK' _ _ ?_
            clear hK' K
            have hrow : ∀ k, va.ownBlock = some k → w.heap.size + 2 ≤ k := fun k hk => (htE.a.own.lt k hk).1
            have o5 := (oE.al (.cells #[.string ⟨nm.toArray⟩, .int .i64 an] 69)).rowg hgr2 (fun k hk => by have := hrow k hk; omega)
            have hK5 : Blk w5 (w.heap.size + 1) 38 #[va, vf] := (hgr2.block _ (hKE.alloc (.cells #[.string ⟨nm.toArray⟩, .int .i64 an] 69)).lt (fun e => by have := hrow _ e.symm; omega)).trans (hKE.alloc (.cells #[.string ⟨nm.toArray⟩, .int .i64 an] 69))
            have t5 := htE.snocA (x := (nm, an)) rfl hown2 hgr2 hob
            obtain ⟨A5, L5, c5, rfl⟩ := t5.a.form
            obtain ⟨q0, q1, g0, g1⟩ := hK5.cells2
            refine wpAny_take (i := 6) (v := .pointer (some ⟨w.heap.size + 1, 0, none⟩)) rfl (by kernel_rfl) (by kernel_rfl) (by kernel_rfl) (fun _ _ _ h => h) (Or.inl ⟨by kernel_rfl, fun w => by go_simp⟩) ?_
            refine wpAny_ready (rs := [7]) (by kernel_rfl) (by simp) ?_
            refine AllReady.cons rfl (fun K hK' => ?_) AllReady.nil
            go_simp
            refine hK' _ _ ?_
            clear hK' K
            refine wpAny_done (by kernel_rfl) ?_ _
            have hKf := hK5.set 0 (.slice A5 L5 c5)
            have of := o5.far (a := ⟨w.heap.size + 1, 0, none⟩) (by show w.heap.size < w.heap.size + 1; omega) (.slice A5 L5 c5)
            have tf := t5.far1 (a := ⟨w.heap.size + 1, 0, none⟩) (by show w.heap.size + 1 < w.heap.size + 2; omega) (.slice A5 L5 c5)
            go_wp2_with fail
            go_roundg m
            case measure => exact Nat.lt_succ_self m
            case rel => exact ⟨s1, xa ++ [(nm, an)], _, _, xf, cf, vf, by rw [List.append_assoc, hra]; exact HA.out, HF.out, HS.out, by omega, by simp; omega, of, hKf, tf⟩
          · go_simp
            refine hK' _ _ ?_
            clear hK' K j0 j1
            obtain ⟨j0, j1, _⟩ := (hKE.alloc (.cells #[.string ⟨nm.toArray⟩, .int .i64 an] 69)).cells2
            refine wpAny_ready (rs := [1]) (by kernel_rfl) (by simp) ?_
            refine AllReady.cons rfl (fun K hK' => ?_) AllReady.nil
            go_simp
            refine hK' _ _ ?_
            clear hK' K j0 j1
            have hlen := htE.a.len
            refine wpAny_ready (rs := [5]) (by kernel_rfl) (by simp) ?_
            refine AllReady.cons rfl (fun K hK' => ?_) AllReady.nil
            rw [if_pos (by kernel_rfl)]
            refine wp_app (.tmp 27) (.tmp 30) _ rfl (w.heap.size + 2) 69 i0 _ 2 24 Tryd.underlying35 hi hz0 hz1 hz2 rfl (by decide) _ _ _ rfl (htE.a.own.alloc _) ⟨wc.heap.size, 0, none⟩ 1 [.string ⟨nm.toArray⟩, .int .i64 an] rfl rfl (World.news_of_block (heap_alloc_new _ _)) (by simp [Value.oneCell']) (by unfold maxLen; omega) (by omega) (by have := hKE.lt; simp; omega) ?_
            intro v2 w5 hown2 hgr2 hob
            refine hK' _ _ ?_
            clear hK' K
            have hrow : ∀ k, va.ownBlock = some k → w.heap.size + 2 ≤ k := fun k hk => (htE.a.own.lt k hk).1
            have o5 := (oE.al (.cells #[.string ⟨nm.toArray⟩, .int .i64 an] 69)).rowg hgr2 (fun k hk => by have := hrow k hk; omega)
            have hK5 : Blk w5 (w.heap.size + 1) 38 #[va, vf] := (hgr2.block _ (hKE.alloc (.cells #[.string ⟨nm.toArray⟩, .int .i64 an] 69)).lt (fun e => by have := hrow _ e.symm; omega)).trans (hKE.alloc (.cells #[.string ⟨nm.toArray⟩, .int .i64 an] 69))
            have t5 := htE.snocA (x := (nm, an)) rfl hown2 hgr2 hob
            obtain ⟨A5, L5, c5, rfl⟩ := t5.a.form
            obtain ⟨q0, q1, g0, g1⟩ := hK5.cells2
            refine wpAny_take (i := 6) (v := .pointer (some ⟨w.heap.size + 1, 0, none⟩)) rfl (by kernel_rfl) (by kernel_rfl) (by kernel_rfl) (fun _ _ _ h => h) (Or.inl ⟨by kernel_rfl, fun w => by go_simp⟩) ?_
            refine wpAny_ready (rs := [7]) (by kernel_rfl) (by simp) ?_
            refine AllReady.cons rfl (fun K hK' => ?_) AllReady.nil
            go_simp
            refine hK' _ _ ?_
            clear hK' K
            refine wpAny_done (by kernel_rfl) ?_ _
            have hKf := hK5.set 0 (.slice A5 L5 c5)
            have of := o5.far (a := ⟨w.heap.size + 1, 0, none⟩) (by show w.heap.size < w.heap.size + 1; omega) (.slice A5 L5 c5)
            have tf := t5.far1 (a := ⟨w.heap.size + 1, 0, none⟩) (by show w.heap.size + 1 < w.heap.size + 2; omega) (.slice A5 L5 c5)
            go_wp2_with fail
            go_roundg m
            case measure => exact Nat.lt_succ_self m
            case rel => exact ⟨s1, xa ++ [(nm, an)], _, _, xf, cf, vf, by rw [List.append_assoc, hra]; exact HA.out, HF.out, HS.out, by omega, by simp; omega, of, hKf, tf⟩
      · have hx : nx ts s' wArray = false := by simpa using hx
        have HX := Lib.hid hx
        by_cases hy : nx ts s' wFunc = true
        · obtain ⟨⟨f0, s1⟩, hc⟩ : ∃ x, fnF ts m (adv s') = x := ⟨_, rfl⟩
          have HC := Lib.hid hc
          have hmv := ms_adv HFF.out
          have hm2 := ms_fn (ts := ts) m (adv s')
          rw [hc] at hm2
          rw [pg_fun HST.out hx hy hc] at hA hF hS
          dsimp only at hm2 hA hF hS
          have HY := Lib.hid hy
          have HA := Lib.hid hA
          have HF := Lib.hid hF
          have HS := Lib.hid hS
          have hfn : 5 * ms ts (adv s') + 9 ≤ m := by omega
          clear hx hy hc hA hF hS
          go_wp2_with fail
          go_quiet (fail)
          replace o := o.low (below_drewN (Below.refl _ _) nq)
          replace hK := hK.drewN nq
          replace ht := ht.grown (p := p) (grown_b (below_drewN (Below.refl _ _) nq) _) (by omega)
          generalize hwq : wr.drewN nq = wq at *
          clear hwq t0 t1 t2
          go_wp2_with fail
          refine (accept_no ts p s' wArray HX _ o.s).mono ?_
          rintro e w2 ⟨rfl, hg, hp⟩
          replace o := o.acc hg hp
          replace hK := hK.gr hg (by omega)
          replace ht := ht.grown hg (by omega)
          clear hg hp
          go_wp2_with fail
          refine (accept_yes ts p s' wFunc (by decide) HY _ o.s).mono ?_
          rintro e w3 ⟨rfl, hg, hp⟩
          replace o := o.acc hg hp
          replace hK := hK.gr hg (by omega)
          replace ht := ht.grown hg (by omega)
          clear hg hp
          go_wp2_with fail
          have hlo3 : w.heap.size + 2 ≤ w3.drew.heap.size := hK.lt
          have hva3 : ∀ k, va.ownBlock = some k → k < w3.drew.heap.size := fun k hk => (ht.a.own.lt k hk).2
          have hvf3 : ∀ k, vf.ownBlock = some k → k < w3.drew.heap.size := fun k hk => (ht.o.lt k hk).2
          have oD : Own ts p (adv s') 38 pg0 w w3.drew := o.low (below_drewN (Below.refl _ _) 1)
          have hKD : Blk w3.drew (w.heap.size + 1) 38 #[va, vf] := hK
          have htD := ht.grown (w' := w3.drew) (p := p) (grown_b (below_drewN (Below.refl _ _) 1) _) (by omega)
          have hcall := function_any ts p m (adv s') _ HC hfn _ oD.s
          obtain ⟨k0, k1, _⟩ := hK.cells2
          refine wp_region_any (by kernel_rfl) ?_
          change wpAny _ _ _ _ _ _ _ (World.drew _)
          refine wpAny_take (i := 0) (v := .pointer (some ⟨w.heap.size + 1, 1, none⟩)) rfl (by kernel_rfl) (by kernel_rfl) (by kernel_rfl) (fun _ _ _ h => h) (Or.inl ⟨by kernel_rfl, fun w => by go_simp⟩) ?_
          refine wpAny_take (i := 2) (v := .pointer (some ⟨p, 0, none⟩)) rfl (by kernel_rfl) (by kernel_rfl) (by kernel_rfl) (fun _ _ _ h => h) (Or.inl ⟨by kernel_rfl, fun w => by go_simp⟩) ?_
          refine wpAny_ready (rs := [1, 3]) (by kernel_rfl) (by simp) ?_
          refine AllReady.cons rfl (fun K hK' => ?_) (AllReady.cons rfl (fun K hK' => ?_) AllReady.nil)
          · go_simp
            refine hK' _ _ ?_
            clear hK' K
            refine wpAny_ready (rs := [3]) (by kernel_rfl) (by simp) ?_
            refine AllReady.cons rfl (fun K hK' => ?_) AllReady.nil
            go_simp
            go_wp2_with (go_at_call 45; ((with_reducible refine hcall.mono ?_); rintro e wc ⟨cs, rfl, hcz, hca, ⟨A1, L1, c1, A2, L2, c2, A3, L3, c3, kd, nf, nm, op, A, L, c, hcs, h1, h2, h3, h4⟩, hg, hp⟩; have hKE := hKD.gr hg (show p ≠ w.heap.size + 1 by omega); have oE := oD.acc hg hp; have htE := htD.grown hg (show p < w.heap.size + 2 by omega); obtain ⟨fname, hfname⟩ : ∃ x, f0.name = x := ⟨_, rfl⟩; rw [hfname] at hcs; obtain rfl : cs = #[.string ⟨fname.toArray⟩, .slice A1 L1 c1, .slice A2 L2 c2, .slice A3 L3 c3, .int .i64 kd, .int .i64 nf, .string ⟨nm.toArray⟩, .int .i64 op, .slice A L c] := by rw [← Array.toArray_toList (xs := cs), hcs]))
            have hlen := htE.l
            have hrf : RepF wc (Rg w3.drew.heap.size wc.heap.size) f0 [.string ⟨fname.toArray⟩, .slice A1 L1 c1, .slice A2 L2 c2, .slice A3 L3 c3, .int .i64 kd, .int .i64 nf, .string ⟨nm.toArray⟩, .int .i64 op, .slice A L c] := ⟨A1, L1, c1, A2, L2, c2, A3, L3, c3, kd, nf, nm, op, A, L, c, by rw [hfname], h1, h2, h3, h4⟩
            refine wpAny_ready (rs := [4]) (by kernel_rfl) (by simp) ?_
            refine AllReady.cons rfl (fun K hK' => ?_) AllReady.nil
            go_simp
            refine hK' _ _ ?_
            clear hK' K
            refine wpAny_ready (rs := [5]) (by kernel_rfl) (by simp) ?_
            refine AllReady.cons rfl (fun K hK' => ?_) AllReady.nil
            rw [if_pos (by kernel_rfl)]
            refine wp_app (.tmp 37) (.tmp 40) _ rfl (w.heap.size + 2) 47 i1 _ 9 152 Tryd.underlying36 gi gz0 gz1 gz2 rfl (by decide) _ _ _ rfl (htE.o.alloc _) ⟨wc.heap.size, 0, none⟩ 1 [.string ⟨fname.toArray⟩, .slice A1 L1 c1, .slice A2 L2 c2, .slice A3 L3 c3, .int .i64 kd, .int .i64 nf, .string ⟨nm.toArray⟩, .int .i64 op, .slice A L c] rfl rfl (World.news_of_block (heap_alloc_new _ _)) (by simp [Value.oneCell']) (by unfold maxLen; omega) (by omega) (by have := hKE.lt; simp; omega) ?_
            intro v2 w5 hown2 hgr2 hob
            refine hK' _ _ ?_
            clear hK' K
            have hrow : ∀ k, vf.ownBlock = some k → w.heap.size + 2 ≤ k := fun k hk => (htE.o.lt k hk).1
            have o5 := (oE.al (.cells #[.string ⟨fname.toArray⟩, .slice A1 L1 c1, .slice A2 L2 c2, .slice A3 L3 c3, .int .i64 kd, .int .i64 nf, .string ⟨nm.toArray⟩, .int .i64 op, .slice A L c] 47)).rowg hgr2 (fun k hk => by have := hrow k hk; omega)
            have hK5 : Blk w5 (w.heap.size + 1) 38 #[va, vf] := (hgr2.block _ (hKE.alloc (.cells #[.string ⟨fname.toArray⟩, .slice A1 L1 c1, .slice A2 L2 c2, .slice A3 L3 c3, .int .i64 kd, .int .i64 nf, .string ⟨nm.toArray⟩, .int .i64 op, .slice A L c] 47)).lt (fun e => by have := hrow _ e.symm; omega)).trans (hKE.alloc (.cells #[.string ⟨fname.toArray⟩, .slice A1 L1 c1, .slice A2 L2 c2, .slice A3 L3 c3, .int .i64 kd, .int .i64 nf, .string ⟨nm.toArray⟩, .int .i64 op, .slice A L c] 47))
            have t5 := htE.snocF (x := f0) (cs := [.string ⟨fname.toArray⟩, .slice A1 L1 c1, .slice A2 L2 c2, .slice A3 L3 c3, .int .i64 kd, .int .i64 nf, .string ⟨nm.toArray⟩, .int .i64 op, .slice A L c]) (lo := w3.drew.heap.size) hrf hlo3 hva3 hvf3 rfl hown2 hgr2 hob
            obtain ⟨A5, L5, c5, rfl⟩ := t5.formF
            obtain ⟨q0, q1, g0, g1⟩ := hK5.cells2
            refine wpAny_take (i := 6) (v := .pointer (some ⟨w.heap.size + 1, 1, none⟩)) rfl (by kernel_rfl) (by kernel_rfl) (by kernel_rfl) (fun _ _ _ h => h) (Or.inl ⟨by kernel_rfl, fun w => by go_simp⟩) ?_
            refine wpAny_ready (rs := [7]) (by kernel_rfl) (by simp) ?_
            refine AllReady.cons rfl (fun K hK' => ?_) AllReady.nil
            go_simp
            refine hK' _ _ ?_
            clear hK' K
            refine wpAny_done (by kernel_rfl) ?_ _
            have hKf := hK5.set 1 (.slice A5 L5 c5)
            have of := o5.far (a := ⟨w.heap.size + 1, 1, none⟩) (by show w.heap.size < w.heap.size + 1; omega) (.slice A5 L5 c5)
            have tf := t5.far1 (a := ⟨w.heap.size + 1, 1, none⟩) (by show w.heap.size + 1 < w.heap.size + 2; omega) (.slice A5 L5 c5)
            go_wp2_with fail
            go_roundg m
            case measure => exact Nat.lt_succ_self m
            case rel => exact ⟨s1, xa, ca, va, xf ++ [f0], _, _, HA.out, by rw [List.append_assoc]; exact HF.out, HS.out, by omega, by simp; omega, of, hKf, tf⟩
          · go_simp
            go_wp2_with (go_at_call 45; ((with_reducible refine hcall.mono ?_); rintro e wc ⟨cs, rfl, hcz, hca, ⟨A1, L1, c1, A2, L2, c2, A3, L3, c3, kd, nf, nm, op, A, L, c, hcs, h1, h2, h3, h4⟩, hg, hp⟩; have hKE := hKD.gr hg (show p ≠ w.heap.size + 1 by omega); have oE := oD.acc hg hp; have htE := htD.grown hg (show p < w.heap.size + 2 by omega); obtain ⟨fname, hfname⟩ : ∃ x, f0.name = x := ⟨_, rfl⟩; rw [hfname] at hcs; obtain rfl : cs = #[.string ⟨fname.toArray⟩, .slice A1 L1 c1, .slice A2 L2 c2, .slice A3 L3 c3, .int .i64 kd, .int .i64 nf, .string ⟨nm.toArray⟩, .int .i64 op, .slice A L c] := by rw [← Array.toArray_toList (xs := cs), hcs]))
            obtain ⟨j0, j1, _⟩ := hKE.cells2
            refine wpAny_ready (rs := [1, 4]) (by kernel_rfl) (by simp) ?_
            refine AllReady.cons rfl (fun K hK' => ?_) (AllReady.cons rfl (fun K hK' => ?_) AllReady.nil)
            · go_simp
              refine hK' _ _ ?_
              clear hK' K j0 j1
              have hlen := htE.l
              have hrf : RepF wc (Rg w3.drew.heap.size wc.heap.size) f0 [.string ⟨fname.toArray⟩, .slice A1 L1 c1, .slice A2 L2 c2, .slice A3 L3 c3, .int .i64 kd, .int .i64 nf, .string ⟨nm.toArray⟩, .int .i64 op, .slice A L c] := ⟨A1, L1, c1, A2, L2, c2, A3, L3, c3, kd, nf, nm, op, A, L, c, by rw [hfname], h1, h2, h3, h4⟩
              refine wpAny_ready (rs := [4]) (by kernel_rfl) (by simp) ?_
              refine AllReady.cons rfl (fun K hK' => ?_) AllReady.nil
              go_simp
              refine hK' _ _ ?_
              clear hK' K
              refine wpAny_ready (rs := [5]) (by kernel_rfl) (by simp) ?_
              refine AllReady.cons rfl (fun K hK' => ?_) AllReady.nil
              rw [if_pos (by kernel_rfl)]
              refine wp_app (.tmp 37) (.tmp 40) _ rfl (w.heap.size + 2) 47 i1 _ 9 152 Tryd.underlying36 gi gz0 gz1 gz2 rfl (by decide) _ _ _ rfl (htE.o.alloc _) ⟨wc.heap.size, 0, none⟩ 1 [.string ⟨fname.toArray⟩, .slice A1 L1 c1, .slice A2 L2 c2, .slice A3 L3 c3, .int .i64 kd, .int .i64 nf, .string ⟨nm.toArray⟩, .int .i64 op, .slice A L c] rfl rfl (World.news_of_block (heap_alloc_new _ _)) (by simp [Value.oneCell']) (by unfold maxLen; omega) (by omega) (by have := hKE.lt; simp; omega) ?_
              intro v2 w5 hown2 hgr2 hob
              refine hK' _ _ ?_
              clear hK' K
              have hrow : ∀ k, vf.ownBlock = some k → w.heap.size + 2 ≤ k := fun k hk => (htE.o.lt k hk).1
              have o5 := (oE.al (.cells #[.string ⟨fname.toArray⟩, .slice A1 L1 c1, .slice A2 L2 c2, .slice A3 L3 c3, .int .i64 kd, .int .i64 nf, .string ⟨nm.toArray⟩, .int .i64 op, .slice A L c] 47)).rowg hgr2 (fun k hk => by have := hrow k hk; omega)
              have hK5 : Blk w5 (w.heap.size + 1) 38 #[va, vf] := (hgr2.block _ (hKE.alloc (.cells #[.string ⟨fname.toArray⟩, .slice A1 L1 c1, .slice A2 L2 c2, .slice A3 L3 c3, .int .i64 kd, .int .i64 nf, .string ⟨nm.toArray⟩, .int .i64 op, .slice A L c] 47)).lt (fun e => by have := hrow _ e.symm; omega)).trans (hKE.alloc (.cells #[.string ⟨fname.toArray⟩, .slice A1 L1 c1, .slice A2 L2 c2, .slice A3 L3 c3, .int .i64 kd, .int .i64 nf, .string ⟨nm.toArray⟩, .int .i64 op, .slice A L c] 47))
              have t5 := htE.snocF (x := f0) (cs := [.string ⟨fname.toArray⟩, .slice A1 L1 c1, .slice A2 L2 c2, .slice A3 L3 c3, .int .i64 kd, .int .i64 nf, .string ⟨nm.toArray⟩, .int .i64 op, .slice A L c]) (lo := w3.drew.heap.size) hrf hlo3 hva3 hvf3 rfl hown2 hgr2 hob
              obtain ⟨A5, L5, c5, rfl⟩ := t5.formF
              obtain ⟨q0, q1, g0, g1⟩ := hK5.cells2
              refine wpAny_take (i := 6) (v := .pointer (some ⟨w.heap.size + 1, 1, none⟩)) rfl (by kernel_rfl) (by kernel_rfl) (by kernel_rfl) (fun _ _ _ h => h) (Or.inl ⟨by kernel_rfl, fun w => by go_simp⟩) ?_
              refine wpAny_ready (rs := [7]) (by kernel_rfl) (by simp) ?_
              refine AllReady.cons rfl (fun K hK' => ?_) AllReady.nil
              go_simp
              refine hK' _ _ ?_
              clear hK' K
              refine wpAny_done (by kernel_rfl) ?_ _
              have hKf := hK5.set 1 (.slice A5 L5 c5)
              have of := o5.far (a := ⟨w.heap.size + 1, 1, none⟩) (by show w.heap.size < w.heap.size + 1; omega) (.slice A5 L5 c5)
              have tf := t5.far1 (a := ⟨w.heap.size + 1, 1, none⟩) (by show w.heap.size + 1 < w.heap.size + 2; omega) (.slice A5 L5 c5)
              go_wp2_with fail
              go_roundg m
              case measure => exact Nat.lt_succ_self m
              case rel => exact ⟨s1, xa, ca, va, xf ++ [f0], _, _, HA.out, by rw [List.append_assoc]; exact HF.out, HS.out, by omega, by simp; omega, of, hKf, tf⟩
            · go_simp
              refine hK' _ _ ?_
              clear hK' K j0 j1
              obtain ⟨j0, j1, _⟩ := (hKE.alloc (.cells #[.string ⟨fname.toArray⟩, .slice A1 L1 c1, .slice A2 L2 c2, .slice A3 L3 c3, .int .i64 kd, .int .i64 nf, .string ⟨nm.toArray⟩, .int .i64 op, .slice A L c] 47)).cells2
              refine wpAny_ready (rs := [1]) (by kernel_rfl) (by simp) ?_
              refine AllReady.cons rfl (fun K hK' => ?_) AllReady.nil
              go_simp
              refine hK' _ _ ?_
              clear hK' K j0 j1
              have hlen := htE.l
              have hrf : RepF wc (Rg w3.drew.heap.size wc.heap.size) f0 [.string ⟨fname.toArray⟩, .slice A1 L1 c1, .slice A2 L2 c2, .slice A3 L3 c3, .int .i64 kd, .int .i64 nf, .string ⟨nm.toArray⟩, .int .i64 op, .slice A L c] := ⟨A1, L1, c1, A2, L2, c2, A3, L3, c3, kd, nf, nm, op, A, L, c, by rw [hfname], h1, h2, h3, h4⟩
              refine wpAny_ready (rs := [5]) (by kernel_rfl) (by simp) ?_
              refine AllReady.cons rfl (fun K hK' => ?_) AllReady.nil
              rw [if_pos (by kernel_rfl)]
              refine wp_app (.tmp 37) (.tmp 40) _ rfl (w.heap.size + 2) 47 i1 _ 9 152 Tryd.underlying36 gi gz0 gz1 gz2 rfl (by decide) _ _ _ rfl (htE.o.alloc _) ⟨wc.heap.size, 0, none⟩ 1 [.string ⟨fname.toArray⟩, .slice A1 L1 c1, .slice A2 L2 c2, .slice A3 L3 c3, .int .i64 kd, .int .i64 nf, .string ⟨nm.toArray⟩, .int .i64 op, .slice A L c] rfl rfl (World.news_of_block (heap_alloc_new _ _)) (by simp [Value.oneCell']) (by unfold maxLen; omega) (by omega) (by have := hKE.lt; simp; omega) ?_
              intro v2 w5 hown2 hgr2 hob
              refine hK' _ _ ?_
              clear hK' K
              have hrow : ∀ k, vf.ownBlock = some k → w.heap.size + 2 ≤ k := fun k hk => (htE.o.lt k hk).1
              have o5 := (oE.al (.cells #[.string ⟨fname.toArray⟩, .slice A1 L1 c1, .slice A2 L2 c2, .slice A3 L3 c3, .int .i64 kd, .int .i64 nf, .string ⟨nm.toArray⟩, .int .i64 op, .slice A L c] 47)).rowg hgr2 (fun k hk => by have := hrow k hk; omega)
              have hK5 : Blk w5 (w.heap.size + 1) 38 #[va, vf] := (hgr2.block _ (hKE.alloc (.cells #[.string ⟨fname.toArray⟩, .slice A1 L1 c1, .slice A2 L2 c2, .slice A3 L3 c3, .int .i64 kd, .int .i64 nf, .string ⟨nm.toArray⟩, .int .i64 op, .slice A L c] 47)).lt (fun e => by have := hrow _ e.symm; omega)).trans (hKE.alloc (.cells #[.string ⟨fname.toArray⟩, .slice A1 L1 c1, .slice A2 L2 c2, .slice A3 L3 c3, .int .i64 kd, .int .i64 nf, .string ⟨nm.toArray⟩, .int .i64 op, .slice A L c] 47))
              have t5 := htE.snocF (x := f0) (cs := [.string ⟨fname.toArray⟩, .slice A1 L1 c1, .slice A2 L2 c2, .slice A3 L3 c3, .int .i64 kd, .int .i64 nf, .string ⟨nm.toArray⟩, .int .i64 op, .slice A L c]) (lo := w3.drew.heap.size) hrf hlo3 hva3 hvf3 rfl hown2 hgr2 hob
              obtain ⟨A5, L5, c5, rfl⟩ := t5.formF
              obtain ⟨q0, q1, g0, g1⟩ := hK5.cells2
              refine wpAny_take (i := 6) (v := .pointer (some ⟨w.heap.size + 1, 1, none⟩)) rfl (by kernel_rfl) (by kernel_rfl) (by kernel_rfl) (fun _ _ _ h => h) (Or.inl ⟨by kernel_rfl, fun w => by go_simp⟩) ?_
              refine wpAny_ready (rs := [7]) (by kernel_rfl) (by simp) ?_
              refine AllReady.cons rfl (fun K hK' => ?_) AllReady.nil
              go_simp
              refine hK' _ _ ?_
              clear hK' K
              refine wpAny_done (by kernel_rfl) ?_ _
              have hKf := hK5.set 1 (.slice A5 L5 c5)
              have of := o5.far (a := ⟨w.heap.size + 1, 1, none⟩) (by show w.heap.size < w.heap.size + 1; omega) (.slice A5 L5 c5)
              have tf := t5.far1 (a := ⟨w.heap.size + 1, 1, none⟩) (by show w.heap.size + 1 < w.heap.size + 2; omega) (.slice A5 L5 c5)
              go_wp2_with fail
              go_roundg m
              case measure => exact Nat.lt_succ_self m
              case rel => exact ⟨s1, xa, ca, va, xf ++ [f0], _, _, HA.out, by rw [List.append_assoc]; exact HF.out, HS.out, by omega, by simp; omega, of, hKf, tf⟩
        · have hy : nx ts s' wFunc = false := by simpa using hy
          have HY := Lib.hid hy
          rw [pg_bad HST.out hx hy] at hA hF hS
          dsimp only at hA hF hS
          have HA := Lib.hid hA
          have HF := Lib.hid hF
          have HS := Lib.hid hS
          have hm3 := ms_fl (ts := ts) s'
          have hmv := ms_adv HFF.out
          clear hx hy hA hF hS
          go_wp2_with fail
          go_quiet (fail)
          replace o := o.low (below_drewN (Below.refl _ _) nq)
          replace hK := hK.drewN nq
          replace ht := ht.grown (p := p) (grown_b (below_drewN (Below.refl _ _) nq) _) (by omega)
          generalize hwq : wr.drewN nq = wq at *
          clear hwq t0 t1 t2
          go_wp2_with fail
          refine (accept_no ts p s' wArray HX _ o.s).mono ?_
          rintro e w2 ⟨rfl, hg, hp⟩
          replace o := o.acc hg hp
          replace hK := hK.gr hg (by omega)
          replace ht := ht.grown hg (by omega)
          clear hg hp
          go_wp2_with fail
          refine (accept_no ts p s' wFunc HY _ o.s).mono ?_
          rintro e w3 ⟨rfl, hg, hp⟩
          replace o := o.acc hg hp
          replace hK := hK.gr hg (by omega)
          replace ht := ht.grown hg (by omega)
          clear hg hp
          go_wp2_with fail
          refine (fail_any ts p s' _ o.s).mono ?_
          rintro e w4 ⟨rfl, hw4⟩
          have hg4 : w3.grownBy w4 (some p) := by rw [← hw4]; exact grown_s (grown_id _ _) _
          have o4 := o.setF
          rw [hw4] at o4
          clear hw4
          replace o := o4
          replace hK := hK.gr hg4 (by omega)
          replace ht := ht.grown hg4 (by omega)
          clear hg4 o4
          go_wp2_with fail
          go_roundg m
          case measure => exact Nat.lt_succ_self m
          case rel => exact ⟨fl s', xa, ca, va, xf, cf, vf, by rw [pg_fl]; exact HA.out, by rw [pg_fl]; exact HF.out, by rw [pg_fl]; exact HS.out, by omega, by omega, o, hK, ht⟩
end Go.Proofs.YtjeidpfpgolonaaDoor
