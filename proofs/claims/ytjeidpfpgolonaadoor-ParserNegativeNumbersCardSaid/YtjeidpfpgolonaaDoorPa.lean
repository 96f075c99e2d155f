/- Stage 3: the parser in memory; the walks of its tests on the next token. -/
import Derived.Test.YtjeidpfpgolonaaDoorPn
import Derived.Test.YtjeidpfpgolonaaDoorLk
import Derived.Test.YtjeidpfpgolonaaDoorWq
import Derived.Test.YtjeidpfpgolonaaDoorTs
namespace Go.Proofs.YtjeidpfpgolonaaDoor
open Go.RowKit (wrap64 intOf)
open Go Go.RowKit WM LX PX

abbrev resCells : Array Value := #[.string ⟨#[97, 114, 114, 97, 121]⟩, .string ⟨#[102, 117, 110, 99]⟩, .string ⟨#[118, 97, 114]⟩, .string ⟨#[114, 101, 116, 117, 114, 110]⟩, .string ⟨#[105, 102]⟩, .string ⟨#[101, 108, 115, 101]⟩, .string ⟨#[119, 104, 105, 108, 101]⟩, .string ⟨#[111, 117, 116]⟩, .string ⟨#[116, 114, 97, 112]⟩]
def opC (o : List UInt8 × Nat × Nat × Bool) : List Value := [.string ⟨o.1.toArray⟩, .int .i64 (o.2.1 : Int), .int .i64 (o.2.2.1 : Int), .bool o.2.2.2]
abbrev opsCells : Array Value := #[.string ⟨#[124]⟩, .int .i64 1, .int .i64 10, .bool false, .string ⟨#[94]⟩, .int .i64 2, .int .i64 11, .bool false, .string ⟨#[38]⟩, .int .i64 3, .int .i64 9, .bool false, .string ⟨#[61, 61]⟩, .int .i64 4, .int .i64 15, .bool false, .string ⟨#[33, 61]⟩, .int .i64 4, .int .i64 16, .bool false,
  .string ⟨#[60]⟩, .int .i64 5, .int .i64 17, .bool false, .string ⟨#[60, 61]⟩, .int .i64 5, .int .i64 18, .bool false, .string ⟨#[62]⟩, .int .i64 5, .int .i64 17, .bool true, .string ⟨#[62, 61]⟩, .int .i64 5, .int .i64 18, .bool true, .string ⟨#[60, 60]⟩, .int .i64 6, .int .i64 12, .bool false, .string ⟨#[62, 62]⟩, .int .i64 6, .int .i64 14, .bool false,
  .string ⟨#[62, 62, 62]⟩, .int .i64 6, .int .i64 13, .bool false, .string ⟨#[43]⟩, .int .i64 7, .int .i64 4, .bool false, .string ⟨#[45]⟩, .int .i64 7, .int .i64 5, .bool false, .string ⟨#[42]⟩, .int .i64 8, .int .i64 6, .bool false, .string ⟨#[47]⟩, .int .i64 8, .int .i64 7, .bool false, .string ⟨#[37]⟩, .int .i64 8, .int .i64 8, .bool false]
theorem opsCells_eq : opsCells = (opsT.flatMap opC).toArray := by rfl
/-- The tables that the parser reads stand, and go on standing while nothing below block B turns. -/
def Env (B : Nat) (w : World) : Prop := FR.TabAt 2 resCells B w ∧ FR.TabAt 3 opsCells B w ∧ TabP B w
theorem Env.on {B : Nat} {w w' : World} (h : Env B w) (hb : Below B w w') : Env B w' := ⟨h.1.on hb, h.2.1.on hb, h.2.2.on hb⟩
/-- The parser at block p: the tokens ts, its state s. -/
def PSt (ts : List Tk) (p : Nat) (s : PS) (w : World) : Prop :=
  ∃ A c, Blk w p 66 #[.slice A ts.length c, .int .i64 (s.i : Int), .bool s.f] ∧ Toks w p A ts ∧ Env p w ∧ s.i ≤ ts.length ∧ ts.length ≤ 20000 ∧ ∀ t ∈ ts, t.text.length ≤ 20000
theorem below_down {B B' : Nat} {w w' : World} (h : Below B w w') (hb : B' ≤ B) : Below B' w w' := ⟨h.os, h.tape, h.output, h.size, fun i hi => h.block i (Nat.lt_of_lt_of_le hi hb)⟩
theorem grown_below' {w w' : World} {p : Nat} (h : w.grownBy w' (some p)) (hp : p ≤ w.heap.size) : Below p w w' := ⟨h.os, h.tape, h.output, h.size, fun i hi => h.block i (Nat.lt_of_lt_of_le hi hp) (by intro e; injection e with e; omega)⟩
section
variable {ts : List Tk} {p : Nat} {s : PS} {w w' : World}
theorem PSt.lt (h : PSt ts p s w) : p < w.heap.size := by
  obtain ⟨A, c, hb, _⟩ := h
  exact hb.lt
theorem PSt.keep (h : PSt ts p s w) (hb : Below w.heap.size w w') : PSt ts p s w' := by
  have hp := h.lt
  obtain ⟨A, c, h1, h2, h3, h4⟩ := h
  exact ⟨A, c, h1.on hb hp, h2.on (below_down hb (Nat.le_of_lt hp)), h3.on (below_down hb (Nat.le_of_lt hp)), h4⟩
theorem PSt.alloc (h : PSt ts p s w) (o : Obj) : PSt ts p s (w.alloc o) := h.keep ((Below.refl _ _).alloc (Nat.le_refl _) o)
theorem below_far {w : World} {B : Nat} {a : Addr} (ha : B ≤ a.block) (u : Value) : Below B w (w.setCell a u) :=
  (Below.refl B w).setCell ha u
theorem PSt.far (h : PSt ts p s w) {a : Addr} (ha : p < a.block) (u : Value) : PSt ts p s (w.setCell a u) := by
  obtain ⟨A, c, h1, h2, h3, h4⟩ := h
  have hb := below_far (w := w) (B := p) (Nat.le_of_lt ha) u
  exact ⟨A, c, h1.far (Nat.ne_of_gt ha) u, h2.on hb, h3.on hb, h4⟩
theorem PSt.setI (h : PSt ts p s w) {i : Nat} (hi : i ≤ ts.length) {u : Value} (hu : u = .int .i64 (i : Int)) : PSt ts p ⟨i, s.f⟩ (w.setCell ⟨p, 1, none⟩ u) := by
  subst hu
  obtain ⟨A, c, h1, h2, h3, _, h5⟩ := h
  have hb := below_far (w := w) (B := p) (a := ⟨p, 1, none⟩) (Nat.le_refl _) (.int .i64 (i : Int))
  exact ⟨A, c, h1.set 1 _, h2.on hb, h3.on hb, hi, h5⟩
theorem PSt.setF (h : PSt ts p s w) : PSt ts p (fl s) (w.setCell ⟨p, 2, none⟩ (.bool true)) := by
  obtain ⟨A, c, h1, h2, h3, h4⟩ := h
  have hb := below_far (w := w) (B := p) (a := ⟨p, 2, none⟩) (Nat.le_refl _) (.bool true)
  exact ⟨A, c, h1.set 2 _, h2.on hb, h3.on hb, h4⟩
theorem PSt.drewN (h : PSt ts p s w) (n : Nat) : PSt ts p s (w.drewN n) := h.keep (below_drewN (Below.refl _ _) n)
end
theorem PSt.tok {ts : List Tk} {p : Nat} {s s' : PS} {w : World} {t : Tk} (h : PSt ts p s w) (ht : pk ts s' = t) : t.text.length ≤ 20000 := by
  subst ht
  obtain ⟨_, _, _, _, _, _, _, h6⟩ := h
  unfold pk
  split
  · exact Nat.zero_le _
  · by_cases hi : s'.i < ts.length
    · rw [List.getD_eq_getElem?_getD, List.getElem?_eq_getElem hi]
      exact h6 _ (List.getElem_mem hi)
    · rw [List.getD_eq_getElem?_getD, List.getElem?_eq_none (by omega)]
      exact Nat.zero_le _
theorem PSt.env {ts : List Tk} {p : Nat} {s : PS} {w : World} (h : PSt ts p s w) : Env p w := by
  obtain ⟨_, _, _, _, h3, _⟩ := h
  exact h3
/-- The parser's cells that are read and written. -/
theorem PSt.cells {ts : List Tk} {p : Nat} {s : PS} {w : World} (h : PSt ts p s w) : w.cell? ⟨p, 1, none⟩ = some (.int .i64 (s.i : Int)) ∧ w.frozen? ⟨p, 1, none⟩ = false ∧ s.i ≤ 20000 := by
  obtain ⟨_, _, hb, _, _, h4, h5, _⟩ := h
  obtain ⟨_, c1, _, _, f1, _⟩ := hb.cells3
  exact ⟨c1, f1, by omega⟩
/-- The tokens' cells. -/
theorem tok_cells {ts : List Tk} {p : Nat} {w : World} {A : Option Addr} {i : Nat} (h : Toks w p A ts) (hi : i < ts.length) : ∃ g, A = some ⟨g, 0, none⟩ ∧ g < p ∧
    w.cell? ⟨g, i * 3, none⟩ = some (.int .i64 ((ts.getD i tk0).kind : Int)) ∧ w.cell? ⟨g, i * 3 + 1, none⟩ = some (.string ⟨(ts.getD i tk0).text.toArray⟩) ∧ w.cell? ⟨g, i * 3 + 2, none⟩ = some (.int .i64 ((ts.getD i tk0).pos : Int)) := by
  obtain ⟨g, hA, hg, hc⟩ := h (by omega)
  have ht : ts[i]? = some (ts.getD i tk0) := by rw [List.getD_eq_getElem?_getD, List.getElem?_eq_getElem hi]; rfl
  obtain ⟨t0, t1, t2⟩ := tksC_get ts i _ ht
  exact ⟨g, hA, hg, hc _ _ t0, hc _ _ t1, hc _ _ t2⟩
theorem below_set3 {w w1 : World} {B g : Nat} (h : Below B w w1) (hg : B ≤ g) (a b c : Value) : Below B w (((w1.setCell ⟨g, 0, none⟩ a).setCell ⟨g, 1, none⟩ b).setCell ⟨g, 2, none⟩ c) :=
  ((h.setCell hg a).setCell hg b).setCell hg c
abbrev tokV (t : Tk) : Value := .agg #[.int .i64 (t.kind : Int), .string ⟨t.text.toArray⟩, .int .i64 (t.pos : Int)]
/-- Returned, and only new memory. -/
def RetN (v : Value) (w : World) (e : Ending) (w' : World) : Prop := e = .returned v ∧ Below w.heap.size w w'
theorem retN {v v' : Value} {w w' : World} (h : v' = v) (hb : Below w.heap.size w w') : RetN v w (.returned v') w' := ⟨by rw [h], hb⟩
set_option maxRecDepth 100000
theorem peek_none (ts : List Tk) (p : Nat) (s : PS) (h0 : s.f = true ∨ ts.length ≤ s.i) (w : World) (h : PSt ts p s w) :
    Calls Tryd.prog 80 #[.pointer (some ⟨p, 0, none⟩)] w (RetN (tokV tk0) w) := by
  obtain ⟨A, c, hb, ht, he, hi, hl, _⟩ := h
  obtain ⟨i, f⟩ := s
  obtain ⟨c0, c1, c2, f0, f1, f2⟩ := hb.cells3
  have hlt := hb.lt
  dsimp only at h0 hi c1 c2
  clear hb ht he
  generalize ts.length = n at *
  cases f
  · have h0 : n ≤ i := by rcases h0 with h | h; exact absurd h (by decide); exact h
    have h1 : decide ((n : Int) ≤ (i : Int)) = true := decide_eq_true (by omega)
    have h2 : (n : Int) ≤ (i : Int) := by omega
    go_enter Tryd.func80, Tryd.ntmps80
    go_wp2_with fail
    go_quiet (fail)
    go_wp2_with fail
    exact bodyPost_ret (v := .agg #[.int .i64 0, .string ⟨#[]⟩, .int .i64 0]) (by simp [results, Tryd.results80, go_sem]) rfl ⟨rfl, below_set3 (below_drewN ((Below.refl _ _).alloc (Nat.le_refl _) _) _) (Nat.le_refl _) _ _ _⟩
  · clear h0
    go_enter Tryd.func80, Tryd.ntmps80
    go_wp2_with fail
    go_quiet (fail)
    go_wp2_with fail
    exact bodyPost_ret (v := .agg #[.int .i64 0, .string ⟨#[]⟩, .int .i64 0]) (by simp [results, Tryd.results80, go_sem]) rfl ⟨rfl, below_set3 (below_drewN ((Below.refl _ _).alloc (Nat.le_refl _) _) _) (Nat.le_refl _) _ _ _⟩
theorem peek_tok (ts : List Tk) (p i : Nat) (hi : i < ts.length) (t : Tk) (ht : ts.getD i tk0 = t) (w : World) (h : PSt ts p ⟨i, false⟩ w) :
    Calls Tryd.prog 80 #[.pointer (some ⟨p, 0, none⟩)] w (RetN (.agg #[.int .i64 (t.kind : Int), .string ⟨t.text.toArray⟩, .int .i64 (t.pos : Int)]) w) := by
  obtain ⟨A, c, hb, htk, he, _, hl, _⟩ := h
  obtain ⟨c0, c1, c2, f0, f1, f2⟩ := hb.cells3
  have hlt := hb.lt
  obtain ⟨g, rfl, hg, d0, d1, d2⟩ := tok_cells htk hi
  rw [ht] at d0 d1 d2
  dsimp only at c1 c2
  clear hb htk he ht
  obtain ⟨n, hn⟩ : ∃ n, ts.length = n := ⟨_, rfl⟩
  rw [hn] at c0 hi hl
  clear hn
  obtain ⟨kd, x, o⟩ := t
  dsimp only at d0 d1 d2
  obtain ⟨kz, hkz⟩ : ∃ kz : Int, (kd : Int) = kz := ⟨_, rfl⟩
  rw [hkz] at d0
  have HKD := Lib.hid hkz
  clear hkz
  have h1 : decide ((n : Int) ≤ (i : Int)) = false := decide_eq_false (by omega)
  have h2 : ¬ (n : Int) ≤ (i : Int) := by omega
  have h3 : (i : Int) < (n : Int) := by omega
  go_enter Tryd.func80, Tryd.ntmps80
  go_wp2_with fail
  go_quiet (fail)
  go_wp2_with fail
  have hB := (Blk.new w 54 #[.int .i64 0, .string ⟨#[]⟩, .int .i64 0]).drewN nq
  have hW : Below w.heap.size w ((w.alloc (.cells #[.int .i64 0, .string ⟨#[]⟩, .int .i64 0] 54)).drewN nq) := below_drewN ((Below.refl _ _).alloc (Nat.le_refl _) _) nq
  obtain ⟨hcc, hff⟩ := bcell hW
  replace c0 := (hcc p 0 hlt).trans c0
  replace c1 := (hcc p 1 hlt).trans c1
  replace d0 := (hcc g (i * 3) (by omega)).trans d0
  replace d1 := (hcc g (i * 3 + 1) (by omega)).trans d1
  replace d2 := (hcc g (i * 3 + 2) (by omega)).trans d2
  clear hcc hff c2 f0 f1 f2
  generalize hwq : (w.alloc (.cells #[.int .i64 0, .string ⟨#[]⟩, .int .i64 0] 54)).drewN nq = wq at *
  obtain ⟨k0, k1, k2, l0, l1, l2⟩ := hB.cells3
  have HB := Lib.hid hB
  have HW := Lib.hid hW
  clear hwq hB hW
  go_region
  all_goals
    go_wp2_with fail
    obtain ⟨r0, r1, r2, _⟩ := ((((HB.out.set 0 (.int .i64 kz)).set 1 (.string ⟨x.toArray⟩)).set 2 (.int .i64 (o : Int))).drewN 1).cells3
    exact bodyPost_ret (v := .agg #[.int .i64 kz, .string ⟨x.toArray⟩, .int .i64 (o : Int)]) (by simp [results, Tryd.results80, go_sem, show ∀ w : World, w.drew = w.drewN 1 from fun _ => rfl, r0, r1, r2]) rfl ⟨by rw [← HKD.out], below_drewN (below_set3 HW.out (Nat.le_refl _) _ _ _) 1⟩
theorem peek_any (ts : List Tk) (p : Nat) (s : PS) (t : Tk) (ht : Hid (pk ts s = t)) (w : World) (h : PSt ts p s w) :
    Calls Tryd.prog 80 #[.pointer (some ⟨p, 0, none⟩)] w (RetN (.agg #[.int .i64 (t.kind : Int), .string ⟨t.text.toArray⟩, .int .i64 (t.pos : Int)]) w) := by
  have ht := ht.out
  obtain ⟨i, f⟩ := s
  unfold pk at ht
  cases f
  · rw [if_neg (by simp)] at ht
    by_cases hi : i < ts.length
    · exact peek_tok ts p i hi t ht w h
    · have : ts.getD i tk0 = tk0 := by rw [List.getD_eq_getElem?_getD, List.getElem?_eq_none (by omega)]; rfl
      obtain rfl : tk0 = t := by rw [← this]; exact ht
      exact peek_none ts p _ (Or.inr (by simpa using hi)) w h
  · rw [if_pos rfl] at ht
    obtain rfl := ht
    exact peek_none ts p _ (Or.inl rfl) w h
theorem tokF0 (a b c : Value) (w : World) : (Instr.field 54 (.agg #[a, b, c]) 0).run Tryd.prog w = .ok a w := by kernel_rfl
theorem tokF1 (a b c : Value) (w : World) : (Instr.field 54 (.agg #[a, b, c]) 1).run Tryd.prog w = .ok b w := by kernel_rfl
theorem beq_dec (a b : List UInt8) : (a == b) = decide (a = b) := by rw [Bool.eq_iff_iff]; simp
theorem isNext_any (ts : List Tk) (p : Nat) (s : PS) (x : List UInt8) (b : Bool) (hb : Hid (nx ts s x = b)) (w : World) (h : PSt ts p s w) :
    Calls Tryd.prog 61 #[.pointer (some ⟨p, 0, none⟩), .string ⟨x.toArray⟩] w (RetN (.bool b) w) := by
  obtain ⟨t, ht⟩ : ∃ t, pk ts s = t := ⟨_, rfl⟩
  have HT := Lib.hid ht
  clear ht
  have kf := tokF1
  go_enter Tryd.func61, Tryd.ntmps61
  go_wp2_with fail
  refine (peek_any ts p s t HT _ h).mono ?_
  rintro e w1 ⟨rfl, hb1⟩
  go_wp2_with fail
  go_ret
  refine retN ?_ hb1
  have e1 := hb.out
  have e2 := HT.out
  unfold nx at e1
  rw [e2] at e1
  rw [← e1]
  exact congrArg Value.bool (beq_dec _ _)
theorem fail_any (ts : List Tk) (p : Nat) (s : PS) (w : World) (h : PSt ts p s w) :
    Calls Tryd.prog 46 #[.pointer (some ⟨p, 0, none⟩)] w fun e w' => e = .returned (.tuple #[]) ∧ w.setCell ⟨p, 2, none⟩ (.bool true) = w' := by
  obtain ⟨A, c, hb, _⟩ := h
  obtain ⟨c0, c1, c2, f0, f1, f2⟩ := hb.cells3
  clear hb
  go_enter Tryd.func46, Tryd.ntmps46
  go_wp2_with fail
  go_end0
  exact ⟨rfl, rfl⟩
/-- Returned; of the old blocks only the parser's has turned, and its state is q. -/
def AccP (ts : List Tk) (p : Nat) (q : PS) (v : Value) (w : World) (e : Ending) (w' : World) : Prop := e = .returned v ∧ w.grownBy w' (some p) ∧ PSt ts p q w'
theorem grown_b {w w' : World} (h : Below w.heap.size w w') (row : Option Nat) : w.grownBy w' row := ⟨h.os, h.tape, h.output, h.size, fun i hi _ => h.block i hi⟩
theorem grown_s {w w' : World} {r i : Nat} (h : w.grownBy w' (some r)) (u : Value) : w.grownBy (w'.setCell ⟨r, i, none⟩ u) (some r) :=
  ⟨h.os, h.tape, h.output, by simpa [World.setCell] using h.size, fun k hk hne => (Below.heap_setCell w' ⟨r, i, none⟩ u k (fun e => hne (by rw [e]))).trans (h.block k hk hne)⟩
theorem accP {ts : List Tk} {p : Nat} {q : PS} {v v' : Value} {w w' : World} (hv : v' = v) (hg : w.grownBy w' (some p)) (hp : PSt ts p q w') : AccP ts p q v w (.returned v') w' := ⟨by rw [hv], hg, hp⟩
theorem accept_no (ts : List Tk) (p : Nat) (s : PS) (x : List UInt8) (hb : Hid (nx ts s x = false)) (w : World) (h : PSt ts p s w) :
    Calls Tryd.prog 43 #[.pointer (some ⟨p, 0, none⟩), .string ⟨x.toArray⟩] w (AccP ts p s (.bool false) w) := by
  go_enter Tryd.func43, Tryd.ntmps43
  go_wp2_with fail
  refine (isNext_any ts p s x false hb _ h).mono ?_
  rintro e w1 ⟨rfl, hb1⟩
  go_wp2_with fail
  go_ret
  exact accP rfl (grown_b hb1 _) (h.keep hb1)
theorem accept_yes (ts : List Tk) (p : Nat) (s : PS) (x : List UInt8) (hx : x ≠ []) (hb : Hid (nx ts s x = true)) (w : World) (h : PSt ts p s w) :
    Calls Tryd.prog 43 #[.pointer (some ⟨p, 0, none⟩), .string ⟨x.toArray⟩] w (AccP ts p (adv s) (.bool true) w) := by
  obtain ⟨_, hl⟩ := nx_len hx hb.out
  clear hx
  go_enter Tryd.func43, Tryd.ntmps43
  go_wp2_with fail
  refine (isNext_any ts p s x true hb _ h).mono ?_
  rintro e w1 ⟨rfl, hb1⟩
  have h1 := h.keep hb1
  have H1 := Lib.hid h1
  obtain ⟨A, c, hc, _, _, _, h5, _⟩ := h1
  obtain ⟨c0, c1, c2, f0, f1, f2⟩ := hc.cells3
  clear hc
  go_wp2_with fail
  go_ret
  exact accP rfl (grown_s (grown_b hb1 _) _) (H1.out.setI (by omega) rfl)
theorem expect_no (ts : List Tk) (p : Nat) (s : PS) (x : List UInt8) (hb : Hid (nx ts s x = false)) (w : World) (h : PSt ts p s w) :
    Calls Tryd.prog 64 #[.pointer (some ⟨p, 0, none⟩), .string ⟨x.toArray⟩] w (AccP ts p (fl s) (.tuple #[]) w) := by
  go_enter Tryd.func64, Tryd.ntmps64
  go_wp2_with fail
  refine (accept_no ts p s x hb _ h).mono ?_
  rintro e w1 ⟨rfl, hg, hp⟩
  go_wp2_with fail
  refine (fail_any ts p s _ hp).mono ?_
  rintro e w2 ⟨rfl, rfl⟩
  go_wp2_with fail
  go_end0
  exact accP rfl (grown_s hg _) hp.setF
theorem expect_yes (ts : List Tk) (p : Nat) (s : PS) (x : List UInt8) (hx : x ≠ []) (hb : Hid (nx ts s x = true)) (w : World) (h : PSt ts p s w) :
    Calls Tryd.prog 64 #[.pointer (some ⟨p, 0, none⟩), .string ⟨x.toArray⟩] w (AccP ts p (adv s) (.tuple #[]) w) := by
  have HX := Lib.hid hx
  clear hx
  go_enter Tryd.func64, Tryd.ntmps64
  go_wp2_with fail
  refine (accept_yes ts p s x HX.out hb _ h).mono ?_
  rintro e w1 ⟨rfl, hg, hp⟩
  go_wp2_with fail
  go_end0
  exact accP rfl hg hp
theorem expect_any (ts : List Tk) (p : Nat) (s s' : PS) (x : List UInt8) (hx : x ≠ []) (hs : Hid (exs ts s x = s')) (w : World) (h : PSt ts p s w) :
    Calls Tryd.prog 64 #[.pointer (some ⟨p, 0, none⟩), .string ⟨x.toArray⟩] w (AccP ts p s' (.tuple #[]) w) := by
  obtain rfl := hs.out
  unfold exs
  by_cases hb : nx ts s x = true
  · rw [if_pos hb]; exact expect_yes ts p s x hx (Lib.hid hb) w h
  · rw [if_neg hb]; exact expect_no ts p s x (Lib.hid (by simpa using hb)) w h
theorem rx (k : Nat) (hk : k < 9) : ∃ x : List UInt8, (∀ w : World, (Instr.index 133 (.agg resCells) (.int .i64 (k : Int))).run Tryd.prog w = .ok (.string ⟨x.toArray⟩) w) ∧ x = resW.getD k [] := by
  have hc : k = 0 ∨ k = 1 ∨ k = 2 ∨ k = 3 ∨ k = 4 ∨ k = 5 ∨ k = 6 ∨ k = 7 ∨ k = 8 := by omega
  rcases hc with rfl | rfl | rfl | rfl | rfl | rfl | rfl | rfl | rfl
  all_goals exact ⟨_, fun w => by kernel_rfl, rfl⟩
theorem ret_b {a b : Bool} (h : a = b) : Ending.returned (.bool a) = .returned (.bool b) := by rw [h]
theorem res_in (j : Nat) (hj : j < 9) : resW.contains (resW.getD j []) = true := by
  have hc : j = 0 ∨ j = 1 ∨ j = 2 ∨ j = 3 ∨ j = 4 ∨ j = 5 ∨ j = 6 ∨ j = 7 ∨ j = 8 := by omega
  rcases hc with rfl | rfl | rfl | rfl | rfl | rfl | rfl | rfl | rfl <;> decide
theorem res_out {x : List UInt8} (h : ∀ k, k < 9 → resW.getD k [] ≠ x) : resW.contains x = false := by
  cases hc : resW.contains x with
  | false => rfl
  | true =>
    exfalso
    have hm := List.contains_iff_mem.1 hc
    obtain ⟨i, hi, he⟩ := List.mem_iff_getElem.1 hm
    refine h i hi ?_
    rw [List.getD_eq_getElem?_getD, List.getElem?_eq_getElem hi, ← he]; rfl
theorem isReserved_any (x : List UInt8) (b : Bool) (hb : Hid (resW.contains x = b)) (B : Nat) (w : World) (ht : FR.TabAt 2 resCells B w) :
    Calls Tryd.prog 91 #[.string ⟨x.toArray⟩] w (fun e w' => e = .returned (.bool b) ∧ w = w') := by
  obtain ⟨_, tt, fr, hg⟩ := ht
  have HG := Lib.hid hg
  clear hg
  go_enter Tryd.func91, Tryd.ntmps91
  go_wp2_with (refine wpList_load_row rfl 133 _ rfl 2 rfl tt _ fr _ HG.out Tryd.underlying133 rfl (by kernel_rfl) ?_)
  go_loop [6] (fun i => ∃ j : Nat, j ≤ 9 ∧ (∀ k, k < j → resW.getD k [] ≠ x) ∧ i = .int .i64 j) (fun i => 9 - (intOf i).toNat)
  case atStart => exact ⟨0, Nat.zero_le _, fun i hi => absurd hi (by omega), rfl⟩
  case round =>
    obtain ⟨j, hj, hd, rfl⟩ := hrel
    have HD := Lib.hid hd
    clear hd
    by_cases hlt : j < 9
    · obtain ⟨y, hix, hy⟩ := rx j hlt
      have HY := Lib.hid hy
      clear hy
      by_cases he : x = y
      · have he1 : (x == y) = true := by simp [he]
        have HE := Lib.hid he
        clear he
        go_wp2_with fail
        go_ret
        exact ⟨ret_b (by rw [← hb.out, HE.out, HY.out]; exact (res_in j hlt).symm), rfl⟩
      · have he1 : (x == y) = false := by simp [he]
        have HE := Lib.hid he
        clear he
        go_wp2_with fail
        go_round
        case rel => exact ⟨j + 1, by omega, fun k hk => by
          by_cases e : k = j
          · subst e; rw [← HY.out]; exact fun e => HE.out e.symm
          · exact HD.out k (by omega), by go_num⟩
        case measure => simp [intOf]; omega
    · obtain rfl : j = 9 := by omega
      go_wp2_with fail
      go_ret
      exact ⟨ret_b (by rw [← hb.out]; exact (res_out HD.out).symm), rfl⟩
end Go.Proofs.YtjeidpfpgolonaaDoor
