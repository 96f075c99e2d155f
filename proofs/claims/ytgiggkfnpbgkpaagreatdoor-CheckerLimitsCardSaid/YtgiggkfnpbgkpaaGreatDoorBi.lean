/- Stage 3: all walks of statements, by induction on the fuel; what functions and arrays are in memory; the walk of array. -/
import Derived.Test.YtgiggkfnpbgkpaaGreatDoorBg
import Derived.Test.YtgiggkfnpbgkpaaGreatDoorBh
namespace Go.Proofs.YtgiggkfnpbgkpaaGreatDoor
open Go.RowKit (wrap64 intOf)
open Go Go.RowKit WM LX PX

theorem stmt_all (ts : List Tk) (p : Nat) (n : Nat) : WSs ts p n ∧ (∀ m, m ≤ n → WSt ts p m) ∧ WIf ts p n ∧ WWh ts p n ∧ WBl ts p n := by
  induction n with
  | zero => exact ⟨fun _ _ _ _ h => absurd h (by omega), fun m hm _ _ _ _ h => absurd h (by omega), fun _ _ _ _ h => absurd h (by omega), fun _ _ _ _ h => absurd h (by omega), fun _ _ _ _ h => absurd h (by omega)⟩
  | succ n ih =>
    obtain ⟨hs, ht, hi, hw, hb⟩ := ih
    refine ⟨statements_step ts p n ht, fun m hm => ?_, if_step ts p n hb, while_step ts p n hb, block_step ts p n hs⟩
    by_cases h : m ≤ n
    · exact ht m h
    · obtain rfl : m = n + 1 := by omega
      exact statement_step ts p n hi hw
theorem statements_any (ts : List Tk) (p n : Nat) : WSs ts p n := (stmt_all ts p n).1
/-- An array's two cells; a function's nine. -/
def RepA (_w : World) (_ok : Nat → Prop) (x : List UInt8 × Int) (cs : List Value) : Prop := cs = [.string ⟨x.1.toArray⟩, .int .i64 x.2]
theorem keepsA : Keeps RepA := ⟨fun h _ _ => h⟩
def RepF (w : World) (ok : Nat → Prop) (f : FN) (cs : List Value) : Prop :=
  ∃ (A1 : Option Addr) (L1 c1 : Nat) (A2 : Option Addr) (L2 c2 : Nat) (A3 : Option Addr) (L3 c3 : Nat) (kd nn : Int) (nm : List UInt8) (op : Int) (A : Option Addr) (L c : Nat),
    cs = [.string ⟨f.name.toArray⟩, .slice A1 L1 c1, .slice A2 L2 c2, .slice A3 L3 c3, .int .i64 kd, .int .i64 nn, .string ⟨nm.toArray⟩, .int .i64 op, .slice A L c] ∧
    RepL RepN 1 w ok f.params (.slice A1 L1 c1) ∧ RepL RepN 1 w ok f.locals (.slice A2 L2 c2) ∧ RepL RepS 17 w ok f.body (.slice A3 L3 c3) ∧ RepE w ok f.value (exC kd nn nm op A L c)
theorem keepsF : Keeps RepF := ⟨fun ⟨A1, L1, c1, A2, L2, c2, A3, L3, c3, kd, nn, nm, op, A, L, c, h, h1, h2, h3, h4⟩ hok hw =>
  ⟨A1, L1, c1, A2, L2, c2, A3, L3, c3, kd, nn, nm, op, A, L, c, h, h1.keep keepsN hok hw, h2.keep keepsN hok hw, h3.keep keepsS hok hw, h4.keep hok hw⟩⟩
theorem arSize : (Tryz.prog.info? 61).map (·.size) = some 2 := by kernel_rfl
theorem fnSize : (Tryz.prog.info? 47).map (·.size) = some 9 := by kernel_rfl
theorem pgSize : (Tryz.prog.info? 28).map (·.size) = some 2 := by kernel_rfl
set_option maxRecDepth 100000
set_option maxHeartbeats 4000000
/-- An array's declaration was read. -/
def ArP (ts : List Tk) (p : Nat) (q : (List UInt8 × Int) × PS) (w : World) (e : Ending) (w' : World) : Prop :=
  ∃ (nm : List UInt8) (n : Int), e = .returned (.agg #[.string ⟨nm.toArray⟩, .int .i64 n]) ∧ (nm, n) = q.1 ∧ w.grownBy w' (some p) ∧ PSt ts p q.2 w'
theorem array_any (ts : List Tk) (p : Nat) (s : PS) (q : (List UInt8 × Int) × PS) (hq : Hid (arF ts s = q)) (w : World) (h : PSt ts p s w) :
    Calls Tryz.prog 71 #[.pointer (some ⟨p, 0, none⟩)] w (ArP ts p q w) := by
  have hq := hq.out
  unfold arF at hq
  obtain ⟨nm0, hv⟩ : ∃ x, nmV ts s = x := ⟨_, rfl⟩
  obtain ⟨s1, hs1⟩ : ∃ x, nmS ts s = x := ⟨_, rfl⟩
  have HV := Lib.hid hv
  have HS1 := Lib.hid hs1
  rw [hv, hs1] at hq
  obtain ⟨n0, hn⟩ : ∃ x, nuV ts s1 = x := ⟨_, rfl⟩
  obtain ⟨s2, hs2⟩ : ∃ x, nuS ts s1 = x := ⟨_, rfl⟩
  have HN := Lib.hid hn
  have HS2 := Lib.hid hs2
  rw [hn, hs2] at hq
  obtain ⟨s3, hs3⟩ : ∃ x, exs ts s2 cSemi = x := ⟨_, rfl⟩
  have HS3 := Lib.hid hs3
  rw [hs3] at hq
  subst hq
  have o := Own.start h 61 #[.string ⟨#[]⟩, .int .i64 0]
  clear hv hs1 hn hs2 hs3 h
  go_enter Tryz.func71, Tryz.ntmps71
  go_wp2_with fail
  refine (name_any ts p s s1 nm0 HV HS1 _ o.s).mono ?_
  rintro e w1 ⟨rfl, hg, hp⟩
  replace o := o.acc hg hp
  clear hg hp
  go_wp2_with fail
  refine (pnumber_any ts p s1 s2 n0 HN HS2 _ o.s).mono ?_
  rintro e w2 ⟨rfl, hg, hp⟩
  replace o := o.acc hg hp
  clear hg hp
  go_wp2_with fail
  refine (expect_any ts p s2 s3 cSemi (by decide) HS3 _ o.s).mono ?_
  rintro e w3 ⟨rfl, hg, hp⟩
  replace o := o.acc hg hp
  clear hg hp
  go_wp2_with (refine wpList_store_row rfl _ _ _ rfl w.heap.size #[.string ⟨nm0.toArray⟩, .int .i64 n0] rfl rfl _ _ o.r arSize rfl (by simp [Value.oneCell']) ?_)
  exact bodyPost_ret (results_cell_row rfl _ _ _ _ _ _ _ rfl (row_blk o.r _) Tryz.underlying61 rfl arSize) rfl ⟨nm0, n0, rfl, rfl, row_grown o.g (Nat.le_refl _) _, row_pst o.s o.p _⟩
end Go.Proofs.YtgiggkfnpbgkpaaGreatDoor
/- Stage 3: pieces of a function being read. -/
namespace Go.Proofs.YtgiggkfnpbgkpaaGreatDoor
open Go.RowKit (wrap64 intOf)
open Go Go.RowKit WM LX PX

set_option maxRecDepth 100000
set_option maxHeartbeats 4000000
theorem pl_new {α : Type} {Rep : World → (Nat → Prop) → α → List Value → Prop} {sz g : Nat} {a b : World} {xs : List α} {v : Value} (h : RepL Rep sz b (Rg a.heap.size b.heap.size) xs v) (hk : Keeps Rep) (hg : g < a.heap.size) : RepL Rep sz b (Rg (g + 1) b.heap.size) xs v := h.mono hk hg (Nat.le_refl _)
theorem pl_acc {α : Type} {Rep : World → (Nat → Prop) → α → List Value → Prop} {sz g p : Nat} {a b : World} {xs : List α} {v : Value} (h : RepL Rep sz a (Rg (g + 1) a.heap.size) xs v) (hk : Keeps Rep) (hp : p < g) (hg : a.grownBy b (some p)) : RepL Rep sz b (Rg (g + 1) b.heap.size) xs v :=
  (h.acc hk hg (Nat.lt_succ_of_lt hp) (Nat.le_refl _)).mono hk (Nat.le_refl _) hg.size
theorem pl_set {α : Type} {Rep : World → (Nat → Prop) → α → List Value → Prop} {sz g i : Nat} {a : World} {xs : List α} {v : Value} (h : RepL Rep sz a (Rg (g + 1) a.heap.size) xs v) (hk : Keeps Rep) (u : Value) : RepL Rep sz (a.setCell ⟨g, i, none⟩ u) (Rg (g + 1) (a.setCell ⟨g, i, none⟩ u).heap.size) xs v :=
  h.keep hk (fun x hx => ⟨hx.1, by simp [World.setCell]; exact hx.2⟩) (fun x hx => Below.heap_setCell a _ u x (by show x ≠ g; have := hx.1; omega))
theorem pe_new {g : Nat} {a b : World} {e : PE} {cs : List Value} (h : RepE b (Rg a.heap.size b.heap.size) e cs) (hg : g < a.heap.size) : RepE b (Rg (g + 1) b.heap.size) e cs := h.mono hg (Nat.le_refl _)
theorem pe_acc {g p : Nat} {a b : World} {e : PE} {cs : List Value} (h : RepE a (Rg (g + 1) a.heap.size) e cs) (hp : p < g) (hg : a.grownBy b (some p)) : RepE b (Rg (g + 1) b.heap.size) e cs :=
  (h.grown hg (Nat.lt_succ_of_lt hp) (Nat.le_refl _)).mono (Nat.le_refl _) hg.size
theorem pe_set {g i : Nat} {a : World} {e : PE} {cs : List Value} (h : RepE a (Rg (g + 1) a.heap.size) e cs) (u : Value) : RepE (a.setCell ⟨g, i, none⟩ u) (Rg (g + 1) (a.setCell ⟨g, i, none⟩ u).heap.size) e cs :=
  h.keep (fun x hx => ⟨hx.1, by simp [World.setCell]; exact hx.2⟩) (fun x hx => Below.heap_setCell a _ u x (by show x ≠ g; have := hx.1; omega))
theorem set1_size (w : World) (q : Addr) (u : Value) : (w.setCell q u).heap.size = w.heap.size := by simp [World.setCell]
/-- A function's declaration was read. -/
def FnP (ts : List Tk) (p : Nat) (q : FN × PS) (w : World) (e : Ending) (w' : World) : Prop :=
  ∃ cs : Array Value, e = .returned (.agg cs) ∧ cs.size = 9 ∧ cs.all (·.oneCell') = true ∧ RepF w' (Rg w.heap.size w'.heap.size) q.1 cs.toList ∧ w.grownBy w' (some p) ∧ PSt ts p q.2 w'

end Go.Proofs.YtgiggkfnpbgkpaaGreatDoor
