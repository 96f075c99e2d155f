/- Stage 3: all walks of statements, by induction on the fuel; what functions and arrays are in memory; the walk of array. -/
import Derived.Test.YtjeidpfpgolonaaDoorPx
import Derived.Test.YtjeidpfpgolonaaDoorPy
import Derived.Test.YtjeidpfpgolonaaDoorPz
namespace Go.Proofs.YtjeidpfpgolonaaDoor
open Go.RowKit (wrap64 intOf)
open Go Go.RowKit WM LX PX

theorem stmt_all (ts : List Tk) (p : Nat) (n : Nat) : WSs ts p n ∧ (∀ m, m ≤ n → WSt ts p m) ∧ WIf ts p n ∧ WWh ts p n ∧ WBl ts p n := by
  induction n with
  | zero => exact ⟨fun _ _ _ _ h => absurd h (by omega), fun m hm _ _ _ _ h => absurd h (by omega), fun _ _ _ _ h => absurd h (by omega), fun _ _ _ _ h => absurd h (by omega), fun _ _ _ _ h => absurd h (by omega)⟩
  | succ n ih =>
    obtain ⟨hs, ht, hi, hw, hb⟩ := ih
    refine ⟨statements_step ts p n ht, fun m hm => ?_, if_step ts p n hb, while_step ts p n hb, block_step ts p n hs⟩
    by_cases h : m ≤ n
    · exact ht m h
    · obtain rfl : m = n + 1 := by omega
      exact statement_step ts p n hi hw
theorem statements_any (ts : List Tk) (p n : Nat) : WSs ts p n := (stmt_all ts p n).1
/-- An array's two cells; a function's nine. -/
def RepA (_w : World) (_ok : Nat → Prop) (x : List UInt8 × Int) (cs : List Value) : Prop := cs = [.string ⟨x.1.toArray⟩, .int .i64 x.2]
theorem keepsA : Keeps RepA := ⟨fun h _ _ => h⟩
def RepF (w : World) (ok : Nat → Prop) (f : FN) (cs : List Value) : Prop :=
  ∃ (A1 : Option Addr) (L1 c1 : Nat) (A2 : Option Addr) (L2 c2 : Nat) (A3 : Option Addr) (L3 c3 : Nat) (kd nn : Int) (nm : List UInt8) (op : Int) (A : Option Addr) (L c : Nat),
    cs = [.string ⟨f.name.toArray⟩, .slice A1 L1 c1, .slice A2 L2 c2, .slice A3 L3 c3, .int .i64 kd, .int .i64 nn, .string ⟨nm.toArray⟩, .int .i64 op, .slice A L c] ∧
    RepL RepN 1 w ok f.params (.slice A1 L1 c1) ∧ RepL RepN 1 w ok f.locals (.slice A2 L2 c2) ∧ RepL RepS 17 w ok f.body (.slice A3 L3 c3) ∧ RepE w ok f.value (exC kd nn nm op A L c)
theorem keepsF : Keeps RepF := ⟨fun ⟨A1, L1, c1, A2, L2, c2, A3, L3, c3, kd, nn, nm, op, A, L, c, h, h1, h2, h3, h4⟩ hok hw =>
  ⟨A1, L1, c1, A2, L2, c2, A3, L3, c3, kd, nn, nm, op, A, L, c, h, h1.keep keepsN hok hw, h2.keep keepsN hok hw, h3.keep keepsS hok hw, h4.keep hok hw⟩⟩
theorem arSize : (Tryd.prog.info? 69).map (·.size) = some 2 := by kernel_rfl
theorem fnSize : (Tryd.prog.info? 47).map (·.size) = some 9 := by kernel_rfl
theorem pgSize : (Tryd.prog.info? 38).map (·.size) = some 2 := by kernel_rfl
set_option maxRecDepth 100000
set_option maxHeartbeats 4000000
/-- An array's declaration was read. -/
def ArP (ts : List Tk) (p : Nat) (q : (List UInt8 × Int) × PS) (w : World) (e : Ending) (w' : World) : Prop :=
  ∃ (nm : List UInt8) (n : Int), e = .returned (.agg #[.string ⟨nm.toArray⟩, .int .i64 n]) ∧ (nm, n) = q.1 ∧ w.grownBy w' (some p) ∧ PSt ts p q.2 w'
theorem array_any (ts : List Tk) (p : Nat) (s : PS) (q : (List UInt8 × Int) × PS) (hq : Hid (arF ts s = q)) (w : World) (h : PSt ts p s w) :
    Calls Tryd.prog 44 #[.pointer (some ⟨p, 0, none⟩)] w (ArP ts p q w) := by
  have hq := hq.out
  unfold arF at hq
  obtain ⟨nm0, hv⟩ : ∃ x, nmV ts s = x := ⟨_, rfl⟩
  obtain ⟨s1, hs1⟩ : ∃ x, nmS ts s = x := ⟨_, rfl⟩
  have HV := Lib.hid hv
  have HS1 := Lib.hid hs1
  rw [hv, hs1] at hq
  obtain ⟨n0, hn⟩ : ∃ x, nuV ts s1 = x := ⟨_, rfl⟩
  obtain ⟨s2, hs2⟩ : ∃ x, nuS ts s1 = x := ⟨_, rfl⟩
  have HN := Lib.hid hn
  have HS2 := Lib.hid hs2
  rw [hn, hs2] at hq
  obtain ⟨s3, hs3⟩ : ∃ x, exs ts s2 cSemi = x := ⟨_, rfl⟩
  have HS3 := Lib.hid hs3
  rw [hs3] at hq
  subst hq
  have o := Own.start h 69 #[.string ⟨#[]⟩, .int .i64 0]
  clear hv hs1 hn hs2 hs3 h
  go_enter Tryd.func44, Tryd.ntmps44
  go_wp2_with fail
  refine (name_any ts p s s1 nm0 HV HS1 _ o.s).mono ?_
  rintro e w1 ⟨rfl, hg, hp⟩
  replace o := o.acc hg hp
  clear hg hp
  go_wp2_with fail
  refine (pnumber_any ts p s1 s2 n0 HN HS2 _ o.s).mono ?_
  rintro e w2 ⟨rfl, hg, hp⟩
  replace o := o.acc hg hp
  clear hg hp
  go_wp2_with fail
  refine (expect_any ts p s2 s3 cSemi (by decide) HS3 _ o.s).mono ?_
  rintro e w3 ⟨rfl, hg, hp⟩
  replace o := o.acc hg hp
  clear hg hp
  go_wp2_with (refine wpList_store_row rfl _ _ _ rfl w.heap.size #[.string ⟨nm0.toArray⟩, .int .i64 n0] rfl rfl _ _ o.r arSize rfl (by simp [Value.oneCell']) ?_)
  exact bodyPost_ret (results_cell_row rfl _ _ _ _ _ _ _ rfl (row_blk o.r _) Tryd.underlying69 rfl arSize) rfl ⟨nm0, n0, rfl, rfl, row_grown o.g (Nat.le_refl _) _, row_pst o.s o.p _⟩
end Go.Proofs.YtjeidpfpgolonaaDoor
