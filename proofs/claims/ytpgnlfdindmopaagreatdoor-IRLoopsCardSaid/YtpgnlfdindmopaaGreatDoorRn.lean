/- Stage 7: graphs and units in memory; the walk of refersToExisting. -/
import Derived.Test.YtpgnlfdindmopaaGreatDoorRj
import Derived.Test.YtpgnlfdindmopaaGreatDoorK1
import Derived.Deep.QuietTactic
import Derived.BigQuiet
namespace Go.Proofs.YtpgnlfdindmopaaGreatDoor
open Go.RowKit (wrap64 intOf)
open Go Go.RowKit WM LX PX CX GX

set_option maxRecDepth 100000
set_option maxHeartbeats 4000000
/-- A graph. -/
structure GR where
  name : List UInt8
  params : Int
  nodes : List ND
  value : Int
  state : Int
def gr0 : GR := ⟨[], 0, [], 0, 0⟩
/-- The five cells of a graph. -/
def RepGr (w : World) (ok : Nat → Prop) (g : GR) (cs : List Value) : Prop := ∃ v, cs = [.string ⟨g.name.toArray⟩, .int .i64 g.params, v, .int .i64 g.value, .int .i64 g.state] ∧ RepL RepD 3 w ok g.nodes v
theorem keepsGr : Keeps RepGr := ⟨fun ⟨v, h, hi⟩ hok hw => ⟨v, h, hi.keep keepsD hok hw⟩⟩
theorem gr_at {fs : List GR} {v : Value} {w : World} {ok : Nat → Prop} (hl : RepL RepGr 5 w ok fs v) {i : Nat} {f : GR} (hx : fs[i]? = some f) :
    ∃ g c vn, v = .slice (some ⟨g, 0, none⟩) fs.length c ∧ ok g ∧ w.cell? ⟨g, i * 5, none⟩ = some (.string ⟨f.name.toArray⟩) ∧ w.cell? ⟨g, i * 5 + 1, none⟩ = some (.int .i64 f.params) ∧ w.cell? ⟨g, i * 5 + 2, none⟩ = some vn ∧ w.cell? ⟨g, i * 5 + 3, none⟩ = some (.int .i64 f.value) ∧
      w.cell? ⟨g, i * 5 + 4, none⟩ = some (.int .i64 f.state) ∧ RepL RepD 3 w ok f.nodes vn := by
  obtain ⟨A, c, rfl, hrow⟩ := hl.at
  obtain ⟨g, cs, rfl, hg, ⟨vn, rfl, hn⟩, hcell⟩ := hrow i _ hx
  exact ⟨g, c, vn, rfl, hg, hcell 0 _ rfl, hcell 1 _ rfl, hcell 2 _ rfl, hcell 3 _ rfl, hcell 4 _ rfl, hn⟩
def refN (na : Nat) (fs : List GR) (par : Int) (n : ND) : Bool :=
  if n.op = 2 then decide (n.imm < par) else if n.op = 23 ∨ n.op = 28 then decide (n.imm < (na : Int))
  else if n.op = 30 then decide (n.imm < (fs.length : Int)) && decide ((n.kids.length : Int) - 1 = (fs.getD n.imm.toNat gr0).params) else true
def refB (na : Nat) (fs : List GR) (par : Int) (l : List ND) : Bool := l.all (refN na fs par)
abbrev grV (nm : ByteArray) (par : Int) (vn : Value) (val st : Int) : Value := .agg #[.string nm, .int .i64 par, vn, .int .i64 val, .int .i64 st]
theorem re_any (na : Nat) (Aa : Option Addr) (ca : Nat) (fs : List GR) (vf : Value) (nm : ByteArray) (par val st : Int) (l : List ND) (v : Value) (w : World) (ok : Nat → Prop) (hl : RepL RepD 3 w ok l v) (hfs : RepL RepGr 5 w ok fs vf) (hok : ∀ g, ok g → g < w.heap.size) (hf : Fits l)
    (him : ∀ n ∈ l, n.op = 30 → 0 ≤ n.imm) :
    Calls Tryz.prog 55 #[.agg #[.slice Aa na ca, vf], grV nm par v val st] w (RetN (.bool (refB na fs par l)) w) := by
  have hll := hf.1
  have HL := Lib.hid (And.intro hl (And.intro hfs (And.intro hok (And.intro hf him))))
  obtain ⟨A, c, rfl, _⟩ := hl.at
  obtain ⟨Af, cf, rfl, _⟩ := hfs.at
  obtain ⟨N, hN⟩ : ∃ N, l.length = N := ⟨_, rfl⟩
  obtain ⟨F, hF⟩ : ∃ F, fs.length = F := ⟨_, rfl⟩
  rw [hN] at hll
  obtain ⟨R, hR⟩ : ∃ R, refB na fs par l = R := ⟨_, rfl⟩
  rw [hN, hF, hR]
  have HR := Lib.hid (And.intro hR (And.intro hN hF))
  obtain ⟨W1, hW1⟩ : ∃ W1, (w.alloc (.cells #[.slice Aa na ca, .slice Af F cf] 57)).alloc (.cells #[.string nm, .int .i64 par, .slice A N c, .int .i64 val, .int .i64 st] 52) = W1 := ⟨_, rfl⟩
  have hb1 : Below w.heap.size w W1 := by rw [← hW1]; exact ((Below.refl _ _).alloc (Nat.le_refl _) _).alloc (by simp) _
  have kU : Blk W1 w.heap.size 57 #[.slice Aa na ca, .slice Af F cf] := by rw [← hW1]; exact (Blk.new _ _ _).alloc _
  have kG : Blk W1 (w.heap.size + 1) 52 #[.string nm, .int .i64 par, .slice A N c, .int .i64 val, .int .i64 st] := by rw [← hW1]; exact blk_at (by simp) _ _
  have HW := Lib.hid (And.intro hW1 (And.intro hb1 (And.intro kU kG)))
  obtain ⟨y0, y1, y2, _⟩ : W1.cell? ⟨w.heap.size + 1, 0, none⟩ = _ ∧ W1.cell? ⟨w.heap.size + 1, 1, none⟩ = _ ∧ W1.cell? ⟨w.heap.size + 1, 2, none⟩ = _ ∧ True := ⟨kG.cell 0, kG.cell 1, kG.cell 2, trivial⟩
  have hlG := kG.lt
  clear hl hfs hok hf him hN hF hR hW1 hb1 kU kG
  go_enter Tryz.func55, Tryz.ntmps55
  go_wp2_with fail
  rw [HW.out.1]
  go_wp2_with fail
  go_loopw [11] (fun z wr => Hid (∃ (j k : Nat), z = .int .i64 (j : Int) ∧ j + k = N ∧ (∀ (q : Nat) (n : ND), q < j → l[q]? = some n → refN na fs par n = true) ∧ Below W1.heap.size W1 wr)) (fun z _ => N - (intOf z).toNat)
  case atStart => exact Lib.hid ⟨0, N, rfl, Nat.zero_add _, fun q n h => absurd h (Nat.not_lt_zero _), Below.refl _ _⟩
  case round =>
    obtain ⟨j, k, rfl, hjk, hall, hb⟩ := hrel.out
    have HB := Lib.hid (And.intro hb hall)
    have hbw := HW.out.2.1.trans (below_down hb HW.out.2.1.size)
    have HBW := Lib.hid hbw
    have kU := HW.out.2.2.1.on hb HW.out.2.2.1.lt
    have kG := HW.out.2.2.2.on hb HW.out.2.2.2.lt
    obtain ⟨u0, u1, _⟩ := kU.cells2
    have g1 : wr.cell? ⟨w.heap.size + 1, 1, none⟩ = some (.int .i64 par) := kG.cell 1
    have hlU := kU.lt
    have hlG2 := kG.lt
    clear hrel hall hb kU kG y0 y1 y2
    obtain ⟨wo, rfl⟩ : ∃ wo : World, wo = wr := ⟨_, rfl⟩
    cases k with
    | zero =>
      obtain rfl : j = N := by omega
      have HA := Lib.hid (all_done (refN na fs par) l (fun q n hn => HB.out.2 q n (by have := (List.getElem?_eq_some_iff.1 hn).1; have := HR.out.2.1; omega) hn))
      clear hbw
      go_wp2_with fail
      go_ret
      exact retN (congrArg Value.bool (HA.out.symm.trans HR.out.1)) HBW.out
    | succ k =>
      have e1 : (j : Int) < (N : Int) := by omega
      obtain ⟨hl, hfs, hok, hf, him⟩ := HL.out
      obtain ⟨⟨op, imm, kids⟩, hx⟩ : ∃ n, l[j]? = some n := ⟨_, List.getElem?_eq_getElem (by rw [HR.out.2.1]; omega)⟩
      obtain ⟨g, cc, A', c', hvv, hg, x0, x1, x2, _⟩ := node_at hl hx
      injection hvv with e5 _ e7
      subst e5 e7
      have hgw := hok g hg
      have x0 := (hbw.cell (p := ⟨g, j * 3, none⟩) hgw).trans x0
      have x1 := (hbw.cell (p := ⟨g, j * 3 + 1, none⟩) hgw).trans x1
      have x2 := (hbw.cell (p := ⟨g, j * 3 + 2, none⟩) hgw).trans x2
      have hgr : g < wo.heap.size := Nat.lt_of_lt_of_le hgw hbw.size
      have hkl := hf.at hx
      have hi30 := him _ (List.mem_of_getElem? hx)
      dsimp only at hkl hi30
      obtain ⟨m, hm⟩ : ∃ m, kids.length = m := ⟨_, rfl⟩
      rw [hm] at x2 hkl
      have HX := Lib.hid (And.intro hx hm)
      have HI30 := Lib.hid hi30
      have HFS := Lib.hid (And.intro hfs hok)
      clear hl hfs hok hf him hx hm hbw hi30
      by_cases h2 : op = 2
      · subst h2
        by_cases hlt : imm < par
        · have ht : decide (imm < par) = true := decide_eq_true hlt
          have HQ : Hid (refN na fs par ⟨2, imm, kids⟩ = true) := Lib.hid (by show (if (2 : Int) = 2 then decide (imm < par) else _) = true; rw [if_pos rfl]; exact ht)
          go_wp2_with fail
          go_roundw
          case rel => exact Lib.hid ⟨j + 1, k, by go_num, by omega, ev_step HB.out.2 HX.out.1 HQ.out, HB.out.1.alloc HB.out.1.size _⟩
          case measure => (first | (simp [intOf]; done) | (simp [intOf]; omega))
        · have ht : decide (imm < par) = false := decide_eq_false hlt
          have hge : par ≤ imm := by omega
          clear hlt
          have HQ : Hid (refN na fs par ⟨2, imm, kids⟩ = false) := Lib.hid (by show (if (2 : Int) = 2 then decide (imm < par) else _) = false; rw [if_pos rfl]; exact ht)
          have HF := Lib.hid (all_upto (refN na fs par) l j _ HX.out.1 HQ.out)
          go_wp2_with fail
          go_ret
          exact retN (congrArg Value.bool (HF.out.symm.trans HR.out.1)) (HBW.out.alloc HBW.out.size _)
      · have b2 : (op == 2) = false := beq_eq_false_iff_ne.2 h2
        by_cases h23 : op = 23
        · subst h23
          clear h2
          by_cases hlt : imm < (na : Int)
          · have ht : decide (imm < (na : Int)) = true := decide_eq_true hlt
            have HQ : Hid (refN na fs par ⟨23, imm, kids⟩ = true) := Lib.hid (by show (if (23 : Int) = 2 then _ else if (23 : Int) = 23 ∨ (23 : Int) = 28 then decide (imm < (na : Int)) else _) = true; rw [if_neg (by decide), if_pos (by decide)]; exact ht)
            go_wp2_with fail
            go_roundw
            case rel => exact Lib.hid ⟨j + 1, k, by go_num, by omega, ev_step HB.out.2 HX.out.1 HQ.out, HB.out.1.alloc HB.out.1.size _⟩
            case measure => (first | (simp [intOf]; done) | (simp [intOf]; omega))
          · have ht : decide (imm < (na : Int)) = false := decide_eq_false hlt
            have hge : (na : Int) ≤ imm := by omega
            clear hlt
            have HQ : Hid (refN na fs par ⟨23, imm, kids⟩ = false) := Lib.hid (by show (if (23 : Int) = 2 then _ else if (23 : Int) = 23 ∨ (23 : Int) = 28 then decide (imm < (na : Int)) else _) = false; rw [if_neg (by decide), if_pos (by decide)]; exact ht)
            have HF := Lib.hid (all_upto (refN na fs par) l j _ HX.out.1 HQ.out)
            go_wp2_with fail
            go_ret
            exact retN (congrArg Value.bool (HF.out.symm.trans HR.out.1)) (HBW.out.alloc HBW.out.size _)
        · have b23 : (op == 23) = false := beq_eq_false_iff_ne.2 h23
          by_cases h28 : op = 28
          · subst h28
            clear h2 h23
            by_cases hlt : imm < (na : Int)
            · have ht : decide (imm < (na : Int)) = true := decide_eq_true hlt
              have HQ : Hid (refN na fs par ⟨28, imm, kids⟩ = true) := Lib.hid (by show (if (28 : Int) = 2 then _ else if (28 : Int) = 23 ∨ (28 : Int) = 28 then decide (imm < (na : Int)) else _) = true; rw [if_neg (by decide), if_pos (by decide)]; exact ht)
              go_wp2_with fail
              go_roundw
              case rel => exact Lib.hid ⟨j + 1, k, by go_num, by omega, ev_step HB.out.2 HX.out.1 HQ.out, HB.out.1.alloc HB.out.1.size _⟩
              case measure => (first | (simp [intOf]; done) | (simp [intOf]; omega))
            · have ht : decide (imm < (na : Int)) = false := decide_eq_false hlt
              have hge : (na : Int) ≤ imm := by omega
              clear hlt
              have HQ : Hid (refN na fs par ⟨28, imm, kids⟩ = false) := Lib.hid (by show (if (28 : Int) = 2 then _ else if (28 : Int) = 23 ∨ (28 : Int) = 28 then decide (imm < (na : Int)) else _) = false; rw [if_neg (by decide), if_pos (by decide)]; exact ht)
              have HF := Lib.hid (all_upto (refN na fs par) l j _ HX.out.1 HQ.out)
              go_wp2_with fail
              go_ret
              exact retN (congrArg Value.bool (HF.out.symm.trans HR.out.1)) (HBW.out.alloc HBW.out.size _)
          · have b28 : (op == 28) = false := beq_eq_false_iff_ne.2 h28
            by_cases h30 : op = 30
            · subst h30
              have hi0 := HI30.out rfl
              clear h2 h23 h28
              by_cases hlt : imm < (F : Int)
              · have ht : decide (imm < (F : Int)) = true := decide_eq_true hlt
                obtain ⟨hfs, hok⟩ := HFS.out
                obtain ⟨f, hfx⟩ : ∃ f, fs[imm.toNat]? = some f := ⟨_, List.getElem?_eq_getElem (by rw [HR.out.2.2]; omega)⟩
                obtain ⟨gf, cf', vn, hvf, hgf, _, z1, _, _, _, _⟩ := gr_at hfs hfx
                injection hvf with e8 _ e9
                subst e8 e9
                have hgfw := hok gf hgf
                have z1 := (HBW.out.cell (p := ⟨gf, imm.toNat * 5 + 1, none⟩) hgfw).trans z1
                have hgfr : gf < wo.heap.size := Nat.lt_of_lt_of_le hgfw HBW.out.size
                have hgd := getD_of (d := gr0) hfx
                obtain ⟨pf, hpf⟩ : ∃ pf, f.params = pf := ⟨_, rfl⟩
                rw [hpf] at z1
                have hm0 : (0 : Int) ≤ (m : Int) := by omega
                have hmx : (m : Int) ≤ 1000000000000 := by omega
                have HPF := Lib.hid (And.intro hgd hpf)
                clear hfs hok hfx hgd hpf
                by_cases heq : (m : Int) - 1 = pf
                · have hq : ((m : Int) - 1 == pf) = true := beq_iff_eq.2 heq
                  have hQ : refN na fs par ⟨30, imm, kids⟩ = true := by
                    show (if (30 : Int) = 2 then _ else if (30 : Int) = 23 ∨ (30 : Int) = 28 then _ else if (30 : Int) = 30 then decide (imm < (fs.length : Int)) && decide ((kids.length : Int) - 1 = (fs.getD imm.toNat gr0).params) else _) = true
                    rw [if_neg (by decide), if_neg (by decide), if_pos rfl, HR.out.2.2, ht, HPF.out.1, HPF.out.2, HX.out.2, decide_eq_true heq]
                    rfl
                  have HQ' := Lib.hid hQ
                  clear hQ heq
                  have HQ : Hid (refN na fs par ⟨30, imm, kids⟩ = true) := Lib.hid (HQ'.out)
                  go_wp2_with fail
                  go_quiet (fail)
                  go_wp2_with fail
                  go_roundw
                  case rel => exact Lib.hid ⟨j + 1, k, by go_num, by omega, ev_step HB.out.2 HX.out.1 HQ.out, below_drewN (HB.out.1.alloc HB.out.1.size _) _⟩
                  case measure => (first | (simp [intOf]; done) | (simp [intOf]; omega))
                · have hq : ((m : Int) - 1 == pf) = false := beq_eq_false_iff_ne.2 heq
                  have hQ : refN na fs par ⟨30, imm, kids⟩ = false := by
                    show (if (30 : Int) = 2 then _ else if (30 : Int) = 23 ∨ (30 : Int) = 28 then _ else if (30 : Int) = 30 then decide (imm < (fs.length : Int)) && decide ((kids.length : Int) - 1 = (fs.getD imm.toNat gr0).params) else _) = false
                    rw [if_neg (by decide), if_neg (by decide), if_pos rfl, HR.out.2.2, ht, HPF.out.1, HPF.out.2, HX.out.2, decide_eq_false heq]
                    rfl
                  have HQ' := Lib.hid hQ
                  clear hQ heq
                  have HQ : Hid (refN na fs par ⟨30, imm, kids⟩ = false) := Lib.hid (HQ'.out)
                  have HF := Lib.hid (all_upto (refN na fs par) l j _ HX.out.1 HQ.out)
                  go_wp2_with fail
                  go_quiet (fail)
                  go_wp2_with fail
                  go_ret
                  exact retN (congrArg Value.bool (HF.out.symm.trans HR.out.1)) (below_drewN (HBW.out.alloc HBW.out.size _) _)
              · have ht : decide (imm < (F : Int)) = false := decide_eq_false hlt
                have hge : (F : Int) ≤ imm := by omega
                have hQ : refN na fs par ⟨30, imm, kids⟩ = false := by
                  show (if (30 : Int) = 2 then _ else if (30 : Int) = 23 ∨ (30 : Int) = 28 then _ else if (30 : Int) = 30 then decide (imm < (fs.length : Int)) && decide ((kids.length : Int) - 1 = (fs.getD imm.toNat gr0).params) else _) = false
                  rw [if_neg (by decide), if_neg (by decide), if_pos rfl, HR.out.2.2, ht]
                  rfl
                have HQ' := Lib.hid hQ
                clear hQ hlt
                have HQ : Hid (refN na fs par ⟨30, imm, kids⟩ = false) := Lib.hid (HQ'.out)
                have HF := Lib.hid (all_upto (refN na fs par) l j _ HX.out.1 HQ.out)
                go_wp2_with fail
                go_quiet (fail)
                go_wp2_with fail
                go_ret
                exact retN (congrArg Value.bool (HF.out.symm.trans HR.out.1)) (below_drewN (HBW.out.alloc HBW.out.size _) _)
            · have b30 : (op == 30) = false := beq_eq_false_iff_ne.2 h30
              have hQ : refN na fs par ⟨op, imm, kids⟩ = true := by
                show (if op = 2 then _ else if op = 23 ∨ op = 28 then _ else if op = 30 then _ else true) = true
                rw [if_neg h2, if_neg (by omega), if_neg h30]
              have HQ' := Lib.hid hQ
              clear hQ h2 h23 h28 h30
              have HQ : Hid (refN na fs par ⟨op, imm, kids⟩ = true) := Lib.hid (HQ'.out)
              go_wp2_with fail
              go_roundw
              case rel => exact Lib.hid ⟨j + 1, k, by go_num, by omega, ev_step HB.out.2 HX.out.1 HQ.out, HB.out.1.alloc HB.out.1.size _⟩
              case measure => (first | (simp [intOf]; done) | (simp [intOf]; omega))
end Go.Proofs.YtpgnlfdindmopaaGreatDoor
