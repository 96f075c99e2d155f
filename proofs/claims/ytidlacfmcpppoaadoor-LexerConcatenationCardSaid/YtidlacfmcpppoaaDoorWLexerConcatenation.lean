/- LexerConcatenation returns true for all slices of integers. Conditions: none but the row's own (the library's tables start as the program's text lays them; the card ties them). -/
import Derived.Test.YtidlacfmcpppoaaDoorLs
import Derived.Test.YtidlacfmcpppoaaDoorLt
import Derived.IntWalk
import Derived.Deep.QuietTactic
import Derived.BigQuiet
namespace Go.Proofs.YtidlacfmcpppoaaDoor.lawLexerConcatenation
open Go Go.ChangeShapes Go.WideShapes Go.ChangeAt Go.RowKit WM LX
open Go.ChangeMaps (open_string)

set_option maxRecDepth 100000 in
set_option maxHeartbeats 2000000 in
theorem walk (W : World) (l : Option Addr) (ln lc : Nat) (m : Option Addr) (mn mc : Nat) (hln : ln ≤ maxLen) (hl : Ints W W.heap.size l ln) (hmn : mn ≤ maxLen) (hm : Ints W W.heap.size m mn) (ht : Tab W.heap.size W) :
    Calls Tryd.prog 7 #[.slice l ln lc, .slice m mn mc] W fun e w' => e = .returned (.bool true) ∧ Below W.heap.size W w' := by
  have hln2 : ln ≤ 9223372036854775807 := hln
  have hmn2 : mn ≤ 9223372036854775807 := hmn
  clear hln hmn
  go_enter Tryd.func7, Tryd.ntmps7
  go_wp2_with fail
  refine (pieces_any l ln lc hln2 _ hl).mono ?_
  rintro e w1 ⟨s, hs, rfl, hb1⟩
  have hm1 := (hm.on hb1).up hb1.size
  clear hl hm
  go_wp2_with fail
  refine (pieces_any m mn mc hmn2 _ hm1).mono ?_
  rintro e w2 ⟨t, hts, rfl, hb2⟩
  have hb12 := hb1.trans (hb2.mono hb1.size)
  have ht2 := (ht.on hb12).up hb12.size
  obtain ⟨a, y, p, hq⟩ : ∃ a y p, scanF s.data.toList = (a, y, p) := ⟨_, _, _, rfl⟩
  obtain ⟨b, z, r, hq'⟩ : ∃ b z r, scanF t.data.toList = (b, z, r) := ⟨_, _, _, rfl⟩
  obtain ⟨na, hna⟩ : ∃ n, a.length = n := ⟨_, rfl⟩
  obtain ⟨nb, hnb⟩ : ∃ n, b.length = n := ⟨_, rfl⟩
  have HNA := Lib.hid hna
  have HNB := Lib.hid hnb
  have HQ := Lib.hid hq
  have HQ' := Lib.hid hq'
  clear hm1 hb1 hb2 hna hnb hq hq'
  go_wp2_with fail
  refine (scan_e s a na y p HQ HNA _ ht2).mono ?_
  rintro e w3 ⟨A, c1, rfl, htA, hb3⟩
  have hb13 := hb12.trans (hb3.mono hb12.size)
  have ht3 : ∀ o, Tab (w3.alloc o).heap.size (w3.alloc o) := fun o => (ht.on (hb13.alloc hb13.size o)).up (hb13.alloc hb13.size o).size
  have HTA := Lib.hid htA
  clear htA hb3 hb12 ht2
  go_wp2_with fail
  refine (scan_e t b nb z r HQ' HNB _ (ht3 _)).mono ?_
  rintro e w4 ⟨B, c2, rfl, htB, hb4⟩
  have hE1' := (Blk.new w3 25 #[.int .i64 (y : Int), .int .i64 (p : Int)]).on hb4 (by simp)
  have hg4 := hE1'.lt
  have HE1 := Lib.hid hE1'
  have hb34 : Below w3.heap.size w3 w4 := ((Below.refl _ _).alloc (Nat.le_refl _) _).trans (hb4.mono (by simp))
  have hb14 := hb13.trans (hb34.mono hb13.size)
  have ht4 : ∀ o, Tab (w4.alloc o).heap.size (w4.alloc o) := fun o => (ht.on (hb14.alloc hb14.size o)).up (hb14.alloc hb14.size o).size
  have HTB := Lib.hid htB
  clear htB hb4 hE1' ht3
  have HN0 : Hid (([] : List Tk).length = 0) := Lib.hid rfl
  have hs6 : s.size ≤ 600 := by omega
  have ht6 : t.size ≤ 600 := by omega
  by_cases hy : y = 0
  · subst hy
    by_cases hz : z = 0
    · subst hz
      have hq0 := scan_zero (by rw [size_len]; omega) HQ.out
      have hq0' := scan_zero (by rw [size_len]; omega) HQ'.out
      have hp0 : p = 0 := by
        have := hq0.symm.trans HQ.out
        injection this with _ h2
        injection h2 with _ h3
        exact h3.symm
      have hr0 : r = 0 := by
        have := hq0'.symm.trans HQ'.out
        injection this with _ h2
        injection h2 with _ h3
        exact h3.symm
      subst hp0 hr0
      have H3 := Lib.hid (cat_3 hs6 ht6 HQ.out HQ'.out)
      have hl3 : (a ++ b.map (shift (s.size + 1))).length = na + nb := by rw [List.length_append, List.length_map, HNA.out, HNB.out]
      have HL3 := Lib.hid hl3
      have hna2 : na ≤ 600 := by
        have h := scan_len _ hq0
        dsimp only at h
        rw [HNA.out, size_len] at h; omega
      have hnb2 : nb ≤ 600 := by
        have h := scan_len _ hq0'
        dsimp only at h
        rw [HNB.out, size_len] at h; omega
      have HQ0' := Lib.hid hq0'
      clear hq0 hq0' hl3
      go_wp2_with fail
      with_reducible refine (scan_o (s ++ ⟨#[10]⟩ ++ t) (a ++ b.map (shift (s.size + 1))) (na + nb) H3 HL3 _ (ht4 _)).mono ?_
      rintro e w5 ⟨C, c3, rfl, htC, hb5⟩
      have hE1 := (HE1.out.alloc (.cells #[.int .i64 ((0 : Nat) : Int), .int .i64 ((0 : Nat) : Int)] 25)).on hb5 (Nat.lt_trans hg4 (by simp))
      have hE2 := (Blk.new w4 25 #[.int .i64 ((0 : Nat) : Int), .int .i64 ((0 : Nat) : Int)]).on hb5 (by simp)
      have hg5 := hE1.lt
      have hg6 := hE2.lt
      obtain ⟨p0, p1, p2, p3⟩ := hE1.cells2
      obtain ⟨q0, q1, q2, q3⟩ := hE2.cells2
      have hb45 : Below w4.heap.size w4 w5 := ((Below.refl _ _).alloc (Nat.le_refl _) _).trans (hb5.mono (by simp))
      have hb15 := hb14.trans (hb45.mono hb14.size)
      have ht5 : ∀ o, Tab (w5.alloc o).heap.size (w5.alloc o) := fun o => (ht.on (hb15.alloc hb15.size o)).up (hb15.alloc hb15.size o).size
      have HTC := Lib.hid htC
      clear htC hb5 hE1 hE2 ht4
      go_wp2_with fail
      have hb16 := hb15.alloc hb15.size (.cells #[.int .i64 0, .int .i64 0] 25)
      clear p0 p1 p2 p3 q0 q1 q2 q3 ht5
      go_loopw [93] (fun i wr => ∃ k : Nat, k ≤ na + nb ∧ i = .int .i64 k ∧ Below w5.heap.size w5 wr) (fun i _ => na + nb - (intOf i).toNat)
      case atStart => exact ⟨0, Nat.zero_le _, rfl, (Below.refl _ _).alloc (Nat.le_refl _) _⟩
      case round =>
        obtain ⟨k, hk, rfl, hbr⟩ := hrel
        have hB4 := hb45.trans (hbr.mono hb45.size)
        have hB3 := hb34.trans (hB4.mono hb34.size)
        by_cases hlt : k < na + nb
        · obtain ⟨gc, rfl, hgc, hcc⟩ := (HTC.out.on hbr) (by rw [HL3.out]; omega)
          by_cases hka : k < na
          · obtain ⟨ga, rfl, _, hca⟩ := (HTA.out.on hB3) (by rw [HNA.out]; omega)
            obtain ⟨x, hx⟩ : ∃ x, a[k]? = some x := ⟨_, List.getElem?_eq_getElem (by rw [HNA.out]; exact hka)⟩
            obtain ⟨t0, t1, t2⟩ := tksC_get a k x hx
            obtain ⟨u0, u1, u2⟩ := tksC_get _ k x (cat_get1 (c := b.map (shift (s.size + 1))) hx)
            have a0 := hca _ _ t0
            have a1 := hca _ _ t1
            have a2 := hca _ _ t2
            have b0 := hcc _ _ u0
            have b1 := hcc _ _ u1
            have b2 := hcc _ _ u2
            clear hca hcc t0 t1 t2 u0 u1 u2 hx
            generalize (x.kind : Int) = x0 at a0 b0
            generalize (⟨x.text.toArray⟩ : ByteArray) = x1 at a1 b1
            generalize (x.pos : Int) = x2 at a2 b2
            have d1 : (k : Int) < (na : Int) := by omega
            go_wp2_with fail
            go_quiet (fail)
            go_wp2_with fail
            go_roundw
            case rel => exact ⟨k + 1, by omega, by go_num, below_drewN hbr _⟩
            case measure => simp [intOf]; omega
          · obtain ⟨gb, rfl, hgb, hcb⟩ := (HTB.out.on hB4) (by rw [HNB.out]; omega)
            obtain ⟨x, hx⟩ : ∃ x, b[k - na]? = some x := ⟨_, List.getElem?_eq_getElem (by rw [HNB.out]; omega)⟩
            obtain ⟨t0, t1, t2⟩ := tksC_get b (k - na) x hx
            obtain ⟨u0, u1, u2⟩ := tksC_get _ k _ (cat_get2 (k := s.size + 1) HNA.out (by omega) hx)
            have a0 := hcb _ _ t0
            have a1 := hcb _ _ t1
            have a2 := hcb _ _ t2
            have b0 := hcc _ _ u0
            have b1 := hcc _ _ u1
            have b2 := hcc _ _ u2
            have hxp : x.pos ≤ 600 := by
              have h := lx_pos HQ0'.out (List.mem_of_getElem? hx)
              rw [size_len] at h; omega
            have hsh : ((shift (s.size + 1) x).pos : Int) = (x.pos : Int) + (s.size : Int) + 1 := by show ((x.pos + (s.size + 1) : Nat) : Int) = _; omega
            rw [hsh] at b2
            have b0 : _ = some (Value.int .i64 (x.kind : Int)) := b0
            have b1 : _ = some (Value.string ⟨x.text.toArray⟩) := b1
            have hgb2 : gb < wr.heap.size := Nat.lt_of_lt_of_le hgb hB4.size
            clear hcb hcc t0 t1 t2 u0 u1 u2 hx hsh hgb
            generalize (x.kind : Int) = x0 at a0 b0
            generalize (⟨x.text.toArray⟩ : ByteArray) = x1 at a1 b1
            generalize x.pos = pos at a2 b2 hxp
            have d1 : decide ((k : Int) < (na : Int)) = false := decide_eq_false (by omega)
            have d2 : (na : Int) ≤ (k : Int) := by omega
            have d3 : (0 : Int) ≤ (k : Int) - (na : Int) := by omega
            have d4 : (k : Int) - (na : Int) < (nb : Int) := by omega
            have d5 : ((k : Int) - (na : Int)).toNat = k - na := by omega
            go_wp2_with fail
            go_quiet (fail)
            generalize hwq : wr.drewN nq = wq
            have hcq : ∀ q : Addr, wq.cell? q = wr.cell? q := fun q => by rw [← hwq]; rfl
            have hbq : Below w5.heap.size w5 wq := by rw [← hwq]; exact below_drewN hbr nq
            have hgb3 : gb < wq.heap.size := by rw [← hwq]; exact hgb2
            have hgc3 : gc < wq.heap.size := by rw [← hwq]; exact Nat.lt_of_lt_of_le hgc hbr.size
            have a0 := (hcq _).trans a0
            have a1 := (hcq _).trans a1
            have a2 := (hcq _).trans a2
            have b0 := (hcq _).trans b0
            have b1 := (hcq _).trans b1
            have b2 := (hcq _).trans b2
            clear hcq hgb2 hwq
            go_wp2_with fail
            have c1 : (0 : Int) ≤ (pos : Int) := by omega
            have c9 : IntKind.i64.wrap ((pos : Int) + (s.size : Int)) = (pos : Int) + (s.size : Int) := IntWalk.i64_in _ (by omega)
            have c10 : IntKind.i64.wrap ((pos : Int) + (s.size : Int) + 1) = (pos : Int) + (s.size : Int) + 1 := IntWalk.i64_in _ (by clear c9; omega)
            go_quiet (fail)
            clear c9 c10
            go_wp2_with fail
            go_roundw
            case rel => exact ⟨k + 1, by omega, by go_num, below_drewN (hbq.alloc hbq.size _) _⟩
            case measure => simp [intOf]; omega
        · obtain rfl : k = na + nb := by omega
          have hb17 := hb15.trans (hbr.mono hb15.size)
          have ht6 := (ht.on hb17).up hb17.size
          go_wp2_with (go_at_call 3; ((with_reducible refine (examples_any _ ht6).mono ?_); rintro e w9 ⟨rfl, hb9⟩))
          go_ret
          exact ⟨rfl, hb17.trans (hb9.mono hb17.size)⟩
    · have H3 := Lib.hid (cat_2 hs6 ht6 HQ.out HQ'.out hz)
      have b1 : ((z : Int) == 0) = false := beqF (by omega)
      have b2 : ((z : Int) != 0) = true := bneT (by omega)
      have hr : r < t.size := by have := (scan_err_in (by rw [size_len]; omega) HQ'.out hz).2.1; rwa [size_len] at this
      clear hz
      go_wp2_with fail
      with_reducible refine (scan_e (s ++ ⟨#[10]⟩ ++ t) [] 0 z (r + s.size + 1) H3 HN0 (w4.alloc (.cells #[.int .i64 (z : Int), .int .i64 (r : Int)] 25)) (ht4 _)).mono ?_
      rintro e w5 ⟨C, c3, rfl, htC, hb5⟩
      have hE1 := (HE1.out.alloc (.cells #[.int .i64 (z : Int), .int .i64 (r : Int)] 25)).on hb5 (Nat.lt_trans hg4 (by simp))
      have hE2 := (Blk.new w4 25 #[.int .i64 (z : Int), .int .i64 (r : Int)]).on hb5 (by simp)
      have hg5 := hE1.lt
      have hg6 := hE2.lt
      obtain ⟨p0, p1, p2, p3⟩ := hE1.cells2
      obtain ⟨q0, q1, q2, q3⟩ := hE2.cells2
      have hb45 : Below w4.heap.size w4 w5 := ((Below.refl _ _).alloc (Nat.le_refl _) _).trans (hb5.mono (by simp))
      have hb15 := hb14.trans (hb45.mono hb14.size)
      have ht5 : ∀ o, Tab (w5.alloc o).heap.size (w5.alloc o) := fun o => (ht.on (hb15.alloc hb15.size o)).up (hb15.alloc hb15.size o).size
      have HTC := Lib.hid htC
      clear htC hb5 hE1 hE2 ht4
      go_wp2_with (go_at_call 3; ((with_reducible refine (examples_any _ (ht5 _)).mono ?_); rintro e w9 ⟨rfl, hb9⟩))
      go_ret
      exact ⟨rfl, (hb15.alloc hb15.size _).trans (hb9.mono (hb15.alloc hb15.size _).size)⟩
  · have H3 := Lib.hid (cat_1 hs6 ht6 HQ.out hy)
    have b1 : ((y : Int) == 0) = false := beqF (by omega)
    have b2 : ((y : Int) != 0) = true := bneT (by omega)
    clear hy
    go_wp2_with fail
    with_reducible refine (scan_e (s ++ ⟨#[10]⟩ ++ t) [] 0 y p H3 HN0 (w4.alloc (.cells #[.int .i64 (z : Int), .int .i64 (r : Int)] 25)) (ht4 _)).mono ?_
    rintro e w5 ⟨C, c3, rfl, htC, hb5⟩
    have hE1 := (HE1.out.alloc (.cells #[.int .i64 (z : Int), .int .i64 (r : Int)] 25)).on hb5 (Nat.lt_trans hg4 (by simp))
    have hE2 := (Blk.new w4 25 #[.int .i64 (z : Int), .int .i64 (r : Int)]).on hb5 (by simp)
    have hg5 := hE1.lt
    have hg6 := hE2.lt
    obtain ⟨p0, p1, p2, p3⟩ := hE1.cells2
    obtain ⟨q0, q1, q2, q3⟩ := hE2.cells2
    have hb45 : Below w4.heap.size w4 w5 := ((Below.refl _ _).alloc (Nat.le_refl _) _).trans (hb5.mono (by simp))
    have hb15 := hb14.trans (hb45.mono hb14.size)
    have ht5 : ∀ o, Tab (w5.alloc o).heap.size (w5.alloc o) := fun o => (ht.on (hb15.alloc hb15.size o)).up (hb15.alloc hb15.size o).size
    have HTC := Lib.hid htC
    clear htC hb5 hE1 hE2 ht4
    go_wp2_with (go_at_call 3; ((with_reducible refine (examples_any _ (ht5 _)).mono ?_); rintro e w9 ⟨rfl, hb9⟩))
    go_ret
    exact ⟨rfl, (hb15.alloc hb15.size _).trans (hb9.mono (hb15.alloc hb15.size _).size)⟩
end Go.Proofs.YtidlacfmcpppoaaDoor.lawLexerConcatenation
