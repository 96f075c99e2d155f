/- Stage 4: the walks of the fields' tests and of node. -/
import Derived.Test.YtkjbjjiajopfpaaGreatDoorCh
namespace Go.Proofs.YtkjbjjiajopfpaaGreatDoor
open Go.RowKit (wrap64 intOf)
open Go Go.RowKit WM LX PX CX

set_option maxRecDepth 100000
set_option maxHeartbeats 4000000
theorem beqI (a b : Int) : (a == b) = decide (a = b) := by rw [Bool.eq_iff_iff]; simp
theorem neI {a b : Int} (h : a ≠ b) : (a == b) = false := by rw [beq_eq_false_iff_ne]; exact h
theorem un_any (op : Int) (w : World) : Calls Tryz.prog 111 #[.int .i64 op] w (RetN (.bool (unB op)) w) := by
  unfold unB
  by_cases h1 : op = 20
  · subst h1
    go_enter Tryz.func111, Tryz.ntmps111
    go_wp2_with fail
    go_ret
    exact retN rfl (Below.refl _ _)
  · have e1 := neI h1
    rw [decide_eq_false h1, Bool.false_or]
    go_enter Tryz.func111, Tryz.ntmps111
    go_wp2_with fail
    go_ret
    exact retN (congrArg Value.bool (beqI _ _)) (Below.refl _ _)
theorem oc_any (op : Int) (w : World) : Calls Tryz.prog 110 #[.int .i64 op] w (RetN (.int .i64 (opN op)) w) := by
  have hu := un_any op w
  unfold opN
  cases hq : unB op
  all_goals
    rw [hq] at hu
    have HU := Lib.hid hu
    clear hu hq
    go_enter Tryz.func110, Tryz.ntmps110
    go_wp2_with fail
    refine HU.out.mono ?_
    rintro e w2 ⟨rfl, hb⟩
    go_wp2_with fail
    go_ret
    exact retN rfl hb
theorem of_any (op : Int) (used : Bool) (w : World) : Calls Tryz.prog 103 #[.int .i64 op, .bool used] w (RetN (.bool (opFB op used)) w) := by
  unfold opFB
  cases used with
  | false =>
    rw [if_neg (by decide)]
    go_enter Tryz.func103, Tryz.ntmps103
    go_wp2_with fail
    go_ret
    exact retN (congrArg Value.bool (beqI _ _)) (Below.refl _ _)
  | true =>
    rw [if_pos rfl]
    by_cases h1 : 4 ≤ op
    · rw [decide_eq_true h1, Bool.true_and]
      by_cases h2 : op ≤ 18
      · rw [decide_eq_true h2, Bool.true_or]
        go_enter Tryz.func103, Tryz.ntmps103
        go_wp2_with fail
        go_ret
        exact retN rfl (Below.refl _ _)
      · rw [decide_eq_false h2, Bool.false_or]
        go_enter Tryz.func103, Tryz.ntmps103
        go_wp2_with fail
        refine (un_any op w).mono ?_
        rintro e w2 ⟨rfl, hb⟩
        go_wp2_with fail
        go_ret
        exact retN rfl hb
    · rw [decide_eq_false h1, Bool.false_and, Bool.false_or]
      go_enter Tryz.func103, Tryz.ntmps103
      go_wp2_with fail
      refine (un_any op w).mono ?_
      rintro e w2 ⟨rfl, hb⟩
      go_wp2_with fail
      go_ret
      exact retN rfl hb
theorem tf_any (n : Int) (used : Bool) (w : World) : Calls Tryz.prog 87 #[.int .i64 n, .bool used] w (RetN (.bool (trFB n used)) w) := by
  unfold trFB
  cases used with
  | false =>
    rw [if_neg (by decide)]
    go_enter Tryz.func87, Tryz.ntmps87
    go_wp2_with fail
    go_ret
    exact retN (congrArg Value.bool (beqI _ _)) (Below.refl _ _)
  | true =>
    rw [if_pos rfl]
    by_cases h1 : 0 ≤ n
    · by_cases h2 : n ≤ 1000000
      · rw [decide_eq_true h1, decide_eq_true h2]
        go_enter Tryz.func87, Tryz.ntmps87
        go_wp2_with fail
        go_ret
        exact retN rfl (Below.refl _ _)
      · rw [decide_eq_true h1, decide_eq_false h2]
        go_enter Tryz.func87, Tryz.ntmps87
        go_wp2_with fail
        go_ret
        exact retN rfl (Below.refl _ _)
    · rw [decide_eq_false h1, Bool.false_and]
      go_enter Tryz.func87, Tryz.ntmps87
      go_wp2_with fail
      go_ret
      exact retN rfl (Below.refl _ _)
/-- What fieldsOfExpression returns. -/
def exUV : Option (Bool × Bool × Bool × Int) → Value
  | none => .tuple #[.agg #[.bool false, .bool false, .bool false, .int .i64 0], .bool false]
  | some u => .tuple #[.agg #[.bool u.1, .bool u.2.1, .bool u.2.2.1, .int .i64 u.2.2.2], .bool true]
theorem fe_any (kd n : Int) (nm : List UInt8) (op : Int) (A : Option Addr) (L c : Nat) (w : World) :
    Calls Tryz.prog 102 #[exV kd n nm op A L c] w (RetN (exUV (exU kd op)) w) := by
  unfold exU
  by_cases h1 : kd = 1
  · subst h1
    rw [if_pos rfl]
    go_enter Tryz.func102, Tryz.ntmps102
    go_wp2_with fail
    exact bodyPost_ret (v := .tuple #[.agg #[.bool true, .bool false, .bool false, .int .i64 0], .bool true]) (by simp [results, Tryz.results102, go_sem]) rfl (retN rfl (((Below.refl _ _).alloc (Nat.le_refl _) _).alloc (by simp) _))
  · have e1 := neI h1
    rw [if_neg h1]
    by_cases h2 : kd = 2
    · subst h2
      rw [if_pos rfl]
      go_enter Tryz.func102, Tryz.ntmps102
      go_wp2_with fail
      exact bodyPost_ret (v := .tuple #[.agg #[.bool false, .bool true, .bool false, .int .i64 0], .bool true]) (by simp [results, Tryz.results102, go_sem]) rfl (retN rfl (((Below.refl _ _).alloc (Nat.le_refl _) _).alloc (by simp) _))
    · have e2 := neI h2
      rw [if_neg h2]
      by_cases h3 : kd = 3
      · subst h3
        rw [if_pos rfl]
        go_enter Tryz.func102, Tryz.ntmps102
        go_wp2_with fail
        exact bodyPost_ret (v := .tuple #[.agg #[.bool false, .bool true, .bool false, .int .i64 1], .bool true]) (by simp [results, Tryz.results102, go_sem]) rfl (retN rfl (((Below.refl _ _).alloc (Nat.le_refl _) _).alloc (by simp) _))
      · have e3 := neI h3
        rw [if_neg h3]
        by_cases h4 : kd = 4
        · subst h4
          rw [if_pos rfl]
          obtain ⟨k, hk⟩ : ∃ k, opN op = k := ⟨_, rfl⟩
          have ho := fun W => oc_any op W
          rw [hk] at ho ⊢
          have HO := Lib.hid ho
          clear ho hk
          go_enter Tryz.func102, Tryz.ntmps102
          go_wp2_with fail
          refine (HO.out _).mono ?_
          rintro e w2 ⟨rfl, hb⟩
          have hz : w.heap.size + 1 < w2.heap.size := by have := hb.size; simp at this; omega
          have k2 := (blk_at (W := w.alloc (.cells #[.int .i64 4, .int .i64 n, .string ⟨nm.toArray⟩, .int .i64 op, .slice A L c] 24)) (n := w.heap.size + 1) (by simp) 128 #[.bool false, .bool false, .bool false, .int .i64 0]).on hb (by simp)
          obtain ⟨z0, z1, z2, z3, f0, f1, f2, f3⟩ := k2.cells4
          have hb2 : Below w.heap.size w w2 := (((Below.refl _ _).alloc (Nat.le_refl _) _).alloc (by simp) _).trans (below_down hb (by simp; omega))
          have HB := Lib.hid hb2
          clear hb hb2 k2
          go_wp2_with fail
          exact bodyPost_ret (v := .tuple #[.agg #[.bool false, .bool false, .bool true, .int .i64 k], .bool true]) (by simp [results, Tryz.results102, go_sem, z0, z1, z2, z3]) rfl (retN rfl ((((HB.out.setCell (by simp) _).setCell (by simp) _).setCell (by simp) _).setCell (by simp) _))
        · have e4 := neI h4
          rw [if_neg h4]
          by_cases h5 : kd = 5
          · subst h5
            rw [if_pos rfl]
            go_enter Tryz.func102, Tryz.ntmps102
            go_wp2_with fail
            exact bodyPost_ret (v := .tuple #[.agg #[.bool false, .bool false, .bool false, .int .i64 3], .bool true]) (by simp [results, Tryz.results102, go_sem]) rfl (retN rfl (((Below.refl _ _).alloc (Nat.le_refl _) _).alloc (by simp) _))
          · have e5 := neI h5
            rw [if_neg h5]
            go_enter Tryz.func102, Tryz.ntmps102
            go_wp2_with fail
            exact bodyPost_ret (v := .tuple #[.agg #[.bool false, .bool false, .bool false, .int .i64 0], .bool false]) (by simp [results, Tryz.results102, go_sem]) rfl (retN rfl (((Below.refl _ _).alloc (Nat.le_refl _) _).alloc (by simp) _))
theorem nf_any (b B : Nat) (hbB : b ≤ B) (w0 : World) (x : List UInt8) (hx : x.length ≤ 1000000000) (used : Bool) (c : Nat) (hc : c ≤ 1000000000000) (w : World) (h : ShI b B w0 c w) :
    Calls Tryz.prog 86 #[.agg #[.map (some B)], .string ⟨x.toArray⟩, .bool used] w (RetK (.bool (nmFB x used)) (some B) w (ShI b B w0 (c + 1))) := by
  have hI := inv_sh b B w0 hbB (fun _ => False) (fun _ h => h.elim)
  obtain ⟨W1, hW1⟩ : ∃ W1, w.alloc (.cells #[.map (some B)] 71) = W1 := ⟨_, rfl⟩
  have hb1 : Below w.heap.size w W1 := by rw [← hW1]; exact (Below.refl _ _).alloc (Nat.le_refl _) _
  have h1 := hI.easy c w W1 h hb1
  have ht := tst_nm b B hbB w0 x hx c hc W1 h1
  unfold nmFB
  cases used with
  | false =>
    rw [if_neg (by decide)]
    have HH := Lib.hid (And.intro (hI.mono c (c + 1) W1 h1 (Nat.le_succ _)) (And.intro hb1 hW1))
    obtain ⟨d, hd⟩ : ∃ d, decide (x = []) = d := ⟨_, rfl⟩
    obtain ⟨sx, hsx⟩ : ∃ sx : ByteArray, (⟨x.toArray⟩ : ByteArray) = sx := ⟨_, rfl⟩
    have hfin : (sx.data.toList == []) = d := by rw [← hsx, ← hd, beq_dec]
    rw [hd, hsx]
    have HF := Lib.hid hfin
    clear ht h1 hb1 hW1 h hI hd hsx hfin
    go_enter Tryz.func86, Tryz.ntmps86
    go_wp2_with fail
    go_ret
    rw [HH.out.2.2]
    refine retK ?_ HH.out.1 (kp_below HH.out.2.1 _)
    show Value.bool _ = Value.bool d
    rw [← HF.out]
    congr 1
    first | rfl | (rw [ByteArray.toList_eq]; rfl) | (rw [ByteArray.toList_eq]; simp)
  | true =>
    rw [if_pos rfl]
    have HH := Lib.hid (And.intro ht (And.intro hb1 hW1))
    clear ht h1 hb1 hW1 h hI
    go_enter Tryz.func86, Tryz.ntmps86
    go_wp2_with fail
    rw [HH.out.2.2]
    refine HH.out.1.mono ?_
    rintro e w2 ⟨rfl, hi, hk⟩
    have HK := Lib.hid (And.intro hi hk)
    clear hi hk
    go_wp2_with fail
    go_ret
    exact retK rfl HK.out.1 (kp_to (kp_below HH.out.2.1 _) HK.out.2)
end Go.Proofs.YtkjbjjiajopfpaaGreatDoor
