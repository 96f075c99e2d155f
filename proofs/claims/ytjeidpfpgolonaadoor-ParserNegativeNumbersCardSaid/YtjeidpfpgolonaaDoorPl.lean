/- Stage 3: the walks of lists of expressions. -/
import Derived.Test.YtjeidpfpgolonaaDoorPk
import Derived.Test.YtjeidpfpgolonaaDoorPj
namespace Go.Proofs.YtjeidpfpgolonaaDoor
open Go.RowKit (wrap64 intOf)
open Go Go.RowKit WM LX PX

set_option maxRecDepth 100000
set_option maxHeartbeats 4000000
theorem exprInfo : (Tryd.prog.info? 45).map (fun i => (i.zero, i.size, i.bytes)) = some (some (.agg ex0), 5, 64) := by kernel_rfl
def ElR (ts : List Tk) (p : Nat) (q : List PE × PS) (w : World) (k : Nat) (v : Value) (wr : World) : Prop :=
  ∃ (s' : PS) (acc : List PE) (css : List (List Value)), acc ++ (mEF ts k s').1 = q.1 ∧ (mEF ts k s').2 = q.2 ∧ 5 * ms ts s' + 1 ≤ k ∧ acc.length + ms ts s' ≤ ts.length + 2 ∧ w.grownBy wr (some p) ∧ PSt ts p s' wr ∧ Coll RepE 5 45 w.heap.size acc css v wr
theorem elist_any (ts : List Tk) (p n : Nat) (s : PS) (q : List PE × PS) (hq : Hid (lEF ts n s = q)) (hm : 5 * ms ts s + 4 ≤ n) (w : World) (h : PSt ts p s w) :
    Calls Tryd.prog 116 #[.pointer (some ⟨p, 0, none⟩), .func (.func 68) #[.pointer (some ⟨p, 0, none⟩)] #[]] w (LiP RepE 5 ts p q w) := by
  have hq := hq.out
  unfold lEF at hq
  obtain ⟨⟨ape, s1⟩, ha⟩ : ∃ x, exF ts n s = x := ⟨_, rfl⟩
  have HA := Lib.hid ha
  have hm1 := ms_ex (ts := ts) n s
  have hml := ms_le ts s
  have hfew := h.few
  have hpw := h.lt
  rw [ha] at hm1 hq
  dsimp only at hm1 hq
  have hq1 : ape :: (mEF ts n s1).1 = q.1 := by rw [← hq]
  have hq2 : (mEF ts n s1).2 = q.2 := by rw [← hq]
  have HQ1 := Lib.hid hq1
  have HQ2 := Lib.hid hq2
  clear hq ha hq1 hq2
  obtain ⟨i0, hi, hz0, hz1, hz2⟩ := info_parts exprInfo
  go_enter Tryd.func116, Tryd.ntmps116
  go_wp2_with fail
  refine (expression_any ts p n s _ _ HA hm h).mono ?_
  rintro e w1 ⟨kd, nn, nm, op, A, L, c, rfl, hr, hg, hp⟩
  have H0 : Hid (ElR ts p q w n (.slice (some ⟨w1.heap.size, 0, none⟩) 1 1) (w1.alloc (.cells #[.int .i64 kd, .int .i64 nn, .string ⟨nm.toArray⟩, .int .i64 op, .slice A L c] 45))) :=
    Lib.hid ⟨s1, [ape], [[.int .i64 kd, .int .i64 nn, .string ⟨nm.toArray⟩, .int .i64 op, .slice A L c]], HQ1.out, HQ2.out, by omega, by simp; omega, grown_al hg _, hp.alloc _, coll_one keepsE (lo := w.heap.size) hr (Nat.le_refl _) hg.size rfl _ rfl⟩
  clear hg hp hr
  go_wp2_with fail
  go_loopg [5] n (fun k v wr => ElR ts p q w k v wr)
  case atStart => exact H0.out
  case round =>
    clear H0
    obtain ⟨s', acc, css, ha, hb, hk, hln, hg, hp, hcl⟩ := hrel
    obtain ⟨m, rfl⟩ : ∃ m, gk = m + 1 := ⟨gk - 1, by omega⟩
    rw [mEF] at ha hb
    by_cases hx : nx ts s' cComma = true
    · rw [if_pos hx] at ha hb
      have HX := Lib.hid hx
      have hmv := ms_adv (nx_len (by decide) hx)
      obtain ⟨⟨bpe, s2⟩, hc⟩ : ∃ x, exF ts m (adv s') = x := ⟨_, rfl⟩
      have hm2 := ms_ex (ts := ts) m (adv s')
      have HC := Lib.hid hc
      rw [hc] at hm2 ha hb
      dsimp only at hm2 ha hb
      have HA := Lib.hid ha
      have HB := Lib.hid hb
      have hA : 5 * ms ts (adv s') + 4 ≤ m := by omega
      clear hx hc ha hb
      go_wp2_with fail
      refine (accept_yes ts p s' cComma (by decide) HX _ hp).mono ?_
      rintro e w2 ⟨rfl, hg2, hp2⟩
      replace hcl := hcl.grown keepsE hg2 hpw
      replace hg := grown_to hg hg2
      clear hg2 hp
      go_wp2_with fail
      refine (expression_any ts p m (adv s') _ _ HC hA hp2).mono ?_
      rintro e w3 ⟨kd, nn, nm, op, A, L, c, rfl, hr, hg3, hp3⟩
      have hlo := hcl.blk
      have hlw := hg.size
      replace hcl := hcl.grown keepsE hg3 hpw
      replace hg := grown_to hg hg3
      have hlen := hcl.len
      clear hg3 hp2
      have HCL := Lib.hid hcl
      have HLO := Lib.hid hlo
      have HG := Lib.hid hg
      have HR := Lib.hid hr
      have hown := hcl.own
      have hsz := hg.size
      clear hcl hlo hg hr
      go_wp2_with (
        at_builtin
        refine wpList_append_own_at _ rfl (.tmp 11) (.tmp 14) 43 rfl w.heap.size 45 i0 _ 5 64 Tryd.underlying43 hi hz0 hz1 hz2 rfl (by decide) _ _ _ rfl (hown.alloc _) ⟨w3.heap.size, 0, none⟩ 1 1 [.int .i64 kd, .int .i64 nn, .string ⟨nm.toArray⟩, .int .i64 op, .slice A L c] rfl rfl (World.news_of_block (heap_alloc_new _ _)) (by simp [Value.oneCell']) (by unfold maxLen; omega) (by omega) (by simp; omega) ?_
        intro v2 w4 hown2 hgr2 _ hob)
      have hrow : ∀ k, u5.ownBlock = some k → w.heap.size ≤ k := fun k hk => (HCL.out.own.lt k hk).1
      go_roundg m
      case measure => exact Nat.lt_succ_self m
      case rel => exact ⟨s2, acc ++ [bpe], css ++ [[.int .i64 kd, .int .i64 nn, .string ⟨nm.toArray⟩, .int .i64 op, .slice A L c]], by rw [List.append_assoc]; exact HA.out, HB.out, by omega, by simp; omega, grown_row (grown_al HG.out _) hgr2 hrow, (hp3.alloc _).row hgr2 (fun k hk => Nat.lt_of_lt_of_le hpw (hrow k hk)),
        HCL.out.snoc (x := bpe) (cs := [.int .i64 kd, .int .i64 nn, .string ⟨nm.toArray⟩, .int .i64 op, .slice A L c]) keepsE (lo := w2.heap.size) HR.out hlw HLO.out rfl hown2 hgr2 hob⟩
    · rw [if_neg hx] at ha hb
      have HX := Lib.hid (show nx ts s' cComma = false by simpa using hx)
      have ha : acc = q.1 := by simpa using ha
      have HA := Lib.hid ha
      have HB := Lib.hid hb
      clear hx ha hb
      go_wp2_with fail
      refine (accept_no ts p s' cComma HX _ hp).mono ?_
      rintro e w2 ⟨rfl, hg2, hp2⟩
      go_wp2_with fail
      go_ret
      exact liP_of keepsE (hcl.grown keepsE hg2 hpw) HA.out HB.out (grown_to hg hg2) hp2
theorem pelist_any (ts : List Tk) (p n : Nat) (s : PS) (q : List PE × PS) (hq : Hid (pEF ts n s = q)) (hm : 5 * ms ts s + 4 ≤ n) (w : World) (h : PSt ts p s w) :
    Calls Tryd.prog 111 #[.pointer (some ⟨p, 0, none⟩), .func (.func 68) #[.pointer (some ⟨p, 0, none⟩)] #[]] w (LiP RepE 5 ts p q w) := by
  have hq := hq.out
  unfold pEF at hq
  obtain ⟨s1, hs1⟩ : ∃ x, exs ts s cLp = x := ⟨_, rfl⟩
  have HS1 := Lib.hid hs1
  have hm1 := ms_exs (ts := ts) s (x := cLp) (by decide)
  rw [hs1] at hm1 hq
  clear hs1
  by_cases hx : nx ts s1 cRp = true
  · rw [if_pos hx] at hq
    have HX := Lib.hid hx
    subst hq
    clear hx
    go_enter Tryd.func111, Tryd.ntmps111
    go_wp2_with fail
    refine (expect_any ts p s s1 cLp (by decide) HS1 _ h).mono ?_
    rintro e w1 ⟨rfl, hg, hp⟩
    go_wp2_with fail
    refine (accept_yes ts p s1 cRp (by decide) HX _ hp).mono ?_
    rintro e w2 ⟨rfl, hg2, hp2⟩
    go_wp2_with fail
    go_ret
    exact liP (repL_nil _ _ _ _) (grown_to hg hg2) hp2
  · rw [if_neg hx] at hq
    have HX := Lib.hid (show nx ts s1 cRp = false by simpa using hx)
    obtain ⟨⟨l, s2⟩, hc⟩ : ∃ x, lEF ts n s1 = x := ⟨_, rfl⟩
    have HC := Lib.hid hc
    rw [hc] at hq
    dsimp only at hq
    obtain ⟨s3, hs3⟩ : ∃ x, exs ts s2 cRp = x := ⟨_, rfl⟩
    have HS3 := Lib.hid hs3
    rw [hs3] at hq
    subst hq
    have hA : 5 * ms ts s1 + 4 ≤ n := by omega
    have hpw := h.lt
    clear hx hc hs3
    go_enter Tryd.func111, Tryd.ntmps111
    go_wp2_with fail
    refine (expect_any ts p s s1 cLp (by decide) HS1 _ h).mono ?_
    rintro e w1 ⟨rfl, hg, hp⟩
    go_wp2_with fail
    refine (accept_no ts p s1 cRp HX _ hp).mono ?_
    rintro e w2 ⟨rfl, hg2, hp2⟩
    replace hg := grown_to hg hg2
    clear hg2 hp
    go_wp2_with fail
    refine (elist_any ts p n s1 _ HC hA _ hp2).mono ?_
    rintro e w3 ⟨A, L, c, rfl, hr, hg3, hp3⟩
    go_wp2_with fail
    refine (expect_any ts p s2 s3 cRp (by decide) HS3 _ hp3).mono ?_
    rintro e w4 ⟨rfl, hg4, hp4⟩
    have hr4 := (hr.acc keepsE hg4 (Nat.lt_of_lt_of_le hpw hg.size) (Nat.le_refl _)).mono keepsE hg.size hg4.size
    have HR := Lib.hid hr4
    clear hr hr4
    go_wp2_with fail
    go_ret
    exact liP HR.out (grown_to (grown_to hg hg3) hg4) hp4
end Go.Proofs.YtjeidpfpgolonaaDoor
