/- Stage 3: the walks of lists of names. -/
import Derived.Test.YtjeidpfpgolonaaDoorPi
import Derived.Maps.AppendAt
namespace Go.Proofs.YtjeidpfpgolonaaDoor
open Go.RowKit (wrap64 intOf)
open Go Go.RowKit WM LX PX

set_option maxRecDepth 100000
set_option maxHeartbeats 4000000
theorem strInfo : (Tryd.prog.info? 9).map (fun i => (i.zero, i.size, i.bytes)) = some (some (.string ⟨#[]⟩), 1, 16) := by kernel_rfl
theorem ms_le (ts : List Tk) (s : PS) : ms ts s ≤ ts.length + 1 := by unfold ms; split <;> omega
theorem PSt.few {ts : List Tk} {p : Nat} {s : PS} {w : World} (h : PSt ts p s w) : ts.length ≤ 20000 := by
  obtain ⟨_, _, _, _, _, _, h5, _⟩ := h
  exact h5
def NlR (ts : List Tk) (p : Nat) (q : List (List UInt8) × PS) (w : World) (k : Nat) (v : Value) (wr : World) : Prop :=
  ∃ (s' : PS) (acc : List (List UInt8)) (css : List (List Value)), acc ++ (mNF ts k s').1 = q.1 ∧ (mNF ts k s').2 = q.2 ∧ ms ts s' + 1 ≤ k ∧ acc.length + ms ts s' ≤ ts.length + 2 ∧ w.grownBy wr (some p) ∧ PSt ts p s' wr ∧ Coll RepN 1 9 w.heap.size acc css v wr
theorem nlist_any (ts : List Tk) (p n : Nat) (s : PS) (q : List (List UInt8) × PS) (hq : Hid (lNF ts n s = q)) (hm : ms ts s + 1 ≤ n) (w : World) (h : PSt ts p s w) :
    Calls Tryd.prog 66 #[.pointer (some ⟨p, 0, none⟩), .func (.func 62) #[.pointer (some ⟨p, 0, none⟩)] #[]] w (LiP RepN 1 ts p q w) := by
  have hq := hq.out
  unfold lNF at hq
  obtain ⟨nm0, hv⟩ : ∃ x, nmV ts s = x := ⟨_, rfl⟩
  obtain ⟨s1, hs1⟩ : ∃ x, nmS ts s = x := ⟨_, rfl⟩
  have HV := Lib.hid hv
  have HS1 := Lib.hid hs1
  have hm1 := ms_nmS (ts := ts) s
  have hml := ms_le ts s
  have hfew := h.few
  have hpw := h.lt
  rw [hs1] at hm1
  rw [hv, hs1] at hq
  have hq1 : nm0 :: (mNF ts n s1).1 = q.1 := by rw [← hq]
  have hq2 : (mNF ts n s1).2 = q.2 := by rw [← hq]
  have HQ1 := Lib.hid hq1
  have HQ2 := Lib.hid hq2
  clear hq hv hs1 hq1 hq2
  obtain ⟨i0, hi, hz0, hz1, hz2⟩ := info_parts strInfo
  go_enter Tryd.func66, Tryd.ntmps66
  go_wp2_with fail
  refine (name_any ts p s s1 nm0 HV HS1 _ h).mono ?_
  rintro e w1 ⟨rfl, hg, hp⟩
  have H0 : Hid (NlR ts p q w n (.slice (some ⟨w1.heap.size, 0, none⟩) 1 1) (w1.alloc (.cells #[.string ⟨nm0.toArray⟩] 9))) :=
    Lib.hid ⟨s1, [nm0], [[.string ⟨nm0.toArray⟩]], HQ1.out, HQ2.out, by omega, by simp; omega, grown_al hg _, hp.alloc _, coll_one (Rep := RepN) (x := nm0) (cs := [.string ⟨nm0.toArray⟩]) keepsN (lo := w1.heap.size) rfl hg.size hg.size rfl _ rfl⟩
  clear hg hp
  go_wp2_with fail
  go_loopg [5] n (fun k v wr => NlR ts p q w k v wr)
  case atStart => exact H0.out
  case round =>
    obtain ⟨s', acc, css, ha, hb, hk, hln, hg, hp, hcl⟩ := hrel
    obtain ⟨m, rfl⟩ : ∃ m, gk = m + 1 := ⟨gk - 1, by omega⟩
    rw [mNF] at ha hb
    by_cases hx : nx ts s' cComma = true
    · rw [if_pos hx] at ha hb
      have HX := Lib.hid hx
      have hmv := ms_adv (nx_len (by decide) hx)
      obtain ⟨nm, hv⟩ : ∃ x, nmV ts (adv s') = x := ⟨_, rfl⟩
      obtain ⟨s2, hs2⟩ : ∃ x, nmS ts (adv s') = x := ⟨_, rfl⟩
      have hm2 := ms_nmS (ts := ts) (adv s')
      have HV2 := Lib.hid hv
      have HS2 := Lib.hid hs2
      rw [hs2] at hm2
      rw [hv, hs2] at ha
      rw [hs2] at hb
      have HA := Lib.hid ha
      have HB := Lib.hid hb
      clear hx hv hs2 ha hb
      go_wp2_with fail
      refine (accept_yes ts p s' cComma (by decide) HX _ hp).mono ?_
      rintro e w2 ⟨rfl, hg2, hp2⟩
      replace hcl := hcl.grown keepsN hg2 hpw
      replace hg := grown_to hg hg2
      clear hg2 hp
      go_wp2_with fail
      refine (name_any ts p (adv s') s2 nm HV2 HS2 _ hp2).mono ?_
      rintro e w3 ⟨rfl, hg3, hp3⟩
      have hlo := hcl.blk
      have hlw := hg.size
      replace hcl := hcl.grown keepsN hg3 hpw
      replace hg := grown_to hg hg3
      have hlen := hcl.len
      clear hg3 hp2
      have HCL := Lib.hid hcl
      have HLO := Lib.hid hlo
      have HG := Lib.hid hg
      have hown := hcl.own
      have hsz := hg.size
      clear hcl hlo hg
      go_wp2_with (
        at_builtin
        refine wpList_append_own_at _ rfl (.tmp 11) (.tmp 14) 26 rfl w.heap.size 9 i0 _ 1 16 Tryd.underlying26 hi hz0 hz1 hz2 rfl (by decide) _ _ _ rfl (hown.alloc _) ⟨w3.heap.size, 0, none⟩ 1 1 [.string ⟨nm.toArray⟩] rfl rfl (World.news_of_block (heap_alloc_new _ _)) (by simp [Value.oneCell']) (by unfold maxLen; omega) (by omega) (by simp; omega) ?_
        intro v2 w4 hown2 hgr2 _ hob)
      have hrow : ∀ k, u5.ownBlock = some k → w.heap.size ≤ k := fun k hk => (HCL.out.own.lt k hk).1
      go_roundg m
      case measure => exact Nat.lt_succ_self m
      case rel => exact ⟨s2, acc ++ [nm], css ++ [[.string ⟨nm.toArray⟩]], by rw [List.append_assoc]; exact HA.out, HB.out, by omega, by simp; omega, grown_row (grown_al HG.out _) hgr2 hrow, (hp3.alloc _).row hgr2 (fun k hk => Nat.lt_of_lt_of_le hpw (hrow k hk)),
        HCL.out.snoc (Rep := RepN) (x := nm) (cs := [.string ⟨nm.toArray⟩]) keepsN (lo := w2.heap.size) rfl hlw HLO.out rfl hown2 hgr2 hob⟩
    · rw [if_neg hx] at ha hb
      have HX := Lib.hid (show nx ts s' cComma = false by simpa using hx)
      have ha : acc = q.1 := by simpa using ha
      have HA := Lib.hid ha
      have HB := Lib.hid hb
      clear hx ha hb
      go_wp2_with fail
      refine (accept_no ts p s' cComma HX _ hp).mono ?_
      rintro e w2 ⟨rfl, hg2, hp2⟩
      go_wp2_with fail
      go_ret
      exact liP_of keepsN (hcl.grown keepsN hg2 hpw) HA.out HB.out (grown_to hg hg2) hp2
theorem pnlist_any (ts : List Tk) (p n : Nat) (s : PS) (q : List (List UInt8) × PS) (hq : Hid (pNF ts n s = q)) (hm : ms ts s + 1 ≤ n) (w : World) (h : PSt ts p s w) :
    Calls Tryd.prog 65 #[.pointer (some ⟨p, 0, none⟩), .func (.func 62) #[.pointer (some ⟨p, 0, none⟩)] #[]] w (LiP RepN 1 ts p q w) := by
  have hq := hq.out
  unfold pNF at hq
  obtain ⟨s1, hs1⟩ : ∃ x, exs ts s cLp = x := ⟨_, rfl⟩
  have HS1 := Lib.hid hs1
  have hm1 := ms_exs (ts := ts) s (x := cLp) (by decide)
  rw [hs1] at hm1 hq
  clear hs1
  by_cases hx : nx ts s1 cRp = true
  · rw [if_pos hx] at hq
    have HX := Lib.hid hx
    subst hq
    clear hx
    go_enter Tryd.func65, Tryd.ntmps65
    go_wp2_with fail
    refine (expect_any ts p s s1 cLp (by decide) HS1 _ h).mono ?_
    rintro e w1 ⟨rfl, hg, hp⟩
    go_wp2_with fail
    refine (accept_yes ts p s1 cRp (by decide) HX _ hp).mono ?_
    rintro e w2 ⟨rfl, hg2, hp2⟩
    go_wp2_with fail
    go_ret
    exact liP (repL_nil _ _ _ _) (grown_to hg hg2) hp2
  · rw [if_neg hx] at hq
    have HX := Lib.hid (show nx ts s1 cRp = false by simpa using hx)
    obtain ⟨⟨l, s2⟩, hc⟩ : ∃ x, lNF ts n s1 = x := ⟨_, rfl⟩
    have HC := Lib.hid hc
    rw [hc] at hq
    dsimp only at hq
    obtain ⟨s3, hs3⟩ : ∃ x, exs ts s2 cRp = x := ⟨_, rfl⟩
    have HS3 := Lib.hid hs3
    rw [hs3] at hq
    subst hq
    have hA : ms ts s1 + 1 ≤ n := by omega
    have hpw := h.lt
    clear hx hc hs3
    go_enter Tryd.func65, Tryd.ntmps65
    go_wp2_with fail
    refine (expect_any ts p s s1 cLp (by decide) HS1 _ h).mono ?_
    rintro e w1 ⟨rfl, hg, hp⟩
    go_wp2_with fail
    refine (accept_no ts p s1 cRp HX _ hp).mono ?_
    rintro e w2 ⟨rfl, hg2, hp2⟩
    replace hg := grown_to hg hg2
    clear hg2 hp
    go_wp2_with fail
    refine (nlist_any ts p n s1 _ HC hA _ hp2).mono ?_
    rintro e w3 ⟨A, L, c, rfl, hr, hg3, hp3⟩
    go_wp2_with fail
    refine (expect_any ts p s2 s3 cRp (by decide) HS3 _ hp3).mono ?_
    rintro e w4 ⟨rfl, hg4, hp4⟩
    have hr4 := (hr.acc keepsN hg4 (Nat.lt_of_lt_of_le hpw hg.size) (Nat.le_refl _)).mono keepsN hg.size hg4.size
    have HR := Lib.hid hr4
    clear hr hr4
    go_wp2_with fail
    go_ret
    exact liP HR.out (grown_to (grown_to hg hg3) hg4) hp4
end Go.Proofs.YtjeidpfpgolonaaDoor
