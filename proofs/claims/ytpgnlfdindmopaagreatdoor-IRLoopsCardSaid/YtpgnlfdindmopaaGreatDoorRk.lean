/- Stage 7: the walk of Dependencies. -/
import Derived.Test.YtpgnlfdindmopaaGreatDoorRj
namespace Go.Proofs.YtpgnlfdindmopaaGreatDoor
open Go.RowKit (wrap64 intOf)
open Go Go.RowKit WM LX PX CX GX

set_option maxRecDepth 100000
set_option maxHeartbeats 4000000
/-- What the dependencies' list is. -/
def DeP (r : List Int) (w : World) (e : Ending) (w' : World) : Prop := ∃ A c, e = .returned (.slice A r.length c) ∧ RepI w' (fun g => w.heap.size ≤ g ∧ g < w'.heap.size) r (.slice A r.length c) ∧ Below w.heap.size w w'
theorem deP_nil {w w' : World} {r : List Int} (h : r = []) (hb : Below w.heap.size w w') : DeP r w (.returned (.slice none 0 0)) w' := by
  subst h
  exact ⟨none, 0, rfl, ⟨none, 0, rfl, fun i x hx => by simp at hx, Nat.le_refl _⟩, hb⟩
theorem deP_own {w w' : World} {B : Nat} {r : List Int} {v : Value} (hB : w.heap.size ≤ B) (h : w'.ownsRow B 3 1 v r.length (r.map (Value.int .i64))) (hb : Below w.heap.size w w') : DeP r w (.returned v) w' := by
  have h0 := h
  rcases h with ⟨l1, ⟨rfl, l2⟩ | ⟨gg, cap, cur, rfl, l3, l4, l5⟩⟩
  · exact ⟨none, 0, by rw [l2], ⟨none, 0, rfl, fun i x hx => by have := (List.getElem?_eq_some_iff.1 hx).1; omega, Nat.le_of_eq l2⟩, hb⟩
  · refine ⟨some ⟨gg, 0, none⟩, cap, rfl, ⟨_, _, rfl, fun i x hx => ⟨gg, 0, rfl, ⟨by omega, (Array.getElem?_eq_some_iff.1 l4).1⟩, ?_⟩, l5.1⟩, hb⟩
    have := h0.cells (g := gg) rfl i (.int .i64 x) (by rw [List.getElem?_map, hx]; rfl)
    rw [show ∀ k, (⟨gg, 0, none⟩ : Addr).add k = ⟨gg, k, none⟩ from fun k => by unfold Addr.add; split <;> simp_all] at this
    rw [Nat.zero_add]
    exact this
theorem pos_drop (ss : List Nat) (j : Nat) (h : j < ss.length) : posF j (ss.drop j) = if ss.getD j 0 = 0 then posF (j + 1) (ss.drop (j + 1)) else (j : Int) :: posF (j + 1) (ss.drop (j + 1)) := by
  rw [List.drop_eq_getElem_cons h]
  conv => lhs; unfold posF
  rw [show ss.getD j 0 = ss[j] by rw [List.getD_eq_getElem?_getD, List.getElem?_eq_getElem h]; rfl]
theorem int_info : (Tryz.prog.info? 3).map (fun i => (i.zero, i.size, i.bytes)) = some (some (.int .i64 0), 1, 8) := by kernel_rfl
def DeR (ss : List Nat) (B N S : Nat) (w : World) (v z : Value) (wr : World) : Prop :=
  ∃ (j k : Nat) (acc : List Int), z = .int .i64 (j : Int) ∧ j + k = N ∧ acc.length ≤ j ∧ acc ++ posF j (ss.drop j) = posF 0 ss ∧ wr.ownsRow B 3 1 v acc.length (acc.map (Value.int .i64)) ∧ Below w.heap.size w wr ∧ Blk wr S 91 (srtA ss) ∧ B ≤ wr.heap.size
theorem deps_any (l : List ND) (v : Value) (w : World) (ok : Nat → Prop) (hl : RepL RepD 3 w ok l v) (hok : ∀ g, ok g → g < w.heap.size) (hf : Fits l) (i : Int) (hi64 : -9223372036854775808 ≤ i ∧ i ≤ 9223372036854775807) :
    Calls Tryz.prog 31 #[v, .int .i64 i] w (DeP (depsF l i) w) := by
  have hsu := su_any l v w ok hl hok hf i hi64
  obtain ⟨A, c, rfl, _⟩ := hl.at
  obtain ⟨L, hL⟩ : ∃ L, l.length = L := ⟨_, rfl⟩
  obtain ⟨r, hr⟩ : ∃ r, depsF l i = r := ⟨_, rfl⟩
  obtain ⟨q, hq⟩ : ∃ q, usedF l i = q := ⟨_, rfl⟩
  rw [hq, hL] at hsu
  rw [hr, hL]
  cases q with
  | none =>
    have HR := Lib.hid (hr.symm.trans (deps_no hq))
    have HS := Lib.hid hsu
    clear hl hok hf hsu hL hr hq hi64
    go_enter Tryz.func31, Tryz.ntmps31
    go_wp2_with fail
    (with_reducible refine HS.out.mono ?_)
    rintro e w2 ⟨hb, rfl⟩
    have HB := Lib.hid hb
    clear hb
    go_wp2_with fail
    go_ret
    exact deP_nil HR.out HB.out
  | some ss =>
    obtain ⟨h0, h1, h2, h3⟩ := used_prop hq
    have hkn := hr.symm.trans (deps_yes hq)
    obtain ⟨N, hN⟩ : ∃ N, ss.length = N := ⟨_, rfl⟩
    have hll := hf.1
    have hN2 : N ≤ 1000000000000 := by omega
    have HK := Lib.hid (And.intro hkn (And.intro hN h3))
    have HS := Lib.hid hsu
    clear hl hok hf hsu hL hr hq h3 h2 hkn hi64 h0 h1 hll
    go_enter Tryz.func31, Tryz.ntmps31
    go_wp2_with fail
    (with_reducible refine HS.out.mono ?_)
    rintro e w2 ⟨hb, S, cs, rfl, kS⟩
    rw [hN]
    obtain ⟨B, hB⟩ : ∃ B, w2.heap.size = B := ⟨_, rfl⟩
    have hSB : S < B := by rw [← hB]; exact kS.lt
    have hwB : w.heap.size ≤ B := by rw [← hB]; exact hb.size
    have H0 := Lib.hid (And.intro hb (And.intro kS hB))
    obtain ⟨i0, hi, hz0, hz1, hz2⟩ := info_parts int_info
    have HI := Lib.hid (And.intro hi (And.intro hz0 (And.intro hz1 hz2)))
    clear hb kS hN hB hi hz0 hz1 hz2
    go_wp2_with fail
    go_loopw [7, 20] (fun v z wr => Hid (DeR ss B N S w v z wr)) (fun _ z _ => N - (intOf z).toNat)
    case atStart => exact Lib.hid ⟨0, N, [], rfl, Nat.zero_add _, Nat.le_refl _, rfl, World.ownsRow_nil _ _ _ _, H0.out.1, H0.out.2.1, Nat.le_of_eq H0.out.2.2.symm⟩
    case round =>
      obtain ⟨j, k, acc, rfl, hjk, hacc, hpos, hown, hbel, kS, hBs⟩ := hrel.out
      have kSlt := kS.lt
      cases k with
      | zero =>
        obtain rfl : j = N := by omega
        have hfin : acc = r := by
          rw [HK.out.1, ← hpos, List.drop_of_length_le (Nat.le_of_eq HK.out.2.1)]
          simp [posF]
        have HF := Lib.hid (And.intro hfin (And.intro hown hbel))
        clear hrel hpos hown hbel kS hfin hacc
        go_wp2_with fail
        go_ret
        obtain ⟨rfl, ho, hbl⟩ := HF.out
        exact deP_own hwB ho hbl
      | succ k =>
        have hj : j < ss.length := by rw [HK.out.2.1]; omega
        have e1 : (j : Int) < (N : Int) := by omega
        have xj : wr.cell? ⟨S, j, none⟩ = some (.int .u8 ((ss.getD j 0 : Nat) : Int)) := by rw [kS.cell, srtA_at _ _ hj]
        have hpd := pos_drop ss j hj
        obtain ⟨q, hq⟩ : ∃ q, ss.getD j 0 = q := ⟨_, rfl⟩
        rw [hq] at xj hpd
        by_cases hq0 : q = 0
        · subst hq0
          rw [if_pos rfl] at hpd
          rw [hpd] at hpos
          have HN := Lib.hid (⟨j + 1, k, acc, rfl, by omega, by omega, hpos, hown, hbel, kS, hBs⟩ : DeR ss B N S w _ (.int .i64 ((j + 1 : Nat) : Int)) wr)
          clear hrel hpos hown hbel kS hacc hq hpd hj hjk
          go_wp2_with fail
          go_roundw
          case rel => exact Lib.hid HN.out
          case measure => (first | (simp [intOf]; done) | (simp [intOf]; omega))
        · rw [if_neg hq0] at hpd
          rw [hpd] at hpos
          have hne : ((q : Int) != 0) = true := by rw [bne_iff_ne]; omega
          have hpos' : (acc ++ [(j : Int)]) ++ posF (j + 1) (ss.drop (j + 1)) = posF 0 ss := by rw [List.append_assoc]; exact hpos
          have HP := Lib.hid (And.intro hpos' (And.intro hbel kS))
          obtain ⟨hi, hz0, hz1, hz2⟩ := HI.out
          clear hrel hpos hbel kS hq hpd hq0 hpos'
          have HJ := Lib.hid (And.intro hjk (And.intro hj hacc))
          have hal : acc.length ≤ 1000000000000 := by omega
          clear hjk hj hacc
          go_wp2_with (at_builtin; refine wpList_append_own _ rfl (.tmp 27) (.tmp 29) 47 rfl B 3 i0 _ 1 8 Tryz.underlying47 hi hz0 hz1 hz2 rfl (by decide) _ _ _ rfl (hown.alloc _) ⟨wr.heap.size, 0, none⟩ 1 1 [.int .i64 (j : Int)] rfl rfl (World.news_of_block (heap_alloc_new _ _)) (by simp [Value.oneCell']) (by unfold maxLen; omega) (by omega) (by simp; omega) ?_; intro v2 w3 hown2 hgr2 _)
          have kS3 := (HP.out.2.2.alloc _).grown hgr2 (own_ne hown (Or.inl hSB))
          have hbel3 := (HP.out.2.1.alloc (Nat.le_trans hwB hBs) _).grown hgr2 (by simp; omega) (fun b hb => Nat.le_trans hwB (hown.lt b hb).1)
          have hB3 := hgr2.size
          have HN := Lib.hid (And.intro hown2 (And.intro kS3 (And.intro hbel3 hB3)))
          obtain ⟨hjk, hj, hacc⟩ := HJ.out
          clear hown2 hgr2 kS3 hbel3 hB3 hown
          go_roundw
          case rel => exact Lib.hid ⟨j + 1, k, acc ++ [(j : Int)], by go_num, by omega, by simp; omega, HP.out.1, by simpa using HN.out.1, HN.out.2.2.1, HN.out.2.1, by have := HN.out.2.2.2; simp at this; omega⟩
          case measure => (first | (simp [intOf]; done) | (simp [intOf]; omega))
end Go.Proofs.YtpgnlfdindmopaaGreatDoor
