/- Stage 7: the walks of Sort and Dependencies. -/
import Derived.Test.YtpgnlfdindmopaaGreatDoorRi
namespace Go.Proofs.YtpgnlfdindmopaaGreatDoor
open Go.RowKit (wrap64 intOf)
open Go Go.RowKit WM LX PX CX GX

set_option maxRecDepth 100000
set_option maxHeartbeats 4000000
theorem resL_le (op imm : Int) : resL op imm ≤ 3 := by
  unfold resL varS
  (repeat' split) <;> omega
theorem knd_le {ss : List Nat} (h : ∀ x ∈ ss, x ≤ 3) (k : Int) : knd ss k ≤ 3 := by
  unfold knd
  by_cases hk : k.toNat < ss.length
  · rw [List.getD_eq_getElem?_getD, List.getElem?_eq_getElem hk]; exact h _ (List.getElem_mem hk)
  · rw [List.getD_eq_getElem?_getD, List.getElem?_eq_none (by omega)]; exact Nat.zero_le _
theorem srtF_le (l : List ND) (n : ND) {ss : List Nat} (h : ∀ x ∈ ss, x ≤ 3) : srtF l n ss ≤ 3 := by
  have hb := knd_le h (n.kids.getD 1 0)
  have hr := resL_le n.op n.imm
  unfold srtF selS resS
  (repeat' split) <;> omega
theorem su_prop (l : List ND) (u : List Bool) : ∀ (g j : Nat) (ss ss' : List Nat), suF l u g j ss = some ss' → ss'.length = ss.length ∧ ((∀ x ∈ ss, x ≤ 3) → ∀ x ∈ ss', x ≤ 3) := fun g => by
  induction g with
  | zero =>
    intro j ss ss' h
    rw [su_0] at h
    injection h with h
    subst h
    exact ⟨rfl, id⟩
  | succ g ih =>
    intro j ss ss' h
    cases hb : u.getD j false with
    | false => rw [su_no hb] at h; exact ih _ _ _ h
    | true =>
      by_cases hz : srtF l (l.getD j nd0) ss = 0
      · rw [su_bad hb hz] at h; cases h
      · rw [su_ok hb hz] at h
        obtain ⟨h1, h2⟩ := ih _ _ _ h
        rw [List.length_set] at h1
        exact ⟨h1, fun hs => h2 (fun x hx => by
          rcases List.mem_or_eq_of_mem_set hx with h | h
          · exact hs x h
          · rw [h]; exact srtF_le l _ hs)⟩
theorem used_prop {l : List ND} {i : Int} {ss : List Nat} (h : usedF l i = some ss) : 0 ≤ i ∧ i < (l.length : Int) ∧ ss.length = i.toNat + 1 ∧ ∀ x ∈ ss, x ≤ 3 := by
  unfold usedF at h
  cases hm : markF l i with
  | none => rw [hm] at h; cases h
  | some u =>
    rw [hm] at h
    obtain ⟨⟨h1, h2⟩, h3, _⟩ := mark_ear hm
    obtain ⟨h4, h5⟩ := su_prop l u _ _ _ _ h
    refine ⟨h1, h2, by rw [h4, List.length_replicate, h3], h5 (fun x hx => ?_)⟩
    rw [(List.mem_replicate.1 hx).2]
    exact Nat.zero_le _
theorem sort_no {l : List ND} {i : Int} (h : usedF l i = none) : sortF l i = 0 := by unfold sortF; rw [h]
theorem sort_yes {l : List ND} {i : Int} {ss : List Nat} (h : usedF l i = some ss) : sortF l i = knd ss i := by unfold sortF; rw [h]; rfl
theorem deps_no {l : List ND} {i : Int} (h : usedF l i = none) : depsF l i = [] := by unfold depsF; rw [h]
theorem deps_yes {l : List ND} {i : Int} {ss : List Nat} (h : usedF l i = some ss) : depsF l i = posF 0 ss := by unfold depsF; rw [h]
theorem sort_any (l : List ND) (v : Value) (w : World) (ok : Nat → Prop) (hl : RepL RepD 3 w ok l v) (hok : ∀ g, ok g → g < w.heap.size) (hf : Fits l) (i : Int) (hi64 : -9223372036854775808 ≤ i ∧ i ≤ 9223372036854775807) :
    Calls Tryz.prog 11 #[v, .int .i64 i] w (RetN (.int .i64 ((sortF l i : Nat) : Int)) w) := by
  have hsu := su_any l v w ok hl hok hf i hi64
  obtain ⟨A, c, rfl, _⟩ := hl.at
  obtain ⟨L, hL⟩ : ∃ L, l.length = L := ⟨_, rfl⟩
  obtain ⟨r, hr⟩ : ∃ r, sortF l i = r := ⟨_, rfl⟩
  obtain ⟨q, hq⟩ : ∃ q, usedF l i = q := ⟨_, rfl⟩
  rw [hq, hL] at hsu
  rw [hr, hL]
  cases q with
  | none =>
    have HR := Lib.hid (hr.symm.trans (sort_no hq))
    have HS := Lib.hid hsu
    clear hl hok hf hsu hL hr hq hi64
    go_enter Tryz.func11, Tryz.ntmps11
    go_wp2_with fail
    (with_reducible refine HS.out.mono ?_)
    rintro e w2 ⟨hb, rfl⟩
    have HB := Lib.hid hb
    clear hb
    go_wp2_with fail
    go_ret
    exact retN (by rw [HR.out]; rfl) HB.out
  | some ss =>
    obtain ⟨h0, h1, h2, h3⟩ := used_prop hq
    have hkn := sort_yes hq
    rw [hr] at hkn
    have hk3 : knd ss i ≤ 3 := knd_le h3 i
    rw [← hkn] at hk3
    obtain ⟨N, hN⟩ : ∃ N, ss.length = N := ⟨_, rfl⟩
    have hiN : i < (N : Int) := by omega
    have hll := hf.1
    have HK := Lib.hid (And.intro hkn hN)
    have HS := Lib.hid hsu
    have hr3 : (r : Int) ≤ 3 := by omega
    have hr0 : (0 : Int) ≤ (r : Int) := by omega
    clear hl hok hf hsu hL hr hq h3 h2 hk3 hkn hi64
    go_enter Tryz.func11, Tryz.ntmps11
    go_wp2_with fail
    (with_reducible refine HS.out.mono ?_)
    rintro e w2 ⟨hb, S, cs, rfl, kS⟩
    rw [hN]
    have x0 := srt_cell kS h0 (by rw [hN]; exact hiN)
    rw [← HK.out.1] at x0
    have HB := Lib.hid hb
    clear hb kS hN
    go_wp2_with fail
    go_ret
    exact retN rfl HB.out
end Go.Proofs.YtpgnlfdindmopaaGreatDoor
