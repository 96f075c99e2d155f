/- Stage 4: the walks of the checks of limits: expressions. -/
import Derived.Test.YtkjbjjiajopfpaaGreatDoorCc
namespace Go.Proofs.YtkjbjjiajopfpaaGreatDoor
open Go.RowKit (wrap64 intOf)
open Go Go.RowKit WM LX PX CX

set_option maxRecDepth 100000
set_option maxHeartbeats 4000000
theorem app_1 (a : Value) : ((#[] : Array Value).push a ++ #[]) = #[a] := by simp
theorem app_l (a b : Value) : ((#[] : Array Value).push a ++ #[b]) = #[a, b] := by simp
theorem app_r (a b : Value) : ((#[b] : Array Value).push a ++ #[]) = #[b, a] := by simp
theorem exC_of {w : World} {ok : Nat → Prop} {e : PE} {cs : List Value} (h : RepE w ok e cs) : ∃ kd nn nm op A L c, cs = exC kd nn nm op A L c := by
  cases h with
  | mk kind n name op kids A c g F hA hc hk => exact ⟨_, _, _, _, _, _, _, rfl⟩
theorem onesE : Ones RepE 5 := fun _ _ _ _ h => by
  cases h with
  | mk kind n name op kids A c g F hA hc hk => exact ⟨rfl, by simp [Value.oneCell']⟩
theorem exp_of {w : World} {ok : Nat → Prop} {kd n : Int} {nm : List UInt8} {op : Int} {kids : List PE} {cs : List Value} (h : RepE w ok (.mk kd n nm op kids) cs) :
    ∃ A c, cs = exC kd n nm op A kids.length c ∧ RepL RepE 5 w ok kids (.slice A kids.length c) := by
  cases h with
  | mk _ _ _ _ _ A c g F hA hc hk =>
    refine ⟨A, c, rfl, F, ⟨A, c, rfl, fun h0 => ?_⟩, hk⟩
    have hne : kids ≠ [] := fun h => by rw [h] at h0; exact absurd h0 (Nat.lt_irrefl _)
    exact ⟨g, (hA hne).1, (hA hne).2, fun i j u hi hu => hc i j u hi hu⟩
/-- The plain invariant: nothing of what was there at w0 has turned. -/
theorem inv_kp (m : Option Nat) (w0 : World) (hm : ∀ b, m = some b → b < w0.heap.size) (ok : Nat → Prop) (hok : ∀ b, ok b → b < w0.heap.size ∧ some b ≠ m) : Inv (fun _ => Kp m w0) ok m w0 :=
  ⟨fun _ _ h b hb => Nat.lt_of_lt_of_le (hm b hb) h.size, fun _ => easy_kp m w0, fun _ _ _ h _ => h, fun _ _ h b hb => ⟨Nat.lt_of_lt_of_le (hok b hb).1 h.size, h.block b (hok b hb).1 (hok b hb).2⟩⟩
theorem ret_kp {v : Value} {m : Option Nat} {w0 w : World} {e : Ending} {w' : World} (h : RetN v w e w') (hI : Kp m w0 w) : RetK v m w (Kp m w0) e w' := ⟨h.1, kp_to hI (kp_below h.2 m), kp_below h.2 m⟩
abbrev DeepC (d : Nat) : Prop := ∀ (e : PE) (cs : List Value) (w : World) (ok : Nat → Prop), RepE w ok e cs → (∀ g, ok g → g < w.heap.size) → szE e ≤ 1000000000 →
  Calls Tryz.prog 64 #[.agg cs.toArray, .int .i64 (d : Int)] w (RetN (.bool (deepE d e)) w)
theorem deep_cl (d : Nat) (hd : d ≤ 20) (h : DeepC (d + 1)) (B : Nat) (e : PE) (cs : List Value) (w : World) (ok : Nat → Prop) (hr : RepE w ok e cs) (hok : ∀ g, ok g → g < w.heap.size) (hs : szE e ≤ 1000000000)
    (hB : B < w.heap.size) (hc : w.cell? ⟨B, 0, none⟩ = some (.int .i64 (d : Int))) :
    Calls Tryz.prog 83 #[.agg cs.toArray, .pointer (some ⟨B, 0, none⟩)] w (RetN (.bool (deepE (d + 1) e)) w) := by
  obtain ⟨kd, n, nm, op, A, L, c, rfl⟩ := exC_of hr
  have hcall := h e _ (w.alloc (.cells #[.int .i64 kd, .int .i64 n, .string ⟨nm.toArray⟩, .int .i64 op, .slice A L c] 24)) ok (hr.keep (fun _ h => h) (fun g hg => Below.heap_alloc _ _ _ (hok g hg))) (fun g hg => by rw [World.size_alloc]; have := hok g hg; omega) hs
  have e1 : ((d + 1 : Nat) : Int) = (d : Int) + 1 := by omega
  rw [e1] at hcall
  have HC := Lib.hid hcall
  clear hcall h e1
  go_enter Tryz.func83, Tryz.ntmps83
  go_wp2_with fail
  refine HC.out.mono ?_
  rintro e w2 ⟨rfl, hb⟩
  go_wp2_with fail
  go_ret
  exact retN rfl (((Below.refl _ _).alloc (Nat.le_refl _) _).trans (below_down hb (by simp)))
theorem deep_any (m : Nat) : ∀ d, d + m = 21 → DeepC d := by
  induction m with
  | zero =>
    intro d hd e cs w ok hr hok hs
    obtain rfl : d = 21 := by omega
    obtain ⟨kd, n, nm, op, A, L, c, rfl⟩ := exC_of hr
    cases e with
    | mk kd' n' nm' op' kids =>
      rw [deepE_eq, if_pos (by omega)]
      clear hs hr
      go_enter Tryz.func64, Tryz.ntmps64
      go_wp2_with fail
      go_ret
      exact retN rfl (((Below.refl _ _).alloc (Nat.le_refl _) _).alloc (by simp) _)
  | succ m ih =>
    intro d hd e cs w ok hr hok hs
    have IH := Lib.hid (ih (d + 1) (by omega))
    clear ih
    cases e with
    | mk kd n nm op kids =>
      rw [deepE_eq, if_neg (by omega)]
      obtain ⟨A, c, rfl, hl⟩ := exp_of hr
      rw [szE_eq] at hs
      have hfew := sumL_len szE kids
      obtain ⟨W1, hW1⟩ : ∃ W1, (w.alloc (.cells #[.int .i64 kd, .int .i64 n, .string ⟨nm.toArray⟩, .int .i64 op, .slice A kids.length c] 24)).alloc (.cells #[.int .i64 (d : Int)] 3) = W1 := ⟨_, rfl⟩
      have hb1 : Below w.heap.size w W1 := by rw [← hW1]; exact ((Below.refl _ _).alloc (Nat.le_refl _) _).alloc (by simp) _
      have hk1 : Blk W1 (w.heap.size + 1) 3 #[.int .i64 (d : Int)] := by rw [← hW1]; exact blk_at (by simp) _ _
      have hl1 : RepL RepE 5 W1 ok kids (.slice A kids.length c) := hl.keep keepsE (fun _ h => h) (fun g hg => hb1.block g (hok g hg))
      have hcall := contains_E keepsE onesE kids _ W1 ok hl1 (by omega) (deepE (d + 1)) none 83 #[] #[.pointer (some ⟨w.heap.size + 1, 0, none⟩)] (enters_of Tryz.func83 (by kernel_rfl) rfl)
        (fun _ => Kp none W1) (inv_kp none W1 (fun _ h => by cases h) ok (fun b hb => ⟨Nat.lt_of_lt_of_le (hok b hb) hb1.size, by simp⟩)) (fun _ => 0) (fun i x hx cs W c _ hI hr' => by
          rw [app_l]
          have hlt := hk1.lt
          exact (deep_cl d (by omega) IH.out (w.heap.size + 1) x cs W ok hr' (fun g hg => Nat.lt_of_lt_of_le (hok g hg) (Nat.le_trans hb1.size hI.size)) (by have := sumL_at szE kids i x hx; omega) (Nat.lt_of_lt_of_le hlt hI.size) ((World.cell?_of_block (hI.block _ hlt (by simp))).trans (hk1.cell 0))).mono fun _ _ h => ret_kp h hI) 0 (by rw [sumL_zero]; omega) W1 (grown_id _ _)
      have HC := Lib.hid hcall
      have HB := Lib.hid hb1
      have hne : ¬ (20 : Int) < (d : Int) := by omega
      obtain ⟨len, hlen⟩ : ∃ len, kids.length = len := ⟨_, rfl⟩
      clear hcall hb1 hk1 hl1 hl hs hr hfew IH
      rw [hlen] at HC hW1 ⊢
      clear hlen
      have HW1 := Lib.hid hW1
      clear hW1
      go_enter Tryz.func64, Tryz.ntmps64
      go_wp2_with fail
      rw [HW1.out]
      refine HC.out.mono ?_
      rintro e w2 ⟨rfl, _, hb⟩
      go_wp2_with fail
      go_ret
      exact retN rfl (HB.out.trans (below_down (below_kp hb) HB.out.size))
end Go.Proofs.YtkjbjjiajopfpaaGreatDoor
