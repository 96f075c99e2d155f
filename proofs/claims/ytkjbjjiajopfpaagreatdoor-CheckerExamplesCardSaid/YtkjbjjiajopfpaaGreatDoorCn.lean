/- Stage 4: the walks of every and of slices.ContainsFunc: whatever the test, if it keeps an invariant. -/
import Derived.Test.YtkjbjjiajopfpaaGreatDoorCb
import Derived.Deep.LoopGhost
import Derived.Outline
namespace Go.Proofs.YtkjbjjiajopfpaaGreatDoor
open Go.RowKit (wrap64 intOf)
open Go Go.RowKit WM LX PX CX

set_option maxRecDepth 100000
set_option maxHeartbeats 4000000
theorem every0_N (xs : List (List UInt8)) (v : Value) (w0 : World) (ok : Nat → Prop) (hl : RepL RepN 1 w0 ok xs v) (hfew : xs.length ≤ 1000000000) (p : List UInt8 → Bool) (m : Option Nat) (g : Nat) (pre lb : Array Value)
    (eg : ∀ args w, (callFunc g args).run Tryz.prog w = .ok (.enter g args) w) (I : Nat → World → Prop) (hI : Inv I ok m w0)
    (hp : ∀ (i : Nat) (x : List UInt8), xs[i]? = some x → TstN Tryz.prog I m g pre lb p x) (c : Nat) (hbud : c + sumL List.length xs ≤ 1000000000000) (w : World) (hw : I c w) :
    Calls Tryz.prog 66 #[v, .func (.func g) pre lb] w (RetI (.bool (xs.all p)) (I (c + sumL List.length xs))) := by
  obtain ⟨A, cp, rfl, hat⟩ := hl.at
  obtain ⟨len, hlen⟩ : ∃ len, xs.length = len := ⟨_, rfl⟩
  have HL := Lib.hid hlen
  have H := Lib.hid (And.intro hat (And.intro hI hp))
  rw [hlen] at hfew ⊢
  clear hlen hat hI hp hl
  have HW := Lib.hid hw
  clear hw
  go_enter Tryz.func66, Tryz.ntmps66
  go_wp2_with fail
  go_loopg [9] len (fun k i wr => EvR I List.length c (fun x => p x = true) xs len k i wr)
  case atStart => exact evR (Nat.zero_add _) HW.out (fun m x h => absurd h (Nat.not_lt_zero _))
  case round =>
    obtain ⟨j, hj, rfl, HI, HQ⟩ := hrel
    by_cases hlt : j < len
    · obtain ⟨x, hx⟩ : ∃ x, xs[j]? = some x := ⟨_, List.getElem?_eq_getElem (by rw [HL.out]; exact hlt)⟩
      obtain ⟨h1, h2, h3⟩ := H.out
      obtain ⟨b, cs, rfl, hb, hrep, hcell⟩ := h1 j x hx
      have hbw := h2.ok _ wr HI.out b hb
      have hc : wr.cell? ⟨b, j, none⟩ = some (.string ⟨x.toArray⟩) := by
        have := (World.cell?_of_block hbw.2).trans (hcell 0 (.string ⟨x.toArray⟩) (by rw [show cs = [.string ⟨x.toArray⟩] from hrep]; rfl))
        rwa [Nat.mul_one, Nat.add_zero] at this
      have hlb : b < wr.heap.size := hbw.1
      have hne : b ≠ wr.heap.size := Nat.ne_of_lt hlb
      have e1 : (j : Int) < (len : Int) := by omega
      have hcall : ∀ W', Below wr.heap.size wr W' → Calls Tryz.prog g (pre.push (.string ⟨x.toArray⟩) ++ lb) W' (RetI (.bool (p x)) (I (c + sumL List.length (xs.take (j + 1))))) := fun W' hW' => by
        rw [sumL_step List.length xs j x hx, Nat.add_assoc, ← Nat.add_assoc c]
        exact (h3 j x hx W' _ (by have := sumL_step List.length xs j x hx; have := sumL_take List.length xs (j + 1); omega) (h2.easy _ _ _ HI.out hW')).mono fun _ _ k => ⟨k.1, k.2.1⟩
      have hdone := sumL_take List.length xs (j + 1)
      have HX := Lib.hid hx
      clear h1 h2 h3 hcell hbw hrep hx
      cases hq : p x with
      | true =>
        rw [hq] at hcall
        go_wp2_with fail
        refine (hcall _ (Below.refl _ _)).mono ?_
        rintro e w2 ⟨rfl, hi⟩
        go_wp2_with fail
        go_roundg (gk - 1)
        case measure => omega
        case rel => exact ⟨j + 1, by omega, by go_num, Lib.hid hi, Lib.hid (ev_step HQ.out HX.out hq)⟩
      | false =>
        rw [hq] at hcall
        have hall := all_upto p xs j x HX.out hq
        have HA := Lib.hid hall
        clear hall
        go_wp2_with fail
        refine (hcall _ (Below.refl _ _)).mono ?_
        rintro e w2 ⟨rfl, hi⟩
        go_wp2_with fail
        go_ret
        exact retI (by rw [HA.out]; rfl) ((H.out.2.1).mono _ _ _ hi (by omega))
    · obtain rfl : j = len := by omega
      have hall := all_done p xs (fun m x hm => HQ.out m x (by rw [← HL.out]; exact (List.getElem?_eq_some_iff.1 hm).1) hm)
      have hin : I (c + sumL List.length xs) wr := by
        have := HI.out
        rwa [List.take_of_length_le (by rw [HL.out]; exact Nat.le_refl _)] at this
      have HN := Lib.hid (And.intro hall hin)
      clear hall hin
      go_wp2_with fail
      go_ret
      exact retI (by rw [HN.out.1]; rfl) HN.out.2
theorem every_N (xs : List (List UInt8)) (v : Value) (w0 : World) (ok : Nat → Prop) (hl : RepL RepN 1 w0 ok xs v) (hfew : xs.length ≤ 1000000000) (p : List UInt8 → Bool) (m : Option Nat) (g : Nat) (pre lb : Array Value)
    (eg : ∀ args w, (callFunc g args).run Tryz.prog w = .ok (.enter g args) w) (I : Nat → World → Prop) (hI : Inv I ok m w0)
    (hp : ∀ (i : Nat) (x : List UInt8), xs[i]? = some x → TstN Tryz.prog I m g pre lb p x) (c : Nat) (hbud : c + sumL List.length xs ≤ 1000000000000) (w : World) (hw : I c w) :
    Calls Tryz.prog 66 #[v, .func (.func g) pre lb] w (RetK (.bool (xs.all p)) m w (I (c + sumL List.length xs))) :=
  every0_N xs v w0 ok hl hfew p m g pre lb eg _ (hI.and w) (fun i x hx => (hp i x hx).and w) c hbud w ⟨hw, grown_id _ _⟩
end Go.Proofs.YtkjbjjiajopfpaaGreatDoor
