/- Stage 3: the walk of the statements' SameExpr on equal expressions. -/
import Derived.Test.YtgiggkfnpbgkpaaGreatDoorBc
import Derived.Deep.RegionWith
import Derived.Deep.LoopGhost
import Derived.Test.YtgiggkfnpbgkpaaGreatDoorBe
import Derived.Test.YtgiggkfnpbgkpaaGreatDoorBf
import Derived.Deep.QuietTactic
import Derived.BigQuiet
namespace Go.Proofs.YtgiggkfnpbgkpaaGreatDoor
open Go.RowKit (wrap64 intOf)
open Go Go.RowKit WM LX PX

set_option maxRecDepth 100000
set_option maxHeartbeats 4000000
/-- At most n levels of kids, few at each. -/
def KD : Nat → PE → Prop
  | 0, .mk _ _ _ _ kids => kids = []
  | n + 1, .mk _ _ _ _ kids => kids.length ≤ 1000 ∧ ∀ k ∈ kids, KD n k
def SeR (B : Nat) (w : World) (len k : Nat) (i : Value) (wr : World) : Prop := ∃ j : Nat, j + k = len ∧ i = .int .i64 (j : Int) ∧ Below B w wr
theorem KD.few {n : Nat} {kind m : Int} {name : List UInt8} {op : Int} {kids : List PE} (h : KD n (.mk kind m name op kids)) : kids.length ≤ 1000 := by
  cases n with
  | zero => rw [show kids = [] from h]; decide
  | succ n => exact h.1
theorem KD.kid {n : Nat} {kind m : Int} {name : List UInt8} {op : Int} {kids : List PE} (h : KD n (.mk kind m name op kids)) {i : Nat} {e : PE} (he : kids[i]? = some e) : ∃ d, n = d + 1 ∧ KD d e := by
  cases n with
  | zero => rw [show kids = [] from h] at he; simp at he
  | succ n => exact ⟨n, rfl, h.2 e (List.mem_of_getElem? he)⟩
theorem same_E (n : Nat) : ∀ (e : PE) (cs1 cs2 : List Value) (w : World) (ok1 ok2 : Nat → Prop), KD n e → RepE w ok1 e cs1 → RepE w ok2 e cs2 → (∀ g, ok1 g → g < w.heap.size) → (∀ g, ok2 g → g < w.heap.size) →
    Calls Tryz.prog 31 #[.agg cs1.toArray, .agg cs2.toArray] w (RetN (.bool true) w) := by
  induction n using Nat.strongRecOn with
  | ind n ih =>
    intro e cs1 cs2 w ok1 ok2 hd h1 h2 hk1 hk2
    cases h1 with
    | mk kind m name op kids A c g F hA hc hk =>
      cases h2 with
      | mk _ _ _ _ _ A' c' g' F' hA' hc' hk' =>
        have hfew := hd.few
        have IH := Lib.hid ih
        have HD := Lib.hid hd
        have H1 := Lib.hid (And.intro hA (And.intro hc (And.intro hk hk1)))
        have H2 := Lib.hid (And.intro hA' (And.intro hc' (And.intro hk' hk2)))
        obtain ⟨len, hlen⟩ : ∃ len, kids.length = len := ⟨_, rfl⟩
        have HLEN := Lib.hid hlen
        rw [hlen] at hfew
        clear ih hd hA hc hk hA' hc' hk' hk1 hk2
        simp only [hlen]
        clear hlen
        go_enter Tryz.func31, Tryz.ntmps31
        go_wp2_with fail
        have hb0 : Below w.heap.size w ((w.alloc (.cells #[.int .i64 kind, .int .i64 m, .string ⟨name.toArray⟩, .int .i64 op, .slice A len c] 44)).alloc (.cells #[.int .i64 kind, .int .i64 m, .string ⟨name.toArray⟩, .int .i64 op, .slice A' len c'] 44)) := ((Below.refl _ _).alloc (Nat.le_refl _) _).alloc (by simp) _
        have hK1 : Blk ((w.alloc (.cells #[.int .i64 kind, .int .i64 m, .string ⟨name.toArray⟩, .int .i64 op, .slice A len c] 44)).alloc (.cells #[.int .i64 kind, .int .i64 m, .string ⟨name.toArray⟩, .int .i64 op, .slice A' len c'] 44)) w.heap.size 44 #[.int .i64 kind, .int .i64 m, .string ⟨name.toArray⟩, .int .i64 op, .slice A len c] := (Blk.new w _ _).alloc _
        have hK2 : Blk ((w.alloc (.cells #[.int .i64 kind, .int .i64 m, .string ⟨name.toArray⟩, .int .i64 op, .slice A len c] 44)).alloc (.cells #[.int .i64 kind, .int .i64 m, .string ⟨name.toArray⟩, .int .i64 op, .slice A' len c'] 44)) (w.heap.size + 1) 44 #[.int .i64 kind, .int .i64 m, .string ⟨name.toArray⟩, .int .i64 op, .slice A' len c'] := blk_at (by simp) _ _
        have hz0 : ((w.alloc (.cells #[.int .i64 kind, .int .i64 m, .string ⟨name.toArray⟩, .int .i64 op, .slice A len c] 44)).alloc (.cells #[.int .i64 kind, .int .i64 m, .string ⟨name.toArray⟩, .int .i64 op, .slice A' len c'] 44)).heap.size = w.heap.size + 2 := by simp
        have HK1 := Lib.hid hK1
        have HK2 := Lib.hid hK2
        have HB0 := Lib.hid hb0
        clear hK1 hK2 hb0
        generalize hW : (w.alloc (.cells #[.int .i64 kind, .int .i64 m, .string ⟨name.toArray⟩, .int .i64 op, .slice A len c] 44)).alloc (.cells #[.int .i64 kind, .int .i64 m, .string ⟨name.toArray⟩, .int .i64 op, .slice A' len c'] 44) = W at *
        clear hW
        go_loopg [44] len (fun k i wr => SeR (w.heap.size + 2) W len k i wr)
        case atStart => exact ⟨0, by omega, rfl, Below.refl _ _⟩
        case round =>
          obtain ⟨j, hj, rfl, hb⟩ := hrel
          have hB := Lib.hid hb
          by_cases hlt : j < len
          · obtain ⟨kid, hkid⟩ : ∃ kid, kids[j]? = some kid := ⟨_, List.getElem?_eq_getElem (by rw [HLEN.out]; exact hlt)⟩
            obtain ⟨d, hd1, hd2⟩ := HD.out.kid hkid
            obtain ⟨a1, a2, a3, a4⟩ := H1.out
            obtain ⟨b1, b2, b3, b4⟩ := H2.out
            have r1 := a3 j kid hkid
            have r2 := b3 j kid hkid
            have hne : kids ≠ [] := fun h => by rw [h] at hkid; simp at hkid
            obtain ⟨rfl, ga⟩ := a1 hne
            obtain ⟨rfl, gb⟩ := b1 hne
            have hjk : j < kids.length := by rw [HLEN.out]; exact hlt
            have ca := fun (i : Nat) (u : Value) (h : (F j)[i]? = some u) => a2 j i u hjk h
            have cb := fun (i : Nat) (u : Value) (h : (F' j)[i]? = some u) => b2 j i u hjk h
            have hga := a4 _ ga
            have hgb := b4 _ gb
            have hwk : ∀ x, x < w.heap.size → wr.heap[x]? = w.heap[x]? := fun x hx => (hB.out.block x (by omega)).trans (HB0.out.block x hx)
            have R1 := r1.keep (fun _ h => h) (fun x hx => hwk x (a4 x hx))
            have R2 := r2.keep (fun _ h => h) (fun x hx => hwk x (b4 x hx))
            have hwz : w.heap.size + 2 ≤ wr.heap.size := by rw [← hz0]; exact hB.out.size
            have hcall : Calls Tryz.prog 31 #[.agg (F j).toArray, .agg (F' j).toArray] wr.drew (RetN (.bool true) wr.drew) :=
              IH.out d (by omega) kid (F j) (F' j) wr.drew ok1 ok2 hd2 (R1.keep (fun _ h => h) (fun _ _ => rfl)) (R2.keep (fun _ h => h) (fun _ _ => rfl)) (fun x hx => by have := a4 x hx; show x < wr.heap.size; omega) (fun x hx => by have := b4 x hx; show x < wr.heap.size; omega)
            obtain ⟨x1, x2, x3, x4⟩ : wr.cell? ⟨w.heap.size, 4, none⟩ = some (.slice (some ⟨g, 0, none⟩) len c) ∧ wr.cell? ⟨w.heap.size + 1, 4, none⟩ = some (.slice (some ⟨g', 0, none⟩) len c') ∧ (∀ i u, (F j)[i]? = some u → wr.cell? ⟨g, j * 5 + i, none⟩ = some u) ∧ (∀ i u, (F' j)[i]? = some u → wr.cell? ⟨g', j * 5 + i, none⟩ = some u) :=
              ⟨(hB.out.cell (p := ⟨w.heap.size, 4, none⟩) (by show w.heap.size < _; omega)).trans (HK1.out.cell 4), (hB.out.cell (p := ⟨w.heap.size + 1, 4, none⟩) (by show w.heap.size + 1 < _; omega)).trans (HK2.out.cell 4),
                fun i u hu => (World.cell?_of_block (hwk g hga)).trans (ca i u hu), fun i u hu => (World.cell?_of_block (hwk g' hgb)).trans (cb i u hu)⟩
            generalize hFj : F j = Fj at *
            generalize hFj' : F' j = Fj' at *
            cases r1 with
            | mk kd1 n1 nm1 o1 ks1 A1 c1 g1 F1 _ _ _ =>
              cases r2 with
              | mk _ _ _ _ _ A2 c2 g2 F2 _ _ _ =>
                have y0 : wr.cell? ⟨g, j * 5, none⟩ = _ := x3 0 _ rfl
                have y1 := x3 1 _ rfl
                have y2 := x3 2 _ rfl
                have y3 := x3 3 _ rfl
                have y4 := x3 4 _ rfl
                have z0 : wr.cell? ⟨g', j * 5, none⟩ = _ := x4 0 _ rfl
                have z1 := x4 1 _ rfl
                have z2 := x4 2 _ rfl
                have z3 := x4 3 _ rfl
                have z4 := x4 4 _ rfl
                generalize ks1.length = l1 at *
                have e1 : (j : Int) < (len : Int) := by omega
                have hsn : Below (w.heap.size + 2) W wr.drew := below_drewN hB.out 1
                have HSN := Lib.hid hsn
                clear x3 x4 a1 a2 a3 a4 b1 b2 b3 b4 ca cb hwk R1 R2 hFj hFj' hkid hd1 hd2 hne hb hsn
                go_wp2_with fail
                go_region_with (go_at_call 31; ((with_reducible refine hcall.mono ?_); rintro e w3 ⟨rfl, hb3⟩))
                all_goals
                  go_wp2_with fail
                  go_roundg (gk - 1)
                  case measure => omega
                  case rel => exact ⟨j + 1, by omega, by go_num, HSN.out.trans (below_down hb3 hwz)⟩
          · obtain rfl : j = len := by omega
            go_wp2_with fail
            go_ret
            exact retN rfl (HB0.out.trans (below_down hB.out (Nat.le_add_right _ _)))
end Go.Proofs.YtgiggkfnpbgkpaaGreatDoor
/- Stage 3: the walks of the statements' sameTexts and, on empty lists, SameStmts. -/
namespace Go.Proofs.YtgiggkfnpbgkpaaGreatDoor
open Go.RowKit (wrap64 intOf)
open Go Go.RowKit WM LX PX

set_option maxRecDepth 100000
set_option maxHeartbeats 4000000
theorem same_texts (xs : List (List UInt8)) (hfew : xs.length ≤ 1000000) (v v' : Value) (w : World) (ok ok' : Nat → Prop) (h1 : RepL RepN 1 w ok xs v) (h2 : RepL RepN 1 w ok' xs v') :
    Calls Tryz.prog 42 #[v, v'] w (RetN (.bool true) w) := by
  obtain ⟨F, ⟨A, c, rfl, hA⟩, hF⟩ := h1
  obtain ⟨F', ⟨A', c', rfl, hA'⟩, hF'⟩ := h2
  obtain ⟨len, hlen⟩ : ∃ len, xs.length = len := ⟨_, rfl⟩
  rw [hlen] at hfew hA hA' ⊢
  have HLEN := Lib.hid hlen
  have H1 := Lib.hid (And.intro hA hF)
  have H2 := Lib.hid (And.intro hA' hF')
  clear hlen hA hF hA' hF'
  go_enter Tryz.func42, Tryz.ntmps42
  go_wp2_with fail
  go_loopw [13] (fun i wr => ∃ k m : Nat, k ≤ len ∧ i = .int .i64 k ∧ wr = w.drewN m) (fun i _ => len - (intOf i).toNat)
  case atStart => exact ⟨0, 0, Nat.zero_le _, rfl, rfl⟩
  case round =>
    obtain ⟨k, m, hk, rfl, rfl⟩ := hrel
    by_cases hlt : k < len
    · obtain ⟨a1, a2⟩ := H1.out
      obtain ⟨b1, b2⟩ := H2.out
      obtain ⟨g, rfl, _, hc⟩ := a1 (by omega)
      obtain ⟨g', rfl, _, hc'⟩ := b1 (by omega)
      obtain ⟨x, hx⟩ : ∃ x, xs[k]? = some x := ⟨_, List.getElem?_eq_getElem (by rw [HLEN.out]; exact hlt)⟩
      have e1 : w.cell? ⟨g, k, none⟩ = some (.string ⟨x.toArray⟩) := by
        have := hc k 0 _ hlt (by rw [a2 k x hx]; rfl)
        rwa [Nat.mul_one, Nat.add_zero] at this
      have e2 : w.cell? ⟨g', k, none⟩ = some (.string ⟨x.toArray⟩) := by
        have := hc' k 0 _ hlt (by rw [b2 k x hx]; rfl)
        rwa [Nat.mul_one, Nat.add_zero] at this
      clear hc hc' a1 a2 b1 b2 hx
      go_wp2_with fail
      go_quiet (fail)
      go_wp2_with fail
      go_roundw
      case rel => exact ⟨k + 1, _, by omega, by go_num, rfl⟩
      case measure => simp [intOf]; omega
    · obtain rfl : k = len := by omega
      go_wp2_with fail
      go_ret
      exact retN rfl (below_drewN (Below.refl _ _) _)
theorem same_stmts0 (A A' : Option Addr) (c c' : Nat) (w : World) :
    Calls Tryz.prog 43 #[.slice A 0 c, .slice A' 0 c'] w (RetN (.bool true) w) := by
  go_enter Tryz.func43, Tryz.ntmps43
  go_wp2_with fail
  go_loop [16] (fun i => i = .int .i64 0) (fun _ => 0)
  case atStart => rfl
  case round =>
    obtain rfl := hrel
    go_wp2_with fail
    go_ret
    exact retN rfl (Below.refl _ _)
end Go.Proofs.YtgiggkfnpbgkpaaGreatDoor
