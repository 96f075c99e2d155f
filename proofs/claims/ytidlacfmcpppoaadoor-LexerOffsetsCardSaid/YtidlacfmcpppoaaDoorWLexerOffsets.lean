/- LexerOffsets returns true for all slices of integers. Conditions: none but the row's own (the library's tables start as the program's text lays them; the card ties them). -/
import Derived.Test.YtidlacfmcpppoaaDoorLs
import Derived.Test.YtidlacfmcpppoaaDoorLq
import Derived.IntWalk
import Derived.Deep.QuietTactic
import Derived.BigQuiet
namespace Go.Proofs.YtidlacfmcpppoaaDoor.lawLexerOffsets
open Go Go.ChangeShapes Go.WideShapes Go.ChangeAt Go.RowKit WM LX
open Go.ChangeMaps (open_string)

set_option maxRecDepth 100000 in
set_option maxHeartbeats 2000000 in
theorem walk (W : World) (l : Option Addr) (ln lc : Nat) (hln : ln ≤ maxLen) (hl : Ints W W.heap.size l ln) (ht : Tab W.heap.size W) :
    Calls Tryd.prog 5 #[.slice l ln lc] W fun e w' => e = .returned (.bool true) ∧ Below W.heap.size W w' := by
  unfold maxLen at hln
  go_enter Tryd.func5, Tryd.ntmps5
  go_wp2_with (go_at_call 11; ((with_reducible refine (pieces_any l ln lc (by omega) _ hl).mono ?_); rintro e w1 ⟨s, hs, rfl, hb1⟩))
  obtain ⟨ts, y, p, hq⟩ : ∃ ts y p, scanF s.data.toList = (ts, y, p) := ⟨_, _, _, rfl⟩
  have HQ := Lib.hid hq
  clear hq hl
  have ht1 := (ht.on hb1).up hb1.size
  by_cases hy : y = 0
  · subst hy
    have hq0 := scan_zero (by rw [size_len]; omega) HQ.out
    have hat := lxAt_start (by omega) hq0 rfl
    dsimp only at hat
    have HQ0 := Lib.hid hq0
    obtain ⟨n, hn⟩ : ∃ n, ts.length = n := ⟨_, rfl⟩
    have HN := Lib.hid hn
    have hnl : n ≤ 570 := by
      have h := scan_len _ hq0
      dsimp only at h
      rw [hn, size_len] at h
      omega
    clear HQ hq0 hn
    go_wp2_with (go_at_call 9; ((with_reducible refine (scan_o s ts n HQ0 HN _ ht1).mono ?_); rintro e w2 ⟨A, c, rfl, htk, hb2⟩; have HTK := Lib.hid htk; have hb12 := hb1.trans (hb2.mono hb1.size); clear htk hb2))
    go_loopw [6, 39] (fun a i wr => ∃ k p : Nat, k ≤ n ∧ i = .int .i64 k ∧ a = .int .i64 p ∧ p ≤ s.size ∧ LxAt s p (ts.drop k) ∧ Below w2.heap.size w2 wr) (fun _ i _ => n - (intOf i).toNat)
    case atStart => exact ⟨0, 0, Nat.zero_le _, rfl, rfl, Nat.zero_le _, hat, (Below.refl _ _).alloc (Nat.le_refl _) _⟩
    case round =>
      obtain ⟨k, p, hk, rfl, rfl, hp, hlx, hbr⟩ := hrel
      have hbW := hb12.trans (hbr.mono hb12.size)
      clear hat
      by_cases hlt : k < n
      · obtain ⟨g, rfl, _, hc⟩ := (HTK.out.on hbr) (by rw [HN.out]; omega)
        obtain ⟨t, htt⟩ : ∃ t, ts[k]? = some t := ⟨_, List.getElem?_eq_getElem (by rw [HN.out]; exact hlt)⟩
        have hdr : ts.drop k = t :: ts.drop (k + 1) := by
          obtain ⟨hk2, he⟩ := List.getElem?_eq_some_iff.1 htt
          rw [List.drop_eq_getElem_cons hk2, he]
        rw [hdr] at hlx
        obtain ⟨g1, g2, g3, g4, g5, g6⟩ := lxAt_step hlx
        obtain ⟨t0, t1, t2⟩ := tksC_get ts k t htt
        have a0 := hc _ _ t0
        have a1 := hc _ _ t1
        have a2 := hc _ _ t2
        clear hc t0 t1 t2 htt hdr hlx
        have hTz : (⟨t.text.toArray⟩ : ByteArray).size = t.text.length := rfl
        rw [← hTz] at g2 g3 g5 g6
        clear hTz
        generalize (t.kind : Int) = x0 at a0
        generalize t.pos = pos at *
        generalize (⟨t.text.toArray⟩ : ByteArray) = T at *
        have hte : ((s.extract pos (pos + T.size)).toList == T.toList) = true := by rw [g5]; exact beq_self_eq_true _
        have hten : ((s.extract pos (pos + T.size)).toList != T.toList) = false := by rw [bne, hte]; rfl
        have hne : ¬ T.toList = [] := by
          rw [Lib.toList_data]; intro h
          have h2 := size_len T
          rw [h] at h2; simp at h2; omega
        have hne2 : T.toList.isEmpty = false := by simpa using hne
        have hext : (s.extract p pos).size ≤ 9223372036854775807 := by rw [ByteArray.size_extract]; omega
        have HX := Lib.hid hext
        have H4 := Lib.hid g4
        have H6 := Lib.hid g6
        clear g4 g5 g6 hext
        have c1 : (p : Int) ≤ (pos : Int) := by omega
        have c2 : (pos : Int) + (T.size : Int) ≤ (s.size : Int) := by omega
        have c3 : (0 : Int) ≤ (pos : Int) := by omega
        have c4 : (0 : Int) ≤ (p : Int) := by omega
        have c5 : (pos : Int) ≤ (pos : Int) + (T.size : Int) := by omega
        have c6 : (pos : Int) ≤ (s.size : Int) := by omega
        have c7 : (0 : Int) ≤ (pos : Int) + (T.size : Int) := by omega
        have c8 : ((pos : Int) + (T.size : Int)).toNat = pos + T.size := by omega
        have c9 : IntKind.i64.wrap ((pos : Int) + (T.size : Int)) = (pos : Int) + (T.size : Int) := IntWalk.i64_in _ (by omega)
        go_wp2_with fail
        go_quiet ((go_at_call 14; exact Calls.quiet_of_same (blank_q s p pos HX.out H4 _)))
        clear c8 c9
        go_wp2_with fail
        go_roundw
        case rel => exact ⟨k + 1, pos + T.size, by omega, by go_num, by rw [Int.natCast_add], by omega, H6.out, (below_drewN (hbr.alloc hbr.size _) _)⟩
        case measure => simp [intOf]; omega
      · obtain rfl : k = n := by omega
        have hnil : ts.drop k = [] := List.drop_of_length_le (by rw [HN.out]; exact Nat.le_refl _)
        rw [hnil] at hlx
        have hbl := lxAt_end hlx
        have hext : (s.extract p s.size).size ≤ 9223372036854775807 := by rw [ByteArray.size_extract]; omega
        have HX := Lib.hid hext
        have HBL := Lib.hid hbl
        have ht3 := (ht.on hbW).up hbW.size
        have c4 : (0 : Int) ≤ (p : Int) := by omega
        have c6 : (p : Int) ≤ (s.size : Int) := by omega
        clear hnil hlx hbl hext
        go_wp2_with (first
          | (go_at_call 14; ((with_reducible refine (blank_q s p s.size HX.out HBL _).mono ?_); rintro e w' ⟨rfl, rfl⟩))
          | (go_at_call 3; ((with_reducible refine (examples_any _ ht3).mono ?_); rintro e w9 ⟨rfl, hb9⟩)))
        go_ret
        exact ⟨rfl, hbW.trans (hb9.mono hbW.size)⟩
  · obtain ⟨rfl, hp, _⟩ := scan_err_in (by rw [size_len]; omega) HQ.out hy
    rw [size_len] at hp
    dsimp only at hp
    have b1 : ((y : Int) == 0) = false := beqF (by omega)
    have b2 : ((y : Int) != 0) = true := bneT (by omega)
    have a1 : (0 : Int) ≤ (p : Int) := by omega
    have a2 : (p : Int) < (s.size : Int) := by omega
    clear hy
    go_wp2_with (first
      | (go_at_call 9; ((with_reducible refine (scan_e s [] 0 y p HQ (Lib.hid rfl) _ ht1).mono ?_); rintro e w2 ⟨A, c, rfl, htk, hb2⟩; have hb12 := hb1.trans (hb2.mono hb1.size); have ht2 : ∀ o, Tab (w2.alloc o).heap.size (w2.alloc o) := fun o => (ht.on (hb12.alloc hb12.size o)).up (hb12.alloc hb12.size o).size))
      | (go_at_call 3; ((with_reducible refine (examples_any _ (ht2 _)).mono ?_); rintro e w9 ⟨rfl, hb9⟩)))
    go_ret
    exact ⟨rfl, (hb12.alloc hb12.size _).trans (hb9.mono (hb12.alloc hb12.size _).size)⟩
end Go.Proofs.YtidlacfmcpppoaaDoor.lawLexerOffsets
