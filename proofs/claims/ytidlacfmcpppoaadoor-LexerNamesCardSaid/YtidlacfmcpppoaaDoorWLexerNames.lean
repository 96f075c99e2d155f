/- LexerNames returns true for all slices of integers. Conditions: none but the row's own (the library's tables start as the program's text lays them; the card ties them). -/
import Derived.Test.YtidlacfmcpppoaaDoorLs
import Derived.Test.YtidlacfmcpppoaaDoorLr
import Derived.IntWalk
import Derived.Deep.QuietTactic
import Derived.BigQuiet
namespace Go.Proofs.YtidlacfmcpppoaaDoor.lawLexerNames
open Go Go.ChangeShapes Go.WideShapes Go.ChangeAt Go.RowKit WM LX
open Go.ChangeMaps (open_string)

set_option maxRecDepth 100000 in
set_option maxHeartbeats 2000000 in
theorem walk (W : World) (l : Option Addr) (ln lc : Nat) (hln : ln ≤ maxLen) (hl : Ints W W.heap.size l ln) (ht : Tab W.heap.size W) :
    Calls Tryd.prog 8 #[.slice l ln lc] W fun e w' => e = .returned (.bool true) ∧ Below W.heap.size W w' := by
  have hln2 : ln ≤ 9223372036854775807 := hln
  have HI := Lib.hid hl
  clear hl
  go_enter Tryd.func8, Tryd.ntmps8
  go_wp2_with fail
  go_loopw [3, 4] (fun v i wr => ∃ (k : Nat) (s : ByteArray), k ≤ ln ∧ k ≤ 20 ∧ i = .int .i64 k ∧ v = .string s ∧ s.size = k + 1 ∧ NameL s.data.toList ∧ Below W.heap.size W wr) (fun _ i _ => ln - (intOf i).toNat)
  case atStart => exact ⟨0, ⟨#[110]⟩, Nat.zero_le _, by omega, rfl, rfl, rfl, ⟨⟨[], rfl⟩, by decide +kernel⟩, Below.refl _ _⟩
  case round =>
    obtain ⟨k, s, hk, hk2, rfl, rfl, hs, hnm, hbel⟩ := hrel
    have HNM := Lib.hid hnm
    have HS := Lib.hid hs
    have hs2 : s.size ≤ 21 := by omega
    clear hnm hs
    by_cases hc : k < ln ∧ k < 20
    · obtain ⟨hlt, hlt2⟩ := hc
      obtain ⟨a, z, rfl, hab, hcz⟩ := (HI.out.on hbel) k hlt
      obtain ⟨p, hp⟩ : ∃ p : Nat, z % 5 = (p : Int) := ⟨(z % 5).toNat, by omega⟩
      have hp5 : p < 5 := by omega
      obtain ⟨x, hx, hxs, hxw⟩ := nameCell p hp5
      have hcx := ((Blk.new wr 9 nameCells).cell p).trans hx
      have hcz2 := fun o => (World.cell?_alloc_lt wr o (a.add k) (by rw [add_block]; exact Nat.lt_of_lt_of_le hab hbel.size)).trans hcz
      have HP := Lib.hid hp
      have HXS := Lib.hid hxs
      have HXW := Lib.hid hxw
      have hx2 : x.size ≤ 1 := by omega
      clear hx hp hxs hxw hcz
      go_wp2_with (go_at_call 16; ((with_reducible refine (pick_any _ 5 _ (by decide) (by decide) HP.out _).mono ?_); rintro e w' ⟨rfl, rfl⟩))
      go_roundw
      case rel => exact ⟨k + 1, s ++ x, by omega, by omega, by go_num, rfl, by rw [ByteArray.size_append, HS.out, HXS.out], nameL_snoc HNM.out HXW.out, hbel.alloc hbel.size _⟩
      case measure => simp [intOf]; omega
    · have ht1 := (ht.on hbel).up hbel.size
      have hcs : (k < ln ∧ ¬ k < 20) ∨ ¬ k < ln := by omega
      clear hc
      by_cases hl16 : 16 < s.size
      · have d1 : (16 : Int) < (s.size : Int) := by omega
        rcases hcs with ⟨e1, e2⟩ | e1
        all_goals
          go_wp2_with (first
            | (go_at_call 9; ((with_reducible refine (name_callL s HNM.out hl16 (by omega) _ ht1).mono ?_); rintro e w2 ⟨A, c, rfl, htk, hb2⟩; have hb12 := hbel.trans (hb2.mono hbel.size); have ht2 : ∀ o, Tab (w2.alloc o).heap.size (w2.alloc o) := fun o => (ht.on (hb12.alloc hb12.size o)).up (hb12.alloc hb12.size o).size))
            | (go_at_call 3; ((with_reducible refine (examples_any _ (ht2 _)).mono ?_); rintro e w9 ⟨rfl, hb9⟩)))
          go_ret
          exact ⟨rfl, (hb12.alloc hb12.size _).trans (hb9.mono (hb12.alloc hb12.size _).size)⟩
      · have d1 : (s.size : Int) ≤ 16 := by omega
        rcases hcs with ⟨e1, e2⟩ | e1
        all_goals
          go_wp2_with (first
            | (go_at_call 9; ((with_reducible refine (name_callS s HNM.out hl16 _ ht1).mono ?_); rintro e w2 ⟨A, c, rfl, htk, hb2⟩; have hb12 := hbel.trans (hb2.mono hbel.size); have ht2 : ∀ o, Tab (w2.alloc o).heap.size (w2.alloc o) := fun o => (ht.on (hb12.alloc hb12.size o)).up (hb12.alloc hb12.size o).size; obtain ⟨g, rfl, hg, t3, t4, t5⟩ := name_cells htk; clear htk))
            | (go_at_call 3; ((with_reducible refine (examples_any _ (ht2 _)).mono ?_); rintro e w9 ⟨rfl, hb9⟩)))
          go_ret
          exact ⟨rfl, (hb12.alloc hb12.size _).trans (hb9.mono (hb12.alloc hb12.size _).size)⟩
end Go.Proofs.YtidlacfmcpppoaaDoor.lawLexerNames
