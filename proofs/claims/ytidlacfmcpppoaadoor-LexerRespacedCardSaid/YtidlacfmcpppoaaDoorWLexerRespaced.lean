/- LexerRespaced returns true for all slices of integers and all notes. Conditions: none but the row's own (the library's tables start as the program's text lays them; the card ties them). -/
import Derived.Test.YtidlacfmcpppoaaDoorLs
import Derived.Test.YtidlacfmcpppoaaDoorLu
import Derived.IntWalk
import Derived.Deep.QuietTactic
import Derived.BigQuiet
namespace Go.Proofs.YtidlacfmcpppoaaDoor.lawLexerRespaced
open Go Go.ChangeShapes Go.WideShapes Go.ChangeAt Go.RowKit WM LX
open Go.ChangeMaps (open_string)

set_option maxRecDepth 100000 in
set_option maxHeartbeats 2000000 in
theorem walk (W : World) (l : Option Addr) (ln lc : Nat) (note : ByteArray) (hln : ln ≤ maxLen) (hl : Ints W W.heap.size l ln) (_hnote : note.size ≤ maxLen) (ht : Tab W.heap.size W) :
    Calls Tryd.prog 6 #[.slice l ln lc, .string note] W fun e w' => e = .returned (.bool true) ∧ Below W.heap.size W w' := by
  have hln2 : ln ≤ 9223372036854775807 := hln
  clear hln
  go_enter Tryd.func6, Tryd.ntmps6
  go_wp2_with fail
  refine (pieces_any l ln lc hln2 _ hl).mono ?_
  rintro e w1 ⟨s, hs, rfl, hb1⟩
  have ht1 := (ht.on hb1).up hb1.size
  obtain ⟨ts, y, p, hq⟩ : ∃ ts y p, scanF s.data.toList = (ts, y, p) := ⟨_, _, _, rfl⟩
  obtain ⟨n, hn⟩ : ∃ n, ts.length = n := ⟨_, rfl⟩
  have HN := Lib.hid hn
  have HQ := Lib.hid hq
  clear hn hq hl
  by_cases hy : y = 0
  · subst hy
    have hq0 := scan_zero (by rw [size_len]; omega) HQ.out
    have hn2 : n ≤ 570 := by
      have h := scan_len _ hq0
      dsimp only at h
      rw [HN.out, size_len] at h; omega
    have hsp : (sp ts).length ≤ 1140 := by
      have h := lx_sp_len s.data.toList 0
      rw [(scan_ok_in (by rw [size_len]; omega) hq0 rfl).1, size_len] at h
      dsimp only at h
      omega
    have HQ0 := Lib.hid hq0
    have HSP := Lib.hid hsp
    clear hq0 hsp
    go_wp2_with fail
    with_reducible refine (scan_o s ts n HQ0 HN _ ht1).mono ?_
    rintro e w2 ⟨A, c, rfl, htk, hb2⟩
    have HTK := Lib.hid htk
    have hb12 := hb1.trans (hb2.mono hb1.size)
    clear htk hb2
    go_wp2_with fail
    go_loopw [7, 25] (fun v i wr => ∃ (k : Nat) (S : ByteArray), k ≤ n ∧ i = .int .i64 k ∧ v = .string S ∧ S.data.toList = sp (ts.take k) ∧ Below w2.heap.size w2 wr) (fun _ i _ => n - (intOf i).toNat)
    case atStart => exact ⟨0, ⟨#[]⟩, Nat.zero_le _, rfl, rfl, rfl, (Below.refl _ _).alloc (Nat.le_refl _) _⟩
    case round =>
      obtain ⟨k, S, hk, rfl, rfl, hS, hbr⟩ := hrel
      have hS2 : S.size ≤ 1140 := by
        have h := sp_take ts k
        rw [← hS, size_len] at h
        have := HSP.out; omega
      have HS := Lib.hid hS
      clear hS
      by_cases hlt : k < n
      · obtain ⟨g, rfl, _, hc⟩ := (HTK.out.on hbr) (by rw [HN.out]; omega)
        obtain ⟨t, htt⟩ : ∃ t, ts[k]? = some t := ⟨_, List.getElem?_eq_getElem (by rw [HN.out]; exact hlt)⟩
        obtain ⟨t0, t1, t2⟩ := tksC_get ts k t htt
        have a0 := hc _ _ t0
        have a1 := hc _ _ t1
        have a2 := hc _ _ t2
        have hnx := sp_next htt HS.out
        have hnz : (⟨t.text.toArray⟩ : ByteArray).size ≤ 1140 := by
          have h := sp_take ts (k + 1)
          rw [← hnx, size_len, ByteArray.size_append] at h
          have := HSP.out; omega
        have HNX := Lib.hid hnx
        clear hc t0 t1 t2 htt hnx
        generalize (t.kind : Int) = x0 at a0
        generalize (t.pos : Int) = x2 at a2
        generalize (⟨t.text.toArray⟩ : ByteArray) = T at a1 HNX hnz
        go_wp2_with fail
        go_roundw
        case rel => exact ⟨k + 1, S ++ ⟨#[32]⟩ ++ T, by omega, by go_num, rfl, HNX.out, hbr.alloc hbr.size _⟩
        case measure => simp [intOf]; omega
      · obtain rfl : k = n := by omega
        have hS3 := HS.out
        rw [List.take_of_length_le (by rw [HN.out]; exact Nat.le_refl _)] at hS3
        have HS3 := Lib.hid hS3
        have hbW := hb12.trans (hbr.mono hb12.size)
        have htW := (ht.on hbW).up hbW.size
        clear hS3 HS
        go_wp2_with fail
        refine (line_any note _).mono ?_
        rintro e w' ⟨L, hL, hLn, rfl, rfl⟩
        have H3 := Lib.hid (sp_scan (by omega) HQ0.out HS3.out hL hLn)
        have HNR := Lib.hid ((resp_length ts 0).trans HN.out)
        clear hLn
        go_wp2_with fail
        with_reducible refine (scan_o (S ++ ⟨#[32, 35, 32]⟩ ++ L) (resp 0 ts) k H3 HNR _ htW).mono ?_
        rintro e w5 ⟨C, c3, rfl, htC, hb5⟩
        have HTC := Lib.hid htC
        have hb15 := hbW.trans (hb5.mono hbW.size)
        have hbr5 := hbr.trans (hb5.mono hbr.size)
        clear htC hb5
        go_wp2_with fail
        go_loopw [56] (fun i wq => ∃ j : Nat, j ≤ k ∧ i = .int .i64 j ∧ Below w5.heap.size w5 wq) (fun i _ => k - (intOf i).toNat)
        case atStart => exact ⟨0, Nat.zero_le _, rfl, (Below.refl _ _).alloc (Nat.le_refl _) _⟩
        case round =>
          obtain ⟨j, hj, rfl, hbq⟩ := hrel
          have hbA := hbr5.trans (hbq.mono hbr5.size)
          by_cases hjk : j < k
          · obtain ⟨gc, rfl, _, hcc⟩ := (HTC.out.on hbq) (by rw [HNR.out]; omega)
            obtain ⟨ga, rfl, _, hca⟩ := (HTK.out.on hbA) (by rw [HN.out]; omega)
            obtain ⟨x, hx⟩ : ∃ x, ts[j]? = some x := ⟨_, List.getElem?_eq_getElem (by rw [HN.out]; exact hjk)⟩
            obtain ⟨q, hx2⟩ := resp_get ts 0 j x hx
            obtain ⟨t0, t1, _⟩ := tksC_get ts j x hx
            obtain ⟨u0, u1, _⟩ := tksC_get _ j _ hx2
            have a0 := hca _ _ t0
            have a1 := hca _ _ t1
            have b0 : _ = some (Value.int .i64 (x.kind : Int)) := hcc _ _ u0
            have b1 : _ = some (Value.string ⟨x.text.toArray⟩) := hcc _ _ u1
            clear hca hcc t0 t1 u0 u1 hx hx2
            generalize (x.kind : Int) = x0 at a0 b0
            generalize (⟨x.text.toArray⟩ : ByteArray) = x1 at a1 b1
            go_wp2_with fail
            go_quiet (fail)
            go_wp2_with fail
            go_roundw
            case rel => exact ⟨j + 1, by omega, by go_num, below_drewN hbq _⟩
            case measure => simp [intOf]; omega
          · obtain rfl : j = k := by omega
            have hb16 := hb15.trans (hbq.mono hb15.size)
            have ht6 := (ht.on hb16).up hb16.size
            go_wp2_with (go_at_call 3; ((with_reducible refine (examples_any _ ht6).mono ?_); rintro e w9 ⟨rfl, hb9⟩))
            go_ret
            exact ⟨rfl, hb16.trans (hb9.mono hb16.size)⟩
  · have b1 : ((y : Int) == 0) = false := beqF (by omega)
    have b2 : ((y : Int) != 0) = true := bneT (by omega)
    clear hy
    go_wp2_with fail
    with_reducible refine (scan_e s ts n y p HQ HN _ ht1).mono ?_
    rintro e w2 ⟨A, c, rfl, htk, hb2⟩
    have hb12 := hb1.trans (hb2.mono hb1.size)
    have ht2 : ∀ o, Tab (w2.alloc o).heap.size (w2.alloc o) := fun o => (ht.on (hb12.alloc hb12.size o)).up (hb12.alloc hb12.size o).size
    clear htk hb2
    go_wp2_with (go_at_call 3; ((with_reducible refine (examples_any _ (ht2 _)).mono ?_); rintro e w9 ⟨rfl, hb9⟩))
    go_ret
    exact ⟨rfl, (hb12.alloc hb12.size _).trans (hb9.mono (hb12.alloc hb12.size _).size)⟩
end Go.Proofs.YtidlacfmcpppoaaDoor.lawLexerRespaced
