/- Stage 2: the walk of the reference's symbol. -/
import Derived.Test.YtidlacfmcpppoaaDoorLf
import Derived.Test.YtidlacfmcpppoaaDoorMw
import Derived.Deep.QuietTactic
import Derived.BigQuiet
namespace Go.Proofs.YtidlacfmcpppoaaDoor
open Go.RowKit (wrap64 intOf)
open Go Go.RowKit WM LX

theorem prefix_test (s p : ByteArray) : ((s.extract 0 p.size).toList == p.toList) = p.data.toList.isPrefixOf s.data.toList := by
  rw [Lib.toList_data, Lib.toList_data, Lib.extract_data, List.drop_zero, Nat.sub_zero, Bool.eq_iff_iff, beq_iff_eq, List.isPrefixOf_iff_prefix, List.prefix_iff_eq_take]
  rw [show p.data.toList.length = p.size from rfl]
  exact ⟨fun h => h.symm, fun h => h.symm⟩
theorem prefix_short (s p : ByteArray) (h : s.size < p.size) : p.data.toList.isPrefixOf s.data.toList = false := by
  apply Classical.byContradiction; intro hn
  have : p.data.toList.isPrefixOf s.data.toList = true := by simpa using hn
  have := (List.isPrefixOf_iff_prefix.1 this).length_le
  rw [size_len, size_len] at this; omega
theorem longCell (k : Nat) (hk : k < 7) : ∃ p : ByteArray, longCells[k]? = some (.string p) ∧ p.data.toList = longs.getD k [] := by
  have hc : k = 0 ∨ k = 1 ∨ k = 2 ∨ k = 3 ∨ k = 4 ∨ k = 5 ∨ k = 6 := by omega
  rcases hc with rfl | rfl | rfl | rfl | rfl | rfl | rfl
  all_goals exact ⟨_, rfl, rfl⟩
def NoShort (c : UInt8) (m : Nat) : Prop := ∀ i, i < m → (c == shorts.getD i 0) = false
theorem noShort_succ {c : UInt8} {m : Nat} (h : NoShort c m) (hm : (c == shorts.getD m 0) = false) : NoShort c (m + 1) := fun i hi => by
  by_cases e : i = m
  · subst e; exact hm
  · exact h i (by omega)
theorem noShort_all {c : UInt8} (h : NoShort c 23) : shorts.contains c = false := by
  apply Classical.byContradiction; intro hn
  have hc : shorts.contains c = true := by simpa using hn
  rw [List.contains_iff_mem] at hc
  obtain ⟨i, hi, he⟩ := List.mem_iff_getElem.1 hc
  have := h i hi
  rw [List.getD_eq_getElem?_getD, List.getElem?_eq_getElem hi] at this
  rw [← he] at this
  simp at this
theorem short_mem {c : UInt8} {m : Nat} (hm : m < 23) (h : (c == shorts.getD m 0) = true) : shorts.contains c = true := by
  rw [List.contains_iff_mem]
  have hi : m < shorts.length := hm
  rw [List.getD_eq_getElem?_getD, List.getElem?_eq_getElem hi, beq_iff_eq] at h
  rw [h]
  exact List.getElem_mem hi
theorem short_byte (c : UInt8) (m : Nat) (hm : m < 23) : (((c.toNat : Int)) == (((⟨#[43, 45, 42, 47, 37, 38, 124, 94, 126, 33, 60, 62, 61, 63, 58, 59, 44, 40, 41, 123, 125, 91, 93]⟩ : ByteArray)[m]'hm).toNat : Int)) = (c == shorts.getD m 0) := by
  have e : (⟨#[43, 45, 42, 47, 37, 38, 124, 94, 126, 33, 60, 62, 61, 63, 58, 59, 44, 40, 41, 123, 125, 91, 93]⟩ : ByteArray)[m]'hm = shorts.getD m 0 := by
    have hi : m < shorts.length := hm
    rw [List.getD_eq_getElem?_getD, List.getElem?_eq_getElem hi]; rfl
  rw [e, Bool.eq_iff_iff, beq_iff_eq, beq_iff_eq]
  exact ⟨fun h => UInt8.toNat_inj.1 (by omega), fun h => by rw [h]⟩
set_option maxRecDepth 100000
theorem rsymbol_any (s : ByteArray) (h0 : 0 < s.size) (hs : s.size ≤ 9223372036854775807) (w : World) :
    Calls Tryd.prog 24 #[.string s] w (RetB (.string ⟨(s.data.toList.take (symLen s.data.toList)).toArray⟩) w.heap.size w) := by
  obtain ⟨T, hT⟩ : ∃ T : List UInt8, s.data.toList.take (symLen s.data.toList) = T := ⟨_, rfl⟩
  rw [hT]
  have HT := Lib.hid hT
  clear hT
  go_enter Tryd.func24, Tryd.ntmps24
  go_wp2_with fail
  go_loopw [4] (fun i wr => ∃ j : Nat, j ≤ 7 ∧ NoLong s.data.toList j ∧ i = .int .i64 j ∧ Below w.heap.size w wr ∧ Blk wr w.heap.size 9 longCells) (fun i _ => 7 - (intOf i).toNat)
  case atStart => exact ⟨0, Nat.zero_le _, fun i hi => absurd hi (by omega), rfl, (Below.refl _ _).alloc (Nat.le_refl _) _, Blk.new _ _ _⟩
  case round =>
    obtain ⟨j, hj, hd, rfl, hbel, hblk⟩ := hrel
    have HD := Lib.hid hd
    have HB := Lib.hid hblk
    clear hd hblk
    by_cases hlt : j < 7
    · obtain ⟨p, hcp, hp⟩ := longCell j hlt
      have hc := (HB.out.cell j).trans hcp
      have hps : p.size = (longs.getD j []).length := by rw [← hp]; rfl
      obtain ⟨hs1, hs2⟩ := longs_size j hlt
      rw [← hps] at hs1 hs2
      have HP := Lib.hid hp
      clear hcp hps hp
      by_cases hsz : p.size ≤ s.size
      · obtain ⟨b, hb⟩ : ∃ b, ((s.extract 0 p.size).toList == p.toList) = b := ⟨_, rfl⟩
        have hpre := prefix_test s p
        rw [hb] at hpre
        have HPR := Lib.hid hpre
        clear hpre
        cases b
        · go_wp2_with fail
          go_quiet (fail)
          go_wp2_with fail
          go_roundw
          case rel => exact ⟨j + 1, by omega, noLong_succ HD.out (by rw [← HP.out]; exact HPR.out.symm), by go_num, below_drewN hbel _, HB.out.drewN _⟩
          case measure => simp [intOf]; omega
        · have e := long_first hlt HD.out (by rw [← HP.out]; exact HPR.out.symm)
          have e2 : symLen s.data.toList = p.size := by
            unfold symLen
            rw [e, ← HP.out, if_neg (by rw [size_len]; omega)]; rfl
          have e3 : p = ⟨T.toArray⟩ := by
            apply ByteArray.ext
            apply Array.toList_inj.1
            have h1 := List.prefix_iff_eq_take.1 (List.isPrefixOf_iff_prefix.1 HPR.out.symm)
            rw [size_len] at h1
            rw [← HT.out, e2, ← h1]
          have H3 := Lib.hid e3
          clear e e2 e3
          go_wp2_with fail
          go_quiet (fail)
          go_wp2_with fail
          go_ret
          exact retB (by rw [H3.out]; rfl) (below_drewN hbel _)
      · have hpre := prefix_short s p (by omega)
        have hd1 : decide ((p.size : Int) ≤ (s.size : Int)) = false := decide_eq_false (by omega)
        have HPR := Lib.hid hpre
        clear hpre
        go_wp2_with fail
        go_quiet (fail)
        go_wp2_with fail
        go_roundw
        case rel => exact ⟨j + 1, by omega, noLong_succ HD.out (by rw [← HP.out]; exact HPR.out), by go_num, below_drewN hbel _, HB.out.drewN _⟩
        case measure => simp [intOf]; omega
    · obtain rfl : j = 7 := by omega
      have hsn := sym_none HD.out
      have hh := head_at s 0 h0
      rw [List.drop_zero] at hh
      rw [hh] at hsn
      have HS := Lib.hid hsn
      clear hsn hh
      have a1 : (0 : Int) < (s.size : Int) := by omega
      go_wp2_with fail
      go_loopw [6] (fun i wq => ∃ m : Nat, m ≤ 23 ∧ NoShort s[0] m ∧ i = .int .i64 m ∧ Below w.heap.size w wq) (fun i _ => 23 - (intOf i).toNat)
      case atStart => exact ⟨0, Nat.zero_le _, fun i hi => absurd hi (by omega), rfl, hbel⟩
      case round =>
        obtain ⟨m, hm, hns, rfl, hbq⟩ := hrel
        have HN := Lib.hid hns
        clear hns
        by_cases hm2 : m < 23
        · have hsb := short_byte s[0] m hm2
          obtain ⟨b, hb⟩ : ∃ b, (s[0] == shorts.getD m 0) = b := ⟨_, rfl⟩
          rw [hb] at hsb
          have HBB := Lib.hid hb
          clear hb
          cases b
          · go_wp2_with fail
            go_quiet (fail)
            go_wp2_with fail
            go_roundw
            case rel => exact ⟨m + 1, by omega, noShort_succ HN.out HBB.out, by go_num, below_drewN hbq _⟩
            case measure => simp [intOf]; omega
          · go_wp2_with fail
            go_quiet (fail)
            go_wp2_with fail
            go_ret
            refine retB ?_ (below_drewN hbq _)
            have e := HS.out
            rw [short_mem hm2 HBB.out, if_pos rfl] at e
            have e2 := HT.out
            rw [e] at e2
            have e3 := text_eq s 0 1
            rw [List.drop_zero, e2] at e3
            exact congrArg Value.string e3
        · obtain rfl : m = 23 := by omega
          go_wp2_with fail
          go_ret
          refine retB ?_ hbq
          have e := HS.out
          rw [noShort_all HN.out, if_neg (by decide)] at e
          have e2 := HT.out
          rw [e, List.take_zero] at e2
          rw [← e2]; rfl
end Go.Proofs.YtidlacfmcpppoaaDoor
