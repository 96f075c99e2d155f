/- The walk of the reference's Number. -/
import Derived.Test.YtjeidpfpgolonaaDoorRf
import Derived.Test.YtjeidpfpgolonaaDoorWp
namespace Go.Proofs.YtjeidpfpgolonaaDoor
open Go Go.RowKit WM

theorem getD_at (s : ByteArray) (i : Nat) (h : i < s.size) : s.data.toList.getD i 0 = s[i] := by
  rw [List.getD_eq_getElem?_getD, List.getElem?_eq_getElem (by simpa using h)]; rfl
theorem size_len (s : ByteArray) : s.data.toList.length = s.size := rfl
theorem nfold_take (s : ByteArray) (k : Nat) (h : k < s.size) : nfold (s.data.toList.take (k + 1)) = 10 * nfold (s.data.toList.take k) + (s[k].toNat - 48) := by
  rw [take_snoc s k h, nfold_snoc]
theorem nfold_bound (s : ByteArray) (k : Nat) (hk : k ≤ s.size) (h : ∀ i, i < k → okc s.data.toList i = true) : nfold (s.data.toList.take k) < 10 ^ k := by
  have h1 := nfold_lt (s.data.toList.take k) (fun c hc => by
    obtain ⟨i, hi, rfl⟩ := List.mem_iff_getElem.1 hc
    rw [List.length_take] at hi
    have := okc_parts (h i (by omega))
    rw [getD_at s i (by omega)] at this
    rw [List.getElem_take]
    exact this.2.1)
  rwa [List.length_take, size_len, Nat.min_eq_left hk] at h1

def NumP (l : List UInt8) (most : Nat) (w : World) (e : Ending) (w' : World) : Prop := e = .returned (.tuple #[.int .u64 (numV l most : Int), .bool (numB l most)]) ∧ w = w'
theorem numP_bad {l : List UInt8} {most i : Nat} {w : World} (hi : i < l.length) (h : okc l i = false) : NumP l most w (.returned (.tuple #[.int .u64 0, .bool false])) w := by
  have hb := numB_bad l most i hi h
  unfold NumP numV
  rw [hb]; exact ⟨rfl, rfl⟩

theorem numP_no {l : List UInt8} {most : Nat} {w : World} (h : numB l most = false) : NumP l most w (.returned (.tuple #[.int .u64 0, .bool false])) w := by
  unfold NumP numV
  rw [h]; exact ⟨rfl, rfl⟩
theorem numP_yes {l : List UInt8} {most N : Nat} {w : World} (h : numB l most = true) (hv : numV l most = N) : NumP l most w (.returned (.tuple #[.int .u64 (N : Int), .bool true])) w := by
  unfold NumP
  rw [h, hv]; exact ⟨rfl, rfl⟩
theorem u64_num {a b : Int} (h : a = b) : Value.int .u64 a = Value.int .u64 b := by rw [h]
def OkTo (s : ByteArray) (k : Nat) : Prop := ∀ i, i < k → okc s.data.toList i = true
theorem okTo_succ {s : ByteArray} {k : Nat} (h : OkTo s k) (hk : okc s.data.toList k = true) : OkTo s (k + 1) := fun i hi => by
  by_cases e : i = k
  · subst e; exact hk
  · exact h i (by omega)
theorem okc_at {s : ByteArray} {k : Nat} (hk : k < s.size) (c1 : ¬ (s[k].toNat : Int) < 48) (c2 : ¬ (57 : Int) < (s[k].toNat : Int)) (h3 : k = 1 → ∀ h0 : 0 < s.size, ((s[0].toNat : Int) == 48) = false) (h4 : k ≤ 18) : okc s.data.toList k = true := by
  have e := getD_at s k hk
  refine okc_mk (by rw [e]; omega) (by rw [e]; omega) (fun h1 => ?_) h4
  have h0 : 0 < s.size := by omega
  rw [getD_at s 0 h0]
  intro h48
  have := h3 h1 h0
  rw [h48] at this
  exact absurd this (by decide)
set_option maxRecDepth 100000
set_option maxHeartbeats 1000000 in
theorem number_any (s : ByteArray) (most : Nat) (hs : s.size ≤ 9223372036854775807) (w : World) :
    Calls Tryd.prog 24 #[.string s, .int .u64 (most : Int)] w (NumP s.data.toList most w) := by
  go_enter Tryd.func24, Tryd.ntmps24
  go_wp2_with fail
  go_loop [6, 7] (fun n i => ∃ k : Nat, k ≤ s.size ∧ OkTo s k ∧ i = .int .i64 k ∧ n = .int .u64 (nfold (s.data.toList.take k) : Int)) (fun _ i => s.size - (intOf i).toNat)
  case atStart => exact ⟨0, Nat.zero_le _, fun i hi => absurd hi (by omega), rfl, rfl⟩
  case round =>
    obtain ⟨k, hk, hok, rfl, rfl⟩ := hrel
    have HOK := Lib.hid hok
    clear hok
    by_cases hlt : k < s.size
    · by_cases c1 : (s[k].toNat : Int) < 48
      · go_wp2_with fail
        go_ret2
        exact numP_bad (i := k) hlt (by
          apply Classical.byContradiction; intro hn
          have := okc_parts (by simpa using hn : okc s.data.toList k = true)
          rw [getD_at s k hlt] at this; omega)
      by_cases c2 : (57 : Int) < (s[k].toNat : Int)
      · go_wp2_with fail
        go_ret2
        exact numP_bad (i := k) hlt (by
          apply Classical.byContradiction; intro hn
          have := okc_parts (by simpa using hn : okc s.data.toList k = true)
          rw [getD_at s k hlt] at this; omega)
      by_cases c4 : 18 < k
      · go_wp2_with fail
        go_ret2
        exact numP_bad (i := k) hlt (by
          apply Classical.byContradiction; intro hn
          have := okc_parts (by simpa using hn : okc s.data.toList k = true)
          omega)
      have hN := nfold_bound s k hk HOK.out
      have hN18 : nfold (s.data.toList.take k) < 10 ^ 18 := Nat.lt_of_lt_of_le hN (Nat.pow_le_pow_right (by decide) (by omega))
      have hnt := nfold_take s k hlt
      clear hN
      generalize hgen : nfold (s.data.toList.take k) = N at hN18 hnt
      have HT := Lib.hid hnt
      have HG := Lib.hid hgen
      clear hnt hgen
      have hN0 : (N : Int) ≤ 999999999999999999 := by omega
      by_cases c3 : k = 1
      · subst c3
        have h0 : 0 < s.size := by omega
        by_cases c5 : ((s[0].toNat : Int) == 48) = true
        · go_wp2_with fail
          go_ret2
          exact numP_bad (i := 1) hlt (by
            apply Classical.byContradiction; intro hn
            have := okc_parts (by simpa using hn : okc s.data.toList 1 = true)
            apply this.2.2.1
            refine ⟨rfl, ?_⟩
            rw [getD_at s 0 h0]
            rw [beq_iff_eq] at c5
            apply UInt8.toNat_inj.1
            have e3 : (48 : UInt8).toNat = 48 := rfl
            omega)
        · have c6 : ((s[0].toNat : Int) == 48) = false := by simpa using c5
          clear c5
          go_wp2_with fail
          go_round
          case rel => exact ⟨2, by omega, okTo_succ HOK.out (okc_at hlt c1 c2 (fun _ _ => c6) (by omega)), rfl, u64_num (by rw [HT.out]; omega)⟩
          case measure => simp [intOf]; omega
      · go_wp2_with fail
        go_round
        case rel => exact ⟨k + 1, by omega, okTo_succ HOK.out (okc_at hlt c1 c2 (fun h => absurd h c3) (by omega)), by go_num, u64_num (by rw [HT.out]; omega)⟩
        case measure => simp [intOf]; omega
    · obtain rfl : k = s.size := by omega
      have hfull : s.data.toList.take s.size = s.data.toList := List.take_of_length_le (by rw [size_len]; exact Nat.le_refl _)
      rw [hfull]
      have HF := Lib.hid hfull
      clear hfull
      have htl : s.toList = s.data.toList := Lib.toList_data s
      have hall : allOk s.data.toList = true := allOk_of _ (fun i hi => HOK.out i (by rwa [size_len] at hi))
      by_cases hz : s.data.toList = []
      · have z1 : s.toList = [] := htl.trans hz
        have z2 : s.toList.isEmpty = true := by rw [z1]; rfl
        have hb : numB s.data.toList most = false := by unfold numB; rw [hz]; rfl
        have HB := Lib.hid hb
        clear hz hb hall htl
        go_wp2_with fail
        go_ret2
        exact numP_no HB.out
      · have z1 : ¬ s.toList = [] := by rw [htl]; exact hz
        have z2 : s.toList.isEmpty = false := by simpa using z1
        have z3 : s.data.toList.isEmpty = false := by simpa using hz
        generalize hgen : nfold s.data.toList = N
        by_cases hmost : most < N
        · have hb : numB s.data.toList most = false := by unfold numB; rw [hgen, decide_eq_false (by omega), Bool.and_false]
          have HB := Lib.hid hb
          clear hz hb hall htl hgen z3
          go_wp2_with fail
          go_ret2
          exact numP_no HB.out
        · have hb : numB s.data.toList most = true := by unfold numB; rw [hgen, decide_eq_true (by omega), hall, z3]; rfl
          have hv : numV s.data.toList most = N := by unfold numV; rw [hb, hgen]; rfl
          have HB := Lib.hid hb
          have HV := Lib.hid hv
          clear hz hb hv hall htl hgen z3
          go_wp2_with fail
          go_ret2
          exact numP_yes HB.out HV.out

theorem number_at (s : ByteArray) (most : Nat) (M V : Int) (b : Bool) (hs : s.size ≤ 9223372036854775807) (hM : M = (most : Int)) (hV : (numV s.data.toList most : Int) = V) (hb : numB s.data.toList most = b) (w : World) :
    Calls Tryd.prog 24 #[.string s, .int .u64 M] w fun e w' => e = .returned (.tuple #[.int .u64 V, .bool b]) ∧ w = w' := by
  subst hM
  exact (number_any s most hs w).mono fun e w' ⟨h1, h2⟩ => ⟨h1.trans (by rw [hV, hb]), h2⟩
theorem most1 : (9223372036854775807 : Int) = ((9223372036854775807 : Nat) : Int) := rfl
theorem most2 : (9223372036854775808 : Int) = ((9223372036854775808 : Nat) : Int) := rfl
theorem numV_le (l : List UInt8) (most : Nat) : numV l most ≤ most := by
  by_cases h : numB l most = true
  · exact (num_canon h).2.1
  · unfold numV; rw [if_neg h]; omega
end Go.Proofs.YtjeidpfpgolonaaDoor
