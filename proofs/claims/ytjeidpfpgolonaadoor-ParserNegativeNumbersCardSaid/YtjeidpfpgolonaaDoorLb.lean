/- Stage 2: the walks of the lexer's wordAt, endOfLine, skipSeparators. -/
import Derived.Test.YtjeidpfpgolonaaDoorLa
import Derived.Test.YtjeidpfpgolonaaDoorShelf
namespace Go.Proofs.YtjeidpfpgolonaaDoor
open Go.RowKit (wrap64 intOf)
open Go Go.RowKit WM LX

theorem drop_cons (s : ByteArray) (k : Nat) (h : k < s.size) : s.data.toList.drop k = s[k] :: s.data.toList.drop (k + 1) := by
  rw [List.drop_eq_getElem_cons (by simpa using h)]; rfl
theorem drop_end (s : ByteArray) : s.data.toList.drop s.size = [] := List.drop_of_length_le (Nat.le_refl _)
/-- From j on the word ends at E. -/
def WAt (s : ByteArray) (E j : Nat) : Prop := j + wlen (s.data.toList.drop j) = E
theorem wat_step {s : ByteArray} {E j : Nat} (h : WAt s E j) (hj : j < s.size) (hw : wordB s[j] = true) : WAt s E (j + 1) := by
  unfold WAt at *; rw [drop_cons s j hj, wlen_pos hw] at h; omega
theorem wat_stop {s : ByteArray} {E j : Nat} (h : WAt s E j) (hj : j < s.size) (hw : wordB s[j] = false) : E = j := by
  unfold WAt at *; rw [drop_cons s j hj, wlen_zero hw] at h; omega
theorem wat_end {s : ByteArray} {E : Nat} (h : WAt s E s.size) : E = s.size := by
  unfold WAt at *; rw [drop_end] at h; simp [wlen] at h; omega
theorem wordAt_any (s : ByteArray) (k : Nat) (hk : k ≤ s.size) (hs : s.size ≤ 9223372036854775807) (w : World) :
    Calls Tryd.prog 58 #[.string s, .int .i64 (k : Int)] w fun e w' => e = .returned (.string (s.extract k (k + wlen (s.data.toList.drop k)))) ∧ w = w' := by
  obtain ⟨E, hE⟩ : ∃ E, k + wlen (s.data.toList.drop k) = E := ⟨_, rfl⟩
  have hW : WAt s E k := hE
  rw [hE]
  clear hE
  go_enter Tryd.func58, Tryd.ntmps58
  go_wp2_with fail
  go_loop [5] (fun i => ∃ j : Nat, k ≤ j ∧ j ≤ s.size ∧ WAt s E j ∧ i = .int .i64 j) (fun i => s.size - (intOf i).toNat)
  case atStart => exact ⟨k, Nat.le_refl _, hk, hW, rfl⟩
  case round =>
    obtain ⟨j, hkj, hj, hwj, rfl⟩ := hrel
    clear hW
    by_cases hlt : j < s.size
    · by_cases hw : wordB s[j] = true
      · go_wp2_with (go_at_call 40; ((with_reducible refine (isWord_any s[j] _).mono ?_); rintro e w' ⟨rfl, rfl⟩))
        go_round
        case rel => exact ⟨j + 1, by omega, by omega, wat_step hwj hlt hw, by go_num⟩
        case measure => simp [intOf]; omega
      · have hw : wordB s[j] = false := by simpa using hw
        obtain rfl := wat_stop hwj hlt hw
        go_wp2_with (go_at_call 40; ((with_reducible refine (isWord_any s[E] _).mono ?_); rintro e w' ⟨rfl, rfl⟩))
        go_ret
        exact ⟨rfl, rfl⟩
    · obtain rfl : j = s.size := by omega
      obtain rfl := wat_end hwj
      go_wp2_with fail
      go_ret
      exact ⟨rfl, rfl⟩
theorem index_eol (l : List UInt8) : (eol l = l.length ∧ Lib.indexByte l 10 = -1) ∨ (eol l < l.length ∧ Lib.indexByte l 10 = (eol l : Int)) := by
  induction l with
  | nil => exact Or.inl ⟨rfl, rfl⟩
  | cons c t ih =>
    by_cases h : c.toNat = 10
    · have hc : (c == 10) = true := by rw [beq_iff_eq]; exact UInt8.toNat_inj.1 h
      exact Or.inr ⟨by rw [eol_nl t h]; simp, by rw [eol_nl t h, Lib.indexByte, if_pos hc]; rfl⟩
    · have hc : (c == 10) = false := by rw [beq_eq_false_iff_ne]; intro e; exact h (by rw [e]; rfl)
      rw [eol_cons t h, Lib.indexByte, hc]
      rcases ih with ⟨h1, h2⟩ | ⟨h1, h2⟩
      · exact Or.inl ⟨by rw [h1]; rfl, by rw [h2]; rfl⟩
      · refine Or.inr ⟨by simp; omega, ?_⟩
        have h3 : ((eol t : Int) == -1) = false := by rw [beq_eq_false_iff_ne]; omega
        rw [h2, h3]; rfl
theorem tail_list (s : ByteArray) (k : Nat) : (s.extract k s.size).data.toList = s.data.toList.drop k := by
  rw [Lib.extract_data, List.take_of_length_le (by rw [List.length_drop]; exact Nat.le_refl _)]
theorem index_at (s : ByteArray) (k : Nat) (v : Int) (hv : Hid (Lib.indexByte (s.data.toList.drop k) 10 = v)) (w : World) :
    Calls Tryd.prog 57 #[.string (s.extract k s.size), .int .u8 10] w fun e w' => e = .returned (.int .i64 v) ∧ w = w' :=
  (Tryd.strings_IndexByte (s.extract k s.size) 10 w).mono fun e w' ⟨h1, h2⟩ => ⟨h1.trans (by rw [tail_list]; exact congrArg (fun v => Ending.returned (.int .i64 v)) hv.out), h2.symm⟩
theorem ret_i64 {a b : Int} (h : a = b) : Ending.returned (.int .i64 a) = .returned (.int .i64 b) := by rw [h]
theorem endOfLine_any (s : ByteArray) (k : Nat) (hk : k ≤ s.size) (hs : s.size ≤ 9223372036854775807) (w : World) :
    Calls Tryd.prog 37 #[.string s, .int .i64 (k : Int)] w fun e w' => e = .returned (.int .i64 ((k + eol (s.data.toList.drop k) : Nat) : Int)) ∧ w = w' := by
  have hlen : (s.data.toList.drop k).length = s.size - k := by rw [List.length_drop]; rfl
  obtain ⟨n, hn⟩ : ∃ n, eol (s.data.toList.drop k) = n := ⟨_, rfl⟩
  rcases index_eol (s.data.toList.drop k) with ⟨h1, h2⟩ | ⟨h1, h2⟩
  all_goals
    rw [hn, hlen] at h1
    rw [hn]
    try rw [hn] at h2
    have H := Lib.hid h2
    clear hn hlen h2
  · have H1 := Lib.hid h1
    clear h1
    go_enter Tryd.func37, Tryd.ntmps37
    go_wp2_with (go_at_call 57; ((with_reducible refine (index_at s k _ H _).mono ?_); rintro e w' ⟨rfl, rfl⟩))
    go_ret
    exact ⟨ret_i64 (by have := H1.out; omega), rfl⟩
  · go_enter Tryd.func37, Tryd.ntmps37
    go_wp2_with (go_at_call 57; ((with_reducible refine (index_at s k _ H _).mono ?_); rintro e w' ⟨rfl, rfl⟩))
    go_ret
    exact ⟨ret_i64 (by omega), rfl⟩

theorem endOfLine_at (s : ByteArray) (k E : Nat) (hk : k ≤ s.size) (hs : s.size ≤ 9223372036854775807) (h : Hid (k + eol (s.data.toList.drop k) = E)) (w : World) :
    Calls Tryd.prog 37 #[.string s, .int .i64 (k : Int)] w fun e w' => e = .returned (.int .i64 (E : Int)) ∧ w = w' := by
  obtain rfl := h.out
  exact endOfLine_any s k hk hs w
/-- From j on the next token starts at E. -/
def SAt (s : ByteArray) (E j : Nat) : Prop := j + skipLen false (s.data.toList.drop j) = E
theorem sat_sep {s : ByteArray} {E j : Nat} (h : SAt s E j) (hj : j < s.size) (hw : sepB s[j] = true) : SAt s E (j + 1) := by
  unfold SAt at *; rw [drop_cons s j hj, skip_sep _ hw] at h; omega
theorem sat_hash {s : ByteArray} {E j : Nat} (h : SAt s E j) (hj : j < s.size) (hw : s[j].toNat = 35) : SAt s E (j + eol (s.data.toList.drop j)) := by
  unfold SAt at *; rw [drop_cons s j hj, skip_hash _ hw, ← drop_cons s j hj, List.drop_drop] at h; omega
theorem sat_stop {s : ByteArray} {E j : Nat} (h : SAt s E j) (hj : j < s.size) (hw : sepB s[j] = false) (h2 : s[j].toNat ≠ 35) : E = j := by
  unfold SAt at *; rw [drop_cons s j hj, skip_zero _ hw h2] at h; omega
theorem sat_end {s : ByteArray} {E : Nat} (h : SAt s E s.size) : E = s.size := by
  unfold SAt at *; rw [drop_end] at h; simp [skipLen] at h; omega
theorem eol_hash {s : ByteArray} {j : Nat} (hj : j < s.size) (hw : s[j].toNat = 35) : 1 ≤ eol (s.data.toList.drop j) ∧ j + eol (s.data.toList.drop j) ≤ s.size := by
  have h1 := eol_le (s.data.toList.drop j)
  rw [List.length_drop, size_len] at h1
  rw [drop_cons s j hj, eol_cons _ (by omega)] at h1 ⊢
  omega
theorem sep_cases (c : UInt8) : ((c.toNat : Int) = 32 ∨ (c.toNat : Int) = 9 ∨ (c.toNat : Int) = 10 ∨ (c.toNat : Int) = 13) ∧ sepB c = true ∨ ((c.toNat : Int) ≠ 32 ∧ (c.toNat : Int) ≠ 9 ∧ (c.toNat : Int) ≠ 10 ∧ (c.toNat : Int) ≠ 13) ∧ sepB c = false := by
  by_cases h : c.toNat = 32 ∨ c.toNat = 9 ∨ c.toNat = 10 ∨ c.toNat = 13
  · exact Or.inl ⟨by omega, by unfold sepB; simp [h, or_assoc]⟩
  · exact Or.inr ⟨by omega, by unfold sepB; simp; omega⟩
theorem beqF {a b : Int} (h : a ≠ b) : (a == b) = false := by rw [beq_eq_false_iff_ne]; exact h
theorem beqT {a b : Int} (h : a = b) : (a == b) = true := by rw [beq_iff_eq]; exact h
theorem skip_any (s : ByteArray) (k : Nat) (hk : k ≤ s.size) (hs : s.size ≤ 9223372036854775807) (w : World) :
    Calls Tryd.prog 20 #[.string s, .int .i64 (k : Int)] w fun e w' => e = .returned (.int .i64 ((k + skipLen false (s.data.toList.drop k) : Nat) : Int)) ∧ w = w' := by
  obtain ⟨E, hE⟩ : ∃ E, k + skipLen false (s.data.toList.drop k) = E := ⟨_, rfl⟩
  have hW : SAt s E k := hE
  rw [hE]
  clear hE
  go_enter Tryd.func20, Tryd.ntmps20
  go_wp2_with fail
  go_loop [1] (fun i => ∃ j : Nat, j ≤ s.size ∧ SAt s E j ∧ i = .int .i64 j) (fun i => s.size - (intOf i).toNat)
  case atStart => exact ⟨k, hk, hW, rfl⟩
  case round =>
    obtain ⟨j, hj, hwj, rfl⟩ := hrel
    clear hW
    by_cases hlt : j < s.size
    · rcases sep_cases s[j] with ⟨h, hw⟩ | ⟨⟨h1, h2, h3, h4⟩, hw⟩
      · have H := sat_sep hwj hlt hw
        clear hw hwj
        rcases h with h | h | h | h
        all_goals
          have b1 := beqT h
          try have b2 : ((s[j].toNat : Int) == 32) = false := beqF (by omega)
          try have b3 : ((s[j].toNat : Int) == 9) = false := beqF (by omega)
          try have b4 : ((s[j].toNat : Int) == 10) = false := beqF (by omega)
          clear h
          go_wp2_with fail
          go_round
          case rel => exact ⟨j + 1, by omega, H, by go_num⟩
          case measure => simp [intOf]; omega
      · have b1 := beqF h1
        have b2 := beqF h2
        have b3 := beqF h3
        have b4 := beqF h4
        clear h1 h2 h3 h4
        by_cases h5 : s[j].toNat = 35
        · have b5 : ((s[j].toNat : Int) == 35) = true := beqT (by omega)
          have H := sat_hash hwj hlt h5
          obtain ⟨g1, g2⟩ := eol_hash hlt h5
          clear h5 hwj hw
          generalize he : j + eol (s.data.toList.drop j) = E' at H g2
          have HE := Lib.hid he
          have g3 : j < E' := by omega
          clear he g1
          go_wp2_with (go_at_call 37; ((with_reducible refine (endOfLine_at s j E' hj hs HE _).mono ?_); rintro e w' ⟨rfl, rfl⟩))
          go_round
          case rel => exact ⟨E', g2, H, rfl⟩
          case measure => simp [intOf]; omega
        · have b5 : ((s[j].toNat : Int) == 35) = false := beqF (by omega)
          obtain rfl := sat_stop hwj hlt hw h5
          clear h5 hw
          go_wp2_with fail
          go_ret
          exact ⟨rfl, rfl⟩
    · obtain rfl : j = s.size := by omega
      obtain rfl := sat_end hwj
      go_wp2_with fail
      go_ret
      exact ⟨rfl, rfl⟩
end Go.Proofs.YtjeidpfpgolonaaDoor
