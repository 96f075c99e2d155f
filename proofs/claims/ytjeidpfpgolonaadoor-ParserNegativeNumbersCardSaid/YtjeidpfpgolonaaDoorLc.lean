/- Stage 2: the walks of the lexer's isNumber and symbolLength. -/
import Derived.Test.YtjeidpfpgolonaaDoorLb
import Derived.Test.YtjeidpfpgolonaaDoorTs
import Derived.WalkLawsBesides
namespace Go.Proofs.YtjeidpfpgolonaaDoor
open Go.RowKit (wrap64 intOf)
open Go Go.RowKit WM LX

theorem fold_from (l : List UInt8) (n : Nat) : l.foldl nstep n = n * 10 ^ l.length + nfold l := by
  induction l generalizing n with
  | nil => simp [nfold]
  | cons c t ih =>
    have e : nfold (c :: t) = (nstep 0 c) * 10 ^ t.length + nfold t := by unfold nfold; rw [List.foldl_cons]; exact ih _
    have e0 : nstep 0 c = c.toNat - 48 := by unfold nstep; omega
    rw [List.foldl_cons, ih, e, e0, List.length_cons, Nat.pow_succ]
    unfold nstep
    have h1 : (10 * n + (c.toNat - 48)) * 10 ^ t.length = n * (10 ^ t.length * 10) + (c.toNat - 48) * 10 ^ t.length := by
      rw [Nat.add_mul]; congr 1; rw [Nat.mul_comm 10 n, Nat.mul_assoc, Nat.mul_comm 10]
    rw [h1]; omega
theorem nfold_cons (c : UInt8) (t : List UInt8) : nfold (c :: t) = (c.toNat - 48) * 10 ^ t.length + nfold t := by
  have e0 : nstep 0 c = c.toNat - 48 := by unfold nstep; omega
  show (c :: t).foldl nstep 0 = _
  rw [List.foldl_cons, fold_from, e0]
theorem lex_num (a : List UInt8) : ∀ b : List UInt8, a.length = b.length → (∀ c ∈ a, 48 ≤ c.toNat ∧ c.toNat ≤ 57) → (∀ c ∈ b, 48 ≤ c.toNat ∧ c.toNat ≤ 57) →
    (Op.bytesLess a b || a == b) = decide (nfold a ≤ nfold b) := by
  induction a with
  | nil =>
    intro b hl _ _
    cases b with
    | nil => rfl
    | cons _ _ => cases hl
  | cons x a ih =>
    intro b hl ha hb
    cases b with
    | nil => cases hl
    | cons y b =>
      have hl' : a.length = b.length := by simpa using hl
      have hx := ha x (by simp)
      have hy := hb y (by simp)
      have hA := nfold_lt a (fun c hc => (ha c (by simp [hc])).2)
      have hB := nfold_lt b (fun c hc => (hb c (by simp [hc])).2)
      have hi := ih b hl' (fun c hc => ha c (by simp [hc])) (fun c hc => hb c (by simp [hc]))
      rw [nfold_cons, nfold_cons, hl'] 
      rw [hl'] at hA
      generalize 10 ^ b.length = p at hA hB ⊢
      generalize nfold a = na at hA hi ⊢
      generalize nfold b = nb at hB hi ⊢
      have hlt : x < y ↔ x.toNat < y.toNat := UInt8.lt_iff_toNat_lt
      unfold Op.bytesLess
      rcases Nat.lt_trichotomy x.toNat y.toNat with h | h | h
      · have e : (x.toNat - 48 + 1) * p ≤ (y.toNat - 48) * p := Nat.mul_le_mul_right p (by omega)
        rw [Nat.add_mul] at e
        have h1 : decide (x < y) = true := decide_eq_true (hlt.2 h)
        rw [h1, Bool.true_or, Bool.true_or, decide_eq_true (by omega)]
      · have hxy : x = y := UInt8.toNat_inj.1 h
        subst hxy
        have h1 : decide (x < x) = false := decide_eq_false (fun hh => absurd (hlt.1 hh) (by omega))
        rw [h1, Bool.false_or, beq_self_eq_true, Bool.true_and]
        have h2 : (x :: a == x :: b) = (a == b) := by simp
        rw [h2, hi]
        simp
      · have e : (y.toNat - 48 + 1) * p ≤ (x.toNat - 48) * p := Nat.mul_le_mul_right p (by omega)
        rw [Nat.add_mul] at e
        have h1 : decide (x < y) = false := decide_eq_false (fun hh => absurd (hlt.1 hh) (by omega))
        have h2 : (x == y) = false := by rw [beq_eq_false_iff_ne]; intro hh; subst hh; omega
        have h3 : (x :: a == y :: b) = false := by rw [beq_eq_false_iff_ne]; intro hh; injection hh with hh _; subst hh; omega
        rw [h1, h2, h3, decide_eq_false (by omega)]; rfl
def bigNum : List UInt8 := [57, 50, 50, 51, 51, 55, 50, 48, 51, 54, 56, 53, 52, 55, 55, 53, 56, 48, 56]
theorem bigNum_val : nfold bigNum = most63 := by decide +kernel
theorem bigNum_dig : ∀ c ∈ bigNum, 48 ≤ c.toNat ∧ c.toNat ≤ 57 := by decide +kernel
/-- All digits up to k. -/
def DigTo (s : ByteArray) (k : Nat) : Prop := ∀ i, i < k → digB (s.data.toList.getD i 0) = true
theorem digTo_succ {s : ByteArray} {k : Nat} (h : DigTo s k) (hk : k < s.size) (hd : digB s[k] = true) : DigTo s (k + 1) := fun i hi => by
  by_cases e : i = k
  · subst e; rw [getD_at s i hk]; exact hd
  · exact h i (by omega)
theorem digB_le {c : UInt8} (h : digB c = true) : 48 ≤ c.toNat ∧ c.toNat ≤ 57 := by
  unfold digB at h; simpa using h
theorem okc_eq (l : List UInt8) (i : Nat) (h : digB (l.getD i 0) = true) : okc l i = (!(i == 1 && l.getD 0 0 == 48) && decide (i ≤ 18)) := by
  unfold okc; rw [h, Bool.true_and]
theorem num_nodig {s : ByteArray} {j : Nat} (hj : j < s.size) (h : digB s[j] = false) : numB s.data.toList most63 = false := by
  refine numB_bad _ _ j hj ?_
  unfold okc; rw [getD_at s j hj, h]; rfl
theorem list_ne {s : ByteArray} (h : 0 < s.size) : s.data.toList.isEmpty = false := by
  cases hh : s.data.toList with
  | nil => have h2 := size_len s; rw [hh] at h2; simp at h2; omega
  | cons _ _ => rfl
theorem dig_all {s : ByteArray} (h : DigTo s s.size) : ∀ c ∈ s.data.toList, 48 ≤ c.toNat ∧ c.toNat ≤ 57 := fun c hc => by
  obtain ⟨i, hi, rfl⟩ := List.mem_iff_getElem.1 hc
  have := digB_le (h i hi)
  rw [List.getD_eq_getElem?_getD, List.getElem?_eq_getElem hi] at this
  exact this
theorem num_zero {s : ByteArray} (hd : DigTo s s.size) (h0 : 0 < s.size) (h : s[0].toNat = 48) : numB s.data.toList most63 = decide (s.size = 1) := by
  have h48 : s.data.toList.getD 0 0 = 48 := by rw [getD_at s 0 h0]; exact UInt8.toNat_inj.1 h
  by_cases h1 : s.size = 1
  · have ha : allOk s.data.toList = true := allOk_of _ (fun i hi => by
      have : i = 0 := by rw [size_len] at hi; omega
      subst this
      rw [okc_eq _ _ (hd 0 h0)]; rfl)
    have hn : s.data.toList = [48] := by
      cases hh : s.data.toList with
      | nil => have := list_ne h0; rw [hh] at this; cases this
      | cons c t =>
        rw [hh] at h48
        have hl := congrArg List.length hh
        rw [size_len] at hl
        have ht : t = [] := List.eq_nil_of_length_eq_zero (by simp at hl; omega)
        subst ht
        have : c = 48 := h48
        rw [this]
    unfold numB
    rw [ha, list_ne h0, decide_eq_true h1, hn]; rfl
  · rw [decide_eq_false h1]
    refine numB_bad _ _ 1 (by rw [size_len]; omega) ?_
    rw [okc_eq _ _ (hd 1 (by omega)), h48]; rfl
theorem num_big {s : ByteArray} (hd : DigTo s s.size) (h0 : 0 < s.size) (h : s[0].toNat ≠ 48) : numB s.data.toList most63 = (if s.size = 19 then decide (nfold s.data.toList ≤ most63) else decide (s.size < 19)) := by
  have h48 : (s.data.toList.getD 0 0 == 48) = false := by rw [getD_at s 0 h0, beq_eq_false_iff_ne]; intro e; exact h (by rw [e]; rfl)
  have hok : ∀ i, i < s.size → okc s.data.toList i = decide (i ≤ 18) := fun i hi => by
    rw [okc_eq _ _ (hd i hi), h48, Bool.and_false]; rfl
  have hlt := nfold_lt s.data.toList (fun c hc => (dig_all hd c hc).2)
  rw [size_len] at hlt
  by_cases h1 : s.size ≤ 19
  · have ha : allOk s.data.toList = true := allOk_of _ (fun i hi => by rw [size_len] at hi; rw [hok i hi]; exact decide_eq_true (by omega))
    unfold numB
    rw [ha, list_ne h0]
    by_cases h2 : s.size = 19
    · rw [if_pos h2]; rfl
    · rw [if_neg h2, decide_eq_true (by omega : s.size < 19)]
      have : nfold s.data.toList < 10 ^ 18 := Nat.lt_of_lt_of_le hlt (Nat.pow_le_pow_right (by decide) (by omega))
      rw [decide_eq_true (by unfold most63; omega)]; rfl
  · rw [if_neg (by omega), decide_eq_false (by omega : ¬ s.size < 19)]
    refine numB_bad _ _ 19 (by rw [size_len]; omega) ?_
    rw [hok 19 (by omega)]; rfl
theorem num_19 {s : ByteArray} (hd : DigTo s s.size) (h : s.size = 19) : (Op.bytesLess s.data.toList bigNum || s.data.toList == bigNum) = decide (nfold s.data.toList ≤ most63) := by
  rw [lex_num _ _ (by rw [size_len, h]; rfl) (dig_all hd) bigNum_dig, bigNum_val]
theorem lex_list (s : ByteArray) : (Op.bytesLess s.toList [57, 50, 50, 51, 51, 55, 50, 48, 51, 54, 56, 53, 52, 55, 55, 53, 56, 48, 56] || s.toList == [57, 50, 50, 51, 51, 55, 50, 48, 51, 54, 56, 53, 52, 55, 55, 53, 56, 48, 56]) = (Op.bytesLess s.data.toList bigNum || s.data.toList == bigNum) := by
  rw [Lib.toList_data]; rfl
theorem isNumber_any (s : ByteArray) (h0 : 0 < s.size) (hs : s.size ≤ 9223372036854775807) (w : World) :
    Calls Tryd.prog 59 #[.string s] w (IsB (numB s.data.toList most63) w) := by
  go_enter Tryd.func59, Tryd.ntmps59
  go_wp2_with fail
  go_loop [6] (fun i => ∃ j : Nat, j ≤ s.size ∧ DigTo s j ∧ i = .int .i64 j) (fun i => s.size - (intOf i).toNat)
  case atStart => exact ⟨0, Nat.zero_le _, fun i hi => absurd hi (by omega), rfl⟩
  case round =>
    obtain ⟨j, hj, hd, rfl⟩ := hrel
    have HD := Lib.hid hd
    clear hd
    by_cases hlt : j < s.size
    · by_cases hw : digB s[j] = true
      · go_wp2_with (go_at_call 38; ((with_reducible refine (isDigit_any s[j] _).mono ?_); rintro e w' ⟨rfl, rfl⟩))
        go_round
        case rel => exact ⟨j + 1, by omega, digTo_succ HD.out hlt hw, by go_num⟩
        case measure => simp [intOf]; omega
      · have hw : digB s[j] = false := by simpa using hw
        have H := Lib.hid (num_nodig hlt hw)
        go_wp2_with (go_at_call 38; ((with_reducible refine (isDigit_any s[j] _).mono ?_); rintro e w' ⟨rfl, rfl⟩))
        go_ret
        exact isB H.out.symm
    · obtain rfl : j = s.size := by omega
      by_cases h1 : s[0].toNat = 48
      · have H := Lib.hid (num_zero HD.out h0 h1)
        have b1 : ((s[0].toNat : Int) == 48) = true := beqT (by omega)
        clear h1
        go_wp2_with fail
        go_ret
        exact isB (by rw [H.out]; first | rfl | (rw [Bool.eq_iff_iff]; simp; omega))
      · have H := Lib.hid (num_big HD.out h0 h1)
        have b1 : ((s[0].toNat : Int) == 48) = false := beqF (by omega)
        clear h1
        by_cases h2 : s.size = 19
        · have H2 := Lib.hid (num_19 HD.out h2)
          have b2 : ((s.size : Int) == 19) = true := beqT (by omega)
          have b3 : ((s.size : Int) != 19) = false := by rw [bne, b2]; rfl
          have H3 := Lib.hid h2
          clear h2
          go_wp2_with fail
          go_ret
          exact isB (by rw [H.out, if_pos H3.out, ← H2.out, ← lex_list])
        · have b2 : ((s.size : Int) == 19) = false := beqF (by omega)
          have b3 : ((s.size : Int) != 19) = true := by rw [bne, b2]; rfl
          have H3 := Lib.hid h2
          clear h2
          go_wp2_with fail
          go_ret
          exact isB (by rw [H.out, if_neg H3.out]; first | rfl | (rw [Bool.eq_iff_iff]; simp; omega))
end Go.Proofs.YtjeidpfpgolonaaDoor
