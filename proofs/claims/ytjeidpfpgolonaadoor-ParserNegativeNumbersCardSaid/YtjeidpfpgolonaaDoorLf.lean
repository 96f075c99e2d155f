/- Stage 2: the walk of the lexer's scanToken. -/
import Derived.Test.YtjeidpfpgolonaaDoorLe
namespace Go.Proofs.YtjeidpfpgolonaaDoor
open Go.RowKit (wrap64 intOf)
open Go Go.RowKit WM LX

theorem head_at (s : ByteArray) (k : Nat) (h : k < s.size) : (s.data.toList.drop k).headD 0 = s[k] := by rw [drop_cons s k h]; rfl
theorem text_data (s : ByteArray) (k n : Nat) : (s.extract k (k + n)).data.toList = (s.data.toList.drop k).take n := by
  rw [Lib.extract_data, Nat.add_sub_cancel_left]
theorem text_eq (s : ByteArray) (k n : Nat) : s.extract k (k + n) = ⟨((s.data.toList.drop k).take n).toArray⟩ := by
  apply ByteArray.ext
  apply Array.toList_inj.1
  rw [text_data]
theorem text_size (s : ByteArray) (k n : Nat) (h : k + n ≤ s.size) : (s.extract k (k + n)).size = n := by
  rw [ByteArray.size_extract]; omega
theorem drop_len (s : ByteArray) (k : Nat) : (s.data.toList.drop k).length = s.size - k := by rw [List.length_drop]; rfl
theorem drop_ne (s : ByteArray) (k : Nat) (h : k < s.size) : s.data.toList.drop k ≠ [] := by rw [drop_cons s k h]; simp
theorem word_let {c : UInt8} (h : letB c = true) : wordB c = true := by unfold wordB; rw [h]; rfl
theorem word_dig {c : UInt8} (h : digB c = true) : wordB c = true := by unfold wordB; rw [h, Bool.or_true]
theorem let_dig {c : UInt8} (h : letB c = true) : digB c = false := by
  rcases byte_cases c with ⟨_, _, _, h'⟩ | ⟨_, _, _, h'⟩ | ⟨_, _, h'⟩ | ⟨_, _, h', _⟩ | ⟨_, h', _⟩
  · exact h'
  · exact h'
  · exact h'
  · rw [h] at h'; cases h'
  · rw [h] at h'; cases h'
/-- Where a number starts. -/
theorem tok_dig {s : ByteArray} {k : Nat} (hk : k < s.size) (h : digB s[k] = true) : tokK (s.data.toList.drop k) = 2 ∧ tokN (s.data.toList.drop k) = wlen (s.data.toList.drop k) ∧
    tokE (s.data.toList.drop k) = (if numB ((s.data.toList.drop k).take (wlen (s.data.toList.drop k))) most63 then 0 else 2) := by
  unfold tokK tokN tokE
  rw [head_at s k hk, h, word_dig h]
  exact ⟨rfl, rfl, rfl⟩
theorem tok_let {s : ByteArray} {k : Nat} (hk : k < s.size) (h : letB s[k] = true) : tokK (s.data.toList.drop k) = 1 ∧ tokN (s.data.toList.drop k) = wlen (s.data.toList.drop k) ∧
    tokE (s.data.toList.drop k) = (if 16 < wlen (s.data.toList.drop k) then 6 else 0) := by
  unfold tokK tokN tokE
  rw [head_at s k hk, let_dig h, h, word_let h]
  exact ⟨rfl, rfl, rfl⟩
theorem tok_sym {s : ByteArray} {k : Nat} (hk : k < s.size) (h : letB s[k] = false) (h' : digB s[k] = false) : tokK (s.data.toList.drop k) = 3 ∧ tokN (s.data.toList.drop k) = symLen (s.data.toList.drop k) ∧
    tokE (s.data.toList.drop k) = (if symLen (s.data.toList.drop k) = 0 then 2 else 0) := by
  unfold tokK tokN tokE
  rw [head_at s k hk, h, h', word_of h h']
  exact ⟨rfl, rfl, rfl⟩
theorem wlen_at {s : ByteArray} {k : Nat} (hk : k < s.size) (h : wordB s[k] = true) : 1 ≤ wlen (s.data.toList.drop k) ∧ k + wlen (s.data.toList.drop k) ≤ s.size := by
  have h1 := wlen_le (s.data.toList.drop k)
  rw [drop_len] at h1
  rw [drop_cons s k hk, wlen_pos h] at h1 ⊢
  omega
theorem symLen_at_le {s : ByteArray} {k : Nat} (hk : k < s.size) : k + symLen (s.data.toList.drop k) ≤ s.size := by
  have h1 := symLen_le (drop_ne s k hk)
  rw [drop_len] at h1
  omega
/-- What scanToken answers at k. -/
def tokRet (s : ByteArray) (k : Nat) : Value :=
  if tokE (s.data.toList.drop k) = 0 then tkRet (tokK (s.data.toList.drop k) : Nat) (s.extract k (k + tokN (s.data.toList.drop k))) k 0 else tkRet 0 ⟨#[]⟩ 0 (tokE (s.data.toList.drop k) : Nat)
theorem tokRet_ok {s : ByteArray} {k : Nat} (h : tokE (s.data.toList.drop k) = 0) : tokRet s k = tkRet (tokK (s.data.toList.drop k) : Nat) (s.extract k (k + tokN (s.data.toList.drop k))) k 0 := by unfold tokRet; rw [if_pos h]
theorem tokRet_err {s : ByteArray} {k : Nat} (h : tokE (s.data.toList.drop k) ≠ 0) : tokRet s k = tkRet 0 ⟨#[]⟩ 0 (tokE (s.data.toList.drop k) : Nat) := by unfold tokRet; rw [if_neg h]
theorem scanNumber_any (s : ByteArray) (k : Nat) (hk : k < s.size) (hs : s.size ≤ 9223372036854775807) (h : digB s[k] = true) (B : Nat) (w : World) (hB : B ≤ w.heap.size) :
    Calls Tryd.prog 39 #[.string s, .int .i64 (k : Int)] w (RetB (tokRet s k) B w) := by
  obtain ⟨e1, e2, e3⟩ := tok_dig hk h
  obtain ⟨g1, g2⟩ := wlen_at hk (word_dig h)
  have g3 := text_size s k _ g2
  have hd := text_data s k (wlen (s.data.toList.drop k))
  by_cases hn : numB ((s.data.toList.drop k).take (wlen (s.data.toList.drop k))) most63 = true
  · rw [if_pos hn] at e3
    rw [tokRet_ok e3, e1, e2]
    exact scanNumber_ok s _ k hk hs (Lib.hid rfl) (by rw [g3]; omega) (by rw [g3]; omega) (Lib.hid (by rw [hd]; exact hn)) B w hB
  · have hn : numB ((s.data.toList.drop k).take (wlen (s.data.toList.drop k))) most63 = false := by simpa using hn
    rw [hn] at e3
    rw [tokRet_err (by rw [e3]; decide), e3]
    exact scanNumber_err s _ k hk hs (Lib.hid rfl) (by rw [g3]; omega) (by rw [g3]; omega) (Lib.hid (by rw [hd]; exact hn)) B w hB
theorem scanName_any (s : ByteArray) (k : Nat) (hk : k < s.size) (hs : s.size ≤ 9223372036854775807) (h : letB s[k] = true) (B : Nat) (w : World) (hB : B ≤ w.heap.size) :
    Calls Tryd.prog 41 #[.string s, .int .i64 (k : Int)] w (RetB (tokRet s k) B w) := by
  obtain ⟨e1, e2, e3⟩ := tok_let hk h
  obtain ⟨g1, g2⟩ := wlen_at hk (word_let h)
  have g3 := text_size s k _ g2
  by_cases hn : 16 < wlen (s.data.toList.drop k)
  · rw [if_pos hn] at e3
    rw [tokRet_err (by rw [e3]; decide), e3]
    exact scanName_err s _ k hk hs (Lib.hid rfl) (by rw [g3]; exact hn) B w hB
  · rw [if_neg hn] at e3
    rw [tokRet_ok e3, e1, e2]
    exact scanName_ok s _ k hk hs (Lib.hid rfl) (by rw [g3]; omega) B w hB
theorem scanSymbol_any (s : ByteArray) (k : Nat) (hk : k < s.size) (hs : s.size ≤ 9223372036854775807) (h : letB s[k] = false) (h' : digB s[k] = false) (B : Nat) (w : World) (hB : B ≤ w.heap.size) (ht : Tab B w) :
    Calls Tryd.prog 42 #[.string s, .int .i64 (k : Int)] w (RetB (tokRet s k) B w) := by
  obtain ⟨e1, e2, e3⟩ := tok_sym hk h h'
  by_cases hn : symLen (s.data.toList.drop k) = 0
  · rw [if_pos hn] at e3
    rw [tokRet_err (by rw [e3]; decide), e3]
    exact scanSymbol_err s k hk hs (Lib.hid hn) B w hB ht
  · rw [if_neg hn] at e3
    rw [tokRet_ok e3, e1, e2]
    exact scanSymbol_ok s k _ hk hs (Lib.hid rfl) (by omega) (symLen_at_le hk) B w hB ht
theorem tokRet_form (s : ByteArray) (k : Nat) : ∃ a t p y, tokRet s k = tkRet a t p y := by
  unfold tokRet; split
  · exact ⟨_, _, _, _, rfl⟩
  · exact ⟨_, _, _, _, rfl⟩
theorem scanToken_any (s : ByteArray) (k : Nat) (hk : k < s.size) (hs : s.size ≤ 9223372036854775807) (B : Nat) (w : World) (hB : B ≤ w.heap.size) (ht : Tab B w) :
    Calls Tryd.prog 21 #[.string s, .int .i64 (k : Int)] w (RetB (tokRet s k) B w) := by
  obtain ⟨a, t, p, y, hr⟩ := tokRet_form s k
  have hbel : ∀ o, Below B w (w.alloc o) := fun o => (Below.refl _ _).alloc hB o
  have hle : ∀ o, B ≤ (w.alloc o).heap.size := fun o => Nat.le_trans hB (hbel o).size
  rw [hr]
  have HR := Lib.hid hr
  clear hr
  by_cases h : digB s[k] = true
  · have hc : ∀ o, Calls Tryd.prog 39 #[.string s, .int .i64 (k : Int)] (w.alloc o) (RetB (tkRet a t p y) (w.alloc o).heap.size (w.alloc o)) := fun o => by
      rw [← HR.out]; exact scanNumber_any s k hk hs h _ _ (Nat.le_refl _)
    have HC := Lib.hid hc
    clear hc
    go_enter Tryd.func21, Tryd.ntmps21
    go_wp2_with (first
      | (go_at_call 38; ((with_reducible refine (isDigit_any s[k] _).mono ?_); rintro e w' ⟨rfl, rfl⟩))
      | (go_at_call 39; ((with_reducible refine (HC.out _).mono ?_); rintro e w1 ⟨rfl, hb1⟩; obtain ⟨hc, hf⟩ := bcell hb1)))
    exact bodyPost_ret (v := tkRet a t p y) (by simp [results, Tryd.results21, go_sem, hc]) rfl (retB rfl (((((hbel _).trans (hb1.mono (hle _))).setCell hB _).setCell hB _).setCell hB _))
  · have h : digB s[k] = false := by simpa using h
    by_cases h2 : letB s[k] = true
    · have hc : ∀ o, Calls Tryd.prog 41 #[.string s, .int .i64 (k : Int)] (w.alloc o) (RetB (tkRet a t p y) (w.alloc o).heap.size (w.alloc o)) := fun o => by
        rw [← HR.out]; exact scanName_any s k hk hs h2 _ _ (Nat.le_refl _)
      have HC := Lib.hid hc
      have h3 := word_let h2
      clear hc h2
      go_enter Tryd.func21, Tryd.ntmps21
      go_wp2_with (first
        | (go_at_call 38; ((with_reducible refine (isDigit_any s[k] _).mono ?_); rintro e w' ⟨rfl, rfl⟩))
        | (go_at_call 40; ((with_reducible refine (isWord_any s[k] _).mono ?_); rintro e w' ⟨rfl, rfl⟩))
        | (go_at_call 41; ((with_reducible refine (HC.out _).mono ?_); rintro e w1 ⟨rfl, hb1⟩; obtain ⟨hc, hf⟩ := bcell hb1)))
      exact bodyPost_ret (v := tkRet a t p y) (by simp [results, Tryd.results21, go_sem, hc]) rfl (retB rfl (((((hbel _).trans (hb1.mono (hle _))).setCell hB _).setCell hB _).setCell hB _))
    · have h2 : letB s[k] = false := by simpa using h2
      have ht2 : ∀ o, Tab (w.alloc o).heap.size (w.alloc o) := fun o => (ht.on (hbel o)).up (hle o)
      have hc : ∀ o, Calls Tryd.prog 42 #[.string s, .int .i64 (k : Int)] (w.alloc o) (RetB (tkRet a t p y) (w.alloc o).heap.size (w.alloc o)) := fun o => by
        rw [← HR.out]; exact scanSymbol_any s k hk hs h2 h _ _ (Nat.le_refl _) (ht2 o)
      have HC := Lib.hid hc
      have h3 := word_of h2 h
      rw [Bool.or_self] at h3
      clear hc h2 ht2
      go_enter Tryd.func21, Tryd.ntmps21
      go_wp2_with (first
        | (go_at_call 38; ((with_reducible refine (isDigit_any s[k] _).mono ?_); rintro e w' ⟨rfl, rfl⟩))
        | (go_at_call 40; ((with_reducible refine (isWord_any s[k] _).mono ?_); rintro e w' ⟨rfl, rfl⟩))
        | (go_at_call 42; ((with_reducible refine (HC.out _).mono ?_); rintro e w1 ⟨rfl, hb1⟩; obtain ⟨hc, hf⟩ := bcell hb1)))
      exact bodyPost_ret (v := tkRet a t p y) (by simp [results, Tryd.results21, go_sem, hc]) rfl (retB rfl (((((hbel _).trans (hb1.mono (hle _))).setCell hB _).setCell hB _).setCell hB _))
end Go.Proofs.YtjeidpfpgolonaaDoor
