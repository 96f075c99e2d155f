/- Stage 2: what the laws say of the plain lexer. -/
import Derived.Test.YtidlacfmcpppoaaDoorLp
namespace Go.Proofs.YtidlacfmcpppoaaDoor
open Go Go.RowKit WM LX

theorem lx_ind {P : List UInt8 → Nat → Prop} (h0 : ∀ l p, l.drop (skipLen false l) = [] → P l p) (h1 : ∀ l p, l.drop (skipLen false l) ≠ [] → tokE (l.drop (skipLen false l)) ≠ 0 → P l p)
    (h2 : ∀ l p, l.drop (skipLen false l) ≠ [] → tokE (l.drop (skipLen false l)) = 0 →
      P ((l.drop (skipLen false l)).drop (tokN (l.drop (skipLen false l)))) (p + skipLen false l + tokN (l.drop (skipLen false l))) → P l p) (l : List UInt8) (p : Nat) : P l p := by
  have h : ∀ n, ∀ l : List UInt8, l.length = n → ∀ p, P l p := by
    intro n
    induction n using Nat.strongRecOn with
    | _ n ih =>
      intro l hl p
      by_cases hr : l.drop (skipLen false l) = []
      · exact h0 l p hr
      · by_cases he : tokE (l.drop (skipLen false l)) = 0
        · refine h2 l p hr he (ih _ ?_ _ rfl _)
          have hp := tokN_pos hr he
          have hl2 : 1 ≤ (l.drop (skipLen false l)).length := by
            cases hh : l.drop (skipLen false l) with
            | nil => exact absurd hh hr
            | cons a t => simp
          rw [List.length_drop] at hl2
          rw [List.length_drop, List.length_drop]
          omega
        · exact h1 l p hr he
  exact h l.length l rfl p
theorem lx_0 {l : List UInt8} {p : Nat} (h : l.drop (skipLen false l) = []) : lx l p = ([], 0, 0) := by rw [lx, dif_pos h]
theorem lx_1 {l : List UInt8} {p : Nat} (h : l.drop (skipLen false l) ≠ []) (he : tokE (l.drop (skipLen false l)) ≠ 0) : lx l p = ([], tokE (l.drop (skipLen false l)), p + skipLen false l) := by
  rw [lx, dif_neg h, dif_neg he]
theorem lx_2 {l : List UInt8} {p : Nat} (h : l.drop (skipLen false l) ≠ []) (he : tokE (l.drop (skipLen false l)) = 0) :
    lx l p = (⟨tokK (l.drop (skipLen false l)), (l.drop (skipLen false l)).take (tokN (l.drop (skipLen false l))), p + skipLen false l⟩ ::
      (lx ((l.drop (skipLen false l)).drop (tokN (l.drop (skipLen false l)))) (p + skipLen false l + tokN (l.drop (skipLen false l)))).1, (lx ((l.drop (skipLen false l)).drop (tokN (l.drop (skipLen false l)))) (p + skipLen false l + tokN (l.drop (skipLen false l)))).2) := by
  rw [lx, dif_neg h, dif_pos he]
theorem drop_some {l : List UInt8} {n : Nat} (h : l.drop n ≠ []) : n < l.length := by
  apply Classical.byContradiction; intro hn
  exact h (List.drop_of_length_le (by omega))
/-- An error stands inside the text. -/
theorem lx_err_in (l : List UInt8) (p : Nat) : (lx l p).2.1 ≠ 0 → p ≤ (lx l p).2.2 ∧ (lx l p).2.2 < p + l.length := by
  refine lx_ind (P := fun l p => (lx l p).2.1 ≠ 0 → p ≤ (lx l p).2.2 ∧ (lx l p).2.2 < p + l.length) ?_ ?_ ?_ l p
  · intro l p h hne
    rw [lx_0 h] at hne; exact absurd rfl hne
  · intro l p h he _
    rw [lx_1 h he]
    have := drop_some h
    exact ⟨Nat.le_add_right _ _, by show p + skipLen false l < _; omega⟩
  · intro l p h he ih hne
    rw [lx_2 h he] at hne ⊢
    dsimp only at hne ⊢
    have h1 := drop_some h
    have h2 := ih hne
    have h3 := tokN_le h
    rw [List.length_drop] at h3
    rw [List.length_drop, List.length_drop] at h2
    omega
theorem lx_len (l : List UInt8) (p : Nat) : (lx l p).1.length ≤ l.length := by
  refine lx_ind (P := fun l p => (lx l p).1.length ≤ l.length) ?_ ?_ ?_ l p
  · intro l p h; rw [lx_0 h]; exact Nat.zero_le _
  · intro l p h he; rw [lx_1 h he]; exact Nat.zero_le _
  · intro l p h he ih
    rw [lx_2 h he, List.length_cons]
    have h1 := drop_some h
    have h2 := tokN_pos h he
    rw [List.length_drop, List.length_drop] at ih
    omega
theorem scan_len (l : List UInt8) {q : List Tk × Nat × Nat} (h : scanF l = q) : q.1.length ≤ l.length := by
  subst h
  unfold scanF
  split
  · exact Nat.zero_le _
  · split
    · exact lx_len l 0
    · exact Nat.zero_le _
theorem lx_poss (l : List UInt8) (p : Nat) : ∀ t ∈ (lx l p).1, t.pos < p + l.length := by
  refine lx_ind (P := fun l p => ∀ t ∈ (lx l p).1, t.pos < p + l.length) ?_ ?_ ?_ l p
  · intro l p h t ht; rw [lx_0 h] at ht; cases ht
  · intro l p h he t ht; rw [lx_1 h he] at ht; cases ht
  · intro l p h he ih t ht
    rw [lx_2 h he] at ht
    have h1 := drop_some h
    have h2 := tokN_le h
    rw [List.length_drop] at h2
    rcases List.mem_cons.1 ht with rfl | ht
    · show p + skipLen false l < _; omega
    · have := ih t ht
      rw [List.length_drop, List.length_drop] at this
      omega
theorem lx_pos {l : List UInt8} {ts : List Tk} {y p : Nat} (h : scanF l = (ts, y, p)) {t : Tk} (ht : t ∈ ts) : t.pos < l.length := by
  unfold scanF at h
  split at h
  · injection h with h1 _; subst h1; cases ht
  · split at h
    · injection h with h1 _; subst h1
      have := lx_poss l 0 t ht; omega
    · injection h with h1 _; subst h1; cases ht
theorem scan_err_in {l : List UInt8} {q : List Tk × Nat × Nat} (hl : l.length ≤ 20000) (h : scanF l = q) (he : q.2.1 ≠ 0) : q.1 = [] ∧ q.2.2 < l.length ∧ q.2 = (lx l 0).2 := by
  unfold scanF at h
  rw [if_neg (by omega)] at h
  by_cases h0 : (lx l 0).2.1 = 0
  · rw [if_pos h0] at h; subst h; exact absurd rfl he
  · rw [if_neg h0] at h
    subst h
    have := lx_err_in l 0 h0
    exact ⟨rfl, by have := this.2; show (lx l 0).2.2 < _; omega, rfl⟩
theorem scan_ok_in {l : List UInt8} {q : List Tk × Nat × Nat} (hl : l.length ≤ 20000) (h : scanF l = q) (he : q.2.1 = 0) : (lx l 0).1 = q.1 ∧ (lx l 0).2.1 = 0 := by
  unfold scanF at h
  rw [if_neg (by omega)] at h
  by_cases h0 : (lx l 0).2.1 = 0
  · rw [if_pos h0] at h; subst h; exact ⟨rfl, h0⟩
  · rw [if_neg h0] at h
    subst h
    exact absurd he h0
theorem scan_e (s : ByteArray) (ts : List Tk) (n y p : Nat) (hq : Hid (scanF s.data.toList = (ts, y, p))) (hn : Hid (ts.length = n)) (w : World) (ht : Tab w.heap.size w) :
    Calls Tryd.prog 9 #[.string s] w (ExS n ts (y : Int) (p : Int) w) := by
  obtain rfl := hn.out
  exact (scan_q s _ hq w ht).mono fun _ _ h => h
theorem scan_o (s : ByteArray) (ts : List Tk) (n : Nat) (hq : Hid (scanF s.data.toList = (ts, 0, 0))) (hn : Hid (ts.length = n)) (w : World) (ht : Tab w.heap.size w) :
    Calls Tryd.prog 9 #[.string s] w (ExS n ts 0 0 w) := scan_e s ts n 0 0 hq hn w ht
theorem scan_zero {l : List UInt8} {ts : List Tk} {p : Nat} (hl : l.length ≤ 20000) (h : scanF l = (ts, 0, p)) : scanF l = (ts, 0, 0) := by
  have h2 := h
  unfold scanF at h2
  rw [if_neg (by omega)] at h2
  by_cases h0 : (lx l 0).2.1 = 0
  · rw [if_pos h0] at h2
    injection h2 with _ h3
    injection h3 with _ h4
    rw [h, ← h4]
  · rw [if_neg h0] at h2
    have h3 := congrArg Prod.snd h2
    have h4 : (lx l 0).2.1 = 0 := congrArg Prod.fst h3
    exact absurd h4 h0
theorem blank_q (s : ByteArray) (p q : Nat) (hs : (s.extract p q).size ≤ 9223372036854775807) (hb : Hid (BlankAt (s.extract p q) false 0)) (w : World) :
    Calls Tryd.prog 14 #[.string (s.extract p q)] w fun e w' => e = .returned (.bool true) ∧ w' = w :=
  (blank_true _ hs hb.out w).mono fun _ _ ⟨h1, h2⟩ => ⟨h1, h2.symm⟩
/-- From offset p on there are just the tokens us, and no error. -/
def LxAt (s : ByteArray) (p : Nat) (us : List Tk) : Prop := (lx (s.data.toList.drop p) p).1 = us ∧ (lx (s.data.toList.drop p) p).2.1 = 0
theorem lxAt_start {s : ByteArray} {q : List Tk × Nat × Nat} (hl : s.size ≤ 20000) (h : scanF s.data.toList = q) (he : q.2.1 = 0) : LxAt s 0 q.1 := by
  have := scan_ok_in (by rw [size_len]; exact hl) h he
  unfold LxAt
  rwa [List.drop_zero]
theorem blank_extract {s : ByteArray} {p n : Nat} (h : n = skipLen false (s.data.toList.drop p)) : BlankAt (s.extract p (p + n)) false 0 := by
  unfold BlankAt
  rw [List.drop_zero, text_data, h]
  exact skip_blank false _
/-- The next token: where it stands, what is before it, what comes behind. -/
theorem lxAt_step {s : ByteArray} {p : Nat} {t : Tk} {us : List Tk} (h : LxAt s p (t :: us)) :
    p ≤ t.pos ∧ 1 ≤ t.text.length ∧ t.pos + t.text.length ≤ s.size ∧ BlankAt (s.extract p t.pos) false 0 ∧ s.extract t.pos (t.pos + t.text.length) = ⟨t.text.toArray⟩ ∧ LxAt s (t.pos + t.text.length) us := by
  unfold LxAt at *
  by_cases hr : (s.data.toList.drop p).drop (skipLen false (s.data.toList.drop p)) = []
  · rw [lx_0 hr] at h; exact absurd h.1 (by simp)
  · by_cases he : tokE ((s.data.toList.drop p).drop (skipLen false (s.data.toList.drop p))) = 0
    · rw [lx_2 hr he] at h
      obtain ⟨h1, h2⟩ := h
      injection h1 with h1 h3
      have hlt := drop_some hr
      rw [drop_len] at hlt
      have hN1 := tokN_pos hr he
      have hN2 := tokN_le hr
      have hbl := @blank_extract s p _ rfl
      obtain ⟨n, hn⟩ : ∃ n, skipLen false (s.data.toList.drop p) = n := ⟨_, rfl⟩
      rw [hn] at h1 h2 h3 hlt hN1 hN2 hbl
      rw [show (s.data.toList.drop p).drop n = s.data.toList.drop (p + n) from List.drop_drop] at h1 h2 h3 hN1 hN2
      rw [drop_len] at hN2
      obtain ⟨m, hm⟩ : ∃ m, tokN (s.data.toList.drop (p + n)) = m := ⟨_, rfl⟩
      rw [hm] at h1 h2 h3 hN1 hN2
      rw [List.drop_drop] at h2 h3
      have hlen : t.text.length = m := by rw [← h1]; show (List.take m _).length = m; rw [List.length_take, drop_len]; omega
      have hpos : t.pos = p + n := by rw [← h1]
      have htx : t.text = (s.data.toList.drop (p + n)).take m := by rw [← h1]
      rw [hpos, hlen]
      refine ⟨by omega, hN1, by omega, hbl, ?_, h3, h2⟩
      rw [text_eq, htx]
    · rw [lx_1 hr he] at h; exact absurd h.1 (by simp)
/-- Behind the last token there is blank text. -/
theorem lxAt_end {s : ByteArray} {p : Nat} (h : LxAt s p []) : BlankAt (s.extract p s.size) false 0 := by
  unfold LxAt at h
  by_cases hr : (s.data.toList.drop p).drop (skipLen false (s.data.toList.drop p)) = []
  · unfold BlankAt
    rw [List.drop_zero, tail_list]
    have := skip_blank false (s.data.toList.drop p)
    rwa [List.take_of_length_le] at this
    have h2 := congrArg List.length hr
    rw [List.length_drop] at h2
    simp only [List.length_nil] at h2
    omega
  · by_cases he : tokE ((s.data.toList.drop p).drop (skipLen false (s.data.toList.drop p))) = 0
    · rw [lx_2 hr he] at h; exact absurd h.1 (by simp)
    · rw [lx_1 hr he] at h; exact absurd h.2 he
end Go.Proofs.YtidlacfmcpppoaaDoor
