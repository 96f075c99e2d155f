/- Stage 2, plain mathematics: lexical analysis of a list of bytes. -/
import Derived.Test.YtjeidpfpgolonaaDoorWp
namespace Go.Proofs.YtjeidpfpgolonaaDoor.LX
open Go Go.RowKit WM

def letB (c : UInt8) : Bool := (decide (97 ≤ c.toNat) && decide (c.toNat ≤ 122)) || (decide (65 ≤ c.toNat) && decide (c.toNat ≤ 90)) || decide (c.toNat = 95)
def wordB (c : UInt8) : Bool := letB c || digB c
def sepB (c : UInt8) : Bool := decide (c.toNat = 32) || decide (c.toNat = 9) || decide (c.toNat = 10) || decide (c.toNat = 13)
/-- How many bytes stand before the next token; the flag: inside a comment. -/
def skipLen : Bool → List UInt8 → Nat
  | _, [] => 0
  | true, c :: t => 1 + skipLen (!decide (c.toNat = 10)) t
  | false, c :: t => if sepB c then 1 + skipLen false t else if c.toNat = 35 then 1 + skipLen true t else 0
def wlen (l : List UInt8) : Nat := (l.takeWhile wordB).length
def eol (l : List UInt8) : Nat := (l.takeWhile fun c => !decide (c.toNat = 10)).length
def longs : List (List UInt8) := [[62, 62, 62], [60, 60], [62, 62], [60, 61], [62, 61], [61, 61], [33, 61]]
def shorts : List UInt8 := [43, 45, 42, 47, 37, 38, 124, 94, 126, 33, 60, 62, 61, 63, 58, 59, 44, 40, 41, 123, 125, 91, 93]
def longLen (l : List UInt8) : Nat := match longs.find? (fun p => p.isPrefixOf l) with
  | some p => p.length
  | none => 0
def symLen (l : List UInt8) : Nat := if longLen l = 0 then (if shorts.contains (l.headD 0) then 1 else 0) else longLen l
def most63 : Nat := 9223372036854775808

structure Tk where
  kind : Nat
  text : List UInt8
  pos : Nat
/-- The token at the head: its kind, its length, its error. -/
def tokK (l : List UInt8) : Nat := if digB (l.headD 0) then 2 else if letB (l.headD 0) then 1 else 3
def tokN (l : List UInt8) : Nat := if wordB (l.headD 0) then wlen l else symLen l
def tokE (l : List UInt8) : Nat :=
  if digB (l.headD 0) then (if numB (l.take (wlen l)) most63 then 0 else 2)
  else if letB (l.headD 0) then (if 16 < wlen l then 6 else 0)
  else if symLen l = 0 then 2 else 0
theorem wlen_pos {c : UInt8} {t : List UInt8} (h : wordB c = true) : wlen (c :: t) = wlen t + 1 := by
  unfold wlen; rw [List.takeWhile_cons, if_pos h]; rfl
theorem wlen_zero {c : UInt8} {t : List UInt8} (h : wordB c = false) : wlen (c :: t) = 0 := by
  unfold wlen; rw [List.takeWhile_cons, h]; rfl
theorem wlen_le (l : List UInt8) : wlen l ≤ l.length := by
  induction l with
  | nil => exact Nat.le_refl _
  | cons c t ih =>
    by_cases h : wordB c = true
    · rw [wlen_pos h]; simp; exact ih
    · rw [wlen_zero (by simpa using h)]; exact Nat.zero_le _
theorem longs_prefix {l : List UInt8} {p : List UInt8} (h : longs.find? (fun p => p.isPrefixOf l) = some p) : p ∈ longs ∧ p <+: l := by
  refine ⟨List.mem_of_find?_eq_some h, ?_⟩
  have := List.find?_some h
  exact List.isPrefixOf_iff_prefix.1 this
theorem longLen_le (l : List UInt8) : longLen l ≤ l.length := by
  unfold longLen
  split
  · next p h => exact (longs_prefix h).2.length_le
  · exact Nat.zero_le _
theorem symLen_le {l : List UInt8} (h : l ≠ []) : symLen l ≤ l.length := by
  have h1 : 1 ≤ l.length := by cases l with
    | nil => exact absurd rfl h
    | cons a t => simp
  unfold symLen
  by_cases h2 : longLen l = 0
  · rw [if_pos h2]; split <;> omega
  · rw [if_neg h2]; exact longLen_le l
theorem tokN_le {l : List UInt8} (h : l ≠ []) : tokN l ≤ l.length := by
  unfold tokN; split
  · exact wlen_le l
  · exact symLen_le h
theorem tokN_pos {l : List UInt8} (h : l ≠ []) (he : tokE l = 0) : 1 ≤ tokN l := by
  cases l with
  | nil => exact absurd rfl h
  | cons c t =>
    unfold tokN
    by_cases hw : wordB c = true
    · rw [if_pos (by exact hw), wlen_pos hw]; omega
    · rw [if_neg (by exact hw)]
      have hd : digB c = false := by
        unfold wordB at hw; simp at hw; exact hw.2
      have hl : letB c = false := by
        unfold wordB at hw; simp at hw; exact hw.1
      unfold tokE at he
      rw [show (c :: t).headD 0 = c from rfl, hd, hl] at he
      simp only [Bool.false_eq_true, if_false] at he
      by_cases hz : symLen (c :: t) = 0
      · rw [if_pos hz] at he; exact absurd he (by decide)
      · omega
theorem skipLen_le (b : Bool) (l : List UInt8) : skipLen b l ≤ l.length := by
  induction l generalizing b with
  | nil => cases b <;> exact Nat.le_refl _
  | cons c t ih =>
    cases b
    · unfold skipLen
      have h1 := ih false
      have h2 := ih true
      split
      · simp; omega
      · split <;> simp <;> omega
    · unfold skipLen
      have := ih (!decide (c.toNat = 10))
      simp; omega
theorem sk_f (c : UInt8) (t : List UInt8) : skipLen false (c :: t) = if sepB c then 1 + skipLen false t else if c.toNat = 35 then 1 + skipLen true t else 0 := rfl
theorem sk_t (c : UInt8) (t : List UInt8) : skipLen true (c :: t) = 1 + skipLen (!decide (c.toNat = 10)) t := rfl
theorem skip_idem (b : Bool) (l : List UInt8) : skipLen false (l.drop (skipLen b l)) = 0 := by
  induction l generalizing b with
  | nil => cases b <;> rfl
  | cons c t ih =>
    cases b
    · by_cases h : sepB c = true
      · rw [sk_f, if_pos h, Nat.add_comm, List.drop_succ_cons]; exact ih false
      · by_cases h2 : c.toNat = 35
        · rw [sk_f c t, if_neg h, if_pos h2, Nat.add_comm, List.drop_succ_cons]; exact ih true
        · rw [sk_f c t, if_neg h, if_neg h2, List.drop_zero, sk_f, if_neg h, if_neg h2]
    · rw [sk_t, Nat.add_comm, List.drop_succ_cons]; exact ih _

/-- The tokens from offset p on, the error and its offset. -/
def lx (l : List UInt8) (p : Nat) : List Tk × Nat × Nat :=
  if _h : l.drop (skipLen false l) = [] then ([], 0, 0)
  else if _he : tokE (l.drop (skipLen false l)) = 0 then
    let n := skipLen false l
    let r := l.drop n
    let q := lx (r.drop (tokN r)) (p + n + tokN r)
    (⟨tokK r, r.take (tokN r), p + n⟩ :: q.1, q.2)
  else ([], tokE (l.drop (skipLen false l)), p + skipLen false l)
termination_by l.length
decreasing_by
  have h1 := tokN_pos _h _he
  have h2 : 1 ≤ (l.drop (skipLen false l)).length := by
    cases hh : l.drop (skipLen false l) with
    | nil => exact absurd hh _h
    | cons a t => simp
  rw [List.length_drop, List.length_drop]
  rw [List.length_drop] at h2
  omega

theorem lx_skip (l : List UInt8) (p : Nat) : lx l p = lx (l.drop (skipLen false l)) (p + skipLen false l) := by
  rw [lx]; conv => rhs; rw [lx]
  simp only [skip_idem, List.drop_zero, Nat.add_zero]
theorem lx_nil (p : Nat) : lx [] p = ([], 0, 0) := by
  rw [lx, dif_pos (by rfl)]
theorem lx_tok {r : List UInt8} (p : Nat) (hs : skipLen false r = 0) (hr : r ≠ []) (he : tokE r = 0) :
    lx r p = (⟨tokK r, r.take (tokN r), p⟩ :: (lx (r.drop (tokN r)) (p + tokN r)).1, (lx (r.drop (tokN r)) (p + tokN r)).2) := by
  rw [lx]
  simp only [hs, List.drop_zero, Nat.add_zero]
  rw [dif_neg hr, dif_pos he]
theorem lx_err {r : List UInt8} (p : Nat) (hs : skipLen false r = 0) (hr : r ≠ []) (he : tokE r ≠ 0) : lx r p = ([], tokE r, p) := by
  rw [lx]
  simp only [hs, List.drop_zero, Nat.add_zero]
  rw [dif_neg hr, dif_neg he]
theorem skip_sep {c : UInt8} (t : List UInt8) (h : sepB c = true) : skipLen false (c :: t) = 1 + skipLen false t := by
  rw [skipLen, if_pos h]
theorem lx_sep {c : UInt8} (t : List UInt8) (p : Nat) (h : sepB c = true) : lx (c :: t) p = lx t (p + 1) := by
  rw [lx_skip (c :: t), lx_skip t, skip_sep t h, Nat.add_comm 1, List.drop_succ_cons, Nat.add_assoc, Nat.add_comm 1]
theorem eol_cons {c : UInt8} (t : List UInt8) (h : c.toNat ≠ 10) : eol (c :: t) = eol t + 1 := by
  unfold eol; rw [List.takeWhile_cons, if_pos (by simp [h])]; rfl
theorem eol_nl {c : UInt8} (t : List UInt8) (h : c.toNat = 10) : eol (c :: t) = 0 := by
  unfold eol; rw [List.takeWhile_cons, if_neg (by simp [h])]; rfl
theorem eol_le (l : List UInt8) : eol l ≤ l.length := by
  unfold eol; exact (List.takeWhile_sublist _).length_le
/-- Inside a comment: to the end of the line, and on. -/
theorem skip_cmt (l : List UInt8) : skipLen true l = eol l + skipLen false (l.drop (eol l)) := by
  induction l with
  | nil => rfl
  | cons c t ih =>
    by_cases h : c.toNat = 10
    · rw [eol_nl t h, List.drop_zero, Nat.zero_add, skip_sep t (by unfold sepB; simp [h]), skipLen]
      simp [h]
    · rw [eol_cons t h, List.drop_succ_cons, skipLen]
      simp only [h, decide_false, Bool.not_false]
      omega
theorem not_sep35 {c : UInt8} (h : c.toNat = 35) : sepB c = false := by unfold sepB; rw [h]; rfl
theorem skip_hash {c : UInt8} (t : List UInt8) (h : c.toNat = 35) : skipLen false (c :: t) = eol (c :: t) + skipLen false ((c :: t).drop (eol (c :: t))) := by
  rw [eol_cons t (by omega), List.drop_succ_cons, skipLen, if_neg (by rw [not_sep35 h]; decide), if_pos h, skip_cmt]
  omega
theorem lx_hash {c : UInt8} (t : List UInt8) (p : Nat) (h : c.toNat = 35) : lx (c :: t) p = lx ((c :: t).drop (eol (c :: t))) (p + eol (c :: t)) := by
  rw [lx_skip (c :: t), lx_skip ((c :: t).drop (eol (c :: t))), skip_hash t h, ← List.drop_drop, Nat.add_assoc]
theorem skip_zero {c : UInt8} (t : List UInt8) (h : sepB c = false) (h2 : c.toNat ≠ 35) : skipLen false (c :: t) = 0 := by
  rw [skipLen, if_neg (by rw [h]; decide), if_neg h2]
theorem skip_zero_inv {c : UInt8} {t : List UInt8} (h : skipLen false (c :: t) = 0) : sepB c = false ∧ c.toNat ≠ 35 := by
  rw [skipLen] at h
  by_cases h1 : sepB c = true
  · rw [if_pos h1] at h; omega
  · rw [if_neg h1] at h
    by_cases h2 : c.toNat = 35
    · rw [if_pos h2] at h; omega
    · exact ⟨by simpa using h1, h2⟩

/-- What Scan answers: the tokens, the error and its offset. -/
def scanF (l : List UInt8) : List Tk × Nat × Nat :=
  if 20000 < l.length then ([], 6, 20000)
  else if (lx l 0).2.1 = 0 then ((lx l 0).1, 0, 0) else ([], (lx l 0).2)
/-- Tokens ts found, the rest is q. -/
def prep (ts : List Tk) (q : List Tk × Nat × Nat) : List Tk × Nat × Nat := (ts ++ q.1, q.2)
theorem prep_nil (q : List Tk × Nat × Nat) : prep [] q = q := rfl
theorem prep_tok {ts : List Tk} {r : List UInt8} {p : Nat} (hs : skipLen false r = 0) (hr : r ≠ []) (he : tokE r = 0) :
    prep ts (lx r p) = prep (ts ++ [⟨tokK r, r.take (tokN r), p⟩]) (lx (r.drop (tokN r)) (p + tokN r)) := by
  rw [lx_tok p hs hr he]; unfold prep; simp
end Go.Proofs.YtjeidpfpgolonaaDoor.LX
