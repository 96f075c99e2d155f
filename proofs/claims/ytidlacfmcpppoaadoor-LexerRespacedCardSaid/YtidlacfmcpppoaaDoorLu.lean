/- Stage 2: scanning the tokens of a text with spaces between them. -/
import Derived.Test.YtidlacfmcpppoaaDoorLt
namespace Go.Proofs.YtidlacfmcpppoaaDoor
open Go Go.RowKit WM LX

/-- A text that is just one token, whatever blank comes behind it. -/
structure Good (t : Tk) : Prop where
  ne : t.text ≠ []
  skip : skipLen false t.text = 0
  err : tokE t.text = 0
  len : tokN t.text = t.text.length
  kind : tokK t.text = t.kind
theorem wlen_self (l : List UInt8) : wlen (l.take (wlen l)) = wlen l := by
  induction l with
  | nil => rfl
  | cons c t ih =>
    by_cases h : wordB c = true
    · rw [wlen_pos h, List.take_succ_cons, wlen_pos h, ih]
    · rw [wlen_zero (by simpa using h)]; rfl
theorem longs_self : ∀ p ∈ longs, longLen p = p.length ∧ 2 ≤ p.length := by decide +kernel
theorem long_form {l : List UInt8} (h : longLen l ≠ 0) : ∃ p ∈ longs, p <+: l ∧ longLen l = p.length := by
  unfold longLen at *
  split at h
  · next p hp => exact ⟨p, (longs_prefix hp).1, (longs_prefix hp).2, rfl⟩
  · exact absurd rfl h
theorem long_one (c : UInt8) : longLen [c] = 0 := by
  apply Classical.byContradiction; intro h
  obtain ⟨p, hp, hpre, _⟩ := long_form h
  have h1 := (longs_self p hp).2
  have h2 := hpre.length_le
  simp at h2; omega
theorem sym_self {l : List UInt8} (hl : l ≠ []) (h : symLen l ≠ 0) : symLen (l.take (symLen l)) = symLen l ∧ 1 ≤ symLen l := by
  by_cases h1 : longLen l = 0
  · have e : symLen l = if shorts.contains (l.headD 0) then 1 else 0 := by unfold symLen; rw [if_pos h1]
    by_cases h2 : shorts.contains (l.headD 0) = true
    · rw [if_pos h2] at e
      rw [e]
      cases l with
      | nil => exact absurd rfl hl
      | cons c t =>
        have h3 : shorts.contains c = true := h2
        refine ⟨?_, Nat.le_refl _⟩
        show symLen [c] = 1
        unfold symLen
        rw [long_one, if_pos rfl]
        show (if shorts.contains c = true then 1 else 0) = 1
        rw [if_pos h3]
    · rw [if_neg h2] at e; exact absurd e h
  · obtain ⟨p, hp, hpre, e⟩ := long_form h1
    have e2 : symLen l = p.length := by unfold symLen; rw [if_neg h1, e]
    have e3 : l.take p.length = p := (List.prefix_iff_eq_take.1 hpre).symm
    obtain ⟨s1, s2⟩ := longs_self p hp
    rw [e2, e3]
    refine ⟨?_, by omega⟩
    unfold symLen
    rw [if_neg (by omega), s1]
theorem head_take {l : List UInt8} {n : Nat} (hn : 1 ≤ n) : (l.take n).headD 0 = l.headD 0 := by
  cases l with
  | nil => simp
  | cons c t =>
    obtain ⟨m, rfl⟩ : ∃ m, n = m + 1 := ⟨n - 1, by omega⟩
    rfl
theorem good_of {r : List UInt8} {p : Nat} (hs : skipLen false r = 0) (hr : r ≠ []) (he : tokE r = 0) : Good ⟨tokK r, r.take (tokN r), p⟩ := by
  have h1 := tokN_pos hr he
  have h2 := tokN_le hr
  have hh := head_take (l := r) h1
  have hlen : (r.take (tokN r)).length = tokN r := by rw [List.length_take]; omega
  have hne : r.take (tokN r) ≠ [] := by
    intro h; rw [h] at hlen; simp at hlen; omega
  have hskip : skipLen false (r.take (tokN r)) = 0 := by
    cases r with
    | nil => exact absurd rfl hr
    | cons c t =>
      obtain ⟨s1, s2⟩ := skip_zero_inv hs
      obtain ⟨m, hm⟩ : ∃ m, tokN (c :: t) = m + 1 := ⟨tokN (c :: t) - 1, by omega⟩
      rw [hm, List.take_succ_cons]
      exact skip_zero _ s1 s2
  by_cases hw : wordB (r.headD 0) = true
  · have hN : tokN r = wlen r := by unfold tokN; rw [if_pos hw]
    rw [hN] at hh hlen hne hskip ⊢
    have ws := wlen_self r
    refine ⟨hne, hskip, ?_, ?_, ?_⟩
    · unfold tokE at he ⊢
      rw [hh, ws, List.take_take, Nat.min_self]
      by_cases hd : digB (r.headD 0) = true
      · rw [if_pos hd] at he ⊢; exact he
      · have hl : letB (r.headD 0) = true := by
          unfold wordB at hw
          have hd2 : digB (r.headD 0) = false := by simpa using hd
          rw [hd2, Bool.or_false] at hw; exact hw
        rw [if_neg hd, if_pos hl] at he ⊢; exact he
    · show tokN (r.take (wlen r)) = _
      unfold tokN
      rw [hh, if_pos hw, ws, hlen]
    · show tokK (r.take (wlen r)) = tokK r
      unfold tokK; rw [hh]
  · have hN : tokN r = symLen r := by unfold tokN; rw [if_neg hw]
    have hs0 : symLen r ≠ 0 := by rw [← hN]; omega
    obtain ⟨ss, _⟩ := sym_self hr hs0
    have hw2 : wordB (r.headD 0) = false := by simpa using hw
    have hw3 := hw2
    unfold wordB at hw3
    rw [Bool.or_eq_false_iff] at hw3
    rw [hN] at hh hlen hne hskip ⊢
    refine ⟨hne, hskip, ?_, ?_, ?_⟩
    · show tokE (r.take (symLen r)) = 0
      unfold tokE
      rw [hh, hw3.1, hw3.2, ss]
      simp [hs0]
    · show tokN (r.take (symLen r)) = _
      unfold tokN
      rw [hh, if_neg hw, ss, hlen]
    · show tokK (r.take (symLen r)) = tokK r
      unfold tokK; rw [hh]
theorem lx_good (l : List UInt8) (p : Nat) : ∀ t ∈ (lx l p).1, Good t := by
  refine lx_ind (P := fun l p => ∀ t ∈ (lx l p).1, Good t) ?_ ?_ ?_ l p
  · intro l p h t ht; rw [lx_0 h] at ht; cases ht
  · intro l p h he t ht; rw [lx_1 h he] at ht; cases ht
  · intro l p h he ih t ht
    rw [lx_2 h he] at ht
    rcases List.mem_cons.1 ht with rfl | ht
    · exact good_of (skip_idem false l) h he
    · exact ih t ht
/-- Each text behind a space. -/
def sp (ts : List Tk) : List UInt8 := ts.flatMap fun t => 32 :: t.text
theorem sp_cons (t : Tk) (r : List Tk) : sp (t :: r) = 32 :: (t.text ++ sp r) := rfl
theorem lx_sp_len (l : List UInt8) (p : Nat) : (sp (lx l p).1).length ≤ 2 * l.length := by
  refine lx_ind (P := fun l p => (sp (lx l p).1).length ≤ 2 * l.length) ?_ ?_ ?_ l p
  · intro l p h; rw [lx_0 h]; exact Nat.zero_le _
  · intro l p h he; rw [lx_1 h he]; exact Nat.zero_le _
  · intro l p h he ih
    rw [lx_2 h he]
    show (sp (_ :: _)).length ≤ _
    rw [sp_cons, List.length_cons, List.length_append, List.length_take]
    have h1 := drop_some h
    have h2 := tokN_pos h he
    have h3 := tokN_le h
    rw [List.length_drop] at h3
    rw [List.length_drop, List.length_drop] at ih
    rw [List.length_drop]
    omega
/-- The tokens' places behind the spaces. -/
def resp : Nat → List Tk → List Tk
  | _, [] => []
  | p, t :: r => ⟨t.kind, t.text, p + 1⟩ :: resp (p + 1 + t.text.length) r
theorem resp_length (ts : List Tk) (p : Nat) : (resp p ts).length = ts.length := by
  induction ts generalizing p with
  | nil => rfl
  | cons t r ih => show (resp _ r).length + 1 = _; rw [ih]; rfl
theorem resp_get (ts : List Tk) (p i : Nat) (t : Tk) (h : ts[i]? = some t) : ∃ q, (resp p ts)[i]? = some ⟨t.kind, t.text, q⟩ := by
  induction ts generalizing p i with
  | nil => simp at h
  | cons a r ih =>
    cases i with
    | zero =>
      obtain rfl : a = t := by simpa using h
      exact ⟨p + 1, rfl⟩
    | succ i => exact ih (p + 1 + a.text.length) i (by simpa using h)
theorem sp_head (ts : List Tk) (m : List UInt8) : ∃ m', sp ts ++ 32 :: m = 32 :: m' := by
  cases ts with
  | nil => exact ⟨m, rfl⟩
  | cons t r => exact ⟨_, by rw [sp_cons, List.cons_append]⟩
theorem skip_note (l : List UInt8) (h : ∀ c ∈ l, c.toNat ≠ 10) : skipLen true l = l.length := by
  induction l with
  | nil => rfl
  | cons c t ih =>
    rw [sk_t, show (!decide (c.toNat = 10)) = true by simp [h c (by simp)], ih (fun x hx => h x (by simp [hx])), List.length_cons]
    omega
theorem lx_sp (ts : List Tk) (hg : ∀ t ∈ ts, Good t) (note : List UInt8) (hn : ∀ c ∈ note, c.toNat ≠ 10) (p : Nat) : lx (sp ts ++ 32 :: 35 :: 32 :: note) p = (resp p ts, 0, 0) := by
  induction ts generalizing p with
  | nil =>
    refine lx_0 ?_
    have e : skipLen false (32 :: 35 :: 32 :: note) = 3 + note.length := by
      rw [skip_sep _ rfl, sk_f, if_neg (by decide), if_pos (by rfl), skip_note (32 :: note) (fun c hc => by
        rcases List.mem_cons.1 hc with rfl | hc
        · decide
        · exact hn c hc), List.length_cons]
      omega
    show (32 :: 35 :: 32 :: note).drop (skipLen false (32 :: 35 :: 32 :: note)) = []
    rw [e]
    exact List.drop_of_length_le (by simp; omega)
  | cons t r ih =>
    have g := hg t (by simp)
    obtain ⟨m, hm⟩ := sp_head r (35 :: 32 :: note)
    obtain ⟨t1, t2, t3⟩ := tok_cat g.ne 32 m (by decide)
    have hne : t.text ++ 32 :: m ≠ [] := by simp
    have hsk : skipLen false (t.text ++ 32 :: m) = 0 := by
      rw [skip_cat false t.text (32 :: m) (by rw [g.skip, List.drop_zero]; exact g.ne)]; exact g.skip
    rw [sp_cons, List.cons_append, List.append_assoc, lx_sep _ _ rfl, hm, lx_tok (p + 1) hsk hne (by rw [t3]; exact g.err), t1, t2, g.kind, g.len,
      List.take_append_of_le_length (Nat.le_refl _), List.take_of_length_le (Nat.le_refl _), List.drop_append_of_le_length (Nat.le_refl _), List.drop_of_length_le (Nat.le_refl _), List.nil_append, ← hm, ih (fun x hx => hg x (by simp [hx]))]
    rfl
theorem sp_take (ts : List Tk) (k : Nat) : (sp (ts.take k)).length ≤ (sp ts).length := by
  induction ts generalizing k with
  | nil => simp
  | cons t r ih =>
    cases k with
    | zero => exact Nat.zero_le _
    | succ k =>
      rw [List.take_succ_cons, sp_cons, sp_cons, List.length_cons, List.length_cons, List.length_append, List.length_append]
      have := ih k; omega
theorem sp_next {ts : List Tk} {k : Nat} {t : Tk} {S : ByteArray} (h : ts[k]? = some t) (hS : S.data.toList = sp (ts.take k)) :
    (S ++ (⟨#[32]⟩ : ByteArray) ++ ⟨t.text.toArray⟩).data.toList = sp (ts.take (k + 1)) := by
  obtain ⟨hk, he⟩ := List.getElem?_eq_some_iff.1 h
  rw [ByteArray.data_append, ByteArray.data_append, Array.toList_append, Array.toList_append, hS, List.take_succ_eq_append_getElem hk, he]
  unfold sp
  rw [List.flatMap_append, List.append_assoc]
  simp
theorem sp_scan {s S L : ByteArray} {ts : List Tk} {p : Nat} (hs : s.size ≤ 600) (h : scanF s.data.toList = (ts, 0, p)) (hS : S.data.toList = sp ts) (hL : L.size ≤ 101) (hn : ∀ c ∈ L.data.toList, c.toNat ≠ 10) :
    scanF (S ++ (⟨#[32, 35, 32]⟩ : ByteArray) ++ L).data.toList = (resp 0 ts, 0, 0) := by
  have h2 := scan_ok_in (by rw [size_len]; omega) h rfl
  dsimp only at h2
  have hg : ∀ t ∈ ts, Good t := by rw [← h2.1]; exact lx_good _ _
  have hlen := lx_sp_len s.data.toList 0
  rw [h2.1, size_len] at hlen
  have e : (S ++ (⟨#[32, 35, 32]⟩ : ByteArray) ++ L).data.toList = sp ts ++ 32 :: 35 :: 32 :: L.data.toList := by
    rw [ByteArray.data_append, ByteArray.data_append, Array.toList_append, Array.toList_append, List.append_assoc, hS]; rfl
  rw [e, scan_lx (by rw [List.length_append, List.length_cons, List.length_cons, List.length_cons, size_len]; omega), lx_sp ts hg _ hn, if_pos (by rfl)]
end Go.Proofs.YtidlacfmcpppoaaDoor
