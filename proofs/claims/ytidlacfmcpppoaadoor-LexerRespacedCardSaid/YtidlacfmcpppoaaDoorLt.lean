/- Stage 2: scanning two texts with a line feed between them. -/
import Derived.Test.YtidlacfmcpppoaaDoorLq
namespace Go.Proofs.YtidlacfmcpppoaaDoor
open Go Go.RowKit WM LX

theorem wlen_cat (l : List UInt8) (c : UInt8) (m : List UInt8) (hc : wordB c = false) : wlen (l ++ c :: m) = wlen l := by
  induction l with
  | nil => exact wlen_zero hc
  | cons a t ih =>
    rw [List.cons_append]
    by_cases h : wordB a = true
    · rw [wlen_pos h, wlen_pos h, ih]
    · rw [wlen_zero (by simpa using h), wlen_zero (by simpa using h)]
theorem wlen_take (l : List UInt8) (c : UInt8) (m : List UInt8) (hc : wordB c = false) : (l ++ c :: m).take (wlen (l ++ c :: m)) = l.take (wlen l) := by
  rw [wlen_cat l c m hc, List.take_append_of_le_length (wlen_le l)]
/-- A prefix without the byte c is not lengthened over it. -/
theorem prefix_cat (p l : List UInt8) (c : UInt8) (m : List UInt8) (hc : c ∉ p) : p.isPrefixOf (l ++ c :: m) = p.isPrefixOf l := by
  induction p generalizing l with
  | nil => simp [List.isPrefixOf]
  | cons a t ih =>
    have h1 : c ∉ t := fun h => hc (List.mem_cons_of_mem _ h)
    cases l with
    | nil =>
      have h2 : (a == c) = false := by rw [beq_eq_false_iff_ne]; intro e; exact hc (by rw [e]; exact List.mem_cons_self)
      simp [List.isPrefixOf, h2]
    | cons b r =>
      rw [List.cons_append]
      simp only [List.isPrefixOf]
      rw [ih r h1]
theorem longs_bytes : ∀ p ∈ longs, ∀ x ∈ p, x.toNat = 33 ∨ x.toNat = 60 ∨ x.toNat = 61 ∨ x.toNat = 62 := by decide +kernel
theorem longs_free {p : List UInt8} {c : UInt8} (hp : p ∈ longs) (hc : c.toNat < 33 ∨ c.toNat = 35) : c ∉ p := fun h => by
  have := longs_bytes p hp c h
  omega
theorem longLen_cat (l : List UInt8) (c : UInt8) (m : List UInt8) (hc : c.toNat < 33 ∨ c.toNat = 35) : longLen (l ++ c :: m) = longLen l := by
  unfold longLen
  have hf : longs.find? (fun p => p.isPrefixOf (l ++ c :: m)) = longs.find? (fun p => p.isPrefixOf l) := by
    have : ∀ ps : List (List UInt8), (∀ p ∈ ps, p ∈ longs) → ps.find? (fun p => p.isPrefixOf (l ++ c :: m)) = ps.find? (fun p => p.isPrefixOf l) := fun ps => by
      induction ps with
      | nil => intro _; rfl
      | cons p r ih =>
        intro hp
        rw [List.find?_cons, List.find?_cons, prefix_cat p l c m (longs_free (hp p (by simp)) hc), ih (fun q hq => hp q (by simp [hq]))]
    exact this longs (fun _ h => h)
  rw [hf]
theorem head_cat {l : List UInt8} (h : l ≠ []) (m : List UInt8) : (l ++ m).headD 0 = l.headD 0 := by
  cases l with
  | nil => exact absurd rfl h
  | cons a t => rfl
theorem tok_cat {l : List UInt8} (h : l ≠ []) (c : UInt8) (m : List UInt8) (hc : c.toNat < 33 ∨ c.toNat = 35) :
    tokK (l ++ c :: m) = tokK l ∧ tokN (l ++ c :: m) = tokN l ∧ tokE (l ++ c :: m) = tokE l := by
  have hw : wordB c = false := by
    unfold wordB letB digB
    simp; omega
  have h1 := head_cat h (c :: m)
  have h2 := wlen_cat l c m hw
  have h3 := wlen_take l c m hw
  have h4 : symLen (l ++ c :: m) = symLen l := by unfold symLen; rw [longLen_cat l c m hc, h1]
  unfold tokK tokN tokE
  rw [h1, h3, h2, h4]
  exact ⟨rfl, rfl, rfl⟩
theorem skip_cat (b : Bool) (l : List UInt8) (m : List UInt8) : l.drop (skipLen b l) ≠ [] → skipLen b (l ++ m) = skipLen b l := by
  induction l generalizing b with
  | nil => intro h; exact absurd (by cases b <;> rfl) h
  | cons a t ih =>
    intro h
    rw [List.cons_append]
    cases b
    · rw [sk_f, sk_f]
      rw [sk_f] at h
      by_cases h1 : sepB a = true
      · rw [if_pos h1] at h ⊢; rw [if_pos h1]
        rw [Nat.add_comm, List.drop_succ_cons] at h
        rw [ih false h]
      · rw [if_neg h1] at h ⊢; rw [if_neg h1]
        by_cases h2 : a.toNat = 35
        · rw [if_pos h2] at h ⊢; rw [if_pos h2]
          rw [Nat.add_comm, List.drop_succ_cons] at h
          rw [ih true h]
        · rw [if_neg h2, if_neg h2]
    · rw [sk_t, sk_t]
      rw [sk_t, Nat.add_comm, List.drop_succ_cons] at h
      rw [ih _ h]
/-- Blank text before a line feed: one goes on behind it. -/
theorem skip_line (b : Bool) (l : List UInt8) (c : UInt8) (m : List UInt8) (hc : c.toNat = 10) : l.drop (skipLen b l) = [] → skipLen b (l ++ c :: m) = l.length + 1 + skipLen false m := by
  induction l generalizing b with
  | nil =>
    intro _
    cases b
    · rw [List.nil_append, skip_sep m (by unfold sepB; simp [hc])]; rfl
    · rw [List.nil_append, sk_t]; simp [hc]
  | cons a t ih =>
    intro h
    rw [List.cons_append]
    cases b
    · rw [sk_f]
      rw [sk_f] at h
      by_cases h1 : sepB a = true
      · rw [if_pos h1] at h ⊢
        rw [Nat.add_comm, List.drop_succ_cons] at h
        rw [ih false h, List.length_cons]; omega
      · rw [if_neg h1] at h ⊢
        by_cases h2 : a.toNat = 35
        · rw [if_pos h2] at h ⊢
          rw [Nat.add_comm, List.drop_succ_cons] at h
          rw [ih true h, List.length_cons]; omega
        · rw [if_neg h2] at h; simp at h
    · rw [sk_t]
      rw [sk_t, Nat.add_comm, List.drop_succ_cons] at h
      rw [ih _ h, List.length_cons]; omega
def shift (k : Nat) (t : Tk) : Tk := ⟨t.kind, t.text, t.pos + k⟩
theorem lx_shift (l : List UInt8) (p : Nat) : ∀ k, lx l (p + k) = ((lx l p).1.map (shift k), (lx l p).2.1, if (lx l p).2.1 = 0 then (lx l p).2.2 else (lx l p).2.2 + k) := by
  refine lx_ind (P := fun l p => ∀ k, lx l (p + k) = ((lx l p).1.map (shift k), (lx l p).2.1, if (lx l p).2.1 = 0 then (lx l p).2.2 else (lx l p).2.2 + k)) ?_ ?_ ?_ l p
  · intro l p h k; rw [lx_0 h, lx_0 h]; rfl
  · intro l p h he k
    rw [lx_1 h he, lx_1 h he, if_neg (by exact he)]
    show ([], _, p + k + skipLen false l) = ([], _, p + skipLen false l + k)
    rw [Nat.add_right_comm]
  · intro l p h he ih k
    rw [lx_2 h he, lx_2 h he]
    have e : p + k + skipLen false l + tokN (l.drop (skipLen false l)) = p + skipLen false l + tokN (l.drop (skipLen false l)) + k := by omega
    have e2 : p + k + skipLen false l = p + skipLen false l + k := by omega
    rw [e, e2, ih k]
    rfl
/-- The two texts: where the first errs, its error; else its tokens and what the second answers. -/
theorem lx_line (l : List UInt8) (p : Nat) : ∀ (c : UInt8) (m : List UInt8), c.toNat = 10 → lx (l ++ c :: m) p = if (lx l p).2.1 = 0 then ((lx l p).1 ++ (lx m (p + l.length + 1)).1, (lx m (p + l.length + 1)).2) else lx l p := by
  refine lx_ind (P := fun l p => ∀ (c : UInt8) (m : List UInt8), c.toNat = 10 → lx (l ++ c :: m) p = if (lx l p).2.1 = 0 then ((lx l p).1 ++ (lx m (p + l.length + 1)).1, (lx m (p + l.length + 1)).2) else lx l p) ?_ ?_ ?_ l p
  · intro l p h c m hc
    rw [lx_0 h, if_pos (by rfl)]
    have e := skip_line false l c m hc h
    rw [lx_skip (l ++ c :: m), e, lx_skip m]
    have e2 : (l ++ c :: m).drop (l.length + 1 + skipLen false m) = m.drop (skipLen false m) := by
      rw [List.drop_append, List.drop_of_length_le (by omega), List.nil_append]
      rw [show l.length + 1 + skipLen false m - l.length = skipLen false m + 1 by omega, List.drop_succ_cons]
    rw [e2, show p + (l.length + 1 + skipLen false m) = p + l.length + 1 + skipLen false m by omega]
    rfl
  · intro l p h he c m hc
    have e := skip_cat false l (c :: m) h
    have e2 : (l ++ c :: m).drop (skipLen false l) = l.drop (skipLen false l) ++ c :: m := List.drop_append_of_le_length (skipLen_le _ _)
    obtain ⟨t1, t2, t3⟩ := tok_cat h c m (by omega)
    rw [lx_1 h he, if_neg (by exact he), lx_1 (l := l ++ c :: m) (by rw [e, e2]; simp) (by rw [e, e2, t3]; exact he), e, e2, t3]
  · intro l p h he ih c m hc
    have e := skip_cat false l (c :: m) h
    have e2 : (l ++ c :: m).drop (skipLen false l) = l.drop (skipLen false l) ++ c :: m := List.drop_append_of_le_length (skipLen_le _ _)
    obtain ⟨t1, t2, t3⟩ := tok_cat h c m (by omega)
    have hN := tokN_le h
    have e3 : (l.drop (skipLen false l) ++ c :: m).drop (tokN (l.drop (skipLen false l))) = (l.drop (skipLen false l)).drop (tokN (l.drop (skipLen false l))) ++ c :: m := List.drop_append_of_le_length hN
    have e4 : (l.drop (skipLen false l) ++ c :: m).take (tokN (l.drop (skipLen false l))) = (l.drop (skipLen false l)).take (tokN (l.drop (skipLen false l))) := List.take_append_of_le_length hN
    rw [lx_2 h he, lx_2 (l := l ++ c :: m) (by rw [e, e2]; simp) (by rw [e, e2, t3]; exact he), e, e2, t1, t2, e3, e4, ih c m hc]
    have hlen : p + skipLen false l + tokN (l.drop (skipLen false l)) + ((l.drop (skipLen false l)).drop (tokN (l.drop (skipLen false l)))).length + 1 = p + l.length + 1 := by
      have := drop_some h
      rw [List.length_drop] at hN
      rw [List.length_drop, List.length_drop]; omega
    rw [hlen]
    by_cases h0 : (lx ((l.drop (skipLen false l)).drop (tokN (l.drop (skipLen false l)))) (p + skipLen false l + tokN (l.drop (skipLen false l)))).2.1 = 0
    · rw [if_pos h0, if_pos (by exact h0)]; rfl
    · rw [if_neg h0, if_neg (by exact h0)]
theorem scan_lx {l : List UInt8} (hl : l.length ≤ 20000) : scanF l = if (lx l 0).2.1 = 0 then ((lx l 0).1, 0, 0) else ([], (lx l 0).2) := by
  unfold scanF; rw [if_neg (by omega)]
theorem cat_data (s t : ByteArray) : (s ++ (⟨#[10]⟩ : ByteArray) ++ t).data.toList = s.data.toList ++ 10 :: t.data.toList := by
  rw [ByteArray.data_append, ByteArray.data_append, Array.toList_append, Array.toList_append, List.append_assoc]; rfl
section
variable {s t : ByteArray} {a b : List Tk} {y p z r : Nat}
theorem cat_len (hs : s.size ≤ 600) (ht : t.size ≤ 600) : (s.data.toList ++ 10 :: t.data.toList).length ≤ 20000 := by
  rw [List.length_append, List.length_cons, size_len, size_len]; omega
theorem cat_1 (hs : s.size ≤ 600) (ht : t.size ≤ 600) (h : scanF s.data.toList = (a, y, p)) (hy : y ≠ 0) : scanF (s ++ (⟨#[10]⟩ : ByteArray) ++ t).data.toList = ([], y, p) := by
  have h1 := scan_err_in (by rw [size_len]; omega) h hy
  have e : (lx s.data.toList 0).2 = (y, p) := h1.2.2.symm
  have e1 := lx_line s.data.toList 0 10 t.data.toList rfl
  rw [if_neg (by rw [e]; exact hy)] at e1
  rw [cat_data, scan_lx (cat_len hs ht), e1, if_neg (by rw [e]; exact hy), e]
theorem cat_2 (hs : s.size ≤ 600) (ht : t.size ≤ 600) (h : scanF s.data.toList = (a, 0, p)) (h' : scanF t.data.toList = (b, z, r)) (hz : z ≠ 0) : scanF (s ++ (⟨#[10]⟩ : ByteArray) ++ t).data.toList = ([], z, r + s.size + 1) := by
  have h1 := scan_err_in (by rw [size_len]; omega) h' hz
  have h2 := scan_ok_in (by rw [size_len]; omega) h rfl
  have e : (lx t.data.toList 0).2 = (z, r) := h1.2.2.symm
  have e2 : lx t.data.toList (0 + s.data.toList.length + 1) = ((lx t.data.toList 0).1.map (shift (s.size + 1)), z, r + (s.size + 1)) := by
    rw [Nat.add_assoc, lx_shift, e, size_len]
    show (_, z, if z = 0 then r else r + (s.size + 1)) = _
    rw [if_neg hz]
  rw [cat_data, scan_lx (cat_len hs ht), lx_line _ _ 10 _ rfl, if_pos h2.2, e2]
  show (if z = 0 then _ else ([], z, r + (s.size + 1))) = _
  rw [if_neg hz, Nat.add_assoc]
theorem cat_3 (hs : s.size ≤ 600) (ht : t.size ≤ 600) (h : scanF s.data.toList = (a, 0, p)) (h' : scanF t.data.toList = (b, 0, r)) : scanF (s ++ (⟨#[10]⟩ : ByteArray) ++ t).data.toList = (a ++ b.map (shift (s.size + 1)), 0, 0) := by
  have h1 := scan_ok_in (by rw [size_len]; omega) h' rfl
  have h2 := scan_ok_in (by rw [size_len]; omega) h rfl
  dsimp only at h1 h2
  have e2 : (lx t.data.toList (0 + s.data.toList.length + 1)).1 = b.map (shift (s.size + 1)) ∧ (lx t.data.toList (0 + s.data.toList.length + 1)).2.1 = 0 := by
    rw [Nat.add_assoc, lx_shift, size_len]
    exact ⟨by show List.map _ _ = _; rw [h1.1], h1.2⟩
  rw [cat_data, scan_lx (cat_len hs ht), lx_line _ _ 10 _ rfl, if_pos h2.2, if_pos (by exact e2.2)]
  show ((lx s.data.toList 0).1 ++ _, 0, 0) = _
  rw [h2.1, e2.1]
end
/-- The tokens of the whole, at i: of the first text, or of the second shifted. -/
theorem cat_get1 {a c : List Tk} {i : Nat} {t : Tk} (h : a[i]? = some t) : (a ++ c)[i]? = some t := by
  rw [List.getElem?_append_left (List.getElem?_eq_some_iff.1 h).1]; exact h
theorem cat_get2 {a b : List Tk} {i n k : Nat} {t : Tk} (hn : a.length = n) (hi : n ≤ i) (h : b[i - n]? = some t) : (a ++ b.map (shift k))[i]? = some (shift k t) := by
  subst hn
  rw [List.getElem?_append_right hi, List.getElem?_map, h]; rfl
end Go.Proofs.YtidlacfmcpppoaaDoor
