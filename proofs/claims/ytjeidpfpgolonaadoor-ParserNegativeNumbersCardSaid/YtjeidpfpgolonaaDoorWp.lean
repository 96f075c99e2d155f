/- Stage 1, plain mathematics: the reference's reading of a decimal number, and that it accepts exactly the texts of words. -/
import Derived.Test.YtjeidpfpgolonaaDoorWr
namespace Go.Proofs.YtjeidpfpgolonaaDoor.WM
open Go Go.RowKit

def digB (c : UInt8) : Bool := decide (48 ≤ c.toNat) && decide (c.toNat ≤ 57)
/-- The reference's test at index i. -/
def okc (l : List UInt8) (i : Nat) : Bool := digB (l.getD i 0) && !(i == 1 && l.getD 0 0 == 48) && decide (i ≤ 18)
def nstep (n : Nat) (c : UInt8) : Nat := 10 * n + (c.toNat - 48)
def nfold (l : List UInt8) : Nat := l.foldl nstep 0
def allOk (l : List UInt8) : Bool := (List.range l.length).all (okc l)
def numB (l : List UInt8) (most : Nat) : Bool := allOk l && !l.isEmpty && decide (nfold l ≤ most)
def numV (l : List UInt8) (most : Nat) : Nat := if numB l most then nfold l else 0

theorem nfold_snoc (l : List UInt8) (c : UInt8) : nfold (l ++ [c]) = 10 * nfold l + (c.toNat - 48) := by simp [nfold, nstep]
theorem numB_bad (l : List UInt8) (most i : Nat) (hi : i < l.length) (h : okc l i = false) : numB l most = false := by
  unfold numB allOk
  have : (List.range l.length).all (okc l) = false := by
    rw [List.all_eq_false]; exact ⟨i, by simpa using hi, by simp [h]⟩
  rw [this]; rfl
theorem allOk_of (l : List UInt8) (h : ∀ i, i < l.length → okc l i = true) : allOk l = true := by
  unfold allOk; rw [List.all_eq_true]; intro i hi; exact h i (by simpa using hi)
theorem allOk_at {l : List UInt8} (h : allOk l = true) (i : Nat) (hi : i < l.length) : okc l i = true := by
  unfold allOk at h; rw [List.all_eq_true] at h; exact h i (by simpa using hi)
theorem okc_parts {l : List UInt8} {i : Nat} (h : okc l i = true) : 48 ≤ (l.getD i 0).toNat ∧ (l.getD i 0).toNat ≤ 57 ∧ ¬ (i = 1 ∧ l.getD 0 0 = 48) ∧ i ≤ 18 := by
  unfold okc digB at h
  simp only [Bool.and_eq_true, decide_eq_true_eq, Bool.not_eq_true', Bool.and_eq_false_iff, beq_eq_false_iff_ne] at h
  obtain ⟨⟨⟨h1, h2⟩, h3⟩, h4⟩ := h
  exact ⟨h1, h2, fun ⟨a, b⟩ => h3.elim (fun h => h a) (fun h => h b), h4⟩
theorem okc_mk {l : List UInt8} {i : Nat} (h1 : 48 ≤ (l.getD i 0).toNat) (h2 : (l.getD i 0).toNat ≤ 57) (h3 : i = 1 → l.getD 0 0 ≠ 48) (h4 : i ≤ 18) : okc l i = true := by
  unfold okc digB
  simp only [Bool.and_eq_true, decide_eq_true_eq, Bool.not_eq_true', Bool.and_eq_false_iff, beq_eq_false_iff_ne]
  refine ⟨⟨⟨h1, h2⟩, ?_⟩, h4⟩
  by_cases h : i = 1
  · exact Or.inr (h3 h)
  · exact Or.inl h
theorem snoc_ind {P : List UInt8 → Prop} (h0 : P []) (hs : ∀ l c, P l → P (l ++ [c])) (l : List UInt8) : P l := by
  have h : ∀ m : List UInt8, P m.reverse := fun m => by
    induction m with
    | nil => exact h0
    | cons c m ih => rw [List.reverse_cons]; exact hs _ _ ih
  have := h l.reverse
  rwa [List.reverse_reverse] at this
theorem nfold_lt (l : List UInt8) : (∀ c ∈ l, c.toNat ≤ 57) → nfold l < 10 ^ l.length := by
  refine snoc_ind (P := fun l => (∀ c ∈ l, c.toNat ≤ 57) → nfold l < 10 ^ l.length) (fun _ => by simp [nfold]) (fun l c ih h => ?_) l
  rw [nfold_snoc, List.length_append, List.length_singleton, Nat.pow_succ]
  have h1 := ih (fun c hc => h c (by simp [hc]))
  have h2 := h c (by simp)
  omega
theorem ofNat_dig (c : UInt8) (h : 48 ≤ c.toNat) : UInt8.ofNat (48 + (c.toNat - 48)) = c := by
  rw [show 48 + (c.toNat - 48) = c.toNat by omega, UInt8.ofNat_toNat]
theorem head_snoc (t : List UInt8) (c : UInt8) (h : t ≠ []) : (t ++ [c]).getD 0 0 = t.getD 0 0 := by
  cases t with
  | nil => exact absurd rfl h
  | cons a t => rfl
/-- A numeral without a leading zero is the numeral of its number. -/
theorem dec_nfold (l : List UInt8) : l ≠ [] → (∀ c ∈ l, 48 ≤ c.toNat ∧ c.toNat ≤ 57) → (2 ≤ l.length → l.getD 0 0 ≠ 48) → Lib.decDigits (nfold l) = l := by
  refine snoc_ind (P := fun l => l ≠ [] → (∀ c ∈ l, 48 ≤ c.toNat ∧ c.toNat ≤ 57) → (2 ≤ l.length → l.getD 0 0 ≠ 48) → Lib.decDigits (nfold l) = l) (fun h => absurd rfl h) (fun t c ih _ hd hh => ?_) l
  have hc := hd c (by simp)
  rw [nfold_snoc]
  by_cases ht : t = []
  · subst ht
    have e : 10 * nfold [] + (c.toNat - 48) = c.toNat - 48 := by simp [nfold]
    rw [e, Lib.decDigits_one (by omega), ofNat_dig c hc.1]; rfl
  · have hlen : 1 ≤ t.length := by cases t with
      | nil => exact absurd rfl ht
      | cons a t => simp
    have h48 : t.getD 0 0 ≠ 48 := by rw [← head_snoc t c ht]; exact hh (by simp; omega)
    have hi := ih ht (fun x hx => hd x (by simp [hx])) (fun _ => h48)
    have hpos : 1 ≤ nfold t := by
      apply Classical.byContradiction
      intro hn
      have h0 : nfold t = 0 := by omega
      rw [h0, Lib.decDigits_one (by omega)] at hi
      apply h48; rw [← hi]; rfl
    rw [Lib.decDigits, dif_neg (by omega)]
    have e1 : (10 * nfold t + (c.toNat - 48)) / 10 = nfold t := by omega
    have e2 : (10 * nfold t + (c.toNat - 48)) % 10 = c.toNat - 48 := by omega
    rw [e1, e2, hi, ofNat_dig c hc.1]
theorem toNat_dig (d : Nat) (h : d < 10) : (UInt8.ofNat (48 + d)).toNat = 48 + d := by rw [UInt8.toNat_ofNat']; omega
theorem dec_facts (u : Nat) : (∀ c ∈ Lib.decDigits u, 48 ≤ c.toNat ∧ c.toNat ≤ 57) ∧ (1 ≤ u → (Lib.decDigits u).getD 0 0 ≠ 48) ∧ nfold (Lib.decDigits u) = u ∧ Lib.decDigits u ≠ [] := by
  induction u using Nat.strongRecOn with
  | _ u ih =>
    by_cases h : u < 10
    · rw [Lib.decDigits_one h]
      have e := toNat_dig u h
      refine ⟨fun c hc => ?_, fun h1 hh => ?_, ?_, by simp⟩
      · rw [List.mem_singleton] at hc; subst hc; rw [e]; omega
      · have e2 : (UInt8.ofNat (48 + u)) = 48 := hh
        rw [e2] at e; have e3 : (48 : UInt8).toNat = 48 := rfl
        omega
      · have e4 : nfold [UInt8.ofNat (48 + u)] = 10 * 0 + ((UInt8.ofNat (48 + u)).toNat - 48) := by simp [nfold, nstep]
        rw [e4, e]; omega
    · obtain ⟨h1, h2, h3, h4⟩ := ih (u / 10) (by omega)
      have e := toNat_dig (u % 10) (by omega)
      rw [Lib.decDigits, dif_neg h]
      refine ⟨fun c hc => ?_, fun _ => ?_, ?_, by simp⟩
      · rcases List.mem_append.1 hc with hc | hc
        · exact h1 c hc
        · rw [List.mem_singleton] at hc; subst hc; rw [e]; omega
      · rw [head_snoc _ _ h4]; exact h2 (by omega)
      · rw [nfold_snoc, h3, e]; omega
theorem getD_mem {l : List UInt8} {i : Nat} (h : i < l.length) : l.getD i 0 ∈ l := by
  rw [List.getD_eq_getElem?_getD, List.getElem?_eq_getElem h]; exact List.getElem_mem h
/-- The reference accepts the numeral of u up to most, and reads u. -/
theorem num_dec (u most : Nat) (h : u < 10 ^ 19) (hm : u ≤ most) : numB (Lib.decDigits u) most = true ∧ numV (Lib.decDigits u) most = u := by
  obtain ⟨h1, h2, h3, h4⟩ := dec_facts u
  have hl : (Lib.decDigits u).length ≤ 19 := by rw [Lib.decDigits_length]; exact nDigits_le 18 u h
  have hb : numB (Lib.decDigits u) most = true := by
    unfold numB
    have ha : allOk (Lib.decDigits u) = true := allOk_of _ (fun i hi => by
      have hc := h1 _ (getD_mem hi)
      refine okc_mk hc.1 hc.2 (fun he => ?_) (by omega)
      subst he
      apply h2
      apply Classical.byContradiction
      intro hu
      rw [Lib.decDigits_one (by omega)] at hi
      simp at hi)
    have he : (Lib.decDigits u).isEmpty = false := by
      cases hd : Lib.decDigits u with
      | nil => exact absurd hd h4
      | cons _ _ => rfl
    rw [ha, he, h3]; simpa using hm
  refine ⟨hb, ?_⟩
  unfold numV; rw [hb, h3]; rfl
/-- What the reference accepts is the numeral of what it reads. -/
theorem num_canon {l : List UInt8} {most : Nat} (h : numB l most = true) : Lib.decDigits (numV l most) = l ∧ numV l most ≤ most ∧ numV l most < 10 ^ 19 := by
  have hv : numV l most = nfold l := by unfold numV; rw [h]; rfl
  unfold numB at h
  simp only [Bool.and_eq_true, decide_eq_true_eq, Bool.not_eq_true'] at h
  obtain ⟨⟨ha, he⟩, hm⟩ := h
  have hne : l ≠ [] := by rintro rfl; cases he
  have hlen : l.length ≤ 19 := by
    apply Classical.byContradiction
    intro hn
    have := (okc_parts (allOk_at ha 19 (by omega))).2.2.2
    omega
  have hd : ∀ c ∈ l, 48 ≤ c.toNat ∧ c.toNat ≤ 57 := fun c hc => by
    obtain ⟨i, hi, rfl⟩ := List.mem_iff_getElem.1 hc
    have := okc_parts (allOk_at ha i hi)
    rw [List.getD_eq_getElem?_getD, List.getElem?_eq_getElem hi] at this
    exact ⟨this.1, this.2.1⟩
  have hh : 2 ≤ l.length → l.getD 0 0 ≠ 48 := fun h2 h48 => (okc_parts (allOk_at ha 1 (by omega))).2.2.1 ⟨rfl, h48⟩
  rw [hv]
  exact ⟨dec_nfold l hne hd hh, hm, Nat.lt_of_lt_of_le (nfold_lt l (fun c hc => (hd c hc).2)) (Nat.pow_le_pow_right (by decide) hlen)⟩

/-! ### The reference's Parse -/
theorem rp_neg (t : List UInt8) : parseB (45 :: t) = (numB t 9223372036854775808 && !(numV t 9223372036854775808 == 0)) ∧
    parseV (45 :: t) = if numB t 9223372036854775808 && !(numV t 9223372036854775808 == 0) then -(numV t 9223372036854775808 : Int) else 0 := by
  by_cases h : (numB t 9223372036854775808 && !(numV t 9223372036854775808 == 0)) = true
  · rw [h]
    simp only [Bool.and_eq_true, Bool.not_eq_true', beq_eq_false_iff_ne] at h
    obtain ⟨hb, hz⟩ := h
    obtain ⟨hc, hm, _⟩ := num_canon hb
    generalize numV t 9223372036854775808 = u at hz hc hm
    have hi : Lib.itoa (-(u : Int)) = 45 :: t := by
      unfold Lib.itoa; rw [if_pos (by omega), Int.natAbs_neg, Int.natAbs_natCast, hc]
    have hin : inW (-(u : Int)) := by unfold inW; omega
    rw [← hi]
    exact ⟨parseB_itoa _ hin, by rw [parseV_itoa _ hin]; rfl⟩
  · have hf : parseB (45 :: t) = false := by
      apply Classical.byContradiction
      intro hn
      have ht : parseB (45 :: t) = true := by simpa using hn
      apply h
      unfold parseB at ht
      rw [beq_iff_eq] at ht
      have hv : inW (valF (45 :: t)) := by rw [valF_neg]; exact wrap_in _
      generalize valF (45 :: t) = v at ht hv
      unfold inW at hv
      by_cases hv0 : v < 0
      · unfold Lib.itoa at ht
        rw [if_pos hv0, List.cons.injEq] at ht
        obtain ⟨n1, n2⟩ := num_dec v.natAbs 9223372036854775808 (by omega) (by omega)
        rw [← ht.2, n1, n2]
        have : v.natAbs ≠ 0 := by omega
        simpa using this
      · exfalso
        unfold Lib.itoa at ht
        rw [if_neg hv0] at ht
        obtain ⟨h1, _⟩ := dec_facts v.toNat
        have := h1 45 (by rw [ht]; simp)
        have e3 : (45 : UInt8).toNat = 45 := rfl
        omega
    have h' : (numB t 9223372036854775808 && !(numV t 9223372036854775808 == 0)) = false := by simpa using h
    rw [h', hf]
    exact ⟨rfl, by unfold parseV; rw [hf]; rfl⟩
theorem rp_pos (l : List UInt8) (hl : l.getD 0 0 ≠ 45) : parseB l = numB l 9223372036854775807 ∧ parseV l = (numV l 9223372036854775807 : Int) := by
  by_cases h : numB l 9223372036854775807 = true
  · obtain ⟨hc, hm, _⟩ := num_canon h
    rw [h]
    generalize numV l 9223372036854775807 = u at hc hm
    have hi : Lib.itoa (u : Int) = l := by unfold Lib.itoa; rw [if_neg (by omega), Int.toNat_natCast, hc]
    have hin : inW (u : Int) := by unfold inW; omega
    rw [← hi]
    exact ⟨parseB_itoa _ hin, parseV_itoa _ hin⟩
  · have hf : parseB l = false := by
      apply Classical.byContradiction
      intro hn
      have ht : parseB l = true := by simpa using hn
      apply h
      unfold parseB at ht
      rw [beq_iff_eq] at ht
      have hv : inW (valF l) := by
        unfold valF; exact ite_in (wrap_in _) (dfold_in _)
      generalize valF l = v at ht hv
      unfold inW at hv
      by_cases hv0 : v < 0
      · exfalso
        unfold Lib.itoa at ht
        rw [if_pos hv0] at ht
        apply hl; rw [← ht]; rfl
      · unfold Lib.itoa at ht
        rw [if_neg hv0] at ht
        rw [← ht]
        exact (num_dec v.toNat 9223372036854775807 (by omega) (by omega)).1
    have h' : numB l 9223372036854775807 = false := by simpa using h
    rw [h', hf]
    refine ⟨rfl, ?_⟩
    unfold parseV numV; rw [hf, h']; rfl
end Go.Proofs.YtjeidpfpgolonaaDoor.WM
