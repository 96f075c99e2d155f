/- Stage 3, plain mathematics: lists, statements, declarations, programs. -/
import Derived.Test.YtjeidpfpgolonaaDoorPm
namespace Go.Proofs.YtjeidpfpgolonaaDoor.PX
open Go Go.RowKit WM LX

abbrev emS : ST := .mk 0 [] [] 0 emE emE [] [] []
structure FN where
  name : List UInt8
  params : List (List UInt8)
  locals : List (List UInt8)
  body : List ST
  value : PE
structure PG where
  arrays : List (List UInt8 × Int)
  funcs : List FN
section
variable (ts : List Tk)
/-- The names behind commas; a list of names; one in parentheses. -/
def mNF : Nat → PS → List (List UInt8) × PS
  | 0, s => ([], s)
  | n + 1, s => if nx ts s cComma = true then (nmV ts (adv s) :: (mNF n (nmS ts (adv s))).1, (mNF n (nmS ts (adv s))).2) else ([], s)
def lNF (n : Nat) (s : PS) : List (List UInt8) × PS := (nmV ts s :: (mNF ts n (nmS ts s)).1, (mNF ts n (nmS ts s)).2)
def pNF (n : Nat) (s : PS) : List (List UInt8) × PS :=
  if nx ts (exs ts s cLp) cRp = true then ([], adv (exs ts s cLp)) else ((lNF ts n (exs ts s cLp)).1, exs ts (lNF ts n (exs ts s cLp)).2 cRp)
def mEF : Nat → PS → List PE × PS
  | 0, s => ([], s)
  | n + 1, s => if nx ts s cComma = true then ((exF ts n (adv s)).1 :: (mEF n (exF ts n (adv s)).2).1, (mEF n (exF ts n (adv s)).2).2) else ([], s)
def lEF (n : Nat) (s : PS) : List PE × PS := ((exF ts n s).1 :: (mEF ts n (exF ts n s).2).1, (mEF ts n (exF ts n s).2).2)
def pEF (n : Nat) (s : PS) : List PE × PS :=
  if nx ts (exs ts s cLp) cRp = true then ([], adv (exs ts s cLp)) else ((lEF ts n (exs ts s cLp)).1, exs ts (lEF ts n (exs ts s cLp)).2 cRp)
/-- A condition in parentheses. -/
def cdF (n : Nat) (s : PS) : PE × PS := ((exF ts n (exs ts s cLp)).1, exs ts (exF ts n (exs ts s cLp)).2 cRp)
def clB (s : PS) : Bool := isNm (pk ts s) && decide ((ts.getD (s.i + 1) tk0).text = cLp)
def ouF (n : Nat) (s : PS) : ST × PS := (.mk 5 [] [] 0 emE (exF ts n s).1 [] [] [], exs ts (exF ts n s).2 cSemi)
def tpF (s : PS) : ST × PS := (.mk 7 [] [] (nuV ts s) emE emE [] [] [], exs ts (nuS ts s) cSemi)
def soF (n : Nat) (x : List UInt8) (s : PS) : ST × PS :=
  let a := exF ts n s
  let b := exF ts n (exs ts (exs ts a.2 cRb) cEq)
  (.mk 2 x [] 0 a.1 b.1 [] [] [], exs ts b.2 cSemi)
def caF (n : Nat) (x : List UInt8) (s : PS) : ST × PS :=
  let q := pEF ts n (nmS ts s)
  (.mk 6 x (nmV ts s) 0 emE emE q.1 [] [], exs ts q.2 cSemi)
def asF (n : Nat) (x : List UInt8) (s : PS) : ST × PS := (.mk 1 x [] 0 emE (exF ts n s).1 [] [] [], exs ts (exF ts n s).2 cSemi)
mutual
def ssF : Nat → PS → List ST × PS
  | 0, s => ([], s)
  | n + 1, s => if (s.f || nx ts s cRc || nx ts s wReturn) = true then ([], s) else ((stF n s).1 :: (ssF n (stF n s).2).1, (ssF n (stF n s).2).2)
def stF : Nat → PS → ST × PS
  | 0, s => (emS, s)
  | n + 1, s =>
    if nx ts s wIf = true then ifF n (adv s)
    else if nx ts s wWhile = true then whF n (adv s)
    else if nx ts s wOut = true then ouF ts n (adv s)
    else if nx ts s wTrap = true then tpF ts (adv s)
    else if nx ts (nmS ts s) cLb = true then soF ts n (nmV ts s) (adv (nmS ts s))
    else if clB ts (exs ts (nmS ts s) cEq) = true then caF ts n (nmV ts s) (exs ts (nmS ts s) cEq)
    else asF ts n (nmV ts s) (exs ts (nmS ts s) cEq)
def ifF : Nat → PS → ST × PS
  | 0, s => (emS, s)
  | n + 1, s =>
    let c := cdF ts n s
    let t := blF n c.2
    if nx ts t.2 wElse = true then (.mk 3 [] [] 0 emE c.1 [] t.1 (blF n (adv t.2)).1, (blF n (adv t.2)).2) else (.mk 3 [] [] 0 emE c.1 [] t.1 [], t.2)
def whF : Nat → PS → ST × PS
  | 0, s => (emS, s)
  | n + 1, s => (.mk 4 [] [] 0 emE (cdF ts n s).1 [] (blF n (cdF ts n s).2).1 [], (blF n (cdF ts n s).2).2)
def blF : Nat → PS → List ST × PS
  | 0, s => ([], s)
  | n + 1, s => ((ssF n (exs ts s cLc)).1, exs ts (ssF n (exs ts s cLc)).2 cRc)
end
def arF (s : PS) : (List UInt8 × Int) × PS := ((nmV ts s, nuV ts (nmS ts s)), exs ts (nuS ts (nmS ts s)) cSemi)
/-- The rest of a function's declaration; its parts. -/
def fnL (n : Nat) (s : PS) : List (List UInt8) × PS := if nx ts s wVar = true then lNF ts n (adv s) else ([], s)
def fnF (n : Nat) (s : PS) : FN × PS :=
  let p := pNF ts n (nmS ts s)
  let l := fnL ts n p.2
  let b := ssF ts n (exs ts l.2 cLc)
  let v := exF ts n (exs ts b.2 wReturn)
  (⟨nmV ts s, p.1, l.1, b.1, v.1⟩, exs ts (exs ts v.2 cSemi) cRc)
def pgF : Nat → PS → PG × PS
  | 0, s => (⟨[], []⟩, s)
  | n + 1, s =>
    if (s.f || decide (ts.length ≤ s.i)) = true then (⟨[], []⟩, s)
    else if nx ts s wArray = true then (⟨(arF ts (adv s)).1 :: (pgF n (arF ts (adv s)).2).1.arrays, (pgF n (arF ts (adv s)).2).1.funcs⟩, (pgF n (arF ts (adv s)).2).2)
    else if nx ts s wFunc = true then (⟨(pgF n (fnF ts n (adv s)).2).1.arrays, (fnF ts n (adv s)).1 :: (pgF n (fnF ts n (adv s)).2).1.funcs⟩, (pgF n (fnF ts n (adv s)).2).2)
    else (⟨[], []⟩, fl s)
end
/-- What Parse answers: the program, the error, its offset. -/
def parseF (l : List UInt8) : PG × Nat × Nat :=
  let q := scanF l
  if q.2.1 = 0 then
    let r := pgF q.1 (5 * q.1.length + 20) ⟨0, false⟩
    if r.2.f = true then (⟨[], []⟩, 2, if r.2.i < q.1.length then (q.1.getD r.2.i tk0).pos else l.length) else (r.1, 0, 0)
  else (⟨[], []⟩, q.2)
variable {ts : List Tk}
theorem ms_ex (n : Nat) (s : PS) : ms ts (exF ts n s).2 ≤ ms ts s := (ms_all n).1 s
theorem ms_mN (n : Nat) : ∀ s, ms ts (mNF ts n s).2 ≤ ms ts s := by
  induction n with
  | zero => intro s; exact Nat.le_refl _
  | succ n ih =>
    intro s
    rw [mNF]
    split
    · next h =>
      have := ms_adv (nx_len (by decide) h)
      have h2 := ms_nmS (ts := ts) (adv s)
      have h3 := ih (nmS ts (adv s))
      show ms ts (mNF ts n (nmS ts (adv s))).2 ≤ _
      omega
    · exact Nat.le_refl _
theorem ms_lN (n : Nat) (s : PS) : ms ts (lNF ts n s).2 ≤ ms ts s := Nat.le_trans (ms_mN n _) (ms_nmS s)
theorem ms_pN (n : Nat) (s : PS) : ms ts (pNF ts n s).2 ≤ ms ts s := by
  have h0 := ms_exs (ts := ts) s (x := cLp) (by decide)
  unfold pNF
  split
  · next h => have := ms_adv (nx_len (by decide) h); show ms ts (adv (exs ts s cLp)) ≤ _; omega
  · have h1 := ms_lN (ts := ts) n (exs ts s cLp)
    have h2 := ms_exs (ts := ts) (lNF ts n (exs ts s cLp)).2 (x := cRp) (by decide)
    show ms ts (exs ts (lNF ts n (exs ts s cLp)).2 cRp) ≤ _
    omega
theorem ms_mE (n : Nat) : ∀ s, ms ts (mEF ts n s).2 ≤ ms ts s := by
  induction n with
  | zero => intro s; exact Nat.le_refl _
  | succ n ih =>
    intro s
    rw [mEF]
    split
    · next h =>
      have := ms_adv (nx_len (by decide) h)
      have h2 := ms_ex (ts := ts) n (adv s)
      have h3 := ih (exF ts n (adv s)).2
      show ms ts (mEF ts n (exF ts n (adv s)).2).2 ≤ _
      omega
    · exact Nat.le_refl _
theorem ms_lE (n : Nat) (s : PS) : ms ts (lEF ts n s).2 ≤ ms ts s := Nat.le_trans (ms_mE n _) (ms_ex n s)
theorem ms_pE (n : Nat) (s : PS) : ms ts (pEF ts n s).2 ≤ ms ts s := by
  have h0 := ms_exs (ts := ts) s (x := cLp) (by decide)
  unfold pEF
  split
  · next h => have := ms_adv (nx_len (by decide) h); show ms ts (adv (exs ts s cLp)) ≤ _; omega
  · have h1 := ms_lE (ts := ts) n (exs ts s cLp)
    have h2 := ms_exs (ts := ts) (lEF ts n (exs ts s cLp)).2 (x := cRp) (by decide)
    show ms ts (exs ts (lEF ts n (exs ts s cLp)).2 cRp) ≤ _
    omega
theorem ms_cd (n : Nat) (s : PS) : ms ts (cdF ts n s).2 ≤ ms ts s := by
  have h0 := ms_exs (ts := ts) s (x := cLp) (by decide)
  have h1 := ms_ex (ts := ts) n (exs ts s cLp)
  have h2 := ms_exs (ts := ts) (exF ts n (exs ts s cLp)).2 (x := cRp) (by decide)
  show ms ts (exs ts (exF ts n (exs ts s cLp)).2 cRp) ≤ _
  omega
/-- A name is read, or the parser has failed: what is left has become less, if there was any. -/
theorem ms_nmS_lt {s : PS} (h : s.f = false) : ms ts (nmS ts s) + 1 ≤ ms ts s := by
  unfold nmS
  split
  · next h => have := ms_adv (pk_len (ts := ts) (s := s) (Or.inr (by rw [isNm_kind h]; decide))); omega
  · rw [ms_fl]; unfold ms; rw [h]; simp
theorem ms_ou (n : Nat) (s : PS) : ms ts (ouF ts n s).2 ≤ ms ts s := Nat.le_trans (ms_exs _ (by decide)) (ms_ex n s)
theorem ms_tr (s : PS) : ms ts (tpF ts s).2 ≤ ms ts s := Nat.le_trans (ms_exs _ (by decide)) (ms_nuS s)
theorem ms_so (n : Nat) (x : List UInt8) (s : PS) : ms ts (soF ts n x s).2 ≤ ms ts s := by
  unfold soF
  exact Nat.le_trans (ms_exs _ (by decide)) (Nat.le_trans (ms_ex n _) (Nat.le_trans (ms_exs _ (by decide)) (Nat.le_trans (ms_exs _ (by decide)) (ms_ex n s))))
theorem ms_ca (n : Nat) (x : List UInt8) (s : PS) : ms ts (caF ts n x s).2 ≤ ms ts s := by
  unfold caF
  exact Nat.le_trans (ms_exs _ (by decide)) (Nat.le_trans (ms_pE n _) (ms_nmS s))
theorem ms_as (n : Nat) (x : List UInt8) (s : PS) : ms ts (asF ts n x s).2 ≤ ms ts s := Nat.le_trans (ms_exs _ (by decide)) (ms_ex n s)
theorem ms_st (n : Nat) : (∀ s, ms ts (ssF ts n s).2 ≤ ms ts s) ∧ (∀ s, ms ts (stF ts n s).2 ≤ ms ts s) ∧ (∀ s, s.f = false → 0 < n → ms ts (stF ts n s).2 + 1 ≤ ms ts s) ∧ (∀ s, ms ts (ifF ts n s).2 ≤ ms ts s) ∧ (∀ s, ms ts (whF ts n s).2 ≤ ms ts s) ∧ (∀ s, ms ts (blF ts n s).2 ≤ ms ts s) := by
  induction n with
  | zero => simp [ssF, stF, ifF, whF, blF]
  | succ n ih =>
    obtain ⟨hs, ht, _, hi, hw, hb⟩ := ih
    have key : ∀ s, (s.f = false → ms ts (stF ts (n + 1) s).2 + 1 ≤ ms ts s) ∧ ms ts (stF ts (n + 1) s).2 ≤ ms ts s := by
      intro s
      rw [stF]
      have h3 : ∀ {x : List UInt8}, x ≠ [] → nx ts s x = true → ms ts (adv s) + 1 = ms ts s := fun hx h => ms_adv (nx_len hx h)
      split
      · next h => have := h3 (by decide) h; have := hi (adv s); exact ⟨fun _ => by omega, by omega⟩
      split
      · next h => have := h3 (by decide) h; have := hw (adv s); exact ⟨fun _ => by omega, by omega⟩
      split
      · next h => have := h3 (by decide) h; have := ms_ou (ts := ts) n (adv s); exact ⟨fun _ => by omega, by omega⟩
      split
      · next h => have := h3 (by decide) h; have := ms_tr (ts := ts) (adv s); exact ⟨fun _ => by omega, by omega⟩
      have h4 := ms_nmS (ts := ts) s
      have h5 : s.f = false → ms ts (nmS ts s) + 1 ≤ ms ts s := fun h => ms_nmS_lt h
      split
      · next h =>
        have := ms_adv (nx_len (by decide) h)
        have := ms_so (ts := ts) n (nmV ts s) (adv (nmS ts s))
        exact ⟨fun h => by have := h5 h; omega, by omega⟩
      have h6 := ms_exs (ts := ts) (nmS ts s) (x := cEq) (by decide)
      split
      · have := ms_ca (ts := ts) n (nmV ts s) (exs ts (nmS ts s) cEq)
        exact ⟨fun h => by have := h5 h; omega, by omega⟩
      · have := ms_as (ts := ts) n (nmV ts s) (exs ts (nmS ts s) cEq)
        exact ⟨fun h => by have := h5 h; omega, by omega⟩
    refine ⟨fun s => ?_, fun s => (key s).2, fun s h _ => (key s).1 h, fun s => ?_, fun s => ?_, fun s => ?_⟩
    · rw [ssF]
      split
      · exact Nat.le_refl _
      · exact Nat.le_trans (hs _) (ht s)
    · rw [ifF]
      have h1 := ms_cd (ts := ts) n s
      have h2 := hb (cdF ts n s).2
      split
      · next h =>
        have := ms_adv (nx_len (by decide) h)
        have := hb (adv (blF ts n (cdF ts n s).2).2)
        show ms ts (blF ts n (adv (blF ts n (cdF ts n s).2).2)).2 ≤ _
        omega
      · show ms ts (blF ts n (cdF ts n s).2).2 ≤ _
        omega
    · rw [whF]
      exact Nat.le_trans (hb _) (ms_cd n s)
    · rw [blF]
      exact Nat.le_trans (ms_exs _ (by decide)) (Nat.le_trans (hs _) (ms_exs _ (by decide)))
theorem ms_ar (s : PS) : ms ts (arF ts s).2 ≤ ms ts s := Nat.le_trans (ms_exs _ (by decide)) (Nat.le_trans (ms_nuS _) (ms_nmS s))
theorem ms_fnL (n : Nat) (s : PS) : ms ts (fnL ts n s).2 ≤ ms ts s := by
  unfold fnL
  split
  · next h => have := ms_adv (nx_len (by decide) h); have := ms_lN (ts := ts) n (adv s); omega
  · exact Nat.le_refl _
theorem ms_fn (n : Nat) (s : PS) : ms ts (fnF ts n s).2 ≤ ms ts s := by
  unfold fnF
  exact Nat.le_trans (ms_exs _ (by decide)) (Nat.le_trans (ms_exs _ (by decide)) (Nat.le_trans (ms_ex n _) (Nat.le_trans (ms_exs _ (by decide)) (Nat.le_trans ((ms_st n).1 _) (Nat.le_trans (ms_exs _ (by decide)) (Nat.le_trans (ms_fnL n _) (Nat.le_trans (ms_pN n _) (ms_nmS s))))))))
end Go.Proofs.YtjeidpfpgolonaaDoor.PX
