/- Stage 3, plain mathematics: the parser as a function on tokens. -/
import Derived.Test.YtjeidpfpgolonaaDoorLm
namespace Go.Proofs.YtjeidpfpgolonaaDoor.PX
open Go Go.RowKit WM LX

/-- Expressions and statements as plain data. -/
inductive PE where
  | mk (kind n : Int) (name : List UInt8) (op : Int) (kids : List PE)
inductive ST where
  | mk (kind : Int) (name to : List UInt8) (n : Int) (pos value : PE) (args : List PE) (thn els : List ST)
/-- The next token's index; has the parser failed? -/
structure PS where
  i : Nat
  f : Bool
def tk0 : Tk := ⟨0, [], 0⟩
def pk (ts : List Tk) (s : PS) : Tk := if s.f = true then tk0 else ts.getD s.i tk0
def adv (s : PS) : PS := ⟨s.i + 1, s.f⟩
def fl (s : PS) : PS := ⟨s.i, true⟩
def nx (ts : List Tk) (s : PS) (x : List UInt8) : Bool := decide ((pk ts s).text = x)
def acc (ts : List Tk) (s : PS) (x : List UInt8) : PS := if nx ts s x = true then adv s else s
def exs (ts : List Tk) (s : PS) (x : List UInt8) : PS := if nx ts s x = true then adv s else fl s
abbrev wArray : List UInt8 := [97, 114, 114, 97, 121]
abbrev wFunc : List UInt8 := [102, 117, 110, 99]
abbrev wVar : List UInt8 := [118, 97, 114]
abbrev wReturn : List UInt8 := [114, 101, 116, 117, 114, 110]
abbrev wIf : List UInt8 := [105, 102]
abbrev wElse : List UInt8 := [101, 108, 115, 101]
abbrev wWhile : List UInt8 := [119, 104, 105, 108, 101]
abbrev wOut : List UInt8 := [111, 117, 116]
abbrev wTrap : List UInt8 := [116, 114, 97, 112]
def resW : List (List UInt8) := [wArray, wFunc, wVar, wReturn, wIf, wElse, wWhile, wOut, wTrap]
def isNm (t : Tk) : Bool := decide (t.kind = 1) && !resW.contains t.text
def nmV (ts : List Tk) (s : PS) : List UInt8 := if isNm (pk ts s) = true then (pk ts s).text else []
def nmS (ts : List Tk) (s : PS) : PS := if isNm (pk ts s) = true then adv s else fl s
def nuB (t : Tk) : Bool := parseB t.text && decide (parseV t.text ≤ 1000000)
def nuV (ts : List Tk) (s : PS) : Int := if nuB (pk ts s) = true then parseV (pk ts s).text else 0
def nuS (ts : List Tk) (s : PS) : PS := if nuB (pk ts s) = true then adv s else fl s
abbrev numE (n : Int) : PE := .mk 1 n [] 0 []
abbrev varE (x : List UInt8) : PE := .mk 2 0 x 0 []
abbrev idxE (x : List UInt8) (e : PE) : PE := .mk 3 0 x 0 [e]
abbrev opE (op : Int) (l : List PE) : PE := .mk 4 0 [] op l
abbrev conE (a b c : PE) : PE := .mk 5 0 [] 0 [a, b, c]
abbrev emE : PE := .mk 0 0 [] 0 []
/-- The binary operators: symbol, level, operation, exchanged. -/
def opsT : List (List UInt8 × Nat × Nat × Bool) :=
  [([124], 1, 10, false), ([94], 2, 11, false), ([38], 3, 9, false), ([61, 61], 4, 15, false), ([33, 61], 4, 16, false), ([60], 5, 17, false), ([60, 61], 5, 18, false),
   ([62], 5, 17, true), ([62, 61], 5, 18, true), ([60, 60], 6, 12, false), ([62, 62], 6, 14, false), ([62, 62, 62], 6, 13, false), ([43], 7, 4, false), ([45], 7, 5, false), ([42], 8, 6, false), ([47], 8, 7, false), ([37], 8, 8, false)]
def opAt (x : List UInt8) : Option (List UInt8 × Nat × Nat × Bool) := opsT.find? fun o => decide (o.1 = x)
def apE (op : Nat) (ex : Bool) (l r : PE) : PE := if ex = true then opE op [r, l] else opE op [l, r]
def negV (x : List UInt8) : Int := if x = [48] then 0 else parseV (45 :: x)
abbrev cMinus : List UInt8 := [45]
abbrev cTilde : List UInt8 := [126]
abbrev cBang : List UInt8 := [33]
abbrev cQuest : List UInt8 := [63]
abbrev cColon : List UInt8 := [58]
abbrev cLp : List UInt8 := [40]
abbrev cRp : List UInt8 := [41]
abbrev cLb : List UInt8 := [91]
abbrev cRb : List UInt8 := [93]
abbrev cLc : List UInt8 := [123]
abbrev cRc : List UInt8 := [125]
abbrev cSemi : List UInt8 := [59]
abbrev cComma : List UInt8 := [44]
abbrev cEq : List UInt8 := [61]

section
variable (ts : List Tk)
mutual
def exF : Nat → PS → PE × PS
  | 0, s => (emE, s)
  | n + 1, s =>
    let c := biF n 1 s
    if nx ts c.2 cQuest = true then
      let a := exF n (adv c.2)
      let b := exF n (exs ts a.2 cColon)
      (conE c.1 a.1 b.1, b.2)
    else c
def biF : Nat → Nat → PS → PE × PS
  | 0, _, s => (emE, s)
  | n + 1, lv, s => loF n lv (prF n s).1 (prF n s).2
def loF : Nat → Nat → PE → PS → PE × PS
  | 0, _, l, s => (l, s)
  | n + 1, lv, l, s => match opAt (pk ts s).text with
    | none => (l, s)
    | some o => if o.2.1 < lv then (l, s) else
      let r := biF n (o.2.1 + 1) (adv s)
      loF n lv (apE o.2.2.1 o.2.2.2 l r.1) r.2
def prF : Nat → PS → PE × PS
  | 0, s => (emE, s)
  | n + 1, s =>
    if nx ts s cMinus = true then
      (if (pk ts (adv s)).kind = 2 then (numE (negV (pk ts (adv s)).text), adv (adv s)) else (opE 20 [(prF n (adv s)).1], (prF n (adv s)).2))
    else if nx ts s cTilde = true then (opE 21 [(prF n (adv s)).1], (prF n (adv s)).2)
    else if nx ts s cBang = true then (opE 15 [(prF n (adv s)).1, numE 0], (prF n (adv s)).2)
    else piF n s
def piF : Nat → PS → PE × PS
  | 0, s => (emE, s)
  | n + 1, s =>
    if (pk ts s).kind = 2 then (if parseB (pk ts s).text = true then (numE (parseV (pk ts s).text), adv s) else (emE, fl s))
    else if nx ts s cLp = true then
      ((exF n (adv s)).1, exs ts (exF n (adv s)).2 cRp)
    else if nx ts (nmS ts s) cLb = true then
      (idxE (nmV ts s) (exF n (adv (nmS ts s))).1, exs ts (exF n (adv (nmS ts s))).2 cRb)
    else (varE (nmV ts s), nmS ts s)
end
/-- What is left: how many steps may still come. -/
def ms (s : PS) : Nat := if s.f = true then 0 else ts.length - s.i + 1
end
variable {ts : List Tk}
theorem pk_len {s : PS} (h : (pk ts s).text ≠ [] ∨ (pk ts s).kind ≠ 0) : s.f = false ∧ s.i < ts.length := by
  unfold pk at h
  by_cases hf : s.f = true
  · rw [if_pos hf] at h; simp [tk0] at h
  · rw [if_neg hf] at h
    refine ⟨by simpa using hf, ?_⟩
    apply Classical.byContradiction
    intro hn
    rw [List.getD_eq_getElem?_getD, List.getElem?_eq_none (by omega)] at h
    simp [tk0] at h
theorem nx_len {s : PS} {x : List UInt8} (hx : x ≠ []) (h : nx ts s x = true) : s.f = false ∧ s.i < ts.length :=
  pk_len (Or.inl (by unfold nx at h; rw [of_decide_eq_true h]; exact hx))
theorem ms_adv {s : PS} (h : s.f = false ∧ s.i < ts.length) : ms ts (adv s) + 1 = ms ts s := by
  unfold ms adv
  rw [h.1]
  simp
  omega
theorem ms_fl (s : PS) : ms ts (fl s) = 0 := by unfold ms fl; simp
theorem ms_exs (s : PS) {x : List UInt8} (hx : x ≠ []) : ms ts (exs ts s x) ≤ ms ts s := by
  unfold exs
  split
  · next h => have := ms_adv (nx_len hx h); omega
  · rw [ms_fl]; exact Nat.zero_le _
theorem isNm_kind {t : Tk} (h : isNm t = true) : t.kind = 1 := by
  unfold isNm at h; simp at h; exact h.1
theorem ms_nmS (s : PS) : ms ts (nmS ts s) ≤ ms ts s := by
  unfold nmS
  split
  · next h => have := ms_adv (pk_len (ts := ts) (s := s) (Or.inr (by rw [isNm_kind h]; decide))); omega
  · rw [ms_fl]; exact Nat.zero_le _
theorem parseB_nil : parseB [] = false := by decide +kernel
theorem nuB_text {t : Tk} (h : nuB t = true) : t.text ≠ [] := by
  intro hn
  unfold nuB at h; rw [hn, parseB_nil] at h; cases h
theorem ms_nuS (s : PS) : ms ts (nuS ts s) ≤ ms ts s := by
  unfold nuS
  split
  · next h => have := ms_adv (pk_len (ts := ts) (s := s) (Or.inl (nuB_text h))); omega
  · rw [ms_fl]; exact Nat.zero_le _
theorem opAt_text {x : List UInt8} {o : List UInt8 × Nat × Nat × Bool} (h : opAt x = some o) : x ≠ [] ∧ 1 ≤ o.2.1 ∧ o.2.1 ≤ 8 ∧ 4 ≤ o.2.2.1 ∧ o.2.2.1 ≤ 18 ∧ o ∈ opsT := by
  have hm := List.mem_of_find?_eq_some h
  have hx : o.1 = x := by
    unfold opAt at h
    exact of_decide_eq_true (List.find?_some (p := fun o : List UInt8 × Nat × Nat × Bool => decide (o.1 = x)) h)
  subst hx
  have : ∀ o ∈ opsT, o.1 ≠ [] ∧ 1 ≤ o.2.1 ∧ o.2.1 ≤ 8 ∧ 4 ≤ o.2.2.1 ∧ o.2.2.1 ≤ 18 := by decide
  obtain ⟨a, b, c, d, e⟩ := this o hm
  exact ⟨a, b, c, d, e, hm⟩
theorem ms_all (n : Nat) : (∀ s, ms ts (exF ts n s).2 ≤ ms ts s) ∧ (∀ lv s, ms ts (biF ts n lv s).2 ≤ ms ts s) ∧ (∀ lv l s, ms ts (loF ts n lv l s).2 ≤ ms ts s) ∧ (∀ s, ms ts (prF ts n s).2 ≤ ms ts s) ∧ (∀ s, ms ts (piF ts n s).2 ≤ ms ts s) := by
  induction n with
  | zero => simp [exF, biF, loF, prF, piF]
  | succ n ih =>
    obtain ⟨he, hb, hl, hp, hq⟩ := ih
    refine ⟨fun s => ?_, fun lv s => ?_, fun lv l s => ?_, fun s => ?_, fun s => ?_⟩
    · rw [exF]
      have h1 := hb 1 s
      dsimp only
      split
      · next h =>
        have h2 := ms_adv (nx_len (by decide) h)
        have h3 := he (adv (biF ts n 1 s).2)
        have h4 := ms_exs (ts := ts) (exF ts n (adv (biF ts n 1 s).2)).2 (x := cColon) (by decide)
        have h5 := he (exs ts (exF ts n (adv (biF ts n 1 s).2)).2 cColon)
        show ms ts (exF ts n (exs ts (exF ts n (adv (biF ts n 1 s).2)).2 cColon)).2 ≤ _
        omega
      · exact h1
    · rw [biF]
      exact Nat.le_trans (hl _ _ _) (hp s)
    · rw [loF]
      split
      · exact Nat.le_refl _
      · next o h =>
        split
        · exact Nat.le_refl _
        · have h2 := ms_adv (pk_len (ts := ts) (s := s) (Or.inl (opAt_text h).1))
          exact Nat.le_trans (hl _ _ _) (Nat.le_trans (hb _ _) (by omega))
    · rw [prF]
      have h1 := hp (adv s)
      have h2 := hq s
      have h3 : ∀ {x : List UInt8}, x ≠ [] → nx ts s x = true → ms ts (adv s) + 1 = ms ts s := fun hx h => ms_adv (nx_len hx h)
      split
      · next h =>
        have := h3 (by decide) h
        split
        · next h' =>
          have := ms_adv (pk_len (ts := ts) (s := adv s) (Or.inr (by rw [h']; decide)))
          show ms ts (adv (adv s)) ≤ _
          omega
        · show ms ts (prF ts n (adv s)).2 ≤ _
          omega
      · split
        · next h => have := h3 (by decide) h; show ms ts (prF ts n (adv s)).2 ≤ _; omega
        · split
          · next h => have := h3 (by decide) h; show ms ts (prF ts n (adv s)).2 ≤ _; omega
          · exact h2
    · rw [piF]
      split
      · next h =>
        have := ms_adv (pk_len (ts := ts) (s := s) (Or.inr (by rw [h]; decide)))
        split
        · show ms ts (adv s) ≤ _; omega
        · show ms ts (fl s) ≤ _; rw [ms_fl]; exact Nat.zero_le _
      · split
        · next h =>
          have := ms_adv (nx_len (by decide) h)
          have h2 := he (adv s)
          have h3 := ms_exs (ts := ts) (exF ts n (adv s)).2 (x := cRp) (by decide)
          show ms ts (exs ts (exF ts n (adv s)).2 cRp) ≤ _
          omega
        · have h4 := ms_nmS (ts := ts) s
          split
          · next h =>
            have := ms_adv (nx_len (by decide) h)
            have h2 := he (adv (nmS ts s))
            have h3 := ms_exs (ts := ts) (exF ts n (adv (nmS ts s))).2 (x := cRb) (by decide)
            show ms ts (exs ts (exF ts n (adv (nmS ts s))).2 cRb) ≤ _
            omega
          · exact h4
end Go.Proofs.YtjeidpfpgolonaaDoor.PX
