/- Stage 3, plain mathematics: the scan and the parse by computation; the examples of chapter 3. -/
import Derived.Test.YtjeidpfpgolonaaDoorPn
import Derived.KernelRfl
namespace Go.Proofs.YtjeidpfpgolonaaDoor.PX
open Go Go.RowKit WM LX

def lxN : Nat → List UInt8 → Nat → List Tk × Nat × Nat
  | 0, _, _ => ([], 0, 0)
  | m + 1, l, p =>
    if l.drop (skipLen false l) = [] then ([], 0, 0)
    else if tokE (l.drop (skipLen false l)) = 0 then
      let n := skipLen false l
      let r := l.drop n
      let q := lxN m (r.drop (tokN r)) (p + n + tokN r)
      (⟨tokK r, r.take (tokN r), p + n⟩ :: q.1, q.2)
    else ([], tokE (l.drop (skipLen false l)), p + skipLen false l)
theorem lxN_eq (m : Nat) : ∀ l p, l.length < m → lxN m l p = lx l p := by
  induction m with
  | zero => intro l p h; omega
  | succ m ih =>
    intro l p h
    rw [lxN, lx]
    by_cases h1 : l.drop (skipLen false l) = []
    · rw [if_pos h1, dif_pos h1]
    · rw [if_neg h1, dif_neg h1]
      by_cases h2 : tokE (l.drop (skipLen false l)) = 0
      · rw [if_pos h2, dif_pos h2]
        have h3 := tokN_pos h1 h2
        have h4 : 1 ≤ (l.drop (skipLen false l)).length := by
          cases hh : l.drop (skipLen false l) with
          | nil => exact absurd hh h1
          | cons a t => simp
        rw [List.length_drop] at h4
        have h5 := ih ((l.drop (skipLen false l)).drop (tokN (l.drop (skipLen false l)))) (p + skipLen false l + tokN (l.drop (skipLen false l))) (by rw [List.length_drop, List.length_drop]; omega)
        dsimp only
        rw [h5]
      · rw [if_neg h2, dif_neg h2]
def scanN (l : List UInt8) : List Tk × Nat × Nat :=
  if 20000 < l.length then ([], 6, 20000)
  else if (lxN (l.length + 1) l 0).2.1 = 0 then ((lxN (l.length + 1) l 0).1, 0, 0) else ([], (lxN (l.length + 1) l 0).2)
theorem scanN_eq (l : List UInt8) : scanN l = scanF l := by
  unfold scanN scanF
  rw [lxN_eq _ _ _ (Nat.lt_succ_self _)]
/-- The parse by computation, over given tokens. -/
def parseT (ts : List Tk) (len : Nat) : PG × Nat × Nat :=
  let r := pgF ts (5 * ts.length + 20) ⟨0, false⟩
  if r.2.f = true then (⟨[], []⟩, 2, if r.2.i < ts.length then (ts.getD r.2.i tk0).pos else len) else (r.1, 0, 0)
theorem parseF_of {l : List UInt8} {ts : List Tk} {len : Nat} {r : PG × Nat × Nat} (h : scanN l = (ts, 0, 0)) (hl : l.length = len) (hr : parseT ts len = r) : parseF l = r := by
  rw [scanN_eq] at h
  subst hl hr
  unfold parseF parseT
  rw [h]
  rfl
/- func f() { return 2 - -3; } -/
abbrev ex1 : List UInt8 := [102, 117, 110, 99, 32, 102, 40, 41, 32, 123, 32, 114, 101, 116, 117, 114, 110, 32, 50, 32, 45, 32, 45, 51, 59, 32, 125]
abbrev ex1T : List Tk := [⟨1, wFunc, 0⟩, ⟨1, [102], 5⟩, ⟨3, [40], 6⟩, ⟨3, [41], 7⟩, ⟨3, [123], 9⟩, ⟨1, wReturn, 11⟩, ⟨2, [50], 18⟩, ⟨3, [45], 20⟩, ⟨3, [45], 22⟩, ⟨2, [51], 23⟩, ⟨3, [59], 24⟩, ⟨3, [125], 26⟩]
theorem ex1_scan : scanN ex1 = (ex1T, 0, 0) := by kernel_rfl
theorem ex1_parse : parseF ex1 = (⟨[], [⟨[102], [], [], [], opE 5 [numE 2, numE (-3)]⟩]⟩, 0, 0) := parseF_of ex1_scan (len := 27) rfl (by kernel_rfl)
/- func f(a) { return a > 1; } -/
abbrev ex2 : List UInt8 := [102, 117, 110, 99, 32, 102, 40, 97, 41, 32, 123, 32, 114, 101, 116, 117, 114, 110, 32, 97, 32, 62, 32, 49, 59, 32, 125]
abbrev ex2T : List Tk := [⟨1, wFunc, 0⟩, ⟨1, [102], 5⟩, ⟨3, [40], 6⟩, ⟨1, [97], 7⟩, ⟨3, [41], 8⟩, ⟨3, [123], 10⟩, ⟨1, wReturn, 12⟩, ⟨1, [97], 19⟩, ⟨3, [62], 21⟩, ⟨2, [49], 23⟩, ⟨3, [59], 24⟩, ⟨3, [125], 26⟩]
theorem ex2_scan : scanN ex2 = (ex2T, 0, 0) := by kernel_rfl
theorem ex2_parse : parseF ex2 = (⟨[], [⟨[102], [[97]], [], [], opE 17 [numE 1, varE [97]]⟩]⟩, 0, 0) := parseF_of ex2_scan (len := 27) rfl (by kernel_rfl)
/- func f() { x = f() + 1; return 0; } -/
abbrev ex3 : List UInt8 := [102, 117, 110, 99, 32, 102, 40, 41, 32, 123, 32, 120, 32, 61, 32, 102, 40, 41, 32, 43, 32, 49, 59, 32, 114, 101, 116, 117, 114, 110, 32, 48, 59, 32, 125]
abbrev ex3T : List Tk := [⟨1, wFunc, 0⟩, ⟨1, [102], 5⟩, ⟨3, [40], 6⟩, ⟨3, [41], 7⟩, ⟨3, [123], 9⟩, ⟨1, [120], 11⟩, ⟨3, [61], 13⟩, ⟨1, [102], 15⟩, ⟨3, [40], 16⟩, ⟨3, [41], 17⟩, ⟨3, [43], 19⟩, ⟨2, [49], 21⟩, ⟨3, [59], 22⟩, ⟨1, wReturn, 24⟩, ⟨2, [48], 31⟩, ⟨3, [59], 32⟩, ⟨3, [125], 34⟩]
theorem ex3_scan : scanN ex3 = (ex3T, 0, 0) := by kernel_rfl
theorem ex3_parse : parseF ex3 = (⟨[], []⟩, 2, 19) := parseF_of ex3_scan (len := 35) rfl (by kernel_rfl)
end Go.Proofs.YtjeidpfpgolonaaDoor.PX
