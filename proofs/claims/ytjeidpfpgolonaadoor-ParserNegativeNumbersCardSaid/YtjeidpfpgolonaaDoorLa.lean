/- Stage 2: the walks of the lexer's and the reference's tests of one byte. -/
import Derived.Test.YtjeidpfpgolonaaDoorLm
import Derived.Test.YtjeidpfpgolonaaDoorRn
import Derived.Outline
namespace Go.Proofs.YtjeidpfpgolonaaDoor
open Go.RowKit (wrap64 intOf)
open Go Go.RowKit WM LX

theorem digB_cases (c : UInt8) : (48 ≤ (c.toNat : Int) ∧ (c.toNat : Int) ≤ 57 ∧ digB c = true) ∨ ((c.toNat : Int) < 48 ∧ digB c = false) ∨ (57 < (c.toNat : Int) ∧ digB c = false) := by
  unfold digB
  by_cases h1 : 48 ≤ c.toNat
  · by_cases h2 : c.toNat ≤ 57
    · exact Or.inl ⟨by omega, by omega, by simp [h1, h2]⟩
    · exact Or.inr (Or.inr ⟨by omega, by simp [h2]⟩)
  · exact Or.inr (Or.inl ⟨by omega, by simp [h1]⟩)
def IsB (b : Bool) (w : World) (e : Ending) (w' : World) : Prop := e = .returned (.bool b) ∧ w = w'
theorem isB {b b' : Bool} {w : World} (h : b' = b) : IsB b w (.returned (.bool b')) w := ⟨by rw [h], rfl⟩
theorem isDigit_any (c : UInt8) (w : World) : Calls Tryd.prog 38 #[.int .u8 (c.toNat : Int)] w (IsB (digB c) w) := by
  rcases digB_cases c with ⟨h1, h2, h⟩ | ⟨h1, h⟩ | ⟨h1, h⟩
  all_goals
    have H := Lib.hid h
    clear h
    go_enter Tryd.func38, Tryd.ntmps38
    go_wp2_with fail
    go_ret
    first | exact isB H.out.symm | exact isB (by rw [H.out]; simp; omega)
theorem rDigit_any (c : UInt8) (w : World) : Calls Tryd.prog 23 #[.int .u8 (c.toNat : Int)] w (IsB (digB c) w) := by
  rcases digB_cases c with ⟨h1, h2, h⟩ | ⟨h1, h⟩ | ⟨h1, h⟩
  all_goals
    have H := Lib.hid h
    clear h
    go_enter Tryd.func23, Tryd.ntmps23
    go_wp2_with fail
    go_ret
    first | exact isB H.out.symm | exact isB (by rw [H.out]; simp; omega)
theorem byte_cases (c : UInt8) : (97 ≤ (c.toNat : Int) ∧ (c.toNat : Int) ≤ 122 ∧ letB c = true ∧ digB c = false) ∨ (65 ≤ (c.toNat : Int) ∧ (c.toNat : Int) ≤ 90 ∧ letB c = true ∧ digB c = false) ∨ ((c.toNat : Int) = 95 ∧ letB c = true ∧ digB c = false)
    ∨ (48 ≤ (c.toNat : Int) ∧ (c.toNat : Int) ≤ 57 ∧ letB c = false ∧ digB c = true)
    ∨ (((c.toNat : Int) < 48 ∨ (57 < (c.toNat : Int) ∧ (c.toNat : Int) < 65) ∨ (90 < (c.toNat : Int) ∧ (c.toNat : Int) < 95) ∨ (95 < (c.toNat : Int) ∧ (c.toNat : Int) < 97) ∨ 122 < (c.toNat : Int)) ∧ letB c = false ∧ digB c = false) := by
  have hcases : (97 ≤ c.toNat ∧ c.toNat ≤ 122) ∨ (65 ≤ c.toNat ∧ c.toNat ≤ 90) ∨ c.toNat = 95 ∨ (48 ≤ c.toNat ∧ c.toNat ≤ 57) ∨ (c.toNat < 48 ∨ (57 < c.toNat ∧ c.toNat < 65) ∨ (90 < c.toNat ∧ c.toNat < 95) ∨ (95 < c.toNat ∧ c.toNat < 97) ∨ 122 < c.toNat) := by omega
  have hl : letB c = decide ((97 ≤ c.toNat ∧ c.toNat ≤ 122) ∨ (65 ≤ c.toNat ∧ c.toNat ≤ 90) ∨ c.toNat = 95) := by
    unfold letB; rw [Bool.eq_iff_iff]; simp only [Bool.or_eq_true, Bool.and_eq_true, decide_eq_true_eq, or_assoc]
  have hd : digB c = decide (48 ≤ c.toNat ∧ c.toNat ≤ 57) := by
    unfold digB; rw [Bool.eq_iff_iff]; simp only [Bool.and_eq_true, decide_eq_true_eq]
  rw [hl, hd]
  rcases hcases with ⟨h, h'⟩ | ⟨h, h'⟩ | h | ⟨h, h'⟩ | h
  · exact Or.inl ⟨by omega, by omega, decide_eq_true (by omega), decide_eq_false (by omega)⟩
  · exact Or.inr (Or.inl ⟨by omega, by omega, decide_eq_true (by omega), decide_eq_false (by omega)⟩)
  · exact Or.inr (Or.inr (Or.inl ⟨by omega, decide_eq_true (by omega), decide_eq_false (by omega)⟩))
  · exact Or.inr (Or.inr (Or.inr (Or.inl ⟨by omega, by omega, decide_eq_false (by omega), decide_eq_true (by omega)⟩)))
  · exact Or.inr (Or.inr (Or.inr (Or.inr ⟨by omega, decide_eq_false (by omega), decide_eq_false (by omega)⟩)))
theorem word_of {c : UInt8} {a b : Bool} (h : letB c = a) (h' : digB c = b) : wordB c = (a || b) := by unfold wordB; rw [h, h']
theorem isWord_any (c : UInt8) (w : World) : Calls Tryd.prog 40 #[.int .u8 (c.toNat : Int)] w (IsB (wordB c) w) := by
  rcases byte_cases c with ⟨h1, h2, h, h'⟩ | ⟨h1, h2, h, h'⟩ | ⟨h1, h, h'⟩ | ⟨h1, h2, h, h'⟩ | ⟨h1 | ⟨h1, h2⟩ | ⟨h1, h2⟩ | ⟨h1, h2⟩ | h1, h, h'⟩
  all_goals
    have H := Lib.hid (word_of h h')
    clear h
    try have h3 : ((c.toNat : Int) == 95) = false := by rw [beq_eq_false_iff_ne]; omega
    try have h4 : ((c.toNat : Int) == 95) = true := by rw [beq_iff_eq]; assumption
    go_enter Tryd.func40, Tryd.ntmps40
    go_wp2_with (go_at_call 38; ((with_reducible refine (isDigit_any c _).mono ?_); rintro e w' ⟨rfl, rfl⟩))
    go_ret
    first | exact isB (by rw [H.out]; rfl) | exact isB (by rw [H.out]; simp; omega)
theorem rLetter_any (c : UInt8) (w : World) : Calls Tryd.prog 22 #[.int .u8 (c.toNat : Int)] w (IsB (letB c) w) := by
  rcases byte_cases c with ⟨h1, h2, h, h'⟩ | ⟨h1, h2, h, h'⟩ | ⟨h1, h, h'⟩ | ⟨h1, h2, h, h'⟩ | ⟨h1 | ⟨h1, h2⟩ | ⟨h1, h2⟩ | ⟨h1, h2⟩ | h1, h, h'⟩
  all_goals
    have H := Lib.hid h
    clear h h'
    try have h3 : ((c.toNat : Int) == 95) = false := by rw [beq_eq_false_iff_ne]; omega
    try have h4 : ((c.toNat : Int) == 95) = true := by rw [beq_iff_eq]; assumption
    go_enter Tryd.func22, Tryd.ntmps22
    go_wp2_with fail
    go_ret
    first | exact isB H.out.symm | exact isB (by rw [H.out]; simp; omega)
end Go.Proofs.YtjeidpfpgolonaaDoor
