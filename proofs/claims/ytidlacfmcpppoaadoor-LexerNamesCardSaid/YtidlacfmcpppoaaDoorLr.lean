/- Stage 2: scanning a name behind a plus. -/
import Derived.Test.YtidlacfmcpppoaaDoorLq
namespace Go.Proofs.YtidlacfmcpppoaaDoor
open Go Go.RowKit WM LX

theorem wlen_all (l : List UInt8) (h : ∀ c ∈ l, wordB c = true) : wlen l = l.length := by
  induction l with
  | nil => rfl
  | cons c t ih => rw [wlen_pos (h c (by simp)), ih (fun x hx => h x (by simp [hx]))]; rfl
theorem long_43 (t : List UInt8) : longLen (43 :: t) = 0 := by
  unfold longLen
  have hf : longs.find? (fun p => p.isPrefixOf (43 :: t)) = none := by
    rw [List.find?_eq_none]
    intro p hp
    have hm : p = [62, 62, 62] ∨ p = [60, 60] ∨ p = [62, 62] ∨ p = [60, 61] ∨ p = [62, 61] ∨ p = [61, 61] ∨ p = [33, 61] := by
      simpa [longs] using hp
    rcases hm with rfl | rfl | rfl | rfl | rfl | rfl | rfl <;> simp [List.isPrefixOf]
  rw [hf]
theorem tokE_43 (t : List UInt8) : tokE (43 :: t) = 0 ∧ tokN (43 :: t) = 1 ∧ tokK (43 :: t) = 3 := by
  have hd : digB ((43 :: t : List UInt8).headD 0) = false := rfl
  have hl : letB ((43 :: t : List UInt8).headD 0) = false := rfl
  have hw : wordB ((43 :: t : List UInt8).headD 0) = false := rfl
  have hs : symLen (43 :: t) = 1 := by
    unfold symLen
    rw [long_43, if_pos rfl]; rfl
  unfold tokE tokN tokK
  rw [hd, hl, hw, hs]
  exact ⟨rfl, rfl, rfl⟩
/-- A name that begins with n. -/
def NameL (w : List UInt8) : Prop := (∃ t, w = 110 :: t) ∧ ∀ c ∈ w, wordB c = true
theorem name_tok {w : List UInt8} (h : NameL w) : tokE w = (if 16 < w.length then 6 else 0) ∧ tokN w = w.length ∧ tokK w = 1 ∧ skipLen false w = 0 ∧ w ≠ [] := by
  obtain ⟨⟨t, rfl⟩, hw⟩ := h
  have hd : digB ((110 :: t : List UInt8).headD 0) = false := rfl
  have hl : letB ((110 :: t : List UInt8).headD 0) = true := rfl
  have hw1 : wordB ((110 :: t : List UInt8).headD 0) = true := rfl
  have hwl := wlen_all _ hw
  unfold tokE tokN tokK
  rw [hd, hl, hw1, hwl]
  exact ⟨rfl, rfl, rfl, rfl, by simp⟩
theorem name_lx {w : List UInt8} (h : NameL w) : lx (43 :: w) 0 = (if 16 < w.length then ([⟨3, [43], 0⟩], 6, 1) else ([⟨3, [43], 0⟩, ⟨1, w, 1⟩], 0, 0)) := by
  obtain ⟨e1, e2, e3⟩ := tokE_43 w
  obtain ⟨n1, n2, n3, n4, n5⟩ := name_tok h
  rw [lx_step (r := 43 :: w) (r' := w) (x := [43]) rfl (by simp) e1 e2 e3 rfl rfl]
  by_cases hl : 16 < w.length
  · rw [if_pos hl] at n1 ⊢
    rw [lx_err (0 + 1) n4 n5 (by rw [n1]; decide), n1]
  · rw [if_neg hl] at n1 ⊢
    rw [lx_step (r := w) (r' := []) (x := w) n4 n5 n1 n2 n3 (List.take_of_length_le (Nat.le_refl _)) (List.drop_of_length_le (Nat.le_refl _)), lx_nil]
theorem name_long {w : List UInt8} (h : NameL w) (hl : 16 < w.length) (hm : w.length ≤ 100) : scanF (43 :: w) = ([], 6, 1) := by
  unfold scanF
  rw [if_neg (by simp; omega), name_lx h, if_pos hl, if_neg (by decide)]
theorem name_short {w : List UInt8} (h : NameL w) (hl : ¬ 16 < w.length) : scanF (43 :: w) = ([⟨3, [43], 0⟩, ⟨1, w, 1⟩], 0, 0) := by
  unfold scanF
  rw [if_neg (by simp; omega), name_lx h, if_neg hl, if_pos (by rfl)]
theorem nameL_snoc {s x : ByteArray} (h : NameL s.data.toList) (hx : ∀ c ∈ x.data.toList, wordB c = true) : NameL (s ++ x).data.toList := by
  rw [ByteArray.data_append, Array.toList_append]
  obtain ⟨⟨t, ht⟩, hw⟩ := h
  refine ⟨⟨t ++ x.data.toList, by rw [ht]; rfl⟩, fun c hc => ?_⟩
  rcases List.mem_append.1 hc with hc | hc
  · exact hw c hc
  · exact hx c hc
theorem plus_data (s : ByteArray) : ((⟨#[43]⟩ : ByteArray) ++ s).data.toList = 43 :: s.data.toList := by
  rw [ByteArray.data_append, Array.toList_append]; rfl
theorem ba_eta (s : ByteArray) : (⟨s.data.toList.toArray⟩ : ByteArray) = s := by
  apply ByteArray.ext
  apply Array.toList_inj.1
  rfl
theorem name_callL (s : ByteArray) (h : NameL s.data.toList) (hl : 16 < s.size) (hm : s.size ≤ 100) (w : World) (ht : Tab w.heap.size w) :
    Calls Tryd.prog 9 #[.string (⟨#[43]⟩ ++ s)] w (ExS 0 [] 6 1 w) :=
  (scan_q _ _ (Lib.hid ((congrArg scanF (plus_data s)).trans (name_long h (by rw [size_len]; exact hl) (by rw [size_len]; exact hm)))) w ht).mono fun _ _ h => exS_of h
abbrev nameT (s : ByteArray) : List Tk := [⟨3, [43], 0⟩, ⟨1, s.data.toList, 1⟩]
theorem name_callS (s : ByteArray) (h : NameL s.data.toList) (hl : ¬ 16 < s.size) (w : World) (ht : Tab w.heap.size w) :
    Calls Tryd.prog 9 #[.string (⟨#[43]⟩ ++ s)] w (ExS 2 (nameT s) 0 0 w) :=
  (scan_q _ _ (Lib.hid ((congrArg scanF (plus_data s)).trans (name_short h (by rw [size_len]; exact hl)))) w ht).mono fun _ _ h => exS_of h
theorem name_cells {w : World} {B : Nat} {A : Option Addr} {s : ByteArray} (h : Toks w B A (nameT s)) : ∃ g, A = some ⟨g, 0, none⟩ ∧ g < B ∧ w.cell? ⟨g, 3, none⟩ = some (.int .i64 1) ∧ w.cell? ⟨g, 4, none⟩ = some (.string s) ∧ w.cell? ⟨g, 5, none⟩ = some (.int .i64 1) := by
  obtain ⟨g, hA, hg, hc⟩ := h (Nat.succ_pos _)
  exact ⟨g, hA, hg, hc 3 _ rfl, (hc 4 _ rfl).trans (by rw [ba_eta]), hc 5 _ rfl⟩
abbrev nameCells : Array Value := #[.string ⟨#[97]⟩, .string ⟨#[90]⟩, .string ⟨#[95]⟩, .string ⟨#[48]⟩, .string ⟨#[57]⟩]
theorem nameCell (p : Nat) (hp : p < 5) : ∃ x : ByteArray, nameCells[p]? = some (.string x) ∧ x.size = 1 ∧ ∀ c ∈ x.data.toList, wordB c = true := by
  have hc : p = 0 ∨ p = 1 ∨ p = 2 ∨ p = 3 ∨ p = 4 := by omega
  rcases hc with rfl | rfl | rfl | rfl | rfl
  all_goals exact ⟨_, rfl, rfl, by decide +kernel⟩
end Go.Proofs.YtidlacfmcpppoaaDoor
