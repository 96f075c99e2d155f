/- Stage 4: CheckerLimits, the plain side: what Check answers to the five families. -/
import Derived.Test.YtgiggkfnpbgkpaaGreatDoorDj4
import Derived.Test.YtgiggkfnpbgkpaaGreatDoorKi
namespace Go.Proofs.YtgiggkfnpbgkpaaGreatDoor
open Go.RowKit (wrap64 intOf)
open Go Go.RowKit WM LX PX CX

set_option maxRecDepth 100000
set_option maxHeartbeats 4000000
def zE : PE := .mk 0 0 [] 0 []
def nE : PE := .mk 1 0 [] 0 []
def trapS : ST := .mk 7 [] [] 0 zE zE [] [] []
def whileS : ST := .mk 4 [] [] 0 zE nE [] [] []
def ifS (l : List ST) : ST := .mk 3 [] [] 0 zE nE [] [] l
def nestS : Nat → List ST
  | 0 => [trapS]
  | n + 1 => [ifS (nestS n)]
def condE : Nat → PE
  | 0 => nE
  | n + 1 => .mk 5 0 [] 0 [nE, nE, condE n]
def vN (i : Nat) : List UInt8 := [118, UInt8.ofNat (97 + i)]
/-- The five families. -/
def fam (k n : Nat) : PG :=
  ⟨[], [match k with
    | 0 => ⟨[102], [], (List.range n).map vN, [], nE⟩
    | 1 => ⟨[102], [], [], List.replicate n trapS, nE⟩
    | 2 => ⟨[102], [], [], List.replicate n whileS, nE⟩
    | 3 => ⟨[102], [], [], nestS n, nE⟩
    | _ => ⟨[102], [], [], [], condE n⟩]⟩
def mostK : Nat → Nat
  | 0 => 8
  | 1 => 200
  | 2 => 16
  | _ => 20
def topK : Nat → Nat
  | 0 => 20
  | 1 => 400
  | 2 => 40
  | _ => 50
/-- The tests beside the names' own. -/
def restB (k n : Nat) : Bool := limB (fam k n) == decide (mostK k < n) && (decide (mostK k < n) || (!dupB (fam k n) && (!undB (fam k n) && !ariB (fam k n))))
theorem rest_all : ((List.range 5).all fun k => (List.range (topK k)).all fun n => restB k n) = true := by kernel_rfl
theorem nm_v : ((List.range 20).all fun i => nameN (vN i)) = true := by kernel_rfl
theorem rest_at (k n : Nat) (hk : k < 5) (hn : n < topK k) : restB k n = true := by
  have h := rest_all
  rw [List.all_eq_true] at h
  have h2 := h k (List.mem_range.2 hk)
  rw [List.all_eq_true] at h2
  exact h2 n (List.mem_range.2 hn)
theorem nE_ok : allE nodeB nE = true := by kernel_rfl
theorem trap_ok : allS stmB trapS = true := by kernel_rfl
theorem while_ok : allS stmB whileS = true := by kernel_rfl
theorem all_rep {α : Type} (p : α → Bool) (x : α) (n : Nat) (h : p x = true) : (List.replicate n x).all p = true := by
  rw [List.all_eq_true]
  intro y hy
  rw [List.eq_of_mem_replicate hy]
  exact h
theorem nest_ok (n : Nat) : (nestS n).all (allS stmB) = true := by
  induction n with
  | zero => show ([trapS].all (allS stmB)) = true; rw [List.all_cons, trap_ok]; rfl
  | succ n ih =>
    show ([ifS (nestS n)].all (allS stmB)) = true
    rw [List.all_cons, List.all_nil, Bool.and_true]
    unfold ifS
    rw [allS_eq, ih, List.all_nil, Bool.true_and, Bool.and_true]
    unfold stmB
    dsimp only
    rw [show stU 3 = some (false, false, false, false, true, false, true, true) by rfl]
    dsimp only
    rw [show exFB nE true = true by kernel_rfl, show exFB zE false = true by kernel_rfl]
    simp [nmFB, trFB]
theorem cond_ok (n : Nat) : allE nodeB (condE n) = true := by
  induction n with
  | zero => exact nE_ok
  | succ n ih =>
    show allE nodeB (.mk 5 0 [] 0 [nE, nE, condE n]) = true
    rw [allE_eq]
    simp only [List.all_cons, List.all_nil, nE_ok, ih, Bool.and_true]
    unfold nodeB
    dsimp only
    rw [show exU 5 0 = some (false, false, false, 3) by rfl]
    dsimp only
    simp [nmFB, opFB]
theorem fam_shp (k n : Nat) (hk : k < 5) (hn : n < topK k) : shpB (fam k n) = true := by
  unfold shpB fam
  simp only [List.all_nil, List.all_cons, Bool.true_and, Bool.and_true]
  unfold funB
  match k, hk with
  | 0, _ =>
    have hv : ((List.range n).map vN).all nameB = true := by
      rw [List.all_map, List.all_eq_true]
      intro i hi
      have h := nm_v
      rw [List.all_eq_true] at h
      have hn' : n < 20 := hn
      have hi' := List.mem_range.1 hi
      show nameB (vN i) = true
      rw [nameN_eq]
      exact h i (List.mem_range.2 (by omega))
    simp only [nm_f, hv, nE_ok, List.all_nil, Bool.true_and]
  | 1, _ => simp only [nm_f, all_rep _ _ n trap_ok, nE_ok, List.all_nil, Bool.true_and]
  | 2, _ => simp only [nm_f, all_rep _ _ n while_ok, nE_ok, List.all_nil, Bool.true_and]
  | 3, _ => simp only [nm_f, nest_ok n, nE_ok, List.all_nil, Bool.true_and]
  | 4, _ => simp only [nm_f, cond_ok n, List.all_nil, Bool.true_and]
/-- What Check answers to the families. -/
theorem fam_chk (k n : Nat) (hk : k < 5) (hn : n < topK k) : chkF (fam k n) = if mostK k < n then 6 else 0 := by
  have h := rest_at k n hk hn
  unfold restB at h
  rw [Bool.and_eq_true, beq_iff_eq] at h
  obtain ⟨h1, h2⟩ := h
  unfold chkF
  rw [h1, fam_shp k n hk hn]
  by_cases hm : mostK k < n
  · rw [if_pos hm, if_pos (decide_eq_true hm)]
  · rw [if_neg hm, if_neg (by rw [decide_eq_false hm]; decide)]
    rw [decide_eq_false hm, Bool.false_or] at h2
    simp only [Bool.and_eq_true, Bool.not_eq_true'] at h2
    rw [h2.1, h2.2.1, h2.2.2]
    rfl
end Go.Proofs.YtgiggkfnpbgkpaaGreatDoor
