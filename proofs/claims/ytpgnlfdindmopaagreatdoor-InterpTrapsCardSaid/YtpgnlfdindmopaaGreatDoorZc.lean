/- Stage 6, plain mathematics: the outcomes of Traps. -/
import Derived.Test.YtpgnlfdindmopaaGreatDoorI2
import Derived.Test.YtpgnlfdindmopaaGreatDoorI1
namespace Go.Proofs.YtpgnlfdindmopaaGreatDoor.IX
open Go Go.RowKit WM LX PX CX

set_option maxRecDepth 100000
abbrev trS (c : Int) : ST := .mk 7 [] [] c emE emE [] [] []
abbrev ifT (c : Int) : ST := .mk 3 [] [] 0 emE (opE 15 [varE [105], varE [109]]) [] [trS c] []
abbrev otT : ST := .mk 5 [] [] 0 emE (varE [105]) [] [] []
abbrev inT : ST := .mk 1 [105] [] 0 emE (opE 4 [varE [105], numE 1]) [] [] []
abbrev whT (c : Int) : ST := .mk 4 [] [] 0 emE (opE 17 [varE [105], varE [110]]) [] [ifT c, otT, inT] []
abbrev ipQ (c : Int) : PG := ⟨[], [⟨[102], [[110], [109]], [[105]], [whT c], numE 5⟩]⟩
theorem ipQ_0 : ipP = ipQ 0 := rfl
theorem tr_st (c : Int) : allS (stmG nmK) (trS c) = (((decide (0 ≤ c) && decide (c ≤ 1000000)) && true) && true) := by kernel_rfl
theorem if_st (c : Int) : allS (stmG nmK) (ifT c) = ((allS (stmG nmK) (trS c) && true) && true) := by kernel_rfl
theorem wh_st (c : Int) : allS (stmG nmK) (whT c) = ((allS (stmG nmK) (ifT c) && true) && true) := by kernel_rfl
theorem ipQ_sh (c : Int) : shpG nmK (ipQ c) = (((allS (stmG nmK) (whT c) && true) && true) && true) := by kernel_rfl
theorem ipQ_chk (c : Int) (h0 : 0 ≤ c) (h1 : c ≤ 1000000) : chkF (ipQ c) = 0 := by
  have e0 : limB (ipQ c) = false := by kernel_rfl
  have e1 : shpG nmK (ipQ c) = true := by rw [ipQ_sh, wh_st, if_st, tr_st, decide_eq_true h0, decide_eq_true h1]; rfl
  have e2 : dupB (ipQ c) = false := by kernel_rfl
  have e3 : undB (ipQ c) = false := by kernel_rfl
  have e4 : ariB (ipQ c) = false := by kernel_rfl
  rw [chkK]
  unfold chkG
  rw [e0, e1, e2, e3, e4]
  rfl
theorem ipQ_sz (c : Int) : szP (ipQ c) ≤ 1000000 := of_decide_eq_true (by kernel_rfl)
def tpR (k m : Nat) (c : Int) : OC := if m < k then ⟨2, wrap64 (16 + c), (List.range m).map fun i : Nat => (i : Int), 0⟩ else ⟨1, 0, (List.range k).map fun i : Nat => (i : Int), 5⟩
theorem tp_all (c : Int) : ((List.range 108).map fun j => goF 60 (ipQ c) [102] [((j / 12 : Nat) : Int), ((j % 12 : Nat) : Int)] 20) = (List.range 108).map fun j => some (tpR (j / 12) (j % 12) c) := by kernel_rfl
theorem tp_at (k m : Nat) (c : Int) (hk : k < 9) (hm : m < 12) : goF 60 (ipQ c) [102] [(k : Int), (m : Int)] 20 = some (tpR k m c) := by
  have h := (List.map_inj_left.1 (tp_all c)) (12 * k + m) (List.mem_range.2 (by omega))
  rwa [show (12 * k + m) / 12 = k by omega, show (12 * k + m) % 12 = m by omega] at h
end Go.Proofs.YtpgnlfdindmopaaGreatDoor.IX
