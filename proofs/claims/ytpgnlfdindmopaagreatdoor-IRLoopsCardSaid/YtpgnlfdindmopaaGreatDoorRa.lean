/- Stage 7, plain mathematics: sorts, dependencies and validity of graphs as functions on lists of nodes. -/
import Derived.Test.YtpgnlfdindmopaaGreatDoorK1
namespace Go.Proofs.YtpgnlfdindmopaaGreatDoor.GX
open Go Go.RowKit WM LX PX CX

/-- A node. -/
structure ND where
  op : Int
  imm : Int
  kids : List Int
def nd0 : ND := ⟨0, 0, []⟩
/-- Arity: number and whether it is known. -/
def arN (op : Int) : Int :=
  if op = 1 ∨ op = 2 ∨ op = 3 ∨ op = 26 then 0 else if op = 20 ∨ op = 21 ∨ op = 24 ∨ op = 25 then 1 else if op = 23 ∨ op = 27 ∨ op = 29 then 2
  else if op = 22 ∨ op = 28 then 3 else if op = 30 ∨ op = 31 then -1 else if 4 ≤ op ∧ op ≤ 19 then 2 else 0
def arB (op : Int) : Bool := decide (1 ≤ op) && decide (op ≤ 31)
def varN (n : ND) : Nat := n.kids.length / 2
/-- Has an operation with this number so many operands? -/
def cnL (op : Int) (n : Nat) : Bool :=
  if op = 30 then decide (1 ≤ n) && decide (n ≤ 7) else if op = 31 then decide (n = 2 * (n / 2) + 1) && (decide (1 ≤ n / 2) && decide (n / 2 ≤ 16)) else arB op && decide ((n : Int) = arN op)
def cntB (n : ND) : Bool := cnL n.op n.kids.length
def inB (i : Nat) (k : Int) : Bool := decide (0 ≤ k) && decide (k < (i : Int))
def earB (n : ND) (i : Nat) : Bool := cntB n && n.kids.all (inB i)
def immLo (op : Int) : Int := if op = 1 then -9223372036854775808 else if op = 27 then 1 else 0
def immHi (op : Int) : Int :=
  if op = 1 then 9223372036854775807 else if op = 2 then 5 else if op = 3 then 255 else if op = 23 ∨ op = 28 then 3 else if op = 27 then 1000016
  else if op = 30 then 7 else if op = 31 then 15 else if op = 25 then 15 else 0
def selS (a b c : Nat) : Nat := if a ≠ 1 then 0 else if b ≠ c then 0 else if b = 3 then 0 else b
def opL (op : Int) (m at' : Nat) : Nat :=
  if op = 25 then 3 else if op = 31 then (if at' = 0 ∨ at' = m + 1 then 2 else 1)
  else if op = 23 ∨ op = 24 ∨ op = 27 ∨ op = 28 ∨ op = 29 ∨ op = 30 then (if at' = 0 then 2 else 1) else 1
def opS (n : ND) (at' : Nat) : Nat := opL n.op (varN n) at'
def varS (k : Int) : Nat := if k = 0 then 2 else 1
def resL (op imm : Int) : Nat :=
  if op = 26 ∨ op = 27 ∨ op = 28 ∨ op = 29 ∨ op = 30 then 2 else if op = 31 then 3 else if op = 3 then varS (imm % 16) else if op = 25 then varS imm else 1
def resS (n : ND) : Nat := resL n.op n.imm
def knd (ss : List Nat) (k : Int) : Nat := ss.getD k.toNat 0
/-- The operands from number 'at' on have the sorts that they need. -/
def opsB (n : ND) (ss : List Nat) : Nat → List Int → Bool
  | _, [] => true
  | a, k :: r => decide (knd ss k = opS n a) && opsB n ss (a + 1) r
def srtF (l : List ND) (n : ND) (ss : List Nat) : Nat :=
  if n.imm < immLo n.op ∨ immHi n.op < n.imm then 0
  else if n.op = 22 then selS (knd ss (n.kids.getD 0 0)) (knd ss (n.kids.getD 1 0)) (knd ss (n.kids.getD 2 0))
  else if opsB n ss 0 n.kids = false then 0
  else if n.op = 25 ∧ (varN (l.getD (n.kids.getD 0 0).toNat nd0) : Int) ≤ n.imm then 0 else resS n
def setAll (u : List Bool) : List Int → List Bool
  | [] => u
  | k :: r => setAll (u.set k.toNat true) r
/-- Marks what the nodes below j use. -/
def mkF (l : List ND) : Nat → List Bool → Option (List Bool)
  | 0, u => some u
  | j + 1, u => if u.getD j false = true then (if earB (l.getD j nd0) j = true then mkF l j (setAll u (l.getD j nd0).kids) else none) else mkF l j u
def markF (l : List ND) (i : Int) : Option (List Bool) :=
  if i < 0 ∨ (l.length : Int) ≤ i then none else mkF l (i.toNat + 1) ((List.replicate (i.toNat + 1) false).set i.toNat true)
/-- The sorts of what is marked, from node j on. -/
def suF (l : List ND) (u : List Bool) : Nat → Nat → List Nat → Option (List Nat)
  | 0, _, ss => some ss
  | g + 1, j, ss => if u.getD j false = true then (if srtF l (l.getD j nd0) ss = 0 then none else suF l u g (j + 1) (ss.set j (srtF l (l.getD j nd0) ss))) else suF l u g (j + 1) ss
def usedF (l : List ND) (i : Int) : Option (List Nat) := match markF l i with
  | none => none
  | some u => suF l u u.length 0 (List.replicate u.length 0)
def sortF (l : List ND) (i : Int) : Nat := match usedF l i with
  | none => 0
  | some ss => ss.getD i.toNat 0
/-- Where a list of sorts is not 0, from number j on. -/
def posF : Nat → List Nat → List Int
  | _, [] => []
  | j, s :: r => if s = 0 then posF (j + 1) r else (j : Int) :: posF (j + 1) r
def depsF (l : List ND) (i : Int) : List Int := match usedF l i with
  | none => []
  | some ss => posF 0 ss
/-- The sorts of all nodes; none if one is malformed. -/
def allF (l : List ND) : Nat → Nat → List Nat → Option (List Nat)
  | 0, _, ss => some ss
  | g + 1, j, ss => if earB (l.getD j nd0) j = true then (if srtF l (l.getD j nd0) ss = 0 then none else allF l g (j + 1) (ss.set j (srtF l (l.getD j nd0) ss))) else none
def sortsF (l : List ND) : Option (List Nat) := allF l l.length 0 (List.replicate l.length 0)
end Go.Proofs.YtpgnlfdindmopaaGreatDoor.GX
