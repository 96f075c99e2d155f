/- Stage 4, plain mathematics: Check as a function on programs. -/
import Derived.Test.YtkjbjjiajopfpaaGreatDoorBa
namespace Go.Proofs.YtkjbjjiajopfpaaGreatDoor.CX
open Go Go.RowKit WM LX PX

/-- How much there is of it: nodes and bytes of names. -/
def sumL {α : Type} (f : α → Nat) : List α → Nat
  | [] => 0
  | x :: r => 1 + f x + sumL f r
theorem sumL_len {α : Type} (f : α → Nat) (l : List α) : l.length ≤ sumL f l := by
  induction l with
  | nil => exact Nat.zero_le _
  | cons a r ih => rw [sumL, List.length_cons]; omega
theorem sumL_zero {α : Type} (l : List α) : sumL (fun _ => 0) l = l.length := by
  induction l with
  | nil => rfl
  | cons a r ih => rw [sumL, List.length_cons, ih]; omega
theorem sumL_app {α : Type} (f : α → Nat) (l r : List α) : sumL f (l ++ r) = sumL f l + sumL f r := by
  induction l with
  | nil => simp [sumL]
  | cons a t ih => rw [List.cons_append, sumL, sumL, ih]; omega
theorem sumL_take {α : Type} (f : α → Nat) (l : List α) (i : Nat) : sumL f (l.take i) ≤ sumL f l := by
  have h := sumL_app f (l.take i) (l.drop i)
  rw [List.take_append_drop] at h
  omega
theorem sumL_step {α : Type} (f : α → Nat) (l : List α) (i : Nat) (x : α) (h : l[i]? = some x) : sumL f (l.take (i + 1)) = sumL f (l.take i) + 1 + f x := by
  have hi := (List.getElem?_eq_some_iff.1 h).1
  rw [List.take_succ_eq_append_getElem hi, sumL_app]
  have : l[i] = x := (List.getElem?_eq_some_iff.1 h).2
  rw [this]
  show _ + (1 + f x + 0) = _
  omega
theorem sumL_at {α : Type} (f : α → Nat) (l : List α) (i : Nat) (x : α) (h : l[i]? = some x) : 1 + f x ≤ sumL f l := by
  have h1 := sumL_step f l i x h
  have h2 := sumL_take f l (i + 1)
  omega
mutual
def szE : PE → Nat
  | .mk _ _ nm _ kids => 1 + nm.length + szEL kids
def szEL : List PE → Nat
  | [] => 0
  | e :: r => 1 + szE e + szEL r
end
theorem szEL_sum (l : List PE) : szEL l = sumL szE l := by
  induction l with
  | nil => rfl
  | cons a r ih => rw [szEL, sumL, ih]
theorem szE_eq (kd n : Int) (nm : List UInt8) (op : Int) (kids : List PE) : szE (.mk kd n nm op kids) = 1 + nm.length + sumL szE kids := by rw [szE, szEL_sum]
mutual
def szS : ST → Nat
  | .mk _ nm to _ pos value args thn els => 1 + nm.length + to.length + szE pos + szE value + sumL szE args + szSL thn + szSL els
def szSL : List ST → Nat
  | [] => 0
  | e :: r => 1 + szS e + szSL r
end
theorem szSL_sum (l : List ST) : szSL l = sumL szS l := by
  induction l with
  | nil => rfl
  | cons a r ih => rw [szSL, sumL, ih]
theorem szS_eq (kd : Int) (nm to : List UInt8) (n : Int) (pos value : PE) (args : List PE) (thn els : List ST) :
    szS (.mk kd nm to n pos value args thn els) = 1 + nm.length + to.length + szE pos + szE value + sumL szE args + sumL szS thn + sumL szS els := by rw [szS, szSL_sum, szSL_sum]
def szF (f : FN) : Nat := 1 + f.name.length + sumL List.length f.params + sumL List.length f.locals + sumL szS f.body + szE f.value
def szP (p : PG) : Nat := sumL (fun a => a.1.length) p.arrays + sumL szF p.funcs

/-- Nested in d nodes: is it too deep? -/
def deepE : Nat → PE → Bool
  | d, .mk _ _ _ _ kids => if 20 < d then true else deepEL (d + 1) kids
where deepEL : Nat → List PE → Bool
  | _, [] => false
  | d, e :: r => deepE d e || deepEL d r
theorem deepEL_any (d : Nat) (l : List PE) : deepE.deepEL d l = l.any (deepE d) := by
  induction l with
  | nil => rw [deepE.deepEL]; rfl
  | cons a r ih => rw [deepE.deepEL, ih, List.any_cons]
theorem deepE_eq (d : Nat) (kd n : Int) (nm : List UInt8) (op : Int) (kids : List PE) : deepE d (.mk kd n nm op kids) = (if 20 < d then true else kids.any (deepE (d + 1))) := by rw [deepE, deepEL_any]
/-- All expressions of a statement, but for those of the statements inside it. -/
def allX (p : PE → Bool) : ST → Bool
  | .mk _ _ _ _ pos value args _ _ => p pos && (p value && args.all p)
def deepX (s : ST) : Bool := !allX (fun e => !deepE 0 e) s
def over (d : Nat) (c : Nat × Nat) : Bool := decide (20 < d) || (decide (200 < c.1) || decide (16 < c.2))
def bump (kd : Int) (c : Nat × Nat) : Nat × Nat := (c.1 + 1, if kd = 4 then c.2 + 1 else c.2)
/-- The counts behind a statement; none: a limit is exceeded. -/
def cntS : Nat → Nat × Nat → ST → Option (Nat × Nat)
  | d, c, .mk kd nm to n pos value args thn els =>
    if (over d (bump kd c) || deepX (.mk kd nm to n pos value args thn els)) = true then none
    else match cntL (d + 1) (bump kd c) thn with
      | none => none
      | some c2 => cntL (d + 1) c2 els
where cntL : Nat → Nat × Nat → List ST → Option (Nat × Nat)
  | _, c, [] => some c
  | d, c, s :: r => match cntS d c s with
      | none => none
      | some c2 => cntL d c2 r
abbrev cntL := cntS.cntL
theorem cntL_nil (d : Nat) (c : Nat × Nat) : cntL d c [] = some c := by
  show cntS.cntL d c [] = _
  rw [cntS.cntL]
theorem cntL_cons (d : Nat) (c : Nat × Nat) (s : ST) (r : List ST) : cntL d c (s :: r) = (cntS d c s).bind fun c2 => cntL d c2 r := by
  show cntS.cntL d c (s :: r) = _
  rw [cntS.cntL]
  cases cntS d c s <;> rfl
theorem cntS_eq (d : Nat) (c : Nat × Nat) (kd : Int) (nm to : List UInt8) (n : Int) (pos value : PE) (args : List PE) (thn els : List ST) :
    cntS d c (.mk kd nm to n pos value args thn els) = (if (over d (bump kd c) || deepX (.mk kd nm to n pos value args thn els)) = true then none else (cntL (d + 1) (bump kd c) thn).bind fun c2 => cntL (d + 1) c2 els) := by
  show _ = (if _ then none else (cntS.cntL (d + 1) (bump kd c) thn).bind fun c2 => cntS.cntL (d + 1) c2 els)
  rw [cntS]
  cases cntS.cntL (d + 1) (bump kd c) thn <;> rfl
def limFB (f : FN) : Bool := decide (6 < f.params.length) || (decide (8 < f.locals.length) || ((cntL 0 (0, 0) f.body).isNone || deepE 0 f.value))
def lenB (a : List UInt8 × Int) : Bool := decide (a.2 < 1) || decide (16 < a.2)
def limB (p : PG) : Bool := decide (4 < p.arrays.length) || (decide (8 < p.funcs.length) || (p.arrays.any lenB || p.funcs.any limFB))

/-- "array ", " 1;" -/
abbrev nmA : List UInt8 := [97, 114, 114, 97, 121, 32]
abbrev nmZ : List UInt8 := [32, 49, 59]
/-- Is it parsed as a name? -/
def nameB (x : List UInt8) : Bool :=
  let r := parseF (nmA ++ x ++ nmZ)
  decide (r.2.1 = 0) && (decide (r.1.arrays.length = 1) && decide ((r.1.arrays.getD 0 ([], 0)).1 = x))
def nmFB (x : List UInt8) (used : Bool) : Bool := if used = true then nameB x else decide (x = [])
def unB (op : Int) : Bool := decide (op = 20) || decide (op = 21)
def opFB (op : Int) (used : Bool) : Bool := if used = true then ((decide (4 ≤ op) && decide (op ≤ 18)) || unB op) else decide (op = 0)
def trFB (n : Int) (used : Bool) : Bool := if used = true then (decide (0 ≤ n) && decide (n ≤ 1000000)) else decide (n = 0)
def opN (op : Int) : Int := if unB op = true then 1 else 2
/-- The fields that a kind of expression uses: n, name, op, kids. -/
def exU (kd op : Int) : Option (Bool × Bool × Bool × Int) :=
  if kd = 1 then some (true, false, false, 0) else if kd = 2 then some (false, true, false, 0) else if kd = 3 then some (false, true, false, 1) else if kd = 4 then some (false, false, true, opN op) else if kd = 5 then some (false, false, false, 3) else none
def nodeB : PE → Bool
  | .mk kd n nm op kids => match exU kd op with
    | none => false
    | some u => (u.1 || decide (n = 0)) && (nmFB nm u.2.1 && (opFB op u.2.2.1 && decide ((kids.length : Int) = u.2.2.2)))
def allE (p : PE → Bool) : PE → Bool
  | .mk kd n nm op kids => p (.mk kd n nm op kids) && allEL kids
where allEL : List PE → Bool
  | [] => true
  | e :: r => allE p e && allEL r
theorem allEL_all (p : PE → Bool) (l : List PE) : allE.allEL p l = l.all (allE p) := by
  induction l with
  | nil => rw [allE.allEL]; rfl
  | cons a r ih => rw [allE.allEL, ih, List.all_cons]
theorem allE_eq (p : PE → Bool) (kd n : Int) (nm : List UInt8) (op : Int) (kids : List PE) : allE p (.mk kd n nm op kids) = (p (.mk kd n nm op kids) && kids.all (allE p)) := by rw [allE, allEL_all]
def zeroB : PE → Bool
  | .mk kd n nm op kids => decide (kd = 0) && (decide (n = 0) && (decide (nm = []) && (decide (op = 0) && decide (kids.length = 0))))
def exFB (e : PE) (used : Bool) : Bool := if used = true then allE nodeB e else zeroB e
/-- The fields that a kind of statement uses: name, to, n, at, value, args, then, else. -/
def stU (kd : Int) : Option (Bool × Bool × Bool × Bool × Bool × Bool × Bool × Bool) :=
  if kd = 1 then some (true, false, false, false, true, false, false, false) else if kd = 2 then some (true, false, false, true, true, false, false, false)
  else if kd = 3 then some (false, false, false, false, true, false, true, true) else if kd = 4 then some (false, false, false, false, true, false, true, false)
  else if kd = 5 then some (false, false, false, false, true, false, false, false) else if kd = 6 then some (true, true, false, false, false, true, false, false)
  else if kd = 7 then some (false, false, true, false, false, false, false, false) else none
def stmB : ST → Bool
  | .mk kd nm to n pos value args thn els => match stU kd with
    | none => false
    | some (un, ut, uz, ua, uv, ug, uh, ue) => nmFB nm un && (nmFB to ut && (trFB n uz && (exFB pos ua && (exFB value uv && ((ug || decide (args.length = 0)) && (args.all (allE nodeB) && ((uh || decide (thn.length = 0)) && (ue || decide (els.length = 0)))))))))
/-- All statements, those inside too. -/
def allS (p : ST → Bool) : ST → Bool
  | .mk kd nm to n pos value args thn els => p (.mk kd nm to n pos value args thn els) && (allSL thn && allSL els)
where allSL : List ST → Bool
  | [] => true
  | e :: r => allS p e && allSL r
theorem allSL_all (p : ST → Bool) (l : List ST) : allS.allSL p l = l.all (allS p) := by
  induction l with
  | nil => rw [allS.allSL]; rfl
  | cons a r ih => rw [allS.allSL, ih, List.all_cons]
theorem allS_eq (p : ST → Bool) (kd : Int) (nm to : List UInt8) (n : Int) (pos value : PE) (args : List PE) (thn els : List ST) :
    allS p (.mk kd nm to n pos value args thn els) = (p (.mk kd nm to n pos value args thn els) && (thn.all (allS p) && els.all (allS p))) := by rw [allS, allSL_all, allSL_all]
def funB (f : FN) : Bool := nameB f.name && (f.params.all nameB && (f.locals.all nameB && (f.body.all (allS stmB) && allE nodeB f.value)))
def shpB (p : PG) : Bool := p.arrays.all (fun a => nameB a.1) && p.funcs.all funB
/-- Does a name stand twice? -/
def repB (l : List (List UInt8)) : Bool := (List.range l.length).any fun i => (l.take i).contains (l.getD i [])
def anN (p : PG) : List (List UInt8) := p.arrays.map (·.1)
def fnN (p : PG) : List (List UInt8) := p.funcs.map (·.name)
def dupB (p : PG) : Bool := repB (anN p) || (repB (fnN p) || p.funcs.any fun f => repB (anN p ++ (f.params ++ f.locals)))
def dfN (A V : List (List UInt8)) : PE → Bool
  | .mk kd _ nm _ _ => if kd = 2 then V.contains nm else if kd = 3 then A.contains nm else true
def dfT (A F V : List (List UInt8)) : ST → Bool
  | .mk kd nm to _ _ _ _ _ _ => if kd = 1 then V.contains nm else if kd = 2 then A.contains nm else if kd = 6 then V.contains nm && F.contains to else true
def dfS (A F V : List (List UInt8)) (s : ST) : Bool := dfT A F V s && allX (allE (dfN A V)) s
def undB (p : PG) : Bool := p.funcs.any fun f => !f.body.all (allS (dfS (anN p) (fnN p) (f.params ++ f.locals))) || !allE (dfN (anN p) (f.params ++ f.locals)) f.value
/-- How many parameters a function has, as a map of all names says: the last one counts. -/
def parN (fs : List FN) (x : List UInt8) : Int := fs.foldl (fun k f => if f.name = x then (f.params.length : Int) else k) 0
def arS (fs : List FN) : ST → Bool
  | .mk kd _ to _ _ _ args _ _ => decide (kd ≠ 6) || decide ((args.length : Int) = parN fs to)
def ariB (p : PG) : Bool := !p.funcs.all fun f => f.body.all (allS (arS p.funcs))
def chkF (p : PG) : Nat := if limB p = true then 6 else if shpB p = false then 2 else if dupB p = true then 4 else if undB p = true then 3 else if ariB p = true then 5 else 0
end Go.Proofs.YtkjbjjiajopfpaaGreatDoor.CX
