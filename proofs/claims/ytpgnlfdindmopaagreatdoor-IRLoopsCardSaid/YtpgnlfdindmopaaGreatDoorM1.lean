/- Words and walks for the laws of the interpreter. -/
import Derived.Test.YtpgnlfdindmopaaGreatDoorJ1
namespace Go.Proofs.YtpgnlfdindmopaaGreatDoor.PX
open Go Go.RowKit WM LX
section
variable (ts:List Tk)
def tkk (s:PS)(k:Nat):Tk:=ts.getD (s.i+k) tk0
def inn (s:PS)(k:Nat):Bool:=!s.f&&decide (s.i+k < ts.length)
def rAt (s:PS)(k:Nat)(x:List UInt8):Bool:=inn ts s k&&(decide ((tkk ts s k).text=x)&&!decide ((tkk ts s k).kind=2))
def rEx (s:PS)(x:List UInt8):PS:=if rAt ts s 0 x=true then adv s else fl s
def rNm (s:PS)(k:Nat):Bool:=inn ts s k&&isNm (tkk ts s k)
def rNu (s:PS)(k:Nat):Bool:=inn ts s k&&decide ((tkk ts s k).kind=2)
def rNmV (s:PS):List UInt8:=if rNm ts s 0=true then (tkk ts s 0).text else []
def rNmS (s:PS):PS:=if rNm ts s 0=true then adv s else fl s
def rSmB (s:PS):Bool:=rNu ts s 0&&numB (tkk ts s 0).text 1000000
def rSmV (s:PS):Int:=if rSmB ts s=true then (zA2 (tkk ts s 0).text:Int) else 0
def rSmS (s:PS):PS:=if rSmB ts s=true then adv s else fl s
def rnB (minus:Bool)(x:List UInt8):Bool:=if minus=true then decide (x=[48])||zA0 (45 :: x) else zA0 x
def rnV (minus:Bool)(x:List UInt8):Int:=if minus=true then (if x=[48] then 0 else zBb (45 :: x)) else zBb x
def rnF (minus:Bool)(s:PS):PE × PS:=if rnB minus (tkk ts s 0).text=true then (numE (rnV minus (tkk ts s 0).text),adv s) else (emE,fl s)
def opR (k:Nat)(x:List UInt8):Nat × Bool :=
 if k=0∧x=[124] then (10,false) else if k=1∧x=[94] then (11,false) else if k=2∧x=[38] then (9,false) else if k=3∧x=[61,61] then (15,false) else if k=3∧x=[33,61] then (16,false)
 else if k=4∧x=[60] then (17,false) else if k=4∧x=[60,61] then (18,false) else if k=4∧x=[62] then (17,true) else if k=4∧x=[62,61] then (18,true)
 else if k=5∧x=[60,60] then (12,false) else if k=5∧x=[62,62] then (14,false) else if k=5∧x=[62,62,62] then (13,false)
 else if k=6∧x=[43] then (4,false) else if k=6∧x=[45] then (5,false) else if k=7∧x=[42] then (6,false) else if k=7∧x=[47] then (7,false) else if k=7∧x=[37] then (8,false) else (0,false)
def rSy (s:PS):Bool:=inn ts s 0&&decide ((tkk ts s 0).kind=3)
def rOp (k:Nat)(s:PS):Nat:=if rSy ts s=true then (opR k (tkk ts s 0).text).1 else 0
mutual
def rexF:Nat→PS→PE × PS
 | 0,s=>(emE,s)
 | n+1,s =>
  let c:=rbiF n 0 s
  if rAt ts c.2 0 cQuest=true then
   let a:=rexF n (adv c.2)
   let b:=rexF n (rEx ts a.2 zCb)
   (conE c.1 a.1 b.1,b.2)
  else c
def rbiF:Nat→Nat→PS→PE × PS
 | 0,_,s=>(emE,s)
 | n+1,k,s=>if 7 < k then runF n s else rloF n k (rbiF n (k+1) s).1 (rbiF n (k+1) s).2
def rloF:Nat→Nat→PE→PS→PE × PS
 | 0,_,l,s=>(l,s)
 | n+1,k,l,s =>
  if rOp ts k s=0 then (l,s) else
   let r:=rbiF n (k+1) (adv s)
   rloF n k (apE (rOp ts k s) (opR k (tkk ts s 0).text).2 l r.1) r.2
def runF:Nat→PS→PE × PS
 | 0,s=>(emE,s)
 | n+1,s =>
  if rAt ts s 0 zBs=true then
   (if rNu ts s 1=true then rnF ts true (adv s) else (opE 20 [(runF n (adv s)).1],(runF n (adv s)).2))
  else if rAt ts s 0 cTilde=true then (opE 21 [(runF n (adv s)).1],(runF n (adv s)).2)
  else if rAt ts s 0 cBang=true then (opE 15 [(runF n (adv s)).1,numE 0],(runF n (adv s)).2)
  else rpiF n s
def rpiF:Nat→PS→PE × PS
 | 0,s=>(emE,s)
 | n+1,s =>
  if rNu ts s 0=true then rnF ts false s
  else if rAt ts s 0 cLp=true then ((rexF n (adv s)).1,rEx ts (rexF n (adv s)).2 cRp)
  else if rAt ts (rNmS ts s) 0 cLb=true then (idxE (rNmV ts s) (rexF n (adv (rNmS ts s))).1,rEx ts (rexF n (adv (rNmS ts s))).2 cRb)
  else (varE (rNmV ts s),rNmS ts s)
end
def rarF:Nat→Bool→PS→List PE × PS
 | 0,_,s=>([],s)
 | n+1,c,s=>if (s.f||rAt ts s 0 cRp)=true then ([],s) else
  let e:=rexF ts n (if c=true then rEx ts s zA7 else s)
  (e.1 :: (rarF n true e.2).1,(rarF n true e.2).2)
def rprF:Nat→Bool→PS→List (List UInt8) × PS
 | 0,_,s=>([],s)
 | n+1,c,s=>if (s.f||rAt ts s 0 cRp)=true then ([],s) else
  let s1:=if c=true then rEx ts s zA7 else s
  (rNmV ts s1 :: (rprF n true (rNmS ts s1)).1,(rprF n true (rNmS ts s1)).2)
def rlcF:Nat→PS→List (List UInt8) × PS
 | 0,s=>([],s)
 | n+1,s=>if rAt ts s 0 zA7=true then (rNmV ts (adv s) :: (rlcF n (rNmS ts (adv s))).1,(rlcF n (rNmS ts (adv s))).2) else ([],s)
def ragF (n:Nat)(s:PS):ST × PS :=
 if rAt ts (rNmS ts s) 0 cLb=true then
  let a:=rexF ts n (adv (rNmS ts s))
  let v:=rexF ts n (rEx ts (rEx ts a.2 cRb) cEq)
  (.mk 2 (rNmV ts s) [] 0 a.1 v.1 [] [] [],v.2)
 else
  let s2:=rEx ts (rNmS ts s) cEq
  if (rNm ts s2 0&&rAt ts s2 1 cLp)=true then
   let g:=rarF ts n false (adv (rNmS ts s2))
   (.mk 6 (rNmV ts s) (rNmV ts s2) 0 emE emE g.1 [] [],rEx ts g.2 cRp)
  else (.mk 1 (rNmV ts s) [] 0 emE (rexF ts n s2).1 [] [] [],(rexF ts n s2).2)
def rcdF (n:Nat)(s:PS):PE × PS:=((rexF ts n (rEx ts s cLp)).1,rEx ts (rexF ts n (rEx ts s cLp)).2 cRp)
mutual
def rssF:Nat→List UInt8→PS→List ST × PS
 | 0,_,s=>([],s)
 | n+1,e,s=>if (s.f||rAt ts s 0 e)=true then ([],s) else ((rstF n s).1 :: (rssF n e (rstF n s).2).1,(rssF n e (rstF n s).2).2)
def rstF:Nat→PS→ST × PS
 | 0,s=>(emS,s)
 | n+1,s =>
  if rAt ts s 0 wIf=true then
   let c:=rcdF ts n (adv s)
   let t:=rblF n c.2
   if rAt ts t.2 0 wElse=true then (.mk 3 [] [] 0 emE c.1 [] t.1 (rblF n (adv t.2)).1,(rblF n (adv t.2)).2) else (.mk 3 [] [] 0 emE c.1 [] t.1 [],t.2)
  else if rAt ts s 0 zBn=true then
   let c:=rcdF ts n (adv s)
   (.mk 4 [] [] 0 emE c.1 [] (rblF n c.2).1 [],(rblF n c.2).2)
  else if rAt ts s 0 wOut=true then (.mk 5 [] [] 0 emE (rexF ts n (adv s)).1 [] [] [],rEx ts (rexF ts n (adv s)).2 zA1)
  else if rAt ts s 0 wTrap=true then (.mk 7 [] [] (rSmV ts (adv s)) emE emE [] [] [],rEx ts (rSmS ts (adv s)) zA1)
  else ((ragF ts n s).1,rEx ts (ragF ts n s).2 zA1)
def rblF:Nat→PS→List ST × PS
 | 0,s=>([],s)
 | n+1,s=>((rssF n cRc (rEx ts s cLc)).1,rEx ts (rssF n cRc (rEx ts s cLc)).2 cRc)
end
def rlvF (n:Nat)(s:PS):List (List UInt8) × PS :=
 if rAt ts s 0 wVar=true then (rNmV ts (adv s) :: (rlcF ts n (rNmS ts (adv s))).1,(rlcF ts n (rNmS ts (adv s))).2) else ([],s)
def rfnF (n:Nat)(s:PS):FN × PS :=
 let p:=rprF ts n false (rEx ts (rNmS ts s) cLp)
 let l:=rlvF ts n (rEx ts p.2 cRp)
 let b:=rssF ts n zAm (rEx ts l.2 cLc)
 let v:=rexF ts n (rEx ts b.2 zAm)
 (⟨rNmV ts s,p.1,l.1,b.1,v.1⟩,rEx ts (rEx ts v.2 zA1) cRc)
def raaF (s:PS):(List UInt8 × Int) × PS:=((rNmV ts s,rSmV ts (rNmS ts s)),rEx ts (rSmS ts (rNmS ts s)) zA1)
def rpgF:Nat→PS→PG × PS
 | 0,s=>(⟨[],[]⟩,s)
 | n+1,s =>
  if (s.f||decide (ts.length≤s.i))=true then (⟨[],[]⟩,s)
  else if rAt ts s 0 zB9=true then (⟨(raaF ts (adv s)).1 :: (rpgF n (raaF ts (adv s)).2).1.arrays,(rpgF n (raaF ts (adv s)).2).1.funcs⟩,(rpgF n (raaF ts (adv s)).2).2)
  else (⟨(rpgF n (rfnF ts n (rEx ts s zCp)).2).1.arrays,(rfnF ts n (rEx ts s zCp)).1 :: (rpgF n (rfnF ts n (rEx ts s zCp)).2).1.funcs⟩,(rpgF n (rfnF ts n (rEx ts s zCp)).2).2)
end
def rOff (ts:List Tk)(e:Nat)(i:Nat):Nat:=if i < ts.length then (ts.getD i tk0).pos else e
def zCg (l:List UInt8):PG × Nat × Nat :=
 let q:=zBl l
 if q.2.1=0 then
  let r:=rpgF q.1 (20 * q.1.length+60) ⟨0,false⟩
  if r.2.f=true then (⟨[],[]⟩,2,rOff q.1 l.length r.2.i) else (r.1,0,0)
 else (⟨[],[]⟩,q.2)
variable {ts:List Tk}
theorem zAo {s:PS}{k:Nat}(h:inn ts s k=true):s.f=false∧s.i+k < ts.length:=by
 unfold inn at h;simp at h;exact h
theorem zBd {s:PS}{k:Nat}{x:List UInt8}(h:rAt ts s k x=true):inn ts s k=true:=by
 unfold rAt at h;rw[Bool.and_eq_true] at h;exact h.1
theorem rNm_inn {s:PS}{k:Nat}(h:rNm ts s k=true):inn ts s k=true:=by
 unfold rNm at h;rw[Bool.and_eq_true] at h;exact h.1
theorem rNu_inn {s:PS}{k:Nat}(h:rNu ts s k=true):inn ts s k=true:=by
 unfold rNu at h;rw[Bool.and_eq_true] at h;exact h.1
theorem ms_inn {s:PS}(h:inn ts s 0=true):ms ts (adv s)+1=ms ts s:=zAj (by have:=zAo h;exact this)
theorem zBa {s:PS}{x:List UInt8}(h:rAt ts s 0 x=true):ms ts (adv s)+1=ms ts s:=ms_inn (zBd h)
theorem zAt (s:PS)(x:List UInt8):ms ts (rEx ts s x)≤ms ts s:=by
 unfold rEx
 split
 ·next h=>have:=zBa h;omega
 ·rw[ms_fl];exact Nat.zero_le _
theorem zBr (s:PS):ms ts (rNmS ts s)≤ms ts s:=by
 unfold rNmS
 split
 ·next h=>have:=ms_inn (rNm_inn h);omega
 ·rw[ms_fl];exact Nat.zero_le _
theorem ms_rSmS (s:PS):ms ts (rSmS ts s)≤ms ts s:=by
 unfold rSmS
 split
 ·next h=>unfold rSmB at h;rw[Bool.and_eq_true] at h;have:=ms_inn (rNu_inn h.1);omega
 ·rw[ms_fl];exact Nat.zero_le _
theorem ms_rNmS_lt {s:PS}(h:s.f=false):ms ts (rNmS ts s)+1≤ms ts s:=by
 unfold rNmS
 split
 ·next h=>have:=ms_inn (rNm_inn h);omega
 ·rw[ms_fl];unfold ms;rw[h];simp
theorem ms_rEx_lt {s:PS}(h:s.f=false)(x:List UInt8):ms ts (rEx ts s x)+1≤ms ts s:=by
 unfold rEx
 split
 ·next h=>have:=zBa h;omega
 ·rw[ms_fl];unfold ms;rw[h];simp
theorem ms_rn {s:PS}(b:Bool)(h:inn ts s 0=true):ms ts (rnF ts b s).2+1≤ms ts s:=by
 unfold rnF
 have:=ms_inn h
 split
 ·show ms ts (adv s)+1≤_;omega
 ·show ms ts (fl s)+1≤_;rw[ms_fl];omega
theorem rSy_inn {s:PS}(h:rSy ts s=true):inn ts s 0=true:=by
 unfold rSy at h;rw[Bool.and_eq_true] at h;exact h.1
theorem rOp_inn {k:Nat}{s:PS}(h:¬ rOp ts k s=0):rSy ts s=true:=by
 unfold rOp at h
 split at h
 ·next h'=>exact h'
 ·exact absurd rfl h
theorem rms_all (n:Nat):(∀ s,ms ts (rexF ts n s).2≤ms ts s)∧(∀ k s,ms ts (rbiF ts n k s).2≤ms ts s)∧(∀ k l s,ms ts (rloF ts n k l s).2≤ms ts s)∧(∀ s,ms ts (runF ts n s).2≤ms ts s)∧(∀ s,ms ts (rpiF ts n s).2≤ms ts s):=by
 induction n with
 | zero=>simp[rexF,rbiF,rloF,runF,rpiF]
 | succ n ih =>
  obtain⟨he,hb,hl,hp,hq⟩:=ih
  refine⟨fun s=>?_,fun k s=>?_,fun k l s=>?_,fun s=>?_,fun s=>?_⟩
  ·rw[rexF]
   have h1:=hb 0 s
   dsimp only
   split
   ·next h =>
    have h2:=zBa h
    have h3:=he (adv (rbiF ts n 0 s).2)
    have h4:=zAt (ts:=ts) (rexF ts n (adv (rbiF ts n 0 s).2)).2 zCb
    have h5:=he (rEx ts (rexF ts n (adv (rbiF ts n 0 s).2)).2 zCb)
    show ms ts (rexF ts n (rEx ts (rexF ts n (adv (rbiF ts n 0 s).2)).2 zCb)).2≤_
    omega
   ·exact h1
  ·rw[rbiF]
   split
   ·exact hp s
   ·exact Nat.le_trans (hl _ _ _) (hb _ s)
  ·rw[rloF]
   split
   ·exact Lr _
   ·next h =>
    have h2:=ms_inn (rSy_inn (rOp_inn h))
    exact Nat.le_trans (hl _ _ _) (Nat.le_trans (hb _ _) (by omega))
  ·rw[runF]
   have h1:=hp (adv s)
   have h2:=hq s
   split
   ·next h =>
    have:=zBa h
    split
    ·next h' =>
     have h3:=zAo (rNu_inn h')
     have h4:=ms_rn (ts:=ts) (s:=adv s) true (by unfold inn;simp[adv,h3.1];omega)
     omega
    ·show ms ts (runF ts n (adv s)).2≤_
     omega
   ·split
    ·next h=>have:=zBa h;show ms ts (runF ts n (adv s)).2≤_;omega
    ·split
     ·next h=>have:=zBa h;show ms ts (runF ts n (adv s)).2≤_;omega
     ·exact h2
  ·rw[rpiF]
   split
   ·next h=>have:=ms_rn (ts:=ts) (s:=s) false (rNu_inn h);omega
   ·split
    ·next h =>
     have:=zBa h
     have h2:=he (adv s)
     have h3:=zAt (ts:=ts) (rexF ts n (adv s)).2 cRp
     show ms ts (rEx ts (rexF ts n (adv s)).2 cRp)≤_
     omega
    ·have h4:=zBr (ts:=ts) s
     split
     ·next h =>
      have:=zBa h
      have h2:=he (adv (rNmS ts s))
      have h3:=zAt (ts:=ts) (rexF ts n (adv (rNmS ts s))).2 cRb
      show ms ts (rEx ts (rexF ts n (adv (rNmS ts s))).2 cRb)≤_
      omega
     ·exact h4
theorem ms_rex (n:Nat)(s:PS):ms ts (rexF ts n s).2≤ms ts s:=(rms_all n).1 s
theorem ms_rar (n:Nat):∀ c s,ms ts (rarF ts n c s).2≤ms ts s:=by
 induction n with
 | zero=>intro c s;exact Lr _
 | succ n ih =>
  intro c s
  rw[rarF]
  split
  ·exact Lr _
  ·refine Nat.le_trans (ih _ _) (Nat.le_trans (ms_rex n _) ?_)
   split
   ·exact zAt _ _
   ·exact Lr _
theorem ms_rag (n:Nat)(s:PS)(h:s.f=false):ms ts (ragF ts n s).2+1≤ms ts s:=by
 have h0:=ms_rNmS_lt (ts:=ts) h
 unfold ragF
 split
 ·next h1 =>
  have h2:=zBa h1
  have h3:=ms_rex (ts:=ts) n (adv (rNmS ts s))
  have h4:=zAt (ts:=ts) (rexF ts n (adv (rNmS ts s))).2 cRb
  have h5:=zAt (ts:=ts) (rEx ts (rexF ts n (adv (rNmS ts s))).2 cRb) cEq
  have h6:=ms_rex (ts:=ts) n (rEx ts (rEx ts (rexF ts n (adv (rNmS ts s))).2 cRb) cEq)
  show ms ts (rexF ts n (rEx ts (rEx ts (rexF ts n (adv (rNmS ts s))).2 cRb) cEq)).2+1≤_
  omega
 ·have h1:=zAt (ts:=ts) (rNmS ts s) cEq
  dsimp only
  split
  ·next h2 =>
   rw[Bool.and_eq_true] at h2
   have h3:=zBr (ts:=ts) (rEx ts (rNmS ts s) cEq)
   have h5:=zAo (zBd h2.2)
   have h6:rNmS ts (rEx ts (rNmS ts s) cEq)=adv (rEx ts (rNmS ts s) cEq):=by
    show (if rNm ts (rEx ts (rNmS ts s) cEq) 0=true then _ else _)=_
    rw[if_pos h2.1]
   have h7:ms ts (adv (adv (rEx ts (rNmS ts s) cEq)))≤ms ts (adv (rEx ts (rNmS ts s) cEq)):=by
    have:=zAj (ts:=ts) (s:=adv (rEx ts (rNmS ts s) cEq)) ⟨h5.1,h5.2⟩
    omega
   rw[h6] at h3 ⊢
   exact Nat.le_trans (Nat.succ_le_succ (Nat.le_trans (zAt _ _) (Nat.le_trans (ms_rar n _ _) (Nat.le_trans h7 (Nat.le_trans h3 h1))))) h0
  ·have:=ms_rex (ts:=ts) n (rEx ts (rNmS ts s) cEq)
   show ms ts (rexF ts n (rEx ts (rNmS ts s) cEq)).2+1≤_
   omega
theorem ms_rcd (n:Nat)(s:PS):ms ts (rcdF ts n s).2≤ms ts s :=
 Nat.le_trans (zAt _ _) (Nat.le_trans (ms_rex n _) (zAt _ _))
theorem fl_id {s:PS}(h:s.f=true):fl s=s:=by obtain⟨i,f⟩:=s;cases h;rfl
theorem inn_f {s:PS}(h:s.f=true)(k:Nat):inn ts s k=false:=by unfold inn;rw[h];rfl
theorem rAt_f {s:PS}(h:s.f=true)(k:Nat)(x:List UInt8):rAt ts s k x=false:=by unfold rAt;rw[inn_f h];rfl
theorem rNm_f {s:PS}(h:s.f=true)(k:Nat):rNm ts s k=false:=by unfold rNm;rw[inn_f h];rfl
theorem rNu_f {s:PS}(h:s.f=true)(k:Nat):rNu ts s k=false:=by unfold rNu;rw[inn_f h];rfl
theorem rEx_f {s:PS}(h:s.f=true)(x:List UInt8):rEx ts s x=s:=by unfold rEx;rw[rAt_f h,if_neg (by simp),fl_id h]
theorem rNmS_f {s:PS}(h:s.f=true):rNmS ts s=s:=by unfold rNmS;rw[rNm_f h,if_neg (by simp),fl_id h]
theorem rOp_f {s:PS}(h:s.f=true)(k:Nat):rOp ts k s=0:=by unfold rOp rSy;rw[inn_f h,Bool.false_and,if_neg (by simp)]
theorem rf_all (n:Nat):(∀ s,s.f=true→(rexF ts n s).2=s)∧(∀ k s,s.f=true→(rbiF ts n k s).2=s)∧(∀ k l s,s.f=true→rloF ts n k l s=(l,s))∧(∀ s,s.f=true→(runF ts n s).2=s)∧(∀ s,s.f=true→(rpiF ts n s).2=s):=by
 induction n with
 | zero=>simp[rexF,rbiF,rloF,runF,rpiF]
 | succ n ih =>
  obtain⟨he,hb,hl,hp,hq⟩:=ih
  refine⟨fun s h=>?_,fun k s h=>?_,fun k l s h=>?_,fun s h=>?_,fun s h=>?_⟩
  ·rw[rexF]
   dsimp only
   rw[hb 0 s h,rAt_f h,if_neg (by simp)]
   exact hb 0 s h
  ·rw[rbiF]
   split
   ·exact hp s h
   ·rw[hb _ s h,hl _ _ s h]
  ·rw[rloF,rOp_f h,if_pos rfl]
  ·rw[runF,rAt_f h,rAt_f h,rAt_f h,if_neg (by simp),if_neg (by simp),if_neg (by simp)]
   exact hq s h
  ·rw[rpiF,rNu_f h,rAt_f h,if_neg (by simp),if_neg (by simp),rNmS_f h,rAt_f h,if_neg (by simp)]
theorem rex_f (n:Nat){s:PS}(h:s.f=true):(rexF ts n s).2=s:=(rf_all n).1 s h
theorem rag_f (n:Nat){s:PS}(h:s.f=true):(ragF ts n s).2=s:=by
 unfold ragF
 rw[rNmS_f h,rAt_f h,if_neg (by simp)]
 dsimp only
 rw[rEx_f h,rNm_f h,Bool.false_and,if_neg (by simp)]
 exact rex_f n h
theorem rst_f (n:Nat){s:PS}(h:s.f=true):(rstF ts n s).2=s:=by
 cases n with
 | zero=>rfl
 | succ n =>
  rw[rstF,rAt_f h,rAt_f h,rAt_f h,rAt_f h,if_neg (by simp),if_neg (by simp),if_neg (by simp),if_neg (by simp)]
  show rEx ts (ragF ts n s).2 zA1=s
  rw[rag_f n h,rEx_f h]
theorem rms_st (n:Nat):(∀ e s,ms ts (rssF ts n e s).2≤ms ts s)∧(∀ s,ms ts (rstF ts n s).2≤ms ts s)∧(∀ s,s.f=false→0 < n→ms ts (rstF ts n s).2+1≤ms ts s)∧(∀ s,ms ts (rblF ts n s).2≤ms ts s):=by
 induction n with
 | zero=>simp[rssF,rstF,rblF]
 | succ n ih =>
  obtain⟨hs,ht,_,hb⟩:=ih
  have hlt:∀ s,s.f=false→ms ts (rstF ts (n+1) s).2+1≤ms ts s:=by
   intro s hf
   rw[rstF]
   split
   ·next h =>
    have h1:=zBa h
    have h2:=ms_rcd (ts:=ts) n (adv s)
    have h3:=hb (rcdF ts n (adv s)).2
    dsimp only
    split
    ·next h4 =>
     have h5:=zBa h4
     have h6:=hb (adv (rblF ts n (rcdF ts n (adv s)).2).2)
     show ms ts (rblF ts n (adv (rblF ts n (rcdF ts n (adv s)).2).2)).2+1≤_
     omega
    ·show ms ts (rblF ts n (rcdF ts n (adv s)).2).2+1≤_
     omega
   ·split
    ·next h =>
     have h1:=zBa h
     have h2:=ms_rcd (ts:=ts) n (adv s)
     have h3:=hb (rcdF ts n (adv s)).2
     show ms ts (rblF ts n (rcdF ts n (adv s)).2).2+1≤_
     omega
    ·split
     ·next h =>
      have h1:=zBa h
      have h2:=ms_rex (ts:=ts) n (adv s)
      have h3:=zAt (ts:=ts) (rexF ts n (adv s)).2 zA1
      show ms ts (rEx ts (rexF ts n (adv s)).2 zA1)+1≤_
      omega
     ·split
      ·next h =>
       have h1:=zBa h
       have h2:=ms_rSmS (ts:=ts) (adv s)
       have h3:=zAt (ts:=ts) (rSmS ts (adv s)) zA1
       show ms ts (rEx ts (rSmS ts (adv s)) zA1)+1≤_
       omega
      ·have h1:=ms_rag (ts:=ts) n s hf
       have h3:=zAt (ts:=ts) (ragF ts n s).2 zA1
       show ms ts (rEx ts (ragF ts n s).2 zA1)+1≤_
       omega
  have hle:∀ s,ms ts (rstF ts (n+1) s).2≤ms ts s:=by
   intro s
   cases hf:s.f
   ·have:=hlt s hf;omega
   ·rw[rst_f _ hf];exact Lr _
  refine⟨fun e s=>?_,hle,fun s hf _=>hlt s hf,fun s=>?_⟩
  ·rw[rssF]
   split
   ·exact Lr _
   ·exact Nat.le_trans (hs _ _) (ht s)
  ·rw[rblF]
   exact Nat.le_trans (zAt _ _) (Nat.le_trans (hs _ _) (zAt _ _))
end Go.Proofs.YtpgnlfdindmopaaGreatDoor.PX
namespace Go.Proofs.YtpgnlfdindmopaaGreatDoor.PX
open Go Go.RowKit WM LX
def symsL:List (List UInt8):=zB7++zBy.map fun c=>[c]
structure TkG (t:Tk):Prop where
 k:t.kind=1∨t.kind=2∨t.kind=3
 k1:t.kind=1→∃ c r,t.text=c :: r∧letB c=true
 k2:t.kind=2→numB t.text 9223372036854775808=true
 k3:t.kind=3→t.text∈symsL
theorem lx_all {P:Tk→Prop}(h:∀ (r:List UInt8)(p:Nat),r≠[]→tokE r=0→P ⟨tokK r,r.take (tokN r),p⟩):∀ (n:Nat)(l:List UInt8),l.length≤n→∀ p,∀ t∈(lx l p).1,P t:=by
 intro n
 induction n with
 | zero =>
  intro l hl p t ht
  have:l=[]:=List.length_eq_zero_iff.1 (by omega)
  rw[this,lx_nil] at ht
  cases ht
 | succ n ih =>
  intro l hl p t ht
  by_cases hr:l.drop (zAb false l)=[]
  ·rw[lx,dif_pos hr] at ht;cases ht
  ·by_cases he:tokE (l.drop (zAb false l))=0
   ·rw[lx,dif_neg hr,dif_pos he] at ht
    rcases List.mem_cons.1 ht with rfl | ht
    ·exact h _ _ hr he
    ·refine ih _ ?_ _ t ht
     have h1:=zCi hr he
     have h2:1≤(l.drop (zAb false l)).length:=by
      cases hh:l.drop (zAb false l) with
      | nil=>exact absurd hh hr
      | cons a t=>simp
     rw[List.length_drop] at h2
     rw[List.length_drop,List.length_drop]
     omega
   ·rw[lx,dif_neg hr,dif_neg he] at ht;cases ht
theorem take_pre {l p:List UInt8}(h:p <+: l):l.take p.length=p:=by
 obtain⟨t,rfl⟩:=h
 simp
theorem tok_good (r:List UInt8)(p:Nat)(hr:r≠[])(he:tokE r=0):TkG ⟨tokK r,r.take (tokN r),p⟩:=by
 obtain⟨c,t,rfl⟩:∃ c t,r=c :: t:=by cases r with
  | nil=>exact absurd rfl hr
  | cons c t=>exact⟨c,t,rfl⟩
 have hp:=zCi hr he
 have hk:tokK (c :: t)=if digB c=true then 2 else if letB c=true then 1 else 3:=rfl
 by_cases hd:digB c=true
 ·rw[if_pos hd] at hk
  refine⟨Or.inr (Or.inl hk),fun h=>?_,fun _=>?_,fun h=>?_⟩
  ·rw[hk] at h;cases h
  ·unfold tokE at he
   rw[if_pos (by exact hd)] at he
   have hw:zBt c=true:=by unfold zBt;rw[hd,Bool.or_true]
   have hn:tokN (c :: t)=wlen (c :: t):=by unfold tokN;rw[if_pos (by exact hw)]
   show numB ((c :: t).take (tokN (c :: t))) 9223372036854775808=true
   rw[hn]
   by_cases hb:numB ((c :: t).take (wlen (c :: t))) zBz=true
   ·exact hb
   ·rw[if_neg hb] at he;cases he
  ·rw[hk] at h;cases h
 ·rw[if_neg hd] at hk
  have hd:digB c=false:=by simpa using hd
  by_cases hl:letB c=true
  ·rw[if_pos hl] at hk
   refine⟨Or.inl hk,fun _=>?_,fun h=>?_,fun h=>?_⟩
   ·obtain⟨m,hm⟩:∃ m,tokN (c :: t)=m+1:=⟨tokN (c :: t) - 1,by omega⟩
    exact⟨c,t.take m,by show (c :: t).take (tokN (c :: t))=_;rw[hm];rfl,hl⟩
   ·rw[hk] at h;cases h
   ·rw[hk] at h;cases h
  ·rw[if_neg hl] at hk
   have hl:letB c=false:=by simpa using hl
   refine⟨Or.inr (Or.inr hk),fun h=>?_,fun h=>?_,fun _=>?_⟩
   ·rw[hk] at h;cases h
   ·rw[hk] at h;cases h
   ·have hw:zBt c=false:=by unfold zBt;rw[hd,hl];rfl
    have hn:tokN (c :: t)=zBe (c :: t):=by unfold tokN;rw[if_neg (by show ¬ zBt c=true;rw[hw];decide)]
    show (c :: t).take (tokN (c :: t))∈symsL
    rw[hn] at hp ⊢
    unfold symsL
    rw[List.mem_append]
    unfold zBe at hp ⊢
    by_cases hz:zCh (c :: t)=0
    ·rw[if_pos hz] at hp ⊢
     by_cases hs:zBy.contains ((c :: t).headD 0)=true
     ·rw[if_pos hs]
      refine Or.inr (List.mem_map.2 ⟨c,?_,rfl⟩)
      simpa using hs
     ·rw[if_neg hs] at hp;omega
    ·rw[if_neg hz]
     refine Or.inl ?_
     unfold zCh at hz ⊢
     cases hf:zB7.find? (fun p=>p.isPrefixOf (c :: t)) with
     | none=>rw[hf] at hz;exact absurd rfl hz
     | some q =>
      obtain⟨h1,h2⟩:=longs_prefix hf
      show (c :: t).take q.length∈zB7
      rw[take_pre h2]
      exact h1
theorem scan_good (l:List UInt8):∀ t∈(zBl l).1,TkG t:=by
 intro t ht
 unfold zBl at ht
 split at ht
 ·cases ht
 ·split at ht
  ·exact lx_all tok_good l.length l (Lr _) 0 t ht
  ·cases ht
section
variable {ts:List Tk} (hg:∀ t∈ts,TkG t)
include hg
omit hg in
omit hg in
omit hg in
omit hg in
omit hg in
omit hg in
omit hg in
omit hg in
omit hg in
end
end Go.Proofs.YtpgnlfdindmopaaGreatDoor.PX
namespace Go.Proofs.YtpgnlfdindmopaaGreatDoor.PX
open Go Go.RowKit WM LX
section
variable (ts:List Tk)
theorem rexF_eq (n:Nat)(s:PS):rexF ts (n+1) s=(if rAt ts (rbiF ts n 0 s).2 0 cQuest=true then (conE (rbiF ts n 0 s).1 (rexF ts n (adv (rbiF ts n 0 s).2)).1 (rexF ts n (rEx ts (rexF ts n (adv (rbiF ts n 0 s).2)).2 zCb)).1,(rexF ts n (rEx ts (rexF ts n (adv (rbiF ts n 0 s).2)).2 zCb)).2) else rbiF ts n 0 s):=by rw[rexF]
theorem rbiF_eq (n k:Nat)(s:PS):rbiF ts (n+1) k s=(if 7 < k then runF ts n s else rloF ts n k (rbiF ts n (k+1) s).1 (rbiF ts n (k+1) s).2):=by rw[rbiF]
theorem rloF_eq (n k:Nat)(l:PE)(s:PS):rloF ts (n+1) k l s=(if rOp ts k s=0 then (l,s) else rloF ts n k (apE (rOp ts k s) (opR k (tkk ts s 0).text).2 l (rbiF ts n (k+1) (adv s)).1) (rbiF ts n (k+1) (adv s)).2):=by rw[rloF]
theorem runF_eq (n:Nat)(s:PS):runF ts (n+1) s=(if rAt ts s 0 zBs=true then
 (if rNu ts s 1=true then rnF ts true (adv s) else (opE 20 [(runF ts n (adv s)).1],(runF ts n (adv s)).2))
 else if rAt ts s 0 cTilde=true then (opE 21 [(runF ts n (adv s)).1],(runF ts n (adv s)).2)
 else if rAt ts s 0 cBang=true then (opE 15 [(runF ts n (adv s)).1,numE 0],(runF ts n (adv s)).2)
 else rpiF ts n s):=by rw[runF]
theorem rpiF_eq (n:Nat)(s:PS):rpiF ts (n+1) s=(if rNu ts s 0=true then rnF ts false s
 else if rAt ts s 0 cLp=true then ((rexF ts n (adv s)).1,rEx ts (rexF ts n (adv s)).2 cRp)
 else if rAt ts (rNmS ts s) 0 cLb=true then (idxE (rNmV ts s) (rexF ts n (adv (rNmS ts s))).1,rEx ts (rexF ts n (adv (rNmS ts s))).2 cRb)
 else (varE (rNmV ts s),rNmS ts s)):=by rw[rpiF]
end
variable {ts:List Tk}
section
variable (hg:∀ t∈ts,TkG t)
include hg
end
end Go.Proofs.YtpgnlfdindmopaaGreatDoor.PX
namespace Go.Proofs.YtpgnlfdindmopaaGreatDoor.PX
open Go Go.RowKit WM LX
variable {ts:List Tk}
theorem rarF_eq (n:Nat)(c:Bool)(s:PS):rarF ts (n+1) c s=(if (s.f||rAt ts s 0 cRp)=true then ([],s) else
 ((rexF ts n (if c=true then rEx ts s zA7 else s)).1 :: (rarF ts n true (rexF ts n (if c=true then rEx ts s zA7 else s)).2).1,(rarF ts n true (rexF ts n (if c=true then rEx ts s zA7 else s)).2).2)):=by rw[rarF]
theorem rprF_eq (n:Nat)(c:Bool)(s:PS):rprF ts (n+1) c s=(if (s.f||rAt ts s 0 cRp)=true then ([],s) else
 (rNmV ts (if c=true then rEx ts s zA7 else s) :: (rprF ts n true (rNmS ts (if c=true then rEx ts s zA7 else s))).1,(rprF ts n true (rNmS ts (if c=true then rEx ts s zA7 else s))).2)):=by rw[rprF]
section
variable (hg:∀ t∈ts,TkG t)
include hg
omit hg in
omit hg in
theorem rstF_eq (n:Nat)(s:PS):rstF ts (n+1) s=(if rAt ts s 0 wIf=true then
 (if rAt ts (rblF ts n (rcdF ts n (adv s)).2).2 0 wElse=true then (.mk 3 [] [] 0 emE (rcdF ts n (adv s)).1 [] (rblF ts n (rcdF ts n (adv s)).2).1 (rblF ts n (adv (rblF ts n (rcdF ts n (adv s)).2).2)).1,(rblF ts n (adv (rblF ts n (rcdF ts n (adv s)).2).2)).2) else (.mk 3 [] [] 0 emE (rcdF ts n (adv s)).1 [] (rblF ts n (rcdF ts n (adv s)).2).1 [],(rblF ts n (rcdF ts n (adv s)).2).2))
 else if rAt ts s 0 zBn=true then (.mk 4 [] [] 0 emE (rcdF ts n (adv s)).1 [] (rblF ts n (rcdF ts n (adv s)).2).1 [],(rblF ts n (rcdF ts n (adv s)).2).2)
 else if rAt ts s 0 wOut=true then (.mk 5 [] [] 0 emE (rexF ts n (adv s)).1 [] [] [],rEx ts (rexF ts n (adv s)).2 zA1)
 else if rAt ts s 0 wTrap=true then (.mk 7 [] [] (rSmV ts (adv s)) emE emE [] [] [],rEx ts (rSmS ts (adv s)) zA1)
 else ((ragF ts n s).1,rEx ts (ragF ts n s).2 zA1)):=by rw[rstF]
omit hg in
omit hg in
omit hg in
theorem rblF_eq (n:Nat)(s:PS):rblF ts (n+1) s=((rssF ts n cRc (rEx ts s cLc)).1,rEx ts (rssF ts n cRc (rEx ts s cLc)).2 cRc):=by rw[rblF]
omit hg in
theorem rssF_eq (n:Nat)(e:List UInt8)(s:PS):rssF ts (n+1) e s=(if (s.f||rAt ts s 0 e)=true then ([],s) else ((rstF ts n s).1 :: (rssF ts n e (rstF ts n s).2).1,(rssF ts n e (rstF ts n s).2).2)):=by rw[rssF]
omit hg in
omit hg in
omit hg in
theorem rpgF_eq (n:Nat)(s:PS):rpgF ts (n+1) s=(if (s.f||decide (ts.length≤s.i))=true then (⟨[],[]⟩,s)
 else if rAt ts s 0 zB9=true then (⟨(raaF ts (adv s)).1 :: (rpgF ts n (raaF ts (adv s)).2).1.arrays,(rpgF ts n (raaF ts (adv s)).2).1.funcs⟩,(rpgF ts n (raaF ts (adv s)).2).2)
 else (⟨(rpgF ts n (rfnF ts n (rEx ts s zCp)).2).1.arrays,(rfnF ts n (rEx ts s zCp)).1 :: (rpgF ts n (rfnF ts n (rEx ts s zCp)).2).1.funcs⟩,(rpgF ts n (rfnF ts n (rEx ts s zCp)).2).2)):=by rw[rpgF]
omit hg in
omit hg in
end
end Go.Proofs.YtpgnlfdindmopaaGreatDoor.PX
