/- Words and walks for the laws of the interpreter. -/
import Derived.Test.YtpgnlfdindmopaaGreatDoorJ1
import Derived.Test.YtpgnlfdindmopaaGreatDoorJ4
import Derived.Maps.OwnOps
import Derived.Maps.Views
namespace Go.Proofs.YtpgnlfdindmopaaGreatDoor.CX
open Go Go.RowKit WM LX PX
def sumL {α:Type}(f:α→Nat):List α→Nat
 | []=>0
 | x :: r=>1+f x+sumL f r
theorem sumL_len {α:Type}(f:α→Nat)(l:List α):l.length≤sumL f l:=by
 induction l with
 | nil=>exact Nat.zero_le _
 | cons a r ih=>rw[sumL,List.length_cons];omega
theorem zB3 {α:Type}(l:List α):sumL (fun _=>0) l=l.length:=by
 induction l with
 | nil=>rfl
 | cons a r ih=>rw[sumL,List.length_cons,ih];omega
theorem sumL_app {α:Type}(f:α→Nat)(l r:List α):sumL f (l++r)=sumL f l+sumL f r:=by
 induction l with
 | nil=>simp[sumL]
 | cons a t ih=>rw[List.cons_append,sumL,sumL,ih];omega
theorem zAr {α:Type}(f:α→Nat)(l:List α)(i:Nat):sumL f (l.take i)≤sumL f l:=by
 have h:=sumL_app f (l.take i) (l.drop i)
 rw[List.take_append_drop] at h
 omega
theorem zAs {α:Type}(f:α→Nat)(l:List α)(i:Nat)(x:α)(h:l[i]?=some x):sumL f (l.take (i+1))=sumL f (l.take i)+1+f x:=by
 have hi:=(Gs.1 h).1
 rw[List.take_succ_eq_append_getElem hi,sumL_app]
 have:l[i]=x:=(Gs.1 h).2
 rw[this]
 show _+(1+f x+0)=_
 omega
theorem zA6 {α:Type}(f:α→Nat)(l:List α)(i:Nat)(x:α)(h:l[i]?=some x):1+f x≤sumL f l:=by
 have h1:=zAs f l i x h
 have h2:=zAr f l (i+1)
 omega
mutual
def szE:PE→Nat
 | .mk _ _ nm _ kids=>1+nm.length+szEL kids
def szEL:List PE→Nat
 | []=>0
 | e :: r=>1+szE e+szEL r
end
theorem szEL_sum (l:List PE):szEL l=sumL szE l:=by
 induction l with
 | nil=>rfl
 | cons a r ih=>rw[szEL,sumL,ih]
theorem szE_eq (kd n:Int)(nm:List UInt8)(op:Int)(kids:List PE):szE (.mk kd n nm op kids)=1+nm.length+sumL szE kids:=by rw[szE,szEL_sum]
mutual
def szS:ST→Nat
 | .mk _ nm to _ pos value args thn els=>1+nm.length+to.length+szE pos+szE value+sumL szE args+szSL thn+szSL els
def szSL:List ST→Nat
 | []=>0
 | e :: r=>1+szS e+szSL r
end
theorem szSL_sum (l:List ST):szSL l=sumL szS l:=by
 induction l with
 | nil=>rfl
 | cons a r ih=>rw[szSL,sumL,ih]
theorem szS_eq (kd:Int)(nm to:List UInt8)(n:Int)(pos value:PE)(args:List PE)(thn els:List ST) :
 szS (.mk kd nm to n pos value args thn els)=1+nm.length+to.length+szE pos+szE value+sumL szE args+sumL szS thn+sumL szS els:=by rw[szS,szSL_sum,szSL_sum]
def szF (f:FN):Nat:=1+f.name.length+sumL List.length f.params+sumL List.length f.locals+sumL szS f.body+szE f.value
def szP (p:PG):Nat:=sumL (fun a=>a.1.length) p.arrays+sumL szF p.funcs
def deepE:Nat→PE→Bool
 | d,.mk _ _ _ _ kids=>if 20 < d then true else deepEL (d+1) kids
where deepEL:Nat→List PE→Bool
 | _,[]=>false
 | d,e :: r=>deepE d e||deepEL d r
theorem deepEL_any (d:Nat)(l:List PE):deepE.deepEL d l=l.any (deepE d):=by
 induction l with
 | nil=>rw[deepE.deepEL];rfl
 | cons a r ih=>rw[deepE.deepEL,ih,List.any_cons]
theorem deepE_eq (d:Nat)(kd n:Int)(nm:List UInt8)(op:Int)(kids:List PE):deepE d (.mk kd n nm op kids)=(if 20 < d then true else kids.any (deepE (d+1))):=by rw[deepE,deepEL_any]
def allX (p:PE→Bool):ST→Bool
 | .mk _ _ _ _ pos value args _ _=>p pos&&(p value&&args.all p)
def deepX (s:ST):Bool:=!allX (fun e=>!deepE 0 e) s
def over (d:Nat)(c:Nat × Nat):Bool:=decide (20 < d)||(decide (200 < c.1)||decide (16 < c.2))
def bump (kd:Int)(c:Nat × Nat):Nat × Nat:=(c.1+1,if kd=4 then c.2+1 else c.2)
def cntS:Nat→Nat × Nat→ST→Option (Nat × Nat)
 | d,c,.mk kd nm to n pos value args thn els =>
  if (over d (bump kd c)||deepX (.mk kd nm to n pos value args thn els))=true then none
  else match cntL (d+1) (bump kd c) thn with
   | none=>none
   | some c2=>cntL (d+1) c2 els
where cntL:Nat→Nat × Nat→List ST→Option (Nat × Nat)
 | _,c,[]=>some c
 | d,c,s :: r=>match cntS d c s with
  | none=>none
  | some c2=>cntL d c2 r
abbrev cntL:=cntS.cntL
theorem cntL_nil (d:Nat)(c:Nat × Nat):cntL d c []=some c:=by
 show cntS.cntL d c []=_
 rw[cntS.cntL]
theorem cntL_cons (d:Nat)(c:Nat × Nat)(s:ST)(r:List ST):cntL d c (s :: r)=(cntS d c s).bind fun c2=>cntL d c2 r:=by
 show cntS.cntL d c (s :: r)=_
 rw[cntS.cntL]
 cases cntS d c s <;> rfl
theorem cntS_eq (d:Nat)(c:Nat × Nat)(kd:Int)(nm to:List UInt8)(n:Int)(pos value:PE)(args:List PE)(thn els:List ST) :
 cntS d c (.mk kd nm to n pos value args thn els)=(if (over d (bump kd c)||deepX (.mk kd nm to n pos value args thn els))=true then none else (cntL (d+1) (bump kd c) thn).bind fun c2=>cntL (d+1) c2 els):=by
 show _=(if _ then none else (cntS.cntL (d+1) (bump kd c) thn).bind fun c2=>cntS.cntL (d+1) c2 els)
 rw[cntS]
 cases cntS.cntL (d+1) (bump kd c) thn <;> rfl
def limFB (f:FN):Bool:=decide (6 < f.params.length)||(decide (8 < f.locals.length)||((cntL 0 (0,0) f.body).isNone||deepE 0 f.value))
def lenB (a:List UInt8 × Int):Bool:=decide (a.2 < 1)||decide (16 < a.2)
def limB (p:PG):Bool:=decide (4 < p.arrays.length)||(decide (8 < p.funcs.length)||(p.arrays.any lenB||p.funcs.any limFB))
abbrev nmA:List UInt8:=[97,114,114,97,121,32]
abbrev nmZ:List UInt8:=[32,49,59]
def zBx (x:List UInt8):Bool :=
 let r:=parseF (nmA++x++nmZ)
 decide (r.2.1=0)&&(decide (r.1.arrays.length=1)&&decide ((r.1.arrays.getD 0 ([],0)).1=x))
def nmFB (x:List UInt8)(used:Bool):Bool:=if used=true then zBx x else decide (x=[])
def unB (op:Int):Bool:=decide (op=20)||decide (op=21)
def opFB (op:Int)(used:Bool):Bool:=if used=true then ((decide (4≤op)&&decide (op≤18))||unB op) else decide (op=0)
def trFB (n:Int)(used:Bool):Bool:=if used=true then (decide (0≤n)&&decide (n≤1000000)) else decide (n=0)
def opN (op:Int):Int:=if unB op=true then 1 else 2
def exU (kd op:Int):Option (Bool × Bool × Bool × Int) :=
 if kd=1 then some (true,false,false,0) else if kd=2 then some (false,true,false,0) else if kd=3 then some (false,true,false,1) else if kd=4 then some (false,false,true,opN op) else if kd=5 then some (false,false,false,3) else none
def nodeB:PE→Bool
 | .mk kd n nm op kids=>match exU kd op with
  | none=>false
  | some u=>(u.1||decide (n=0))&&(nmFB nm u.2.1&&(opFB op u.2.2.1&&decide ((kids.length:Int)=u.2.2.2)))
def allE (p:PE→Bool):PE→Bool
 | .mk kd n nm op kids=>p (.mk kd n nm op kids)&&allEL kids
where allEL:List PE→Bool
 | []=>true
 | e :: r=>allE p e&&allEL r
theorem allEL_all (p:PE→Bool)(l:List PE):allE.allEL p l=l.all (allE p):=by
 induction l with
 | nil=>rw[allE.allEL];rfl
 | cons a r ih=>rw[allE.allEL,ih,List.all_cons]
theorem allE_eq (p:PE→Bool)(kd n:Int)(nm:List UInt8)(op:Int)(kids:List PE):allE p (.mk kd n nm op kids)=(p (.mk kd n nm op kids)&&kids.all (allE p)):=by rw[allE,allEL_all]
def zeroB:PE→Bool
 | .mk kd n nm op kids=>decide (kd=0)&&(decide (n=0)&&(decide (nm=[])&&(decide (op=0)&&decide (kids.length=0))))
def exFB (e:PE)(used:Bool):Bool:=if used=true then allE nodeB e else zeroB e
def stU (kd:Int):Option (Bool × Bool × Bool × Bool × Bool × Bool × Bool × Bool) :=
 if kd=1 then some (true,false,false,false,true,false,false,false) else if kd=2 then some (true,false,false,true,true,false,false,false)
 else if kd=3 then some (false,false,false,false,true,false,true,true) else if kd=4 then some (false,false,false,false,true,false,true,false)
 else if kd=5 then some (false,false,false,false,true,false,false,false) else if kd=6 then some (true,true,false,false,false,true,false,false)
 else if kd=7 then some (false,false,true,false,false,false,false,false) else none
def stmB:ST→Bool
 | .mk kd nm to n pos value args thn els=>match stU kd with
  | none=>false
  | some (un,ut,uz,ua,uv,ug,uh,ue)=>nmFB nm un&&(nmFB to ut&&(trFB n uz&&(exFB pos ua&&(exFB value uv&&((ug||decide (args.length=0))&&(args.all (allE nodeB)&&((uh||decide (thn.length=0))&&(ue||decide (els.length=0)))))))))
def allS (p:ST→Bool):ST→Bool
 | .mk kd nm to n pos value args thn els=>p (.mk kd nm to n pos value args thn els)&&(allSL thn&&allSL els)
where allSL:List ST→Bool
 | []=>true
 | e :: r=>allS p e&&allSL r
theorem allSL_all (p:ST→Bool)(l:List ST):allS.allSL p l=l.all (allS p):=by
 induction l with
 | nil=>rw[allS.allSL];rfl
 | cons a r ih=>rw[allS.allSL,ih,List.all_cons]
theorem allS_eq (p:ST→Bool)(kd:Int)(nm to:List UInt8)(n:Int)(pos value:PE)(args:List PE)(thn els:List ST) :
 allS p (.mk kd nm to n pos value args thn els)=(p (.mk kd nm to n pos value args thn els)&&(thn.all (allS p)&&els.all (allS p))):=by rw[allS,allSL_all,allSL_all]
def funB (f:FN):Bool:=zBx f.name&&(f.params.all zBx&&(f.locals.all zBx&&(f.body.all (allS stmB)&&allE nodeB f.value)))
def shpB (p:PG):Bool:=p.arrays.all (fun a=>zBx a.1)&&p.funcs.all funB
def repB (l:List (List UInt8)):Bool:=(List.range l.length).any fun i=>(l.take i).contains (l.getD i [])
def anN (p:PG):List (List UInt8):=p.arrays.map (·.1)
def fnN (p:PG):List (List UInt8):=p.funcs.map (·.name)
def dupB (p:PG):Bool:=repB (anN p)||(repB (fnN p)||p.funcs.any fun f=>repB (anN p++(f.params++f.locals)))
def dfN (A V:List (List UInt8)):PE→Bool
 | .mk kd _ nm _ _=>if kd=2 then V.contains nm else if kd=3 then A.contains nm else true
def dfT (A F V:List (List UInt8)):ST→Bool
 | .mk kd nm to _ _ _ _ _ _=>if kd=1 then V.contains nm else if kd=2 then A.contains nm else if kd=6 then V.contains nm&&F.contains to else true
def dfS (A F V:List (List UInt8))(s:ST):Bool:=dfT A F V s&&allX (allE (dfN A V)) s
def undB (p:PG):Bool:=p.funcs.any fun f=>!f.body.all (allS (dfS (anN p) (fnN p) (f.params++f.locals)))||!allE (dfN (anN p) (f.params++f.locals)) f.value
def parN (fs:List FN)(x:List UInt8):Int:=fs.foldl (fun k f=>if f.name=x then (f.params.length:Int) else k) 0
def arS (fs:List FN):ST→Bool
 | .mk kd _ to _ _ _ args _ _=>decide (kd≠6)||decide ((args.length:Int)=parN fs to)
def ariB (p:PG):Bool:=!p.funcs.all fun f=>f.body.all (allS (arS p.funcs))
def chkF (p:PG):Nat:=if limB p=true then 6 else if shpB p=false then 2 else if dupB p=true then 4 else if undB p=true then 3 else if ariB p=true then 5 else 0
end Go.Proofs.YtpgnlfdindmopaaGreatDoor.CX
namespace Go.Proofs.YtpgnlfdindmopaaGreatDoor
open Go.RowKit (wrap64 intOf)
open Go Go.RowKit WM LX PX CX
theorem RepL.at {α:Type}{Rep:World→(Nat→Prop)→α→List Value→Prop}{sz:Nat}{w:World}{ok:Nat→Prop}{xs:List α}{v:Value}(h:RepL Rep sz w ok xs v) :
 ∃ A c,v=.slice A xs.length c∧∀ i x,xs[i]?=some x→∃ g cs,A=some ⟨g,0,none⟩∧ok g∧Rep w ok x cs∧∀ j u,cs[j]?=some u→w.cell? ⟨g,i * sz+j,none⟩=some u:=by
 obtain⟨F,⟨A,c,hv,hA⟩,hF⟩:=h
 refine⟨A,c,hv,fun i x hx=>?_⟩
 have hi:=(Gs.1 hx).1
 obtain⟨g,hg,hok,hc,_⟩:=hA (by omega)
 exact⟨g,F i,hg,hok,hF i x hx,fun j u hu=>hc i j u hi hu⟩
abbrev Kp (m:Option Nat)(w w':World):Prop:=w.grownBy w' m
theorem kp_below {w w':World}(h:Below w.heap.size w w')(m:Option Nat):Kp m w w':=⟨h.os,h.tape,h.output,h.size,fun i hi _=>h.block i hi⟩
theorem below_kp {w w':World}(h:Kp none w w'):Below w.heap.size w w':=⟨h.os,h.tape,h.output,h.size,fun i hi=>h.block i hi (by simp)⟩
theorem kp_to {m:Option Nat}{a b c:World}(h:Kp m a b)(k:Kp m b c):Kp m a c:=grown_to h k
theorem kp_al {m:Option Nat}{a w:World}(h:Kp m a w)(o:Obj):Kp m a (w.alloc o):=grown_al h o
theorem kp_dr {m:Option Nat}{a w:World}(h:Kp m a w)(n:Nat):Kp m a (w.drewN n):=⟨h.os,h.tape,h.output,h.size,h.block⟩
def Easy (I:World→Prop):Prop:=∀ w w',I w→Below w.heap.size w w'→I w'
theorem easy_kp (m:Option Nat)(a:World):Easy (Kp m a):=fun _ _ h hb=>kp_to h (kp_below hb m)
theorem wpList_load_at {P:Program}{ops:Array Oper}{rest:List Oper}{o:Oper}{a:Act}{w:World}{Q:Exit→Act→World→Prop}(hgd:o.guard=none)(ty:TypeId)(x:Operand)(ho:o.op=.load ty x)
 (g off:Nat) (hx:a.eval x=.pointer (some ⟨g,off,none⟩)) (cs:List Value) (hc:∀ j u,cs[j]?=some u→w.cell? ⟨g,off+j,none⟩=some u) (d:TypeDesc)
 (hu:P.underlying ty=some d) (hd:(match d with | .struct _ | .array _ _=>true | _=>false)=true) (hi:(P.info? ty).map (·.size)=some cs.length)
 (h:wpList P ops Q rest (a.put o.dst (.agg cs.toArray)) w):wpList P ops Q (o :: rest) a w:=by
 refine wpList_plain hgd fun _ hK=>?_
 have hl:(loadCells ⟨g,off,none⟩ cs.length).run P w=.ok cs.toArray w :=
  run_loadCells_list (P:=P) w ⟨g,off,none⟩ cs (fun j v hv=>by
   have hadd:(⟨g,off,none⟩:Addr).add j=⟨g,off+j,none⟩:=by unfold Addr.add;split <;> simp_all
   rw[hadd];exact hc j v hv)
 have hrun:(loadVar ty ⟨g,off,none⟩).run P w=.ok (.agg cs.toArray) w:=by
  cases hq:P.info? ty with
  | none=>simp[hq] at hi
  | some i =>
   have hs:i.size=cs.length:=by simpa[hq] using hi
   have hagg:(isAgg ty).run P w=.ok true w:=by
    unfold isAgg
    rw[Sem.run_bind,run_underlying hu w]
    cases d <;> simp_all
   simp[loadVar,Sem.run_bind,hagg,sizeOf,typeInfo,hq,hs,hl]
 unfold Oper.wp execOp
 simp only[ho,hx,Instr.loadAt,Instr.sureAddr,Sem.run_bind,Sem.run_pure,Result.andThen_ok,hrun]
 exact hK _ _ h
def RetI (v:Value)(I:World→Prop)(e:Ending)(w':World):Prop:=e=.returned v∧I w'
theorem retI {v v':Value}{I:World→Prop}{w':World}(h:v'=v)(hI:I w'):RetI v I (.returned v') w':=⟨by rw[h],hI⟩
theorem blk_row {w:World}{g:Nat}{t:TypeId}{cs0:Array Value}(h:Blk w g t cs0)(cs:Array Value):Blk (w.setRow g cs) g t cs:=by
 unfold Blk at h ⊢
 simp[World.setRow,Array.getElem?_modify,h]
theorem below_row {w w1:World}{B g:Nat}(h:Below B w w1)(hg:B≤g)(cs:Array Value):Below B w (w1.setRow g cs) :=
 ⟨h.os,h.tape,h.output,by simpa[World.setRow] using h.size,fun i hi=>by
  have hne:g≠i:=by omega
  have e:(w1.setRow g cs).heap[i]?=w1.heap[i]?:=by simp[World.setRow,Array.getElem?_modify,hne]
  exact e.trans (h.block i hi)⟩
def Ones {α:Type}(Rep:World→(Nat→Prop)→α→List Value→Prop)(sz:Nat):Prop:=∀ w ok x cs,Rep w ok x cs→cs.length=sz∧cs.toArray.all (·.oneCell')=true
structure Inv (I:Nat→World→Prop)(ok:Nat→Prop)(m:Option Nat)(w0:World):Prop where
 lo:∀ c w,I c w→∀ b,m=some b→b < w.heap.size
 easy:∀ c,Easy (I c)
 mono:∀ c c' w,I c w→c≤c'→I c' w
 ok:∀ c w,I c w→∀ b,ok b→b < w.heap.size∧w.heap[b]?=w0.heap[b]?
def RetK (v:Value)(m:Option Nat)(w:World)(I:World→Prop):Ending→World→Prop:=RetI v fun w'=>I w'∧Kp m w w'
theorem retK {v v':Value}{m:Option Nat}{w:World}{I:World→Prop}{w':World}(h:v'=v)(hI:I w')(hk:Kp m w w'):RetK v m w I (.returned v') w':=⟨by rw[h],hI,hk⟩
def Tst {α:Type}(P:Program)(Rep:World→(Nat→Prop)→α→List Value→Prop)(ok:Nat→Prop)(I:Nat→World→Prop)(m:Option Nat)(g:Nat)(pre lb:Array Value)(p:α→Bool)(f:α→Nat)(x:α):Prop :=
 ∀ cs w c,c+(1+f x)≤1000000000000→I c w→Rep w ok x cs→Calls P g (pre.push (.agg cs.toArray)++lb) w (RetK (.bool (p x)) m w (I (c+(1+f x))))
theorem Inv.and {I:Nat→World→Prop}{ok:Nat→Prop}{m:Option Nat}{w0:World}(h:Inv I ok m w0)(w1:World):Inv (fun c w=>I c w∧Kp m w1 w) ok m w0 :=
 ⟨fun c w hI=>h.lo c w hI.1,fun c w w' hI hb=>⟨h.easy c w w' hI.1 hb,kp_to hI.2 (kp_below hb m)⟩,fun c c' w hI hc=>⟨h.mono c c' w hI.1 hc,hI.2⟩,fun c w hI=>h.ok c w hI.1⟩
theorem Tst.and {α:Type}{P:Program}{Rep:World→(Nat→Prop)→α→List Value→Prop}{ok:Nat→Prop}{I:Nat→World→Prop}{m:Option Nat}{g:Nat}{pre lb:Array Value}{p:α→Bool}{f:α→Nat}{x:α}
 (h:Tst P Rep ok I m g pre lb p f x) (w1:World):Tst P Rep ok (fun c w=>I c w∧Kp m w1 w) m g pre lb p f x :=
 fun cs w c hc hI hr=>(h cs w c hc hI.1 hr).mono fun _ _ k=>⟨k.1,⟨k.2.1,kp_to hI.2 k.2.2⟩,k.2.2⟩
def TstN (P:Program)(I:Nat→World→Prop)(m:Option Nat)(g:Nat)(pre lb:Array Value)(p:List UInt8→Bool)(x:List UInt8):Prop :=
 ∀ w c,c+(1+x.length)≤1000000000000→I c w→Calls P g (pre.push (.string ⟨x.toArray⟩)++lb) w (RetK (.bool (p x)) m w (I (c+(1+x.length))))
theorem TstN.and {P:Program}{I:Nat→World→Prop}{m:Option Nat}{g:Nat}{pre lb:Array Value}{p:List UInt8→Bool}{x:List UInt8}(h:TstN P I m g pre lb p x)(w1:World):TstN P (fun c w=>I c w∧Kp m w1 w) m g pre lb p x :=
 fun w c hc hI=>(h w c hc hI.1).mono fun _ _ k=>⟨k.1,⟨k.2.1,kp_to hI.2 k.2.2⟩,k.2.2⟩
def EvR {α:Type}(I:Nat→World→Prop)(f:α→Nat)(c:Nat)(q:α→Prop)(xs:List α)(len k:Nat)(i:Value)(wr:World):Prop :=
 ∃ j:Nat,j+k=len∧i=.int .i64 (j:Int)∧Hid (I (c+sumL f (xs.take j)) wr)∧Hid (∀ (m:Nat) (x:α),m < j→xs[m]?=some x→q x)
theorem evR {α:Type}{I:Nat→World→Prop}{f:α→Nat}{c:Nat}{q:α→Prop}{xs:List α}{len j k:Nat}{wr:World}(h:j+k=len)(hI:I (c+sumL f (xs.take j)) wr)(hq:∀ (m:Nat)(x:α),m < j→xs[m]?=some x→q x):EvR I f c q xs len k (.int .i64 (j:Int)) wr:=⟨j,h,rfl,Hd hI,Hd hq⟩
theorem ev_step {α:Type}{q:α→Prop}{xs:List α}{j:Nat}{x:α}(h:∀ (m:Nat)(x:α),m < j→xs[m]?=some x→q x)(hx:xs[j]?=some x)(hq:q x):∀ (m:Nat)(x:α),m < j+1→xs[m]?=some x→q x:=fun m y hm hy=>by
 by_cases e:m=j
 ·subst e
  rw[hx] at hy
  injection hy with hy
  exact hy ▸ hq
 ·exact h m y (by omega) hy
def IdxP (b:Bool)(I:World→Prop)(e:Ending)(w':World):Prop:=∃ n:Int,e=.returned (.int .i64 n)∧decide (0≤n)=b∧I w'
theorem all_upto {α:Type}(p:α→Bool)(xs:List α)(k:Nat)(x:α)(hx:xs[k]?=some x)(hp:p x=false):xs.all p=false:=by
 rw[List.all_eq_false]
 exact⟨x,List.mem_of_getElem? hx,by rw[hp];decide⟩
theorem all_done {α:Type}(p:α→Bool)(xs:List α)(h:∀ (j:Nat)(x:α),xs[j]?=some x→p x=true):xs.all p=true:=by
 rw[List.all_eq_true]
 intro x hx
 obtain⟨j,hj⟩:=List.getElem?_of_mem hx
 exact h j x hj
theorem any_upto {α:Type}(p:α→Bool)(xs:List α)(k:Nat)(x:α)(hx:xs[k]?=some x)(hp:p x=true):xs.any p=true:=by
 rw[List.any_eq_true]
 exact⟨x,List.mem_of_getElem? hx,hp⟩
theorem any_done {α:Type}(p:α→Bool)(xs:List α)(h:∀ (j:Nat)(x:α),xs[j]?=some x→p x=false):xs.any p=false:=by
 rw[List.any_eq_false]
 intro x hx
 obtain⟨j,hj⟩:=List.getElem?_of_mem hx
 rw[h j x hj]
 decide
end Go.Proofs.YtpgnlfdindmopaaGreatDoor
