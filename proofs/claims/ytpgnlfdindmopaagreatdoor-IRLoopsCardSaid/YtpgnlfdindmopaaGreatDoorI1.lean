/- Words and walks for the laws of the interpreter. -/
import Derived.Test.YtpgnlfdindmopaaGreatDoorJ1
import Derived.Test.YtpgnlfdindmopaaGreatDoorK1
namespace Go.Proofs.YtpgnlfdindmopaaGreatDoor.PX
open Go Go.RowKit WM LX
def parseN (l:List UInt8):PG × Nat × Nat :=
 let q:=scanN l
 if q.2.1=0 then parseT q.1 l.length else (⟨[],[]⟩,q.2.1,q.2.2)
theorem parseN_eq (l:List UInt8):parseN l=parseF l:=by
 unfold parseN parseF
 rw[scanN_eq]
 obtain⟨⟨ts,y,a⟩,hq⟩:∃ q,zBl l=q:=⟨_,rfl⟩
 rw[hq]
 dsimp only
 by_cases hy:y=0
 ·rw[if_pos hy,if_pos hy]
  rfl
 ·rw[if_neg hy,if_neg hy]
end Go.Proofs.YtpgnlfdindmopaaGreatDoor.PX
namespace Go.Proofs.YtpgnlfdindmopaaGreatDoor.IX
open Go Go.RowKit WM LX PX CX
abbrev Vs:=List UInt8→Int
abbrev Cs:=List UInt8→List Int
def upd {α:Type}(g:List UInt8→α)(x:List UInt8)(a:α):List UInt8→α:=fun y=>if x=y then a else g y
inductive Rs where
 | val (n:Int)
 | trap (c:Int)
inductive RL where
 | vals (l:List Int)
 | trap (c:Int)
structure MS where
 fuel:Nat
 C:Cs
 out:List Int
 k:Nat
inductive XR where
 | ok (m:MS) (V:Vs)
 | ended (kind code:Int) (out:List Int)
inductive CR where
 | val (m:MS) (n:Int)
 | ended (kind code:Int) (out:List Int)
def oob (n:Int)(l:Nat):Bool:=decide (n < 0)||decide ((l:Int)≤n)
def nmOK (x:List UInt8):Bool:=decide (x.length≤1000000000)
def evE:Nat→Vs→Cs→PE→Option Rs
 | 0,_,_,_=>none
 | g+1,V,C,.mk kd n nm op kids =>
  if nmOK nm=false then none else if kd=1 then some (.val n) else if kd=2 then some (.val (V nm))
  else if kd=3 then (match kids[0]? with
   | none=>none
   | some a=>match evE g V C a with
    | none=>none
    | some (.trap c)=>some (.trap c)
    | some (.val i)=>if oob i (C nm).length=true then some (.trap 2) else some (.val ((C nm).getD i.toNat 0)))
  else if kd=4 then (match kids[0]? with
   | none=>none
   | some a=>match evE g V C a with
    | none=>none
    | some (.trap c)=>some (.trap c)
    | some (.val x)=>if kids.length=1 then some (.val (unF op x)) else match kids[1]? with
     | none=>none
     | some b=>match evE g V C b with
      | none=>none
      | some (.trap c)=>some (.trap c)
      | some (.val y)=>if ((decide (op=7)||decide (op=8))&&decide (y=0))=true then some (.trap 1) else some (.val (binF op x y)))
  else (match kids[0]? with
   | none=>none
   | some a=>match evE g V C a with
    | none=>none
    | some (.trap c)=>some (.trap c)
    | some (.val x)=>if x=0 then (match kids[2]? with
     | none=>none
     | some b=>evE g V C b) else (match kids[1]? with
     | none=>none
     | some b=>evE g V C b))
def few (n:Nat):Bool:=decide (n < 1000000000)
def evL (g:Nat)(V:Vs)(C:Cs):List Int→List PE→Option RL
 | acc,[]=>some (.vals acc)
 | acc,e :: r=>if few r.length=false then none else match evE g V C e with
  | none=>none
  | some (.trap c)=>some (.trap c)
  | some (.val n)=>evL g V C (acc++[n]) r
def fnOf (fs:List FN)(x:List UInt8):Option FN:=fs.foldl (fun k f=>if f.name=x then some f else k) none
def putL (V:Vs):List (List UInt8)→List Int→Vs
 | x :: r,a :: s=>putL (upd V x a) r s
 | _,_=>V
def zeroL (V:Vs):List (List UInt8)→Vs
 | x :: r=>zeroL (upd V x 0) r
 | []=>V
def actV (f:FN)(args:List Int):Vs:=zeroL (putL (fun _=>0) f.params args) f.locals
def most:Nat:=1000000000000
def fitB (f:FN)(args:List Int):Bool:=decide (f.params.length≤args.length)&&(decide (f.params.length≤1000)&&(decide (f.locals.length≤1000)&&(f.params.all nmOK&&f.locals.all nmOK)))
section
variable (fs:List FN)
mutual
def xL:Nat→Vs→MS→List ST→Option XR
 | 0,_,_,_=>none
 | _+1,V,m,[]=>some (.ok m V)
 | g+1,V,m,s :: r=>if few r.length=false then none else match xS g V m s with
  | none=>none
  | some (.ended k c o)=>some (.ended k c o)
  | some (.ok m V)=>xL g V m r
def xS:Nat→Vs→MS→ST→Option XR
 | 0,_,_,_=>none
 | g+1,V,m,.mk kd nm to n pos value args thn els =>
  if (nmOK nm&&nmOK to)=false then none else if kd=1 then (match evE g V m.C value with
   | none=>none
   | some (.trap c)=>some (.ended 2 c m.out)
   | some (.val x)=>if m.k < most then some (.ok ⟨m.fuel,m.C,m.out,m.k+1⟩ (upd V nm x)) else none)
  else if kd=2 then (match evE g V m.C pos with
   | none=>none
   | some (.trap c)=>some (.ended 2 c m.out)
   | some (.val i)=>match evE g V m.C value with
    | none=>none
    | some (.trap c)=>some (.ended 2 c m.out)
    | some (.val x)=>if oob i (m.C nm).length=true then some (.ended 2 2 m.out) else some (.ok ⟨m.fuel,upd m.C nm ((m.C nm).set i.toNat x),m.out,m.k⟩ V))
  else if kd=3 then (match evE g V m.C value with
   | none=>none
   | some (.trap c)=>some (.ended 2 c m.out)
   | some (.val x)=>if x=0 then xL g V m els else xL g V m thn)
  else if kd=4 then xW g V m value thn
  else if kd=5 then (match evE g V m.C value with
   | none=>none
   | some (.trap c)=>some (.ended 2 c m.out)
   | some (.val x)=>if m.k < most then some (.ok ⟨m.fuel,m.C,m.out++[x],m.k+1⟩ V) else none)
  else if kd=6 then (match evL g V m.C [] args with
   | none=>none
   | some (.trap c)=>some (.ended 2 c m.out)
   | some (.vals l)=>if m.fuel=0 then some (.ended 3 0 m.out) else match fnOf fs to with
    | none=>none
    | some f=>match xC g ⟨m.fuel - 1,m.C,m.out,m.k⟩ f l with
     | none=>none
     | some (.ended k c o)=>some (.ended k c o)
     | some (.val m1 x)=>if m.k≤m1.k∧m1.k < most then some (.ok ⟨m1.fuel,m1.C,m1.out,m1.k+1⟩ (upd V nm x)) else none)
  else some (.ended 2 (wrap64 (16+n)) m.out)
def xW:Nat→Vs→MS→PE→List ST→Option XR
 | 0,_,_,_,_=>none
 | g+1,V,m,e,l=>match evE g V m.C e with
  | none=>none
  | some (.trap c)=>some (.ended 2 c m.out)
  | some (.val x)=>if x=0 then some (.ok m V) else if m.fuel=0 then some (.ended 3 0 m.out) else match xL g V ⟨m.fuel - 1,m.C,m.out,m.k⟩ l with
   | none=>none
   | some (.ended k c o)=>some (.ended k c o)
   | some (.ok m V)=>xW g V m e l
def xC:Nat→MS→FN→List Int→Option CR
 | 0,_,_,_=>none
 | g+1,m,f,args=>if fitB f args=false then none else match xL g (actV f args) m f.body with
  | none=>none
  | some (.ended k c o)=>some (.ended k c o)
  | some (.ok m V)=>match evE g V m.C f.value with
   | none=>none
   | some (.trap c)=>some (.ended 2 c m.out)
   | some (.val n)=>some (.val m n)
end
end
structure OC where
 kind:Int
 code:Int
 out:List Int
 value:Int
def zeroO:OC:=⟨0,0,[],0⟩
def iniC (ars:List (List UInt8 × Int)):Cs:=ars.foldl (fun C a=>upd C a.1 (List.replicate a.2.toNat 0)) (fun _=>[])
def outO:CR→OC
 | .val m n=>⟨1,0,m.out,n⟩
 | .ended k c o=>⟨k,c,o,0⟩
def goF (g:Nat)(p:PG)(name:List UInt8)(args:List Int)(fuel:Nat):Option OC :=
 match fnOf p.funcs name with
 | none=>some zeroO
 | some f=>if args.length=f.params.length then (xC p.funcs g ⟨fuel,iniC p.arrays,[],0⟩ f args).map outO else some zeroO
def runF (g:Nat)(p:PG)(name:List UInt8)(args:List Int)(fuel:Int):Option OC :=
 if (decide (fuel < 0)||(decide (1000 < fuel)||!decide (chkF p=0)))=true then some zeroO else goF g p name args fuel.toNat
end Go.Proofs.YtpgnlfdindmopaaGreatDoor.IX
namespace Go.Proofs.YtpgnlfdindmopaaGreatDoor.IX
open Go Go.RowKit WM LX PX CX
theorem ev_eq (g:Nat)(V:Vs)(C:Cs)(kd n:Int)(nm:List UInt8)(op:Int)(kids:List PE):evE (g+1) V C (.mk kd n nm op kids) =
 if nmOK nm=false then none else if kd=1 then some (.val n) else if kd=2 then some (.val (V nm))
 else if kd=3 then (match kids[0]? with
  | none=>none
  | some a=>match evE g V C a with
   | none=>none
   | some (.trap c)=>some (.trap c)
   | some (.val i)=>if oob i (C nm).length=true then some (.trap 2) else some (.val ((C nm).getD i.toNat 0)))
 else if kd=4 then (match kids[0]? with
  | none=>none
  | some a=>match evE g V C a with
   | none=>none
   | some (.trap c)=>some (.trap c)
   | some (.val x)=>if kids.length=1 then some (.val (unF op x)) else match kids[1]? with
    | none=>none
    | some b=>match evE g V C b with
     | none=>none
     | some (.trap c)=>some (.trap c)
     | some (.val y)=>if ((decide (op=7)||decide (op=8))&&decide (y=0))=true then some (.trap 1) else some (.val (binF op x y)))
 else (match kids[0]? with
  | none=>none
  | some a=>match evE g V C a with
   | none=>none
   | some (.trap c)=>some (.trap c)
   | some (.val x)=>if x=0 then (match kids[2]? with
    | none=>none
    | some b=>evE g V C b) else (match kids[1]? with
    | none=>none
    | some b=>evE g V C b)):=by
 rw[evE]
 all_goals rfl
def idxR (l:List Int):Rs→Rs
 | .trap c=>.trap c
 | .val i=>if oob i l.length=true then .trap 2 else .val (l.getD i.toNat 0)
section
variable {g:Nat} {V:Vs} {C:Cs} {n:Int} {nm:List UInt8} {op:Int} {kids:List PE} {r:Rs}
theorem ev_nm {kd:Int}(h:evE (g+1) V C (.mk kd n nm op kids)=some r):nmOK nm=true:=by
 cases hx:nmOK nm with
 | true=>rfl
 | false=>rw[ev_eq,hx,if_pos rfl] at h;cases h
theorem ev1 (h:evE (g+1) V C (.mk 1 n nm op kids)=some r):r=.val n:=by
 rw[ev_eq,ev_nm h] at h
 exact (Oi h).symm
theorem ev2 (h:evE (g+1) V C (.mk 2 n nm op kids)=some r):r=.val (V nm):=by
 rw[ev_eq,ev_nm h] at h
 exact (Oi h).symm
theorem ev3 (h:evE (g+1) V C (.mk 3 n nm op kids)=some r):∃ a ra,kids[0]?=some a∧evE g V C a=some ra∧r=idxR (C nm) ra:=by
 have hn:=ev_nm h
 rw[ev_eq,hn] at h
 have h:(match kids[0]? with
  | none=>none
  | some a=>match evE g V C a with
   | none=>none
   | some (.trap c)=>some (.trap c)
   | some (.val i)=>if oob i (C nm).length=true then some (.trap 2) else some (.val ((C nm).getD i.toNat 0)))=some r:=h
 cases ha:kids[0]? with
 | none=>rw[ha] at h;cases h
 | some a =>
  rw[ha] at h
  dsimp only at h
  cases hra:evE g V C a with
  | none=>rw[hra] at h;cases h
  | some ra =>
   rw[hra] at h
   refine⟨a,ra,rfl,hra,?_⟩
   cases ra with
   | trap c=>exact (Oi h).symm
   | val i =>
    dsimp only at h
    unfold idxR
    dsimp only
    cases hb:oob i (C nm).length with
    | true=>rw[hb,if_pos rfl] at h;rw[if_pos rfl];exact (Oi h).symm
    | false=>rw[hb,if_neg (by decide)] at h;rw[if_neg (by decide)];exact (Oi h).symm
def dvB (op y:Int):Bool:=(decide (op=7)||decide (op=8))&&decide (y=0)
def opR (op x:Int):Rs→Rs
 | .trap c=>.trap c
 | .val y=>if dvB op y=true then .trap 1 else .val (binF op x y)
theorem ev4 (h:evE (g+1) V C (.mk 4 n nm op kids)=some r):∃ a ra,kids[0]?=some a∧evE g V C a=some ra ∧
 ((∃ c,ra=.trap c∧r=.trap c)∨∃ x,ra=.val x∧((kids.length=1∧r=.val (unF op x))∨(kids.length≠1∧∃ b rb,kids[1]?=some b∧evE g V C b=some rb∧r=opR op x rb))):=by
 have hn:=ev_nm h
 rw[ev_eq,hn] at h
 have h:(match kids[0]? with
  | none=>none
  | some a=>match evE g V C a with
   | none=>none
   | some (.trap c)=>some (.trap c)
   | some (.val x)=>if kids.length=1 then some (.val (unF op x)) else match kids[1]? with
    | none=>none
    | some b=>match evE g V C b with
     | none=>none
     | some (.trap c)=>some (.trap c)
     | some (.val y)=>if ((decide (op=7)||decide (op=8))&&decide (y=0))=true then some (.trap 1) else some (.val (binF op x y)))=some r:=h
 cases ha:kids[0]? with
 | none=>rw[ha] at h;cases h
 | some a =>
  rw[ha] at h
  dsimp only at h
  cases hra:evE g V C a with
  | none=>rw[hra] at h;cases h
  | some ra =>
   rw[hra] at h
   refine⟨a,ra,rfl,hra,?_⟩
   cases ra with
   | trap c=>exact Or.inl ⟨c,rfl,(Oi h).symm⟩
   | val x =>
    dsimp only at h
    refine Or.inr ⟨x,rfl,?_⟩
    by_cases hl:kids.length=1
    ·rw[if_pos hl] at h
     exact Or.inl ⟨hl,(Oi h).symm⟩
    ·rw[if_neg hl] at h
     refine Or.inr ⟨hl,?_⟩
     cases hb:kids[1]? with
     | none=>rw[hb] at h;cases h
     | some b =>
      rw[hb] at h
      dsimp only at h
      cases hrb:evE g V C b with
      | none=>rw[hrb] at h;cases h
      | some rb =>
       rw[hrb] at h
       refine⟨b,rb,rfl,hrb,?_⟩
       cases rb with
       | trap c=>exact (Oi h).symm
       | val y =>
        dsimp only at h
        unfold opR dvB
        dsimp only
        cases hd:((decide (op=7)||decide (op=8))&&decide (y=0)) with
        | true=>rw[hd,if_pos rfl] at h;rw[if_pos rfl];exact (Oi h).symm
        | false=>rw[hd,if_neg (by decide)] at h;rw[if_neg (by decide)];exact (Oi h).symm
theorem ev5 {kd:Int}(h1:kd≠1)(h2:kd≠2)(h3:kd≠3)(h4:kd≠4)(h:evE (g+1) V C (.mk kd n nm op kids)=some r):∃ a ra,kids[0]?=some a∧evE g V C a=some ra ∧
 ((∃ c,ra=.trap c∧r=.trap c)∨∃ x,ra=.val x∧((x=0∧∃ b,kids[2]?=some b∧evE g V C b=some r)∨(x≠0∧∃ b,kids[1]?=some b∧evE g V C b=some r))):=by
 have hn:=ev_nm h
 rw[ev_eq,hn,if_neg (by decide),if_neg h1,if_neg h2,if_neg h3,if_neg h4] at h
 cases ha:kids[0]? with
 | none=>rw[ha] at h;cases h
 | some a =>
  rw[ha] at h
  dsimp only at h
  cases hra:evE g V C a with
  | none=>rw[hra] at h;cases h
  | some ra =>
   rw[hra] at h
   refine⟨a,ra,rfl,hra,?_⟩
   cases ra with
   | trap c=>exact Or.inl ⟨c,rfl,(Oi h).symm⟩
   | val x =>
    dsimp only at h
    refine Or.inr ⟨x,rfl,?_⟩
    by_cases hl:x=0
    ·rw[if_pos hl] at h
     cases hb:kids[2]? with
     | none=>rw[hb] at h;cases h
     | some b=>rw[hb] at h;exact Or.inl ⟨hl,b,rfl,h⟩
    ·rw[if_neg hl] at h
     cases hb:kids[1]? with
     | none=>rw[hb] at h;cases h
     | some b=>rw[hb] at h;exact Or.inr ⟨hl,b,rfl,h⟩
end
end Go.Proofs.YtpgnlfdindmopaaGreatDoor.IX
namespace Go.Proofs.YtpgnlfdindmopaaGreatDoor.IX
open Go Go.RowKit WM LX PX CX
section
variable {fs:List FN} {g:Nat} {V:Vs} {m:MS} {kd:Int} {nm to:List UInt8} {n:Int} {pos value:PE} {args:List PE} {thn els l:List ST} {r:XR}
theorem xs_eq:xS fs (g+1) V m (.mk kd nm to n pos value args thn els) =
 if (nmOK nm&&nmOK to)=false then none else if kd=1 then (match evE g V m.C value with
  | none=>none
  | some (.trap c)=>some (.ended 2 c m.out)
  | some (.val x)=>if m.k < most then some (.ok ⟨m.fuel,m.C,m.out,m.k+1⟩ (upd V nm x)) else none)
 else if kd=2 then (match evE g V m.C pos with
  | none=>none
  | some (.trap c)=>some (.ended 2 c m.out)
  | some (.val i)=>match evE g V m.C value with
   | none=>none
   | some (.trap c)=>some (.ended 2 c m.out)
   | some (.val x)=>if oob i (m.C nm).length=true then some (.ended 2 2 m.out) else some (.ok ⟨m.fuel,upd m.C nm ((m.C nm).set i.toNat x),m.out,m.k⟩ V))
 else if kd=3 then (match evE g V m.C value with
  | none=>none
  | some (.trap c)=>some (.ended 2 c m.out)
  | some (.val x)=>if x=0 then xL fs g V m els else xL fs g V m thn)
 else if kd=4 then xW fs g V m value thn
 else if kd=5 then (match evE g V m.C value with
  | none=>none
  | some (.trap c)=>some (.ended 2 c m.out)
  | some (.val x)=>if m.k < most then some (.ok ⟨m.fuel,m.C,m.out++[x],m.k+1⟩ V) else none)
 else if kd=6 then (match evL g V m.C [] args with
  | none=>none
  | some (.trap c)=>some (.ended 2 c m.out)
  | some (.vals l)=>if m.fuel=0 then some (.ended 3 0 m.out) else match fnOf fs to with
   | none=>none
   | some f=>match xC fs g ⟨m.fuel - 1,m.C,m.out,m.k⟩ f l with
    | none=>none
    | some (.ended k c o)=>some (.ended k c o)
    | some (.val m1 x)=>if m.k≤m1.k∧m1.k < most then some (.ok ⟨m1.fuel,m1.C,m1.out,m1.k+1⟩ (upd V nm x)) else none)
 else some (.ended 2 (wrap64 (16+n)) m.out):=by
 rw[xS]
 all_goals rfl
theorem xs_nm (h:xS fs (g+1) V m (.mk kd nm to n pos value args thn els)=some r):nmOK nm=true∧nmOK to=true:=by
 cases hx:(nmOK nm&&nmOK to) with
 | true=>simpa using hx
 | false=>rw[xs_eq,hx,if_pos rfl] at h;cases h
theorem xs_in (h:xS fs (g+1) V m (.mk kd nm to n pos value args thn els)=some r):(nmOK nm&&nmOK to)=true:=by
 obtain⟨h1,h2⟩:=xs_nm h
 rw[h1,h2]
 rfl
def Aft (out:List Int)(e:Option Rs)(r:XR)(Q:Int→Prop):Prop:=∃ re,e=some re∧((∃ c,re=.trap c∧r=.ended 2 c out)∨∃ x,re=.val x∧Q x)
theorem aft {out:List Int}{e:Option Rs}{r:XR}{f:Int→Option XR}(h:(match e with
 | none=>none
 | some (.trap c)=>some (.ended 2 c out)
 | some (.val x)=>f x)=some r) {Q:Int→Prop} (hq:∀ x,f x=some r→Q x):Aft out e r Q:=by
 cases e with
 | none=>cases h
 | some re =>
  refine⟨re,rfl,?_⟩
  cases re with
  | trap c=>exact Or.inl ⟨c,rfl,(Oi h).symm⟩
  | val x=>exact Or.inr ⟨x,rfl,hq x h⟩
theorem xs1 (h:xS fs (g+1) V m (.mk 1 nm to n pos value args thn els)=some r):Aft m.out (evE g V m.C value) r fun x=>m.k < most∧r=.ok ⟨m.fuel,m.C,m.out,m.k+1⟩ (upd V nm x):=by
 have hn:=xs_in h
 rw[xs_eq,hn] at h
 refine aft (f:=fun x=>if m.k < most then some (.ok ⟨m.fuel,m.C,m.out,m.k+1⟩ (upd V nm x)) else none) h (fun x hx=>?_)
 by_cases hk:m.k < most
 ·rw[if_pos hk] at hx;exact⟨hk,(Oi hx).symm⟩
 ·rw[if_neg hk] at hx;cases hx
theorem xs2 (h:xS fs (g+1) V m (.mk 2 nm to n pos value args thn els)=some r):Aft m.out (evE g V m.C pos) r fun i=>Aft m.out (evE g V m.C value) r fun x =>
 (oob i (m.C nm).length=true∧r=.ended 2 2 m.out)∨(oob i (m.C nm).length=false∧r=.ok ⟨m.fuel,upd m.C nm ((m.C nm).set i.toNat x),m.out,m.k⟩ V):=by
 have hn:=xs_in h
 rw[xs_eq,hn] at h
 refine aft (f:=fun i=>match evE g V m.C value with
  | none=>none
  | some (.trap c)=>some (.ended 2 c m.out)
  | some (.val x)=>if oob i (m.C nm).length=true then some (.ended 2 2 m.out) else some (.ok ⟨m.fuel,upd m.C nm ((m.C nm).set i.toNat x),m.out,m.k⟩ V)) h (fun i hi=>?_)
 refine aft (f:=fun x=>if oob i (m.C nm).length=true then some (.ended 2 2 m.out) else some (.ok ⟨m.fuel,upd m.C nm ((m.C nm).set i.toNat x),m.out,m.k⟩ V)) hi (fun x hx=>?_)
 cases hb:oob i (m.C nm).length with
 | true=>rw[hb,if_pos rfl] at hx;exact Or.inl ⟨rfl,(Oi hx).symm⟩
 | false=>rw[hb,if_neg (by decide)] at hx;exact Or.inr ⟨rfl,(Oi hx).symm⟩
theorem xs3 (h:xS fs (g+1) V m (.mk 3 nm to n pos value args thn els)=some r):Aft m.out (evE g V m.C value) r fun x=>(x=0∧xL fs g V m els=some r)∨(x≠0∧xL fs g V m thn=some r):=by
 have hn:=xs_in h
 rw[xs_eq,hn] at h
 refine aft (f:=fun x=>if x=0 then xL fs g V m els else xL fs g V m thn) h (fun x hx=>?_)
 by_cases hk:x=0
 ·rw[if_pos hk] at hx;exact Or.inl ⟨hk,hx⟩
 ·rw[if_neg hk] at hx;exact Or.inr ⟨hk,hx⟩
theorem xs4 (h:xS fs (g+1) V m (.mk 4 nm to n pos value args thn els)=some r):xW fs g V m value thn=some r:=by
 have hn:=xs_in h
 rw[xs_eq,hn] at h
 exact h
theorem xs5 (h:xS fs (g+1) V m (.mk 5 nm to n pos value args thn els)=some r):Aft m.out (evE g V m.C value) r fun x=>m.k < most∧r=.ok ⟨m.fuel,m.C,m.out++[x],m.k+1⟩ V:=by
 have hn:=xs_in h
 rw[xs_eq,hn] at h
 refine aft (f:=fun x=>if m.k < most then some (.ok ⟨m.fuel,m.C,m.out++[x],m.k+1⟩ V) else none) h (fun x hx=>?_)
 by_cases hk:m.k < most
 ·rw[if_pos hk] at hx;exact⟨hk,(Oi hx).symm⟩
 ·rw[if_neg hk] at hx;cases hx
theorem xs6 (h:xS fs (g+1) V m (.mk 6 nm to n pos value args thn els)=some r):∃ rl,evL g V m.C [] args=some rl∧((∃ c,rl=.trap c∧r=.ended 2 c m.out)∨∃ l,rl=.vals l∧((m.fuel=0∧r=.ended 3 0 m.out) ∨
 (m.fuel≠0∧∃ f,fnOf fs to=some f∧∃ rc,xC fs g ⟨m.fuel - 1,m.C,m.out,m.k⟩ f l=some rc∧((∃ k c o,rc=.ended k c o∧r=.ended k c o)∨∃ m' x,rc=.val m' x∧(m.k≤m'.k∧m'.k < most)∧r=.ok ⟨m'.fuel,m'.C,m'.out,m'.k+1⟩ (upd V nm x))))):=by
 have hn:=xs_in h
 rw[xs_eq,hn] at h
 have h:(match evL g V m.C [] args with
  | none=>none
  | some (.trap c)=>some (.ended 2 c m.out)
  | some (.vals l)=>if m.fuel=0 then some (.ended 3 0 m.out) else match fnOf fs to with
   | none=>none
   | some f=>match xC fs g ⟨m.fuel - 1,m.C,m.out,m.k⟩ f l with
    | none=>none
    | some (.ended k c o)=>some (.ended k c o)
    | some (.val m1 x)=>if m.k≤m1.k∧m1.k < most then some (.ok ⟨m1.fuel,m1.C,m1.out,m1.k+1⟩ (upd V nm x)) else none)=some r:=h
 cases hl:evL g V m.C [] args with
 | none=>rw[hl] at h;cases h
 | some rl =>
  rw[hl] at h
  refine⟨rl,rfl,?_⟩
  cases rl with
  | trap c=>exact Or.inl ⟨c,rfl,(Oi h).symm⟩
  | vals l =>
   refine Or.inr ⟨l,rfl,?_⟩
   dsimp only at h
   by_cases h0:m.fuel=0
   ·rw[if_pos h0] at h
    exact Or.inl ⟨h0,(Oi h).symm⟩
   ·rw[if_neg h0] at h
    refine Or.inr ⟨h0,?_⟩
    cases hf:fnOf fs to with
    | none=>rw[hf] at h;cases h
    | some f =>
     rw[hf] at h
     refine⟨f,rfl,?_⟩
     dsimp only at h
     cases hc:xC fs g ⟨m.fuel - 1,m.C,m.out,m.k⟩ f l with
     | none=>rw[hc] at h;cases h
     | some rc =>
      rw[hc] at h
      refine⟨rc,rfl,?_⟩
      cases rc with
      | ended k c o=>exact Or.inl ⟨k,c,o,rfl,(Oi h).symm⟩
      | val m' x =>
       dsimp only at h
       by_cases hk:m.k≤m'.k∧m'.k < most
       ·rw[if_pos hk] at h;exact Or.inr ⟨m',x,rfl,hk,(Oi h).symm⟩
       ·rw[if_neg hk] at h;cases h
theorem xs7 (h1:kd≠1)(h2:kd≠2)(h3:kd≠3)(h4:kd≠4)(h5:kd≠5)(h6:kd≠6)(h:xS fs (g+1) V m (.mk kd nm to n pos value args thn els)=some r):r=.ended 2 (wrap64 (16+n)) m.out:=by
 have hn:=xs_in h
 rw[xs_eq,hn,if_neg (by decide),if_neg h1,if_neg h2,if_neg h3,if_neg h4,if_neg h5,if_neg h6] at h
 exact (Oi h).symm
theorem xw_step {e:PE}(h:xW fs (g+1) V m e l=some r):Aft m.out (evE g V m.C e) r fun x=>(x=0∧r=.ok m V)∨(x≠0∧((m.fuel=0∧r=.ended 3 0 m.out)∨(m.fuel≠0∧∃ rb,xL fs g V ⟨m.fuel - 1,m.C,m.out,m.k⟩ l=some rb ∧
 ((∃ k c o,rb=.ended k c o∧r=.ended k c o)∨∃ m' V',rb=.ok m' V'∧xW fs g V' m' e l=some r)))):=by
 rw[xW] at h
 refine aft (f:=fun x=>if x=0 then some (.ok m V) else if m.fuel=0 then some (.ended 3 0 m.out) else match xL fs g V ⟨m.fuel - 1,m.C,m.out,m.k⟩ l with
  | none=>none
  | some (.ended k c o)=>some (.ended k c o)
  | some (.ok m V)=>xW fs g V m e l) h (fun x hx=>?_)
 by_cases hk:x=0
 ·rw[if_pos hk] at hx;exact Or.inl ⟨hk,(Oi hx).symm⟩
 ·rw[if_neg hk] at hx
  refine Or.inr ⟨hk,?_⟩
  by_cases h0:m.fuel=0
  ·rw[if_pos h0] at hx;exact Or.inl ⟨h0,(Oi hx).symm⟩
  ·rw[if_neg h0] at hx
   refine Or.inr ⟨h0,?_⟩
   cases hl:xL fs g V ⟨m.fuel - 1,m.C,m.out,m.k⟩ l with
   | none=>rw[hl] at hx;cases hx
   | some rb =>
    rw[hl] at hx
    refine⟨rb,rfl,?_⟩
    cases rb with
    | ended k c o=>exact Or.inl ⟨k,c,o,rfl,(Oi hx).symm⟩
    | ok m' V'=>exact Or.inr ⟨m',V',rfl,hx⟩
theorem xl_nil (h:xL fs (g+1) V m []=some r):r=.ok m V:=by
 rw[xL] at h
 exact (Oi h).symm
theorem few_le {α:Type}{a:α}{l:List α}(h:few l.length=true):(a :: l).length≤1000000000:=by
 have:=of_decide_eq_true h
 rw[List.length_cons]
 omega
theorem xl_few {l:List ST}(h:xL fs (g+1) V m l=some r):l.length≤1000000000:=by
 cases l with
 | nil=>exact Nat.zero_le _
 | cons s l =>
  rw[xL] at h
  cases hf:few l.length with
  | true=>exact few_le hf
  | false=>rw[hf,if_pos rfl] at h;cases h
theorem xl_cons {s:ST}(h:xL fs (g+1) V m (s :: l)=some r):∃ rs,xS fs g V m s=some rs∧((∃ k c o,rs=.ended k c o∧r=.ended k c o)∨∃ m' V',rs=.ok m' V'∧xL fs g V' m' l=some r):=by
 rw[xL] at h
 cases hf:few l.length with
 | false=>rw[hf,if_pos rfl] at h;cases h
 | true =>
 rw[hf,if_neg (by decide)] at h
 cases hs:xS fs g V m s with
 | none=>rw[hs] at h;cases h
 | some rs =>
  rw[hs] at h
  refine⟨rs,rfl,?_⟩
  cases rs with
  | ended k c o=>exact Or.inl ⟨k,c,o,rfl,(Oi h).symm⟩
  | ok m' V'=>exact Or.inr ⟨m',V',rfl,h⟩
theorem xl_zero (h:xL fs 0 V m l=some r):False:=by rw[xL] at h;cases h
theorem xs_zero {s:ST}(h:xS fs 0 V m s=some r):False:=by rw[xS] at h;cases h
theorem xw_zero {e:PE}(h:xW fs 0 V m e l=some r):False:=by rw[xW] at h;cases h
theorem xc_zero {f:FN}{gs:List Int}{q:CR}(h:xC fs 0 m f gs=some q):False:=by rw[xC] at h;cases h
theorem xc_step {f:FN}{gs:List Int}{q:CR}(h:xC fs (g+1) m f gs=some q):fitB f gs=true∧∃ rb,xL fs g (actV f gs) m f.body=some rb∧((∃ k c o,rb=.ended k c o∧q=.ended k c o)∨∃ m' V',rb=.ok m' V' ∧
 ∃ rv,evE g V' m'.C f.value=some rv∧((∃ c,rv=.trap c∧q=.ended 2 c m'.out)∨∃ x,rv=.val x∧q=.val m' x)):=by
 rw[xC] at h
 cases hf:fitB f gs with
 | false=>rw[hf,if_pos rfl] at h;cases h
 | true =>
  rw[hf,if_neg (by decide)] at h
  refine⟨rfl,?_⟩
  cases hs:xL fs g (actV f gs) m f.body with
  | none=>rw[hs] at h;cases h
  | some rs =>
   rw[hs] at h
   refine⟨rs,rfl,?_⟩
   cases rs with
   | ended k c o=>exact Or.inl ⟨k,c,o,rfl,(Oi h).symm⟩
   | ok m' V' =>
    refine Or.inr ⟨m',V',rfl,?_⟩
    dsimp only at h
    cases he:evE g V' m'.C f.value with
    | none=>rw[he] at h;cases h
    | some rv =>
     rw[he] at h
     refine⟨rv,rfl,?_⟩
     cases rv with
     | trap c=>exact Or.inl ⟨c,rfl,(Oi h).symm⟩
     | val x=>exact Or.inr ⟨x,rfl,(Oi h).symm⟩
theorem evl_few {C:Cs}{acc:List Int}{es:List PE}{q:RL}(h:evL g V C acc es=some q):es.length≤1000000000:=by
 cases es with
 | nil=>exact Nat.zero_le _
 | cons e es =>
  rw[evL] at h
  cases hf:few es.length with
  | true=>exact few_le hf
  | false=>rw[hf,if_pos rfl] at h;cases h
theorem evl_cons {C:Cs}{acc:List Int}{e:PE}{es:List PE}{q:RL}(h:evL g V C acc (e :: es)=some q):∃ re,evE g V C e=some re∧((∃ c,re=.trap c∧q=.trap c)∨∃ x,re=.val x∧evL g V C (acc++[x]) es=some q):=by
 rw[evL] at h
 cases hf:few es.length with
 | false=>rw[hf,if_pos rfl] at h;cases h
 | true =>
 rw[hf,if_neg (by decide)] at h
 cases he:evE g V C e with
 | none=>rw[he] at h;cases h
 | some re =>
  rw[he] at h
  refine⟨re,rfl,?_⟩
  cases re with
  | trap c=>exact Or.inl ⟨c,rfl,(Oi h).symm⟩
  | val x=>exact Or.inr ⟨x,rfl,h⟩
theorem evl_nil {C:Cs}{acc:List Int}{q:RL}(h:evL g V C acc []=some q):q=.vals acc:=by
 rw[evL] at h
 exact (Oi h).symm
end
end Go.Proofs.YtpgnlfdindmopaaGreatDoor.IX
