/- Words and walks for the laws of the interpreter. -/
import Derived.Test.YtpgnlfdindmopaaGreatDoorM2
import Derived.Test.YtpgnlfdindmopaaGreatDoorM3
import Derived.Test.YtpgnlfdindmopaaGreatDoorJ4
import Derived.Test.YtpgnlfdindmopaaGreatDoorM1
import Derived.Test.YtpgnlfdindmopaaGreatDoorJ8
import Derived.Maps.AppendAt
namespace Go.Proofs.YtpgnlfdindmopaaGreatDoor
open Go.RowKit (wrap64 intOf)
open Go Go.RowKit WM LX PX
set_option maxRecDepth 100000
set_option maxHeartbeats 4000000
def OprP (k:Nat)(x:List UInt8)(w:World)(e:Ending)(w':World):Prop:=e=.returned (.tuple #[.int .i64 ((opR k x).1:Int),.bool (opR k x).2])∧w'=w
theorem oprP {k:Nat}{x:List UInt8}{w:World}{n:Nat}{b:Bool}{v:Int}(h:opR k x=(n,b))(hv:v=(n:Int)):OprP k x w (.returned (.tuple #[.int .i64 v,.bool b])) w:=by
 unfold OprP;rw[h,hv];exact⟨rfl,rfl⟩
theorem opr_0 (x:List UInt8)(w:World):Calls Tryz.prog 110 #[.int .i64 0,.string ⟨x.toArray⟩] w (OprP 0 x w):=by
 by_cases h124:x=[124]
 ·subst h124
  go_enter Tryz.func110,Tryz.ntmps110
  go_wp2_with fail
  go_ret2
  exact oprP (n:=10) (b:=false) (by decide +kernel) rfl
 ·have e124:(x==[124])=false:=by simp[h124]
  have hr:opR 0 x=(0,false):=by unfold opR;simp[h124]
  have HR:=Hd hr
  clear hr h124
  go_enter Tryz.func110,Tryz.ntmps110
  go_wp2_with fail
  go_ret2
  exact oprP HR.out rfl
theorem opr_1 (x:List UInt8)(w:World):Calls Tryz.prog 110 #[.int .i64 1,.string ⟨x.toArray⟩] w (OprP 1 x w):=by
 by_cases h94:x=[94]
 ·subst h94
  go_enter Tryz.func110,Tryz.ntmps110
  go_wp2_with fail
  go_ret2
  exact oprP (n:=11) (b:=false) (by decide +kernel) rfl
 ·have e94:(x==[94])=false:=by simp[h94]
  have hr:opR 1 x=(0,false):=by unfold opR;simp[h94]
  have HR:=Hd hr
  clear hr h94
  go_enter Tryz.func110,Tryz.ntmps110
  go_wp2_with fail
  go_ret2
  exact oprP HR.out rfl
theorem opr_2 (x:List UInt8)(w:World):Calls Tryz.prog 110 #[.int .i64 2,.string ⟨x.toArray⟩] w (OprP 2 x w):=by
 by_cases h38:x=[38]
 ·subst h38
  go_enter Tryz.func110,Tryz.ntmps110
  go_wp2_with fail
  go_ret2
  exact oprP (n:=9) (b:=false) (by decide +kernel) rfl
 ·have e38:(x==[38])=false:=by simp[h38]
  have hr:opR 2 x=(0,false):=by unfold opR;simp[h38]
  have HR:=Hd hr
  clear hr h38
  go_enter Tryz.func110,Tryz.ntmps110
  go_wp2_with fail
  go_ret2
  exact oprP HR.out rfl
theorem opr_3 (x:List UInt8)(w:World):Calls Tryz.prog 110 #[.int .i64 3,.string ⟨x.toArray⟩] w (OprP 3 x w):=by
 by_cases h61_61:x=[61,61]
 ·subst h61_61
  go_enter Tryz.func110,Tryz.ntmps110
  go_wp2_with fail
  go_ret2
  exact oprP (n:=15) (b:=false) (by decide +kernel) rfl
 ·have e61_61:(x==[61,61])=false:=by simp[h61_61]
  by_cases h33_61:x=[33,61]
  ·subst h33_61
   go_enter Tryz.func110,Tryz.ntmps110
   go_wp2_with fail
   go_ret2
   exact oprP (n:=16) (b:=false) (by decide +kernel) rfl
  ·have e33_61:(x==[33,61])=false:=by simp[h33_61]
   have hr:opR 3 x=(0,false):=by unfold opR;simp[h61_61,h33_61]
   have HR:=Hd hr
   clear hr h61_61 h33_61
   go_enter Tryz.func110,Tryz.ntmps110
   go_wp2_with fail
   go_ret2
   exact oprP HR.out rfl
theorem opr_4 (x:List UInt8)(w:World):Calls Tryz.prog 110 #[.int .i64 4,.string ⟨x.toArray⟩] w (OprP 4 x w):=by
 by_cases h60:x=[60]
 ·subst h60
  go_enter Tryz.func110,Tryz.ntmps110
  go_wp2_with fail
  go_ret2
  exact oprP (n:=17) (b:=false) (by decide +kernel) rfl
 ·have e60:(x==[60])=false:=by simp[h60]
  by_cases h60_61:x=[60,61]
  ·subst h60_61
   go_enter Tryz.func110,Tryz.ntmps110
   go_wp2_with fail
   go_ret2
   exact oprP (n:=18) (b:=false) (by decide +kernel) rfl
  ·have e60_61:(x==[60,61])=false:=by simp[h60_61]
   by_cases h62:x=[62]
   ·subst h62
    go_enter Tryz.func110,Tryz.ntmps110
    go_wp2_with fail
    go_ret2
    exact oprP (n:=17) (b:=true) (by decide +kernel) rfl
   ·have e62:(x==[62])=false:=by simp[h62]
    by_cases h62_61:x=[62,61]
    ·subst h62_61
     go_enter Tryz.func110,Tryz.ntmps110
     go_wp2_with fail
     go_ret2
     exact oprP (n:=18) (b:=true) (by decide +kernel) rfl
    ·have e62_61:(x==[62,61])=false:=by simp[h62_61]
     have hr:opR 4 x=(0,false):=by unfold opR;simp[h60,h60_61,h62,h62_61]
     have HR:=Hd hr
     clear hr h60 h60_61 h62 h62_61
     go_enter Tryz.func110,Tryz.ntmps110
     go_wp2_with fail
     go_ret2
     exact oprP HR.out rfl
theorem opr_5 (x:List UInt8)(w:World):Calls Tryz.prog 110 #[.int .i64 5,.string ⟨x.toArray⟩] w (OprP 5 x w):=by
 by_cases h60_60:x=[60,60]
 ·subst h60_60
  go_enter Tryz.func110,Tryz.ntmps110
  go_wp2_with fail
  go_ret2
  exact oprP (n:=12) (b:=false) (by decide +kernel) rfl
 ·have e60_60:(x==[60,60])=false:=by simp[h60_60]
  by_cases h62_62:x=[62,62]
  ·subst h62_62
   go_enter Tryz.func110,Tryz.ntmps110
   go_wp2_with fail
   go_ret2
   exact oprP (n:=14) (b:=false) (by decide +kernel) rfl
  ·have e62_62:(x==[62,62])=false:=by simp[h62_62]
   by_cases h62_62_62:x=[62,62,62]
   ·subst h62_62_62
    go_enter Tryz.func110,Tryz.ntmps110
    go_wp2_with fail
    go_ret2
    exact oprP (n:=13) (b:=false) (by decide +kernel) rfl
   ·have e62_62_62:(x==[62,62,62])=false:=by simp[h62_62_62]
    have hr:opR 5 x=(0,false):=by unfold opR;simp[h60_60,h62_62,h62_62_62]
    have HR:=Hd hr
    clear hr h60_60 h62_62 h62_62_62
    go_enter Tryz.func110,Tryz.ntmps110
    go_wp2_with fail
    go_ret2
    exact oprP HR.out rfl
theorem opr_6 (x:List UInt8)(w:World):Calls Tryz.prog 110 #[.int .i64 6,.string ⟨x.toArray⟩] w (OprP 6 x w):=by
 by_cases h43:x=[43]
 ·subst h43
  go_enter Tryz.func110,Tryz.ntmps110
  go_wp2_with fail
  go_ret2
  exact oprP (n:=4) (b:=false) (by decide +kernel) rfl
 ·have e43:(x==[43])=false:=by simp[h43]
  by_cases h45:x=[45]
  ·subst h45
   go_enter Tryz.func110,Tryz.ntmps110
   go_wp2_with fail
   go_ret2
   exact oprP (n:=5) (b:=false) (by decide +kernel) rfl
  ·have e45:(x==[45])=false:=by simp[h45]
   have hr:opR 6 x=(0,false):=by unfold opR;simp[h43,h45]
   have HR:=Hd hr
   clear hr h43 h45
   go_enter Tryz.func110,Tryz.ntmps110
   go_wp2_with fail
   go_ret2
   exact oprP HR.out rfl
theorem opr_7 (x:List UInt8)(w:World):Calls Tryz.prog 110 #[.int .i64 7,.string ⟨x.toArray⟩] w (OprP 7 x w):=by
 by_cases h42:x=[42]
 ·subst h42
  go_enter Tryz.func110,Tryz.ntmps110
  go_wp2_with fail
  go_ret2
  exact oprP (n:=6) (b:=false) (by decide +kernel) rfl
 ·have e42:(x==[42])=false:=by simp[h42]
  by_cases h47:x=[47]
  ·subst h47
   go_enter Tryz.func110,Tryz.ntmps110
   go_wp2_with fail
   go_ret2
   exact oprP (n:=7) (b:=false) (by decide +kernel) rfl
  ·have e47:(x==[47])=false:=by simp[h47]
   by_cases h37:x=[37]
   ·subst h37
    go_enter Tryz.func110,Tryz.ntmps110
    go_wp2_with fail
    go_ret2
    exact oprP (n:=8) (b:=false) (by decide +kernel) rfl
   ·have e37:(x==[37])=false:=by simp[h37]
    have hr:opR 7 x=(0,false):=by unfold opR;simp[h42,h47,h37]
    have HR:=Hd hr
    clear hr h42 h47 h37
    go_enter Tryz.func110,Tryz.ntmps110
    go_wp2_with fail
    go_ret2
    exact oprP HR.out rfl
theorem opr_any (k:Nat)(hk:k≤7)(x:List UInt8)(w:World):Calls Tryz.prog 110 #[.int .i64 (k:Int),.string ⟨x.toArray⟩] w (OprP k x w):=by
 have hc:k=0∨k=1∨k=2∨k=3∨k=4∨k=5∨k=6∨k=7:=by omega
 rcases hc with rfl | rfl | rfl | rfl | rfl | rfl | rfl | rfl
 ·exact opr_0 x w
 ·exact opr_1 x w
 ·exact opr_2 x w
 ·exact opr_3 x w
 ·exact opr_4 x w
 ·exact opr_5 x w
 ·exact opr_6 x w
 ·exact opr_7 x w
end Go.Proofs.YtpgnlfdindmopaaGreatDoor
namespace Go.Proofs.YtpgnlfdindmopaaGreatDoor
open Go.RowKit (wrap64 intOf)
open Go Go.RowKit WM LX PX
set_option maxRecDepth 100000
set_option maxHeartbeats 4000000
def RBiR (ts:List Tk)(en p k:Nat)(q:PE × PS)(w:World)(g m:Nat)(wr:World):Prop :=
 ∃ (s':PS) (pe:PE) (kd nn:Int) (nm:List UInt8) (op:Int) (A:Option Addr) (L c:Nat),rloF ts m k pe s'=q∧20 * ms ts s'+12≤m+k∧ROwn ts en p s' 36 ex0 w wr∧Left wr p w.heap.size g 36 pe kd nn nm op A L c
theorem rbiR_mk {ts:List Tk}{en p k:Nat}{q:PE × PS}{w w3 W:World}{g gq m lo:Nat}{s2:PS}{pe rpe:PE}{kd nn:Int}{nm:List UInt8}{op:Int}{A:Option Addr}{L c:Nat}{kd2 nn2:Int}{nm2:List UInt8}{op2:Int}{A2:Option Addr}{L2 c2:Nat}{o2:Nat}{ex:Bool}
 (o:ROwn ts en p s2 36 ex0 w W) (hother:∀ x,x < w3.heap.size→x≠g→W.heap[x]?=w3.heap[x]?) (hz:w3.heap.size≤W.heap.size) (hgg:Blk W g 36 #[.int .i64 4,.int .i64 0,.string ⟨#[]⟩,.int .i64 (o2:Int),.slice (some ⟨gq,0,none⟩) 2 2])
 (hgq:Blk W gq 36 (if ex=true then exC kd2 nn2 nm2 op2 A2 L2 c2++exC kd nn nm op A L c else exC kd nn nm op A L c++exC kd2 nn2 nm2 op2 A2 L2 c2).toArray) (hq3:w3.heap.size≤gq) (x1:Left w3 p w.heap.size g 36 pe kd nn nm op A L c)
 (hr2:RepE w3 (Rg lo w3.heap.size) rpe (exC kd2 nn2 nm2 op2 A2 L2 c2)) (hlo2:g < lo) (hlo:rloF ts m k (apE o2 ex pe rpe) s2=q) (hm:20 * ms ts s2+12≤m+k):RBiR ts en p k q w g m W:=by
 have hgl:=x1.k.lt
 have hl:=x1.l
 have hok:w.heap.size < gq∧gq≠g∧gq < W.heap.size:=⟨by omega,by omega,hgq.lt⟩
 have y1:RepE W (fun x=>w.heap.size < x∧x≠g∧x < W.heap.size) pe (exC kd nn nm op A L c):=x1.r.keep (fun x h=>⟨h.1,h.2.1,by omega⟩) (fun x h=>hother x h.2.2 h.2.1)
 have y2:RepE W (fun x=>w.heap.size < x∧x≠g∧x < W.heap.size) rpe (exC kd2 nn2 nm2 op2 A2 L2 c2):=hr2.keep (fun x h=>⟨by have:=h.1;omega,by have:=h.1;omega,by have:=h.2;omega⟩) (fun x h=>hother x h.2 (by have:=h.1;omega))
 refine⟨s2,apE o2 ex pe rpe,4,0,[],o2,some ⟨gq,0,none⟩,2,2,hlo,hm,o,?_,hgg,hl,x1.q⟩
 cases ex
 ·exact repE_2 (ca:=exC kd nn nm op A L c) (cb:=exC kd2 nn2 nm2 op2 A2 L2 c2) (c:=2) hgq rfl hok y1 y2 rfl rfl 4 0 [] (o2:Int)
 ·exact repE_2 (ca:=exC kd2 nn2 nm2 op2 A2 L2 c2) (cb:=exC kd nn nm op A L c) (c:=2) hgq rfl hok y2 y1 rfl rfl 4 0 [] (o2:Int)
theorem rown_set5 {ts:List Tk}{en p g:Nat}{q:PS}{t:TypeId}{cs:Array Value}{w w1:World}(o:ROwn ts en p q t cs w w1)(h:w.heap.size < g)(a b c d e:Value):ROwn ts en p q t cs w (set5 w1 g a b c d e) :=
 ((((o.far (a:=⟨g,0,none⟩) h a).far (a:=⟨g,1,none⟩) h b).far (a:=⟨g,2,none⟩) h c).far (a:=⟨g,3,none⟩) h d).far (a:=⟨g,4,none⟩) h e
theorem set5_far {w1:World}{g x:Nat}{t:TypeId}{cs:Array Value}(h:Blk w1 x t cs)(hne:g≠x)(a b c d e:Value):Blk (set5 w1 g a b c d e) x t cs:=(zBp w1 g a b c d e x hne.symm).trans h
theorem rbink {ts:List Tk}{en p n:Nat}(h:RWBi ts en p n)(k:Nat)(s:PS)(q:PE × PS)(w:World)(hk:k≤7)(hq:Hid (rbiF ts n (k+1) s=q))(hm:20 * ms ts s+13≤n+(k+1))(hp:RSt ts en p s w) :
 Calls Tryz.prog 66 #[.pointer (some ⟨p,0,none⟩),.int .i64 ((k:Int)+1)] w (RExP ts en p q w):=h (k+1) s q w (by omega) hq hm hp
theorem rbin_8 (ts:List Tk)(en p n:Nat)(hun:RWUn ts en p n)(s:PS)(q:PE × PS)(w:World)(hq:Hid (runF ts n s=q))(hm:20 * ms ts s+4≤n)(h:RSt ts en p s w) :
 Calls Tryz.prog 66 #[.pointer (some ⟨p,0,none⟩),.int .i64 8] w (RExP ts en p q w):=by
 have o:=ROwn.start h 36 ex0
 have HUN:=Hd hun
 clear hun h
 go_enter Tryz.func66,Tryz.ntmps66
 go_wp2_with fail
 refine (HUN.out s q _ hq hm o.s).mono ?_
 rintro e w1 ⟨kd,nn,nm,op,A,L,c,rfl,hr,hg,hp⟩
 have hl:=o.sz
 replace o:=o.acc hg hp
 clear hg hp
 have HR:=Hd (hr.mono (lo':=w.heap.size+1) hl (Lr _))
 clear hr
 obtain⟨r0,r1,r2,r3,r4,f0,f1,f2,f3,f4⟩:=o.ok
 go_wp2_with fail
 obtain⟨hk,hx⟩:=o.fin HR.out
 obtain⟨q0,q1,q2,q3,q4,_⟩:=hk.cells5
 exact bodyPost_ret (v:=exV kd nn nm op A L c) (by simp[results,Tryz.results66,go_sem,q0,q1,q2,q3,q4]) rfl hx
theorem rbin_lo (ts:List Tk)(en p n:Nat)(hbi:∀ m,m≤n→RWBi ts en p m)(k:Nat)(hk:k≤7)(s:PS)(q:PE × PS)(w:World)(hq:Hid (rloF ts n k (rbiF ts n (k+1) s).1 (rbiF ts n (k+1) s).2=q))(hm:20 * ms ts s+12≤n+k)(h:RSt ts en p s w) :
 Calls Tryz.prog 66 #[.pointer (some ⟨p,0,none⟩),.int .i64 (k:Int)] w (RExP ts en p q w):=by
 have hq:=hq.out
 obtain⟨⟨lpe,s1⟩,hc⟩:∃ x,rbiF ts n (k+1) s=x:=⟨_,rfl⟩
 have HC:=Hd hc
 have hm1:=(rms_all (ts:=ts) n).2.1 (k+1) s
 rw[hc] at hq hm1
 dsimp only at hq hm1
 have HQ:=Hd hq
 have hms:20 * ms ts s+13≤n+(k+1):=by omega
 have hms1:20 * ms ts s1+12≤n+k:=by omega
 have o:=ROwn.start h 36 ex0
 have HBI:=Hd hbi
 have hk7:¬ (7:Int) < (k:Int):=by omega
 have hk8:decide ((7:Int) < (k:Int))=false:=decide_eq_false hk7
 clear hbi hc h hq hm hm1
 go_enter Tryz.func66,Tryz.ntmps66
 go_wp2_with fail
 refine (rbink (HBI.out n (Lr _)) k s _ _ hk HC hms o.s).mono ?_
 rintro e w1 ⟨kd,nn,nm,op,A,L,c,rfl,hr,hg,hp⟩
 have hl:=o.sz
 have hL:Left (w1.alloc (.cells #[.int .i64 kd,.int .i64 nn,.string ⟨nm.toArray⟩,.int .i64 op,.slice A L c] 36)) p w.heap.size w1.heap.size 36 lpe kd nn nm op A L c :=
  ⟨(hr.alloc (Lr _) _).keep (fun x h=>⟨Ll hl h.1,Nat.ne_of_lt h.2,by rw[World.size_alloc];have:=h.2;omega⟩) (fun _ _=>rfl),Blk.new _ _ _,Ll hl hg.size,o.p⟩
 replace o:=(o.acc hg hp).al (.cells #[.int .i64 kd,.int .i64 nn,.string ⟨nm.toArray⟩,.int .i64 op,.slice A L c] 36)
 have H0:Hid (RBiR ts en p k q w w1.heap.size n (w1.alloc (.cells #[.int .i64 kd,.int .i64 nn,.string ⟨nm.toArray⟩,.int .i64 op,.slice A L c] 36))):=Hd ⟨s1,lpe,kd,nn,nm,op,A,L,c,HQ.out,hms1,o,hL⟩
 clear hr hg hp hL o hl
 generalize hgg:w1.heap.size=g at *
 go_wp2_with fail
 go_loopg [] n (fun m wr=>m≤n∧RBiR ts en p k q w g m wr)
 case atStart=>exact⟨Lr _,H0.out⟩
 case round =>
  obtain⟨hkn,s',pe,kd,nn,nm,op,A,L,c,hlo,hmm,o,x1⟩:=hrel
  obtain⟨m,rfl⟩:∃ m,gk=m+1:=⟨gk - 1,by omega⟩
  rw[rloF_eq] at hlo
  clear H0
  obtain⟨sy,hsy⟩:∃ b,rSy ts s'=b:=⟨_,rfl⟩
  cases sy
  ·have h0:rOp ts k s'=0:=by unfold rOp;rw[hsy];rfl
   rw[if_pos h0] at hlo
   subst hlo
   clear h0 hmm hkn
   obtain⟨A',c',c0,c1,_,_,_,_,_,_,ht,hi,hl,_⟩:=o.s.cells
   rcases rat_cases ts s' 0 with hf | ⟨hf,hlt⟩ | ⟨hf,hlt⟩
   ·have hok:=fun w h=>zAn ts en p s' false hf w h
    clear ht c0 c1 hi hl hsy hf
    go_wp2_with fail
    go_quiet ((go_at_call 17;exact Calls.quiet_of_same (hok _ o.s)))
    replace o:=o.low (below_drewN (Below.refl _ _) nq)
    replace x1:=x1.low (below_drewN (Below.refl _ _) nq)
    clear hok
    generalize wr.drewN nq=wq at *
    obtain⟨r0,r1,r2,r3,r4,f0,f1,f2,f3,f4⟩:=o.ok
    obtain⟨a0,a1,a2,a3,a4,b0,b1,b2,b3,b4⟩:=x1.k.cells5
    go_wp2_with fail
    obtain⟨hk,hx⟩:=o.fin x1.out
    obtain⟨q0,q1,q2,q3,q4,_⟩:=hk.cells5
    exact bodyPost_ret (v:=exV kd nn nm op A L c) (by simp[results,Tryz.results66,go_sem,q0,q1,q2,q3,q4]) rfl hx
   ·have hok:=fun w h=>zAn ts en p s' true hf w h
    obtain⟨n',hn⟩:∃ n,ts.length=n:=⟨_,rfl⟩
    rw[hn] at c0 hlt hl hi
    clear ht hn hsy hf
    obtain⟨i,hsi⟩:∃ i,s'.i=i:=⟨_,rfl⟩
    rw[hsi] at c1 hi hlt
    clear hsi
    have h1:decide (i < n')=false:=decide_eq_false (by omega)
    have h2:¬ (i:Int) < (n':Int):=by omega
    clear hi hl hlt
    go_wp2_with fail
    go_quiet ((go_at_call 17;exact Calls.quiet_of_same (hok _ o.s)))
    replace o:=o.low (below_drewN (Below.refl _ _) nq)
    replace x1:=x1.low (below_drewN (Below.refl _ _) nq)
    clear hok c0 c1 h1 h2
    generalize wr.drewN nq=wq at *
    obtain⟨r0,r1,r2,r3,r4,f0,f1,f2,f3,f4⟩:=o.ok
    obtain⟨a0,a1,a2,a3,a4,b0,b1,b2,b3,b4⟩:=x1.k.cells5
    go_wp2_with fail
    obtain⟨hk,hx⟩:=o.fin x1.out
    obtain⟨q0,q1,q2,q3,q4,_⟩:=hk.cells5
    exact bodyPost_ret (v:=exV kd nn nm op A L c) (by simp[results,Tryz.results66,go_sem,q0,q1,q2,q3,q4]) rfl hx
   ·obtain⟨g',rfl,hg',d0,_,_⟩:=zCm ht hlt
    rw[Nat.add_zero] at d0 hlt
    have hk3:(ts.getD s'.i tk0).kind≠3:=by
     intro hk
     have:rSy ts s'=true:=by unfold rSy inn tkk;rw[hf,Nat.add_zero,decide_eq_true hlt,hk];rfl
     rw[this] at hsy;cases hsy
    generalize ts.getD s'.i tk0=t at d0 hk3
    obtain⟨kdt,y,ot⟩:=t
    dsimp only at d0 hk3
    have hok:=fun w h=>zAn ts en p s' true hf w h
    obtain⟨n',hn⟩:∃ n,ts.length=n:=⟨_,rfl⟩
    rw[hn] at c0 hlt hl hi
    clear ht hn hsy hf
    obtain⟨i,hsi⟩:∃ i,s'.i=i:=⟨_,rfl⟩
    rw[hsi] at c1 hi hlt d0
    clear hsi
    obtain⟨kz,hkz⟩:∃ kz:Int,(kdt:Int)=kz:=⟨_,rfl⟩
    rw[hkz] at d0
    have h1:decide (i < n')=true:=decide_eq_true (by omega)
    have h2:(i:Int) < (n':Int):=by omega
    have h6:(kz==3)=false:=by rw[beq_eq_false_iff_ne];omega
    clear hi hl hlt hkz hk3
    go_wp2_with fail
    go_quiet ((go_at_call 17;exact Calls.quiet_of_same (hok _ o.s)))
    replace o:=o.low (below_drewN (Below.refl _ _) nq)
    replace x1:=x1.low (below_drewN (Below.refl _ _) nq)
    clear hok c0 c1 d0 h1 h2 h6
    generalize wr.drewN nq=wq at *
    obtain⟨r0,r1,r2,r3,r4,f0,f1,f2,f3,f4⟩:=o.ok
    obtain⟨a0,a1,a2,a3,a4,b0,b1,b2,b3,b4⟩:=x1.k.cells5
    go_wp2_with fail
    obtain⟨hk,hx⟩:=o.fin x1.out
    obtain⟨q0,q1,q2,q3,q4,_⟩:=hk.cells5
    exact bodyPost_ret (v:=exV kd nn nm op A L c) (by simp[results,Tryz.results66,go_sem,q0,q1,q2,q3,q4]) rfl hx
  ·have hin:=rSy_inn hsy
   have hlen:=zAo hin
   have hkk:(ts.getD s'.i tk0).kind=3:=by unfold rSy at hsy;rw[Bool.and_eq_true,decide_eq_true_eq] at hsy;exact hsy.2
   obtain⟨y,hy⟩:∃ y,(tkk ts s' 0).text=y:=⟨_,rfl⟩
   obtain⟨⟨N,sw⟩,hop⟩:∃ x,opR k y=x:=⟨_,rfl⟩
   have h0:rOp ts k s'=N:=by unfold rOp;rw[hsy,if_pos rfl,hy,hop]
   rw[h0,hy,hop] at hlo
   have hop':=fun w=>(opr_any k hk y w).mono fun e w' (h:OprP k y w e w')=>(show e=.returned (.tuple #[.int .i64 (N:Int),.bool sw])∧w'=w by unfold OprP at h;rw[hop] at h;exact h)
   have HOP:=Hd hop'
   obtain⟨g',c',n',i,c0,c1,d1,h3⟩:=o.s.rd hin hy
   have hok:=fun w h=>zAn ts en p s' true hlen.1 w h
   have hd0:wr.cell? ⟨g',i * 3,none⟩=some (.int .i64 3):=by
    obtain⟨A',c'',c0',c1',_,_,_,_,_,_,ht,_,_,_⟩:=o.s.cells
    obtain⟨g2,hA,_,d0',_,_⟩:=zCm ht (i:=s'.i) (by have:=hlen.2;omega)
    rw[c0] at c0'
    rw[c1] at c1'
    injection c0' with e1
    injection e1 with e1 _ _
    injection c1' with e2
    injection e2 with _ e2
    rw[hA] at e1
    injection e1 with e1
    injection e1 with e1 _ _
    obtain rfl:i=s'.i:=by omega
    subst e1
    rw[d0',hkk]
    rfl
   have h1:decide (i < n')=true:=decide_eq_true (by omega)
   have HY:=Hd hy
   have HIN:=Hd hin
   have hmv:=ms_inn hin
   clear hsy hkk hop h0 hop' hy hin
   go_wp2_with fail
   go_quiet ((go_at_call 17;exact Calls.quiet_of_same (hok _ o.s)))
   replace o:=o.low (below_drewN (Below.refl _ _) nq)
   replace x1:=x1.low (below_drewN (Below.refl _ _) nq)
   clear c0 c1 d1 h3 hd0 h1 hok
   generalize wr.drewN nq=wq at *
   obtain⟨g',c',n',i,c0,c1,d1,h3⟩:=o.s.rd HIN.out HY.out
   go_wp2_with fail
   go_quiet ((go_at_call 110;exact Calls.quiet_of_same (HOP.out _)))
   replace o:=o.low (below_drewN (Below.refl _ _) nq)
   replace x1:=x1.low (below_drewN (Below.refl _ _) nq)
   clear c0 c1 d1 h3 HOP
   generalize wq.drewN nq=wa at *
   by_cases hN:N=0
   ·rw[if_pos hN] at hlo
    subst hlo
    have hN0:((N:Int)==0)=true:=by rw[beq_iff_eq];omega
    clear hN hmm hkn hmv
    obtain⟨r0,r1,r2,r3,r4,f0,f1,f2,f3,f4⟩:=o.ok
    obtain⟨a0,a1,a2,a3,a4,b0,b1,b2,b3,b4⟩:=x1.k.cells5
    go_wp2_with fail
    obtain⟨hk,hx⟩:=o.fin x1.out
    obtain⟨q0,q1,q2,q3,q4,_⟩:=hk.cells5
    exact bodyPost_ret (v:=exV kd nn nm op A L c) (by simp[results,Tryz.results66,go_sem,q0,q1,q2,q3,q4]) rfl hx
   ·rw[if_neg hN] at hlo
    have hN0:((N:Int)==0)=false:=by rw[beq_eq_false_iff_ne];omega
    obtain⟨⟨rpe,s2⟩,hc2⟩:∃ x,rbiF ts m (k+1) (adv s')=x:=⟨_,rfl⟩
    have HC2:=Hd hc2
    have hm2:=(rms_all (ts:=ts) m).2.1 (k+1) (adv s')
    rw[hc2] at hlo hm2
    dsimp only at hlo hm2
    have HLO:=Hd hlo
    have hA:20 * ms ts (adv s')+13≤m+(k+1):=by omega
    have hB:20 * ms ts s2+12≤m+k:=by omega
    have hmn:m≤n:=by omega
    clear hlo hc2 hmv hmm hN hm2
    obtain⟨_,_,_,c1,_,_,_,f1,_,_,_,hi,hl,_⟩:=o.s.cells
    go_wp2_with fail
    obtain⟨hg,hp⟩:=radv o.s hlen
    clear c1 f1 hi hl
    replace o:=o.acc hg hp
    replace x1:=x1.acc hg
    clear hg hp
    refine (rbink (HBI.out m hmn) k (adv s') _ _ hk HC2 hA o.s).mono ?_
    rintro e w3 ⟨kd2,nn2,nm2,op2,A2,L2,c2,rfl,hr,hg,hp⟩
    have hgl:=x1.k.lt
    replace o:=o.acc hg hp
    replace x1:=x1.acc hg
    have HR:=Hd hr
    have hgz:=hg.size
    have HX1:=Hd x1
    have hg3:=x1.k.lt
    have hgw:=x1.l
    have o3:=o.al (.cells #[.int .i64 kd2,.int .i64 nn2,.string ⟨nm2.toArray⟩,.int .i64 op2,.slice A2 L2 c2] 36)
    have k1:=x1.k.alloc (.cells #[.int .i64 kd2,.int .i64 nn2,.string ⟨nm2.toArray⟩,.int .i64 op2,.slice A2 L2 c2] 36)
    have k2:=Blk.new w3 36 #[.int .i64 kd2,.int .i64 nn2,.string ⟨nm2.toArray⟩,.int .i64 op2,.slice A2 L2 c2]
    clear hg hp hr
    cases sw
    ·obtain⟨a0,a1,a2,a3,a4,b0,b1,b2,b3,b4⟩:=k1.cells5
     obtain⟨d0,d1,d2,d3,d4,e0,e1,e2,e3,e4⟩:=k2.cells5
     have hz:(w3.alloc (.cells #[.int .i64 kd2,.int .i64 nn2,.string ⟨nm2.toArray⟩,.int .i64 op2,.slice A2 L2 c2] 36)).heap.size=w3.heap.size+1:=World.size_alloc _ _
     have hzo:∀ x,x < w3.heap.size→(w3.alloc (.cells #[.int .i64 kd2,.int .i64 nn2,.string ⟨nm2.toArray⟩,.int .i64 op2,.slice A2 L2 c2] 36)).heap[x]?=w3.heap[x]?:=fun x hx=>Below.heap_alloc w3 _ x hx
     have HZO:=Hd hzo
     clear hzo
     generalize hwz:w3.alloc (.cells #[.int .i64 kd2,.int .i64 nn2,.string ⟨nm2.toArray⟩,.int .i64 op2,.slice A2 L2 c2] 36)=wz at *
     go_wp2_with fail
     have hzo:=HZO.out
     have hgb:w.heap.size < w3.heap.size:=by omega
     have hbg:w3.heap.size≠g:=by omega
     have hW0:wz.heap.size=w3.heap.size+1:=by exact hz
     have k3:=k1
     have o4:=o3
     have hot:∀ x,x < w3.heap.size→x≠g→wz.heap[x]?=w3.heap[x]?:=fun x hx hne=>(hzo x hx)
     generalize wz=wy at *
     have hs5:=zBj wy g (.int .i64 4) (.int .i64 0) (.string ⟨#[]⟩) (.int .i64 (N:Int)) (.slice (some ⟨w3.heap.size+1,0,none⟩) 2 2)
     go_roundg m
     case measure=>exact Nat.lt_succ_self m
     case rel=>exact⟨hmn,rbiR_mk (ex:=false) ((rown_set5 o4 hgw _ _ _ _ _).al _) (fun x hx hne=>(Below.heap_alloc _ _ x (by rw[hs5];omega)).trans ((zBp _ _ _ _ _ _ _ x hne).trans (hot x hx hne))) (by rw[World.size_alloc,hs5];omega) ((zB2 k3 (.int .i64 4) (.int .i64 0) (.string ⟨#[]⟩) (.int .i64 (N:Int)) (.slice (some ⟨w3.heap.size+1,0,none⟩) 2 2)).alloc _) (blk_at (hs5.trans hW0) _ _) (Nat.le_succ _) HX1.out HR.out hgl HLO.out hB⟩
    ·obtain⟨a0,a1,a2,a3,a4,b0,b1,b2,b3,b4⟩:=k1.cells5
     obtain⟨d0,d1,d2,d3,d4,e0,e1,e2,e3,e4⟩:=k2.cells5
     have hz:(w3.alloc (.cells #[.int .i64 kd2,.int .i64 nn2,.string ⟨nm2.toArray⟩,.int .i64 op2,.slice A2 L2 c2] 36)).heap.size=w3.heap.size+1:=World.size_alloc _ _
     have hzo:∀ x,x < w3.heap.size→(w3.alloc (.cells #[.int .i64 kd2,.int .i64 nn2,.string ⟨nm2.toArray⟩,.int .i64 op2,.slice A2 L2 c2] 36)).heap[x]?=w3.heap[x]?:=fun x hx=>Below.heap_alloc w3 _ x hx
     have HZO:=Hd hzo
     clear hzo
     generalize hwz:w3.alloc (.cells #[.int .i64 kd2,.int .i64 nn2,.string ⟨nm2.toArray⟩,.int .i64 op2,.slice A2 L2 c2] 36)=wz at *
     go_wp2_with fail
     have hzo:=HZO.out
     have hgb:w.heap.size < w3.heap.size:=by omega
     have hbg:w3.heap.size≠g:=by omega
     have hW0:(set5 (set5 wz g (.int .i64 kd2) (.int .i64 nn2) (.string ⟨nm2.toArray⟩) (.int .i64 op2) (.slice A2 L2 c2)) w3.heap.size (.int .i64 kd) (.int .i64 nn) (.string ⟨nm.toArray⟩) (.int .i64 op) (.slice A L c)).heap.size=w3.heap.size+1:=by rw[zBj,zBj];exact hz
     have k3:=set5_far (zB2 k1 (.int .i64 kd2) (.int .i64 nn2) (.string ⟨nm2.toArray⟩) (.int .i64 op2) (.slice A2 L2 c2)) hbg (.int .i64 kd) (.int .i64 nn) (.string ⟨nm.toArray⟩) (.int .i64 op) (.slice A L c)
     have o4:=rown_set5 (rown_set5 o3 hgw (.int .i64 kd2) (.int .i64 nn2) (.string ⟨nm2.toArray⟩) (.int .i64 op2) (.slice A2 L2 c2)) hgb (.int .i64 kd) (.int .i64 nn) (.string ⟨nm.toArray⟩) (.int .i64 op) (.slice A L c)
     have hot:∀ x,x < w3.heap.size→x≠g→(set5 (set5 wz g (.int .i64 kd2) (.int .i64 nn2) (.string ⟨nm2.toArray⟩) (.int .i64 op2) (.slice A2 L2 c2)) w3.heap.size (.int .i64 kd) (.int .i64 nn) (.string ⟨nm.toArray⟩) (.int .i64 op) (.slice A L c)).heap[x]?=w3.heap[x]?:=fun x hx hne=>(zBp _ _ _ _ _ _ _ x (by omega)).trans ((zBp _ _ _ _ _ _ _ x hne).trans (hzo x hx))
     obtain⟨wy,hwy⟩:∃ wy,(set5 (set5 wz g (.int .i64 kd2) (.int .i64 nn2) (.string ⟨nm2.toArray⟩) (.int .i64 op2) (.slice A2 L2 c2)) w3.heap.size (.int .i64 kd) (.int .i64 nn) (.string ⟨nm.toArray⟩) (.int .i64 op) (.slice A L c))=wy:=⟨_,rfl⟩
     rw[hwy] at hW0 k3 o4 hot
     rw[show ((((((((((wz.setCell ⟨g,0,none⟩ (.int .i64 kd2)).setCell ⟨g,1,none⟩ (.int .i64 nn2)).setCell ⟨g,2,none⟩ (.string ⟨nm2.toArray⟩)).setCell ⟨g,3,none⟩ (.int .i64 op2)).setCell ⟨g,4,none⟩ (.slice A2 L2 c2)).setCell ⟨w3.heap.size,0,none⟩ (.int .i64 kd)).setCell ⟨w3.heap.size,1,none⟩ (.int .i64 nn)).setCell ⟨w3.heap.size,2,none⟩ (.string ⟨nm.toArray⟩)).setCell ⟨w3.heap.size,3,none⟩ (.int .i64 op)).setCell ⟨w3.heap.size,4,none⟩ (.slice A L c))=wy from hwy]
     have hs5:=zBj wy g (.int .i64 4) (.int .i64 0) (.string ⟨#[]⟩) (.int .i64 (N:Int)) (.slice (some ⟨w3.heap.size+1,0,none⟩) 2 2)
     go_roundg m
     case measure=>exact Nat.lt_succ_self m
     case rel=>exact⟨hmn,rbiR_mk (ex:=true) ((rown_set5 o4 hgw _ _ _ _ _).al _) (fun x hx hne=>(Below.heap_alloc _ _ x (by rw[hs5];omega)).trans ((zBp _ _ _ _ _ _ _ x hne).trans (hot x hx hne))) (by rw[World.size_alloc,hs5];omega) ((zB2 k3 (.int .i64 4) (.int .i64 0) (.string ⟨#[]⟩) (.int .i64 (N:Int)) (.slice (some ⟨w3.heap.size+1,0,none⟩) 2 2)).alloc _) (blk_at (hs5.trans hW0) _ _) (Nat.le_succ _) HX1.out HR.out hgl HLO.out hB⟩
theorem rbinary_step (ts:List Tk)(en p n:Nat)(hun:RWUn ts en p n)(hbi:∀ m,m≤n→RWBi ts en p m):RWBi ts en p (n+1):=by
 intro k s q w hk hq hm h
 have hq:=hq.out
 rw[rbiF_eq] at hq
 by_cases h7:7 < k
 ·rw[if_pos h7] at hq
  obtain rfl:k=8:=by omega
  exact rbin_8 ts en p n hun s q w (Hd hq) (by omega) h
 ·rw[if_neg h7] at hq
  exact rbin_lo ts en p n hbi k (by omega) s q w (Hd hq) (by omega) h
theorem rexpr_all (ts:List Tk)(en p:Nat)(n:Nat):RWEx ts en p n∧(∀ m,m≤n→RWBi ts en p m)∧RWUn ts en p n∧RWPi ts en p n:=by
 induction n with
 | zero=>exact⟨fun _ _ _ _ h=>absurd h (by omega),fun m hm k _ _ hk _ _ h=>absurd h (by omega),fun _ _ _ _ h=>absurd h (by omega),fun _ _ _ _ h=>absurd h (by omega)⟩
 | succ n ih =>
  obtain⟨he,hb,hu,hi⟩:=ih
  refine⟨rexpr_step ts en p n (hb n (Lr _)) he,fun m hm=>?_,runary_step ts en p n hu hi,rprim_step ts en p n he⟩
  by_cases h:m≤n
  ·exact hb m h
  ·obtain rfl:m=n+1:=by omega
   exact rbinary_step ts en p n hu hb
theorem zBg (ts:List Tk)(en p n:Nat):RWEx ts en p n:=(rexpr_all ts en p n).1
end Go.Proofs.YtpgnlfdindmopaaGreatDoor
namespace Go.Proofs.YtpgnlfdindmopaaGreatDoor
open Go.RowKit (wrap64 intOf)
open Go Go.RowKit WM LX PX
set_option maxRecDepth 100000
set_option maxHeartbeats 4000000
def RWSt (ts:List Tk)(en p n:Nat):Prop:=∀ (s:PS)(q:ST × PS)(w:World),Hid (rstF ts n s=q)→20 * ms ts s+16≤n→RSt ts en p s w→Calls Tryz.prog 41 #[.pointer (some ⟨p,0,none⟩)] w (RStP ts en p q w)
def RWBl (ts:List Tk)(en p n:Nat):Prop:=∀ (s:PS)(q:List ST × PS)(w:World),Hid (rblF ts n s=q)→20 * ms ts s+18≤n→RSt ts en p s w→Calls Tryz.prog 64 #[.pointer (some ⟨p,0,none⟩)] w (RLiP RepS 17 ts en p q w)
def RSsR (ts:List Tk)(en p:Nat)(e:List UInt8)(l:List ST)(s2:PS)(w:World)(k n:Nat)(v:Value)(wr:World):Prop :=
 ∃ (s':PS) (acc:List ST) (css:List (List Value)),acc++(rssF ts k e s').1=l∧(rssF ts k e s').2=s2∧20 * ms ts s'+17≤k∧k≤n∧acc.length+ms ts s'≤ts.length+2∧w.grownBy wr (some p)∧RSt ts en p s' wr∧Coll RepS 17 40 w.heap.size acc css v wr
theorem RSt.few {ts:List Tk}{en p:Nat}{s:PS}{w:World}(h:RSt ts en p s w):ts.length≤20000:=by
 obtain⟨_,_,_,_,_,h5,_⟩:=h
 exact h5.1
theorem rblock_step (ts:List Tk)(en p n:Nat)(hst:∀ m,m≤n→RWSt ts en p m):RWBl ts en p (n+1):=by
 intro s q w hq hm h
 have hq:=hq.out
 rw[rblF_eq] at hq
 obtain⟨s1,hs1⟩:∃ x,rEx ts s cLc=x:=⟨_,rfl⟩
 have HS1:=Hd hs1
 have hm1:=zAt (ts:=ts) s cLc
 rw[hs1] at hq hm1
 obtain⟨⟨l,s2⟩,hl⟩:∃ x,rssF ts n cRc s1=x:=⟨_,rfl⟩
 rw[hl] at hq
 dsimp only at hq
 obtain⟨s3,hs3⟩:∃ x,rEx ts s2 cRc=x:=⟨_,rfl⟩
 have HS3:=Hd hs3
 rw[hs3] at hq
 subst hq
 have hml:=ms_le ts s1
 have hpw:=h.lt
 have HST:=Hd hst
 have HL:=Hd hl
 have hA:20 * ms ts s1+17≤n:=by omega
 clear hs1 hl hs3 hst hm hm1
 go_enter Tryz.func64,Tryz.ntmps64
 go_wp2_with fail
 refine (zAc ts en p s s1 cLc HS1 _ h).mono ?_
 rintro e w1 ⟨rfl,hg,hp⟩
 have H0:Hid (RSsR ts en p cRc l s2 w n n (.slice none 0 0) w1):=Hd ⟨s1,[],[],by rw[HL.out];rfl,by rw[HL.out],hA,Lr _,by simp;omega,hg,hp,coll_nil _ _ _ _ _⟩
 clear hg hp hA
 obtain⟨i0,hi,hz0,hz1,hz2⟩:=info_parts stInfo
 go_wp2_with fail
 go_loopg [3] n (fun k v wr=>RSsR ts en p cRc l s2 w k n v wr)
 case atStart=>exact H0.out
 case round =>
  clear H0
  obtain⟨s',acc,css,ha,hb,hk,hkn,hln,hg,hp,hcl⟩:=hrel
  obtain⟨m,rfl⟩:∃ m,gk=m+1:=⟨gk - 1,by omega⟩
  rw[rssF_eq] at ha hb
  cases hf:s'.f with
  | true =>
   rw[hf,Bool.true_or,if_pos rfl] at ha hb
   have ha:acc=l:=by simpa using ha
   have hb:s'=s2:=hb
   subst ha hb
   have hok:=fun w h=>zAn ts en p s' false hf w h
   have HOK:=Hd hok
   clear hok hf
   go_wp2_with fail
   refine (HOK.out _ hp).mono ?_
   rintro e w2 ⟨rfl,rfl⟩
   go_wp2_with fail
   refine (zAc ts en p s' s3 cRc HS3 _ hp).mono ?_
   rintro e w4 ⟨rfl,hg2,hp2⟩
   go_wp2_with fail
   go_ret
   exact rliP_of keepsS (hcl.grown keepsS hg2 hpw) rfl rfl (grown_to hg hg2) hp2
  | false =>
   have hok:=fun w h=>zAn ts en p s' true hf w h
   have HOK:=Hd hok
   obtain⟨b,hb0⟩:∃ b,rAt ts s' 0 cRc=b:=⟨_,rfl⟩
   have HB:=Hd hb0
   rw[hf,Bool.false_or,hb0] at ha hb
   cases b
   rotate_left
   ·rw[if_pos rfl] at ha hb
    have ha:acc=l:=by simpa using ha
    have hb:s'=s2:=hb
    subst ha hb
    clear hok hf hb0
    go_wp2_with fail
    refine (HOK.out _ hp).mono ?_
    rintro e w2 ⟨rfl,rfl⟩
    go_wp2_with fail
    refine (zAe ts en p s' 0 (by decide) cRc true HB _ hp).mono ?_
    rintro e w2 ⟨rfl,hb1⟩
    replace hp:=hp.keep hb1
    replace hcl:=hcl.grown (p:=p) keepsS (zAa hb1 _) hpw
    replace hg:=grown_to hg (zAa hb1 _)
    clear hb1
    go_wp2_with fail
    refine (zAc ts en p s' s3 cRc HS3 _ hp).mono ?_
    rintro e w4 ⟨rfl,hg2,hp2⟩
    go_wp2_with fail
    go_ret
    exact rliP_of keepsS (hcl.grown keepsS hg2 hpw) rfl rfl (grown_to hg hg2) hp2
   ·rw[if_neg (by decide)] at ha hb
    obtain⟨⟨t,s4⟩,ht⟩:∃ x,rstF ts m s'=x:=⟨_,rfl⟩
    have HT:=Hd ht
    have hmt:=(rms_st (ts:=ts) m).2.2.1 s' hf (by omega)
    rw[ht] at ha hb hmt
    dsimp only at ha hb hmt
    have HA:=Hd ha
    have HBB:=Hd hb
    have hAm:20 * ms ts s'+16≤m:=by omega
    have hmn:m≤n:=by omega
    clear hok hf hb0 ht ha hb
    go_wp2_with fail
    refine (HOK.out _ hp).mono ?_
    rintro e w2 ⟨rfl,rfl⟩
    go_wp2_with fail
    refine (zAe ts en p s' 0 (by decide) cRc false HB _ hp).mono ?_
    rintro e w2 ⟨rfl,hb1⟩
    replace hp:=hp.keep hb1
    replace hcl:=hcl.grown (p:=p) keepsS (zAa hb1 _) hpw
    replace hg:=grown_to hg (zAa hb1 _)
    clear hb1
    go_wp2_with fail
    refine (HST.out m hmn s' _ _ HT hAm hp).mono ?_
    rintro e w3 ⟨kd,nm,to,num,k1,n1,x1,o1,A1,L1,c1,k2,n2,x2,o2,A2,L2,c2,A3,L3,c3,A4,L4,c4,A5,L5,c5,rfl,hr,hg3,hp3⟩
    have hlo:=hcl.blk
    have hlw:=hg.size
    replace hcl:=hcl.grown keepsS hg3 hpw
    replace hg:=grown_to hg hg3
    have hlen:=hcl.len
    have hfew:=hp3.few
    have HCL:=Hd hcl
    have HLO:=Hd hlo
    have HG:=Hd hg
    have HR:=Hd hr
    have HP:=Hd hp3
    have hown:=hcl.own
    have hsz:=hg.size
    clear hcl hlo hg hg3 hr hp3 hp
    go_wp2_with (
     at_builtin
     refine wpList_append_own_at _ rfl (.tmp 13) (.tmp 16) 33 rfl w.heap.size 40 i0 _ 17 248 Tryz.underlying33 hi hz0 hz1 hz2 rfl (by decide) _ _ _ rfl (hown.alloc _) ⟨w3.heap.size,0,none⟩ 1 1 [.int .i64 kd,.string ⟨nm.toArray⟩,.string ⟨to.toArray⟩,.int .i64 num,.int .i64 k1,.int .i64 n1,.string ⟨x1.toArray⟩,.int .i64 o1,.slice A1 L1 c1,.int .i64 k2,.int .i64 n2,.string ⟨x2.toArray⟩,.int .i64 o2,.slice A2 L2 c2,.slice A3 L3 c3,.slice A4 L4 c4,.slice A5 L5 c5] rfl rfl (World.news_of_block (heap_alloc_new _ _)) (by simp[Value.oneCell']) (by unfold maxLen;omega) (by omega) (by simp;omega) ?_
     intro v2 w4 hown2 hgr2 _ hob)
    have hrow:∀ k,u3.ownBlock=some k→w.heap.size≤k:=fun k hk=>(HCL.out.own.lt k hk).1
    go_roundg m
    case measure=>exact Nat.lt_succ_self m
    case rel=>exact⟨s4,acc++[t],css++[[.int .i64 kd,.string ⟨nm.toArray⟩,.string ⟨to.toArray⟩,.int .i64 num,.int .i64 k1,.int .i64 n1,.string ⟨x1.toArray⟩,.int .i64 o1,.slice A1 L1 c1,.int .i64 k2,.int .i64 n2,.string ⟨x2.toArray⟩,.int .i64 o2,.slice A2 L2 c2,.slice A3 L3 c3,.slice A4 L4 c4,.slice A5 L5 c5]],by rw[List.append_assoc];exact HA.out,HBB.out,by omega,by omega,by simp;omega,zCt (grown_al HG.out _) hgr2 hrow,(HP.out.alloc _).row hgr2 (fun k hk=>Ll hpw (hrow k hk)),
     HCL.out.snoc (Rep:=RepS) (x:=t) (cs:=[.int .i64 kd,.string ⟨nm.toArray⟩,.string ⟨to.toArray⟩,.int .i64 num,.int .i64 k1,.int .i64 n1,.string ⟨x1.toArray⟩,.int .i64 o1,.slice A1 L1 c1,.int .i64 k2,.int .i64 n2,.string ⟨x2.toArray⟩,.int .i64 o2,.slice A2 L2 c2,.slice A3 L3 c3,.slice A4 L4 c4,.slice A5 L5 c5]) keepsS (lo:=w2.heap.size) HR.out hlw HLO.out rfl hown2 hgr2 hob⟩
end Go.Proofs.YtpgnlfdindmopaaGreatDoor
