/- Words and walks for the laws of the interpreter. -/
import Derived.Test.YtpgnlfdindmopaaGreatDoorJ5
import Derived.Test.YtpgnlfdindmopaaGreatDoorM1
import Derived.Deep.QuietTactic
import Derived.BigQuiet
import Derived.IntWalk
import Derived.Test.YtpgnlfdindmopaaGreatDoorJ2
import Derived.StillTailTactics
import Derived.Deep.RegionHeld3
namespace Go.Proofs.YtpgnlfdindmopaaGreatDoor
open Go.RowKit (wrap64 intOf)
open Go Go.RowKit WM LX PX
def rWhy (s:PS):Int:=if s.f=true then 2 else 0
def rPos (ts:List Tk)(en:Nat)(s:PS):Int:=if s.f=true then (rOff ts en s.i:Int) else 0
def RSt (ts:List Tk)(en p:Nat)(s:PS)(w:World):Prop :=
 ∃ A c,Blk w p 69 #[.slice A ts.length c,.int .i64 (s.i:Int),.int .i64 (en:Int),.int .i64 (rWhy s),.int .i64 (rPos ts en s)]∧Toks w p A ts∧s.i≤ts.length∧(ts.length≤20000∧en≤20000)∧∀ t∈ts,t.text.length≤20000
section
variable {ts:List Tk} {en:Nat} {p:Nat} {s:PS} {w w':World}
theorem RSt.lt (h:RSt ts en p s w):p < w.heap.size:=by
 obtain⟨A,c,hb,_⟩:=h
 exact hb.lt
theorem RSt.keep (h:RSt ts en p s w)(hb:Below w.heap.size w w'):RSt ts en p s w':=by
 have hp:=h.lt
 obtain⟨A,c,h1,h2,h4⟩:=h
 exact⟨A,c,h1.on hb hp,h2.on (below_down hb (Nat.le_of_lt hp)),h4⟩
theorem RSt.alloc (h:RSt ts en p s w)(o:Obj):RSt ts en p s (w.alloc o):=h.keep ((Below.refl _ _).alloc (Lr _) o)
theorem RSt.far (h:RSt ts en p s w){a:Addr}(ha:p < a.block)(u:Value):RSt ts en p s (w.setCell a u):=by
 obtain⟨A,c,h1,h2,h4⟩:=h
 have hb:=zCu (w:=w) (B:=p) (Nat.le_of_lt ha) u
 exact⟨A,c,h1.far (Nat.ne_of_gt ha) u,h2.on hb,h4⟩
theorem RSt.setI (h:RSt ts en p s w)(hf:s.f=false){i:Nat}(hi:i≤ts.length){u:Value}(hu:u=.int .i64 (i:Int)):RSt ts en p ⟨i,s.f⟩ (w.setCell ⟨p,1,none⟩ u):=by
 subst hu
 obtain⟨j,f⟩:=s
 obtain rfl:f=false:=hf
 obtain⟨A,c,h1,h2,_,h5⟩:=h
 have hb:=zCu (w:=w) (B:=p) (a:=⟨p,1,none⟩) (Lr _) (.int .i64 (i:Int))
 exact⟨A,c,h1.set 1 _,h2.on hb,hi,h5⟩
theorem RSt.setF (h:RSt ts en p s w){u:Value}(hu:u=.int .i64 (rOff ts en s.i:Int)):RSt ts en p (fl s) ((w.setCell ⟨p,3,none⟩ (.int .i64 2)).setCell ⟨p,4,none⟩ u):=by
 subst hu
 obtain⟨A,c,h1,h2,h4⟩:=h
 have hb:=(zCu (w:=w) (B:=p) (a:=⟨p,3,none⟩) (Lr _) (.int .i64 2)).setCell (p:=⟨p,4,none⟩) (Lr _) (.int .i64 (rOff ts en s.i:Int))
 exact⟨A,c,(h1.set 3 _).set 4 _,h2.on hb,h4⟩
theorem RSt.drewN (h:RSt ts en p s w)(n:Nat):RSt ts en p s (w.drewN n):=h.keep (below_drewN (Below.refl _ _) n)
theorem RSt.cells (h:RSt ts en p s w):∃ A c,w.cell? ⟨p,0,none⟩=some (.slice A ts.length c)∧w.cell? ⟨p,1,none⟩=some (.int .i64 (s.i:Int))∧w.cell? ⟨p,2,none⟩=some (.int .i64 (en:Int))∧w.cell? ⟨p,3,none⟩=some (.int .i64 (rWhy s))∧w.cell? ⟨p,4,none⟩=some (.int .i64 (rPos ts en s)) ∧
 w.frozen? ⟨p,1,none⟩=false∧w.frozen? ⟨p,3,none⟩=false∧w.frozen? ⟨p,4,none⟩=false∧Toks w p A ts∧s.i≤ts.length∧ts.length≤20000∧en≤20000:=by
 obtain⟨A,c,hb,ht,h1,h2,_⟩:=h
 obtain⟨c0,c1,c2,c3,c4,_,f1,_,f3,f4⟩:=hb.cells5
 exact⟨A,c,c0,c1,c2,c3,c4,f1,f3,f4,ht,h1,h2.1,h2.2⟩
end
def RAccP (ts:List Tk)(en p:Nat)(q:PS)(v:Value)(w:World)(e:Ending)(w':World):Prop:=e=.returned v∧w.grownBy w' (some p)∧RSt ts en p q w'
theorem raccP {ts:List Tk}{en p:Nat}{q:PS}{v v':Value}{w w':World}(hv:v'=v)(hg:w.grownBy w' (some p))(hp:RSt ts en p q w'):RAccP ts en p q v w (.returned v') w':=⟨by rw[hv],hg,hp⟩
theorem RSt.row {ts:List Tk}{en p:Nat}{s:PS}{a b:World}{row:Option Nat}(h:RSt ts en p s a)(g:a.grownBy b row)(hrow:∀ k,row=some k→p < k):RSt ts en p s b:=by
 have hp:=h.lt
 have hb:Below p a b:=⟨g.os,g.tape,g.output,g.size,fun i hi=>g.block i (by omega) (fun e=>by have:=hrow i e.symm;omega)⟩
 obtain⟨A,c,h1,h2,h4⟩:=h
 exact⟨A,c,(g.block p hp (fun e=>by have:=hrow p e.symm;omega)).trans h1,h2.on hb,h4⟩
theorem row_rst {ts:List Tk}{en p g:Nat}{q:PS}{w1:World}(h:RSt ts en p q w1)(hg:p < g)(cs:Array Value):RSt ts en p q (w1.setRow g cs):=by
 have hb:=zBu (Below.refl (p+1) w1) (g:=g) hg cs
 obtain⟨A,c,h1,h2,h4⟩:=h
 exact⟨A,c,h1.on hb (Nat.lt_succ_self _),h2.on (below_down hb (Nat.le_succ _)),h4⟩
theorem radv {ts:List Tk}{en p:Nat}{s:PS}{w:World}(h:RSt ts en p s w)(hl:s.f=false∧s.i+0 < ts.length):w.grownBy (w.setCell ⟨p,1,none⟩ (.int .i64 ((s.i:Int)+1))) (some p)∧RSt ts en p (adv s) (w.setCell ⟨p,1,none⟩ (.int .i64 ((s.i:Int)+1))) :=
 ⟨zAz (grown_id _ _) _,h.setI hl.1 (i:=s.i+1) (by have:=hl.2;omega) (by go_num)⟩
def RExP (ts:List Tk)(en:Nat)(p:Nat)(q:PE × PS)(w:World)(e:Ending)(w':World):Prop :=
 ∃ kind n name op A L c,e=.returned (exV kind n name op A L c)∧RepE w' (Rg w.heap.size w'.heap.size) q.1 (exC kind n name op A L c)∧w.grownBy w' (some p)∧RSt ts en p q.2 w'
theorem rexP {ts:List Tk}{en:Nat}{p:Nat}{pe:PE}{q:PS}{w w':World}{kind n:Int}{name:List UInt8}{op:Int}{A:Option Addr}{L c:Nat}(hr:RepE w' (Rg w.heap.size w'.heap.size) pe (exC kind n name op A L c))(hg:w.grownBy w' (some p))(hp:RSt ts en p q w') :
 RExP ts en p (pe,q) w (.returned (exV kind n name op A L c)) w':=⟨_,_,_,_,_,_,_,rfl,hr,hg,hp⟩
structure ROwn (ts:List Tk)(en:Nat)(p:Nat)(q:PS)(t:TypeId)(cs:Array Value)(w w1:World):Prop where
 g:w.grownBy w1 (some p)
 s:RSt ts en p q w1
 r:Blk w1 w.heap.size t cs
 p:p < w.heap.size
section
variable {ts:List Tk} {en:Nat} {p:Nat} {q q':PS} {t:TypeId} {cs:Array Value} {w w1 w2:World}
theorem ROwn.start (h:RSt ts en p q w)(t:TypeId)(cs:Array Value):ROwn ts en p q t cs w (w.alloc (.cells cs t)):=⟨grown_al (grown_id _ _) _,h.alloc _,Blk.new _ _ _,h.lt⟩
theorem ROwn.sz (o:ROwn ts en p q t cs w w1):w.heap.size < w1.heap.size:=o.r.lt
theorem ROwn.acc (o:ROwn ts en p q t cs w w1)(hg:w1.grownBy w2 (some p))(hp:RSt ts en p q' w2):ROwn ts en p q' t cs w w2:=⟨grown_to o.g hg,hp,o.r.gr hg (Nat.ne_of_lt o.p),o.p⟩
theorem ROwn.low (o:ROwn ts en p q t cs w w1)(hb:Below w1.heap.size w1 w2):ROwn ts en p q t cs w w2:=o.acc (zAa hb _) (o.s.keep hb)
theorem ROwn.al (o:ROwn ts en p q t cs w w1)(x:Obj):ROwn ts en p q t cs w (w1.alloc x):=o.low ((Below.refl _ _).alloc (Lr _) x)
theorem ROwn.far (o:ROwn ts en p q t cs w w1){a:Addr}(h:w.heap.size < a.block)(u:Value):ROwn ts en p q t cs w (w1.setCell a u) :=
 ⟨grown_fr o.g (Nat.le_of_lt h) _,o.s.far (Nat.lt_trans o.p h) _,o.r.far (Nat.ne_of_gt h) _,o.p⟩
end
theorem set5_rst {ts:List Tk}{en:Nat}{p g:Nat}{q:PS}{w1:World}(h:RSt ts en p q w1)(hg:p < g)(a b c d e:Value):RSt ts en p q (set5 w1 g a b c d e) :=
 ((((h.far hg _).far hg _).far hg _).far hg _).far hg _
theorem ROwn.ok {ts:List Tk}{en:Nat}{p:Nat}{q:PS}{t:TypeId}{w w1:World}(o:ROwn ts en p q t ex0 w w1) :
 w1.cell? ⟨w.heap.size,0,none⟩=some (.int .i64 0)∧w1.cell? ⟨w.heap.size,1,none⟩=some (.int .i64 0)∧w1.cell? ⟨w.heap.size,2,none⟩=some (.string ⟨#[]⟩)∧w1.cell? ⟨w.heap.size,3,none⟩=some (.int .i64 0)∧w1.cell? ⟨w.heap.size,4,none⟩=some (.slice none 0 0) ∧
 w1.frozen? ⟨w.heap.size,0,none⟩=false∧w1.frozen? ⟨w.heap.size,1,none⟩=false∧w1.frozen? ⟨w.heap.size,2,none⟩=false∧w1.frozen? ⟨w.heap.size,3,none⟩=false∧w1.frozen? ⟨w.heap.size,4,none⟩=false:=o.r.cells5
theorem ROwn.fin {ts:List Tk}{en:Nat}{p:Nat}{q:PS}{t:TypeId}{w w1:World}(o:ROwn ts en p q t ex0 w w1){pe:PE}{kind n:Int}{name:List UInt8}{op:Int}{A:Option Addr}{L c:Nat}(hr:RepE w1 (Rg (w.heap.size+1) w1.heap.size) pe (exC kind n name op A L c)) :
 Blk (set5 w1 w.heap.size (.int .i64 kind) (.int .i64 n) (.string ⟨name.toArray⟩) (.int .i64 op) (.slice A L c)) w.heap.size t #[.int .i64 kind,.int .i64 n,.string ⟨name.toArray⟩,.int .i64 op,.slice A L c] ∧
 RExP ts en p (pe,q) w (.returned (exV kind n name op A L c)) (set5 w1 w.heap.size (.int .i64 kind) (.int .i64 n) (.string ⟨name.toArray⟩) (.int .i64 op) (.slice A L c)) :=
 ⟨zB2 o.r _ _ _ _ _,rexP ((set5_rep hr (Or.inl (Nat.lt_succ_self _)) _ _ _ _ _).mono (Nat.le_succ _) (by rw[zBj];exact Lr _)) (set5_grown o.g (Lr _) _ _ _ _ _) (set5_rst o.s o.p _ _ _ _ _)⟩
section
variable {w1 w2:World} {p B lo hi g:Nat} {t:TypeId} {pe:PE} {kd nn:Int} {nm:List UInt8} {op:Int} {A:Option Addr} {L c:Nat}
theorem Hold.rstart {ts:List Tk}{en:Nat}{q:PS}{t':TypeId}{cs:Array Value}{w wp w1:World}{p:Nat}{pe:PE}{kd nn:Int}{nm:List UInt8}{op:Int}{A:Option Addr}{L c:Nat}(hr:RepE w1 (Rg wp.heap.size w1.heap.size) pe (exC kd nn nm op A L c))(o:ROwn ts en p q t' cs w wp)(hn:wp.heap.size≤w1.heap.size)(t:TypeId) :
 Hold (w1.alloc (.cells #[.int .i64 kd,.int .i64 nn,.string ⟨nm.toArray⟩,.int .i64 op,.slice A L c] t)) p w.heap.size wp.heap.size w1.heap.size w1.heap.size t pe kd nn nm op A L c :=
 ⟨hr.alloc (Lr _) _,Blk.new _ _ _,Lr _,o.sz,hn,o.p⟩
end
theorem ROwn.put {ts:List Tk}{en:Nat}{p:Nat}{q:PS}{t:TypeId}{w w1:World}(o:ROwn ts en p q t ex0 w w1)(a b c d e:Value):ROwn ts en p q t #[a,b,c,d,e] w (set5 w1 w.heap.size a b c d e) :=
 ⟨set5_grown o.g (Lr _) _ _ _ _ _,set5_rst o.s o.p _ _ _ _ _,zB2 o.r _ _ _ _ _,o.p⟩
theorem ROwn.done {ts:List Tk}{en:Nat}{p:Nat}{q:PS}{t:TypeId}{w w1:World}{pe:PE}{kind n:Int}{name:List UInt8}{op:Int}{A:Option Addr}{L c:Nat}(o:ROwn ts en p q t #[.int .i64 kind,.int .i64 n,.string ⟨name.toArray⟩,.int .i64 op,.slice A L c] w w1)
 (hr:RepE w1 (Rg (w.heap.size+1) w1.heap.size) pe (exC kind n name op A L c)) :
 Blk w1 w.heap.size t #[.int .i64 kind,.int .i64 n,.string ⟨name.toArray⟩,.int .i64 op,.slice A L c]∧RExP ts en p (pe,q) w (.returned (exV kind n name op A L c)) w1 :=
 ⟨o.r,rexP (hr.mono (Nat.le_succ _) (Lr _)) o.g o.s⟩
def RLiP {α:Type}(Rep:World→(Nat→Prop)→α→List Value→Prop)(sz:Nat)(ts:List Tk)(en:Nat)(p:Nat)(q:List α × PS)(w:World)(e:Ending)(w':World):Prop :=
 ∃ A L c,e=.returned (.slice A L c)∧RepL Rep sz w' (Rg w.heap.size w'.heap.size) q.1 (.slice A L c)∧w.grownBy w' (some p)∧RSt ts en p q.2 w'
theorem rliP {α:Type}{Rep:World→(Nat→Prop)→α→List Value→Prop}{sz:Nat}{ts:List Tk}{en:Nat}{p:Nat}{xs:List α}{s:PS}{w w':World}{A:Option Addr}{L c:Nat}(hr:RepL Rep sz w' (Rg w.heap.size w'.heap.size) xs (.slice A L c))(hg:w.grownBy w' (some p))(hp:RSt ts en p s w'):RLiP Rep sz ts en p (xs,s) w (.returned (.slice A L c)) w':=⟨A,L,c,rfl,hr,hg,hp⟩
theorem rliP_of {α:Type}{Rep:World→(Nat→Prop)→α→List Value→Prop}(hk:Keeps Rep){sz:Nat}{E:TypeId}{ts:List Tk}{en:Nat}{p:Nat}{xs:List α}{css:List (List Value)}{q:List α × PS}{s:PS}{w w':World}{v:Value}(c:Coll Rep sz E w.heap.size xs css v w')(hx:xs=q.1)(hs:s=q.2)(hg:w.grownBy w' (some p))(hp:RSt ts en p s w'):RLiP Rep sz ts en p q w (.returned v) w':=by
 obtain⟨A,L,cp,rfl⟩:=c.form
 obtain⟨q1,q2⟩:=q
 dsimp only at hx hs
 subst hx hs
 exact rliP (c.out hk) hg hp
def RStP (ts:List Tk)(en:Nat)(p:Nat)(q:ST × PS)(w:World)(e:Ending)(w':World):Prop :=
 ∃ (kd:Int) (nm to:List UInt8) (num:Int) (k1 n1:Int) (x1:List UInt8) (o1:Int) (A1:Option Addr) (L1 c1:Nat) (k2 n2:Int) (x2:List UInt8) (o2:Int) (A2:Option Addr) (L2 c2:Nat) (A3:Option Addr) (L3 c3:Nat) (A4:Option Addr) (L4 c4:Nat) (A5:Option Addr) (L5 c5:Nat),e=.returned (stV kd nm to num k1 n1 x1 o1 A1 L1 c1 k2 n2 x2 o2 A2 L2 c2 A3 L3 c3 A4 L4 c4 A5 L5 c5)∧RepS w' (Rg w.heap.size w'.heap.size) q.1 (stC kd nm to num k1 n1 x1 o1 A1 L1 c1 k2 n2 x2 o2 A2 L2 c2 A3 L3 c3 A4 L4 c4 A5 L5 c5)∧w.grownBy w' (some p)∧RSt ts en p q.2 w'
theorem ROwn.row {ts:List Tk}{en:Nat}{p:Nat}{q:PS}{t:TypeId}{cs0:Array Value}{w w1:World}(o:ROwn ts en p q t cs0 w w1)(cs:Array Value):ROwn ts en p q t cs w (w1.setRow w.heap.size cs) :=
 ⟨zBf o.g (Lr _) cs,row_rst o.s o.p cs,zBc o.r cs,o.p⟩
theorem ROwn.fin17 {ts:List Tk}{en:Nat}{p:Nat}{q:PS}{t:TypeId}{w w1:World}{cs0:Array Value}(o:ROwn ts en p q t cs0 w w1){st:ST}{kd:Int}{nm to:List UInt8}{num:Int}{k1 n1:Int}{x1:List UInt8}{o1:Int}{A1:Option Addr}{L1 c1:Nat}{k2 n2:Int}{x2:List UInt8}{o2:Int}{A2:Option Addr}{L2 c2:Nat}{A3:Option Addr}{L3 c3:Nat}{A4:Option Addr}{L4 c4:Nat}{A5:Option Addr}{L5 c5:Nat}(hr:RepS w1 (Rg (w.heap.size+1) w1.heap.size) st (stC kd nm to num k1 n1 x1 o1 A1 L1 c1 k2 n2 x2 o2 A2 L2 c2 A3 L3 c3 A4 L4 c4 A5 L5 c5)) :
 Blk (w1.setRow w.heap.size #[.int .i64 kd,.string ⟨nm.toArray⟩,.string ⟨to.toArray⟩,.int .i64 num,.int .i64 k1,.int .i64 n1,.string ⟨x1.toArray⟩,.int .i64 o1,.slice A1 L1 c1,.int .i64 k2,.int .i64 n2,.string ⟨x2.toArray⟩,.int .i64 o2,.slice A2 L2 c2,.slice A3 L3 c3,.slice A4 L4 c4,.slice A5 L5 c5]) w.heap.size t #[.int .i64 kd,.string ⟨nm.toArray⟩,.string ⟨to.toArray⟩,.int .i64 num,.int .i64 k1,.int .i64 n1,.string ⟨x1.toArray⟩,.int .i64 o1,.slice A1 L1 c1,.int .i64 k2,.int .i64 n2,.string ⟨x2.toArray⟩,.int .i64 o2,.slice A2 L2 c2,.slice A3 L3 c3,.slice A4 L4 c4,.slice A5 L5 c5]∧RStP ts en p (st,q) w (.returned (stV kd nm to num k1 n1 x1 o1 A1 L1 c1 k2 n2 x2 o2 A2 L2 c2 A3 L3 c3 A4 L4 c4 A5 L5 c5)) (w1.setRow w.heap.size #[.int .i64 kd,.string ⟨nm.toArray⟩,.string ⟨to.toArray⟩,.int .i64 num,.int .i64 k1,.int .i64 n1,.string ⟨x1.toArray⟩,.int .i64 o1,.slice A1 L1 c1,.int .i64 k2,.int .i64 n2,.string ⟨x2.toArray⟩,.int .i64 o2,.slice A2 L2 c2,.slice A3 L3 c3,.slice A4 L4 c4,.slice A5 L5 c5]) :=
 ⟨zBc o.r _,_,_,_,_,_,_,_,_,_,_,_,_,_,_,_,_,_,_,_,_,_,_,_,_,_,_,_,rfl,hr.keep (fun g h=>⟨Nat.le_trans (Nat.le_succ _) h.1,by rw[zBm];exact h.2⟩) (fun g h=>zBi _ _ _ _ (by have:=h.1;omega)),zBf o.g (Lr _) _,row_rst o.s o.p _⟩
end Go.Proofs.YtpgnlfdindmopaaGreatDoor
namespace Go.Proofs.YtpgnlfdindmopaaGreatDoor
open Go.RowKit (wrap64 intOf)
open Go Go.RowKit WM LX PX
set_option maxRecDepth 100000
set_option maxHeartbeats 4000000
theorem rWhy_f {i:Nat}:rWhy ⟨i,false⟩=0:=rfl
theorem rWhy_t {i:Nat}:rWhy ⟨i,true⟩=2:=rfl
theorem zAn (ts:List Tk)(en p:Nat)(s:PS)(b:Bool)(hb:s.f=!b)(w:World)(h:RSt ts en p s w) :
 Calls Tryz.prog 17 #[.pointer (some ⟨p,0,none⟩)] w (fun e w'=>e=.returned (.bool b)∧w'=w):=by
 obtain⟨i,f⟩:=s
 obtain rfl:f=!b:=hb
 obtain⟨A,c,_,_,_,c3,_⟩:=h.cells
 clear h
 cases b
 ·rw[show rWhy ⟨i,!false⟩=2 from rfl] at c3
  go_enter Tryz.func17,Tryz.ntmps17
  go_wp2_with fail
  go_ret
  exact⟨rfl,rfl⟩
 ·rw[show rWhy ⟨i,!true⟩=0 from rfl] at c3
  go_enter Tryz.func17,Tryz.ntmps17
  go_wp2_with fail
  go_ret
  exact⟨rfl,rfl⟩
theorem zCm {w:World}{p:Nat}{A:Option Addr}{ts:List Tk}(h:Toks w p A ts){i:Nat}(hi:i < ts.length):∃ g,A=some ⟨g,0,none⟩∧g < p ∧
 w.cell? ⟨g,i * 3,none⟩=some (.int .i64 ((ts.getD i tk0).kind:Int))∧w.cell? ⟨g,i * 3+1,none⟩=some (.string ⟨(ts.getD i tk0).text.toArray⟩)∧w.cell? ⟨g,i * 3+2,none⟩=some (.int .i64 ((ts.getD i tk0).pos:Int)):=tok_cells h hi
theorem roff_any (ts:List Tk)(en p:Nat)(s:PS)(w:World)(h:RSt ts en p s w) :
 Calls Tryz.prog 63 #[.pointer (some ⟨p,0,none⟩)] w (RetN (.int .i64 (rOff ts en s.i:Int)) w):=by
 obtain⟨A,c,c0,c1,c2,_,_,_,_,_,ht,hi,hl,he⟩:=h.cells
 unfold rOff
 by_cases hlt:s.i < ts.length
 ·obtain⟨g,rfl,hg,d0,d1,d2⟩:=zCm ht hlt
  rw[if_pos hlt]
  obtain⟨i,f⟩:=s
  dsimp only at hlt hi c1 d0 d1 d2 ⊢
  obtain⟨pz,hpz⟩:∃ pz:Int,((ts.getD i tk0).pos:Int)=pz:=⟨_,rfl⟩
  rw[hpz] at d2 ⊢
  clear hpz ht d0 d1 h
  obtain⟨n,hn⟩:∃ n,ts.length=n:=⟨_,rfl⟩
  rw[hn] at c0 hlt hl hi
  clear hn
  have h1:decide ((i:Int) < (n:Int))=true:=decide_eq_true (by omega)
  have h2:(i:Int) < (n:Int):=by omega
  go_enter Tryz.func63,Tryz.ntmps63
  go_wp2_with fail
  go_quiet (fail)
  go_wp2_with fail
  go_quiet (fail)
  go_wp2_with fail
  go_ret
  exact⟨rfl,below_drewN (below_drewN (Below.refl _ _) _) _⟩
 ·rw[if_neg hlt]
  obtain⟨i,f⟩:=s
  dsimp only at hlt hi c1 ⊢
  clear ht h
  obtain⟨n,hn⟩:∃ n,ts.length=n:=⟨_,rfl⟩
  rw[hn] at c0 hlt hl hi
  clear hn
  have h1:decide ((i:Int) < (n:Int))=false:=decide_eq_false (by omega)
  have h2:¬ (i:Int) < (n:Int):=by omega
  go_enter Tryz.func63,Tryz.ntmps63
  go_wp2_with fail
  go_quiet (fail)
  go_wp2_with fail
  go_ret
  exact⟨rfl,below_drewN (Below.refl _ _) _⟩
theorem zB4 (ts:List Tk)(en p:Nat)(s:PS)(w:World)(h:RSt ts en p s w) :
 Calls Tryz.prog 40 #[.pointer (some ⟨p,0,none⟩)] w (RAccP ts en p (fl s) (.tuple #[]) w):=by
 obtain⟨i,f⟩:=s
 have H:=Hd h
 obtain⟨A,c,_,_,_,c3,c4,_,f3,f4,_⟩:=h.cells
 clear h
 cases f
 ·rw[rWhy_f] at c3
  rw[show rPos ts en ⟨i,false⟩=0 from rfl] at c4
  go_enter Tryz.func40,Tryz.ntmps40
  go_wp2_with fail
  refine (roff_any ts en p _ _ H.out).mono ?_
  rintro e w1 ⟨rfl,hb⟩
  have H1:=Hd (H.out.keep hb)
  obtain⟨A,c,_,_,_,c3,c4,_,f3,f4,_⟩:=H1.out.cells
  have HB:=Hd hb
  clear hb
  go_wp2_with fail
  go_end0
  exact raccP rfl (zAz (zAz (zAa HB.out _) _) _) (H1.out.setF rfl)
 ·rw[rWhy_t] at c3
  go_enter Tryz.func40,Tryz.ntmps40
  go_wp2_with fail
  go_end0
  exact raccP rfl (grown_id _ _) H.out
theorem rat_cases (ts:List Tk)(s:PS)(k:Nat):s.f=true∨(s.f=false∧¬ s.i+k < ts.length)∨(s.f=false∧s.i+k < ts.length):=by
 cases s.f
 ·by_cases h:s.i+k < ts.length
  ·exact Or.inr (Or.inr ⟨rfl,h⟩)
  ·exact Or.inr (Or.inl ⟨rfl,h⟩)
 ·exact Or.inl rfl
theorem zAe (ts:List Tk)(en p:Nat)(s:PS)(k:Nat)(hk:k≤1)(x:List UInt8)(b:Bool)(hb:Hid (rAt ts s k x=b))(w:World)(h:RSt ts en p s w) :
 Calls Tryz.prog 18 #[.pointer (some ⟨p,0,none⟩),.int .i64 (k:Int),.string ⟨x.toArray⟩] w (RetN (.bool b) w):=by
 have hb:=hb.out
 obtain⟨A,c,c0,c1,c2,_,_,_,_,_,ht,hi,hl,he⟩:=h.cells
 rcases rat_cases ts s k with hf | ⟨hf,hlt⟩ | ⟨hf,hlt⟩
 ·rw[rAt_f hf] at hb
  subst hb
  have hok:=fun w h=>zAn ts en p s false hf w h
  clear ht c0 c1 c2
  go_enter Tryz.func18,Tryz.ntmps18
  go_wp2_with fail
  go_quiet ((go_at_call 17;exact Calls.quiet_of_same (hok _ h)))
  go_wp2_with fail
  go_ret
  exact⟨rfl,below_drewN (Below.refl _ _) _⟩
 ·have hb:false=b:=by rw[←hb];unfold rAt inn;rw[decide_eq_false hlt,Bool.and_false,Bool.false_and]
  subst hb
  have hok:=fun w h=>zAn ts en p s true hf w h
  obtain⟨n,hn⟩:∃ n,ts.length=n:=⟨_,rfl⟩
  rw[hn] at c0 hlt hl hi
  clear ht c2 hn
  obtain⟨i,hsi⟩:∃ i,s.i=i:=⟨_,rfl⟩
  rw[hsi] at c1 hi hlt
  clear hsi
  have h1:decide ((i:Int)+(k:Int) < (n:Int))=false:=decide_eq_false (by omega)
  have h2:¬ (i:Int)+(k:Int) < (n:Int):=by omega
  have h3:IntKind.i64.wrap ((i:Int)+(k:Int))=(i:Int)+(k:Int):=IntWalk.i64_in _ (by omega)
  clear hk hi hl
  go_enter Tryz.func18,Tryz.ntmps18
  go_wp2_with fail
  go_quiet ((go_at_call 17;exact Calls.quiet_of_same (hok _ h)))
  go_wp2_with fail
  go_ret
  exact⟨rfl,below_drewN (Below.refl _ _) _⟩
 ·obtain⟨g,rfl,hg,d0,d1,d2⟩:=zCm ht hlt
  have hb:(decide ((ts.getD (s.i+k) tk0).text=x)&&!decide ((ts.getD (s.i+k) tk0).kind=2))=b:=by
   rw[←hb];unfold rAt inn tkk;rw[hf,decide_eq_true hlt];rfl
  generalize ts.getD (s.i+k) tk0=t at hb d0 d1 d2
  obtain⟨kd,y,o⟩:=t
  dsimp only at hb d0 d1 d2
  have hok:=fun w h=>zAn ts en p s true hf w h
  obtain⟨n,hn⟩:∃ n,ts.length=n:=⟨_,rfl⟩
  rw[hn] at c0 hlt hl hi
  clear ht c2 hn d2
  obtain⟨i,hsi⟩:∃ i,s.i=i:=⟨_,rfl⟩
  rw[hsi] at c1 hi hlt d0 d1
  clear hsi
  obtain⟨kz,hkz⟩:∃ kz:Int,(kd:Int)=kz:=⟨_,rfl⟩
  rw[hkz] at d0
  have h1:decide ((i:Int)+(k:Int) < (n:Int))=true:=decide_eq_true (by omega)
  have h2:(i:Int)+(k:Int) < (n:Int):=by omega
  have h3:IntKind.i64.wrap ((i:Int)+(k:Int))=(i:Int)+(k:Int):=IntWalk.i64_in _ (by omega)
  have h4:(0:Int)≤(i:Int)+(k:Int):=by omega
  have h5:((i:Int)+(k:Int)).toNat=i+k:=by omega
  by_cases hx:y=x
  ·subst hx
   by_cases hk2:kd=2
   ·have hb:false=b:=by rw[←hb,decide_eq_true hk2];simp
    subst hb
    have h6:(kz != 2)=false:=by rw[←hkz,hk2];rfl
    have h7:(y==y)=true:=by simp
    clear hk hi hl hkz hk2
    go_enter Tryz.func18,Tryz.ntmps18
    go_wp2_with fail
    go_quiet ((go_at_call 17;exact Calls.quiet_of_same (hok _ h)))
    go_wp2_with fail
    go_ret
    exact⟨rfl,below_drewN (Below.refl _ _) _⟩
   ·have hb:true=b:=by rw[←hb,decide_eq_false hk2];simp
    subst hb
    have h6:(kz != 2)=true:=by rw[bne_iff_ne];omega
    have h7:(y==y)=true:=by simp
    clear hk hi hl hkz hk2
    go_enter Tryz.func18,Tryz.ntmps18
    go_wp2_with fail
    go_quiet ((go_at_call 17;exact Calls.quiet_of_same (hok _ h)))
    go_wp2_with fail
    go_ret
    exact⟨rfl,below_drewN (Below.refl _ _) _⟩
  ·have hb:false=b:=by rw[←hb,decide_eq_false hx];rfl
   subst hb
   have h7:(y==x)=false:=by simp[hx]
   clear hk hi hl hkz hx
   go_enter Tryz.func18,Tryz.ntmps18
   go_wp2_with fail
   go_quiet ((go_at_call 17;exact Calls.quiet_of_same (hok _ h)))
   go_wp2_with fail
   go_ret
   exact⟨rfl,below_drewN (Below.refl _ _) _⟩
theorem zAc (ts:List Tk)(en p:Nat)(s s':PS)(x:List UInt8)(hs:Hid (rEx ts s x=s'))(w:World)(h:RSt ts en p s w) :
 Calls Tryz.prog 21 #[.pointer (some ⟨p,0,none⟩),.string ⟨x.toArray⟩] w (RAccP ts en p s' (.tuple #[]) w):=by
 obtain rfl:=hs.out
 unfold rEx
 obtain⟨b,hb⟩:∃ b,rAt ts s 0 x=b:=⟨_,rfl⟩
 rw[hb]
 have HB:=Hd hb
 cases b
 ·rw[if_neg (by decide)]
  clear hb
  go_enter Tryz.func21,Tryz.ntmps21
  go_wp2_with fail
  refine (zAe ts en p s 0 (by decide) x false HB _ h).mono ?_
  rintro e w1 ⟨rfl,hb1⟩
  have h1:=h.keep hb1
  have HB1:=Hd hb1
  clear hb1
  go_wp2_with fail
  refine (zB4 ts en p s _ h1).mono ?_
  rintro e w2 ⟨rfl,hg,hp⟩
  go_wp2_with fail
  go_end0
  exact raccP rfl (grown_to (zAa HB1.out _) hg) hp
 ·rw[if_pos rfl]
  have hlen:=zAo (zBd hb)
  clear hb
  go_enter Tryz.func21,Tryz.ntmps21
  go_wp2_with fail
  refine (zAe ts en p s 0 (by decide) x true HB _ h).mono ?_
  rintro e w1 ⟨rfl,hb1⟩
  have H1:=Hd (h.keep hb1)
  have HB1:=Hd hb1
  obtain⟨A,c,_,c1,_,_,_,f1,_,_,_,hi,hl,_⟩:=H1.out.cells
  clear hb1
  go_wp2_with fail
  go_end0
  exact raccP rfl (zAz (zAa HB1.out _) _) (H1.out.setI hlen.1 (i:=s.i+1) (by omega) (by go_num))
theorem rnu_any (ts:List Tk)(en p:Nat)(s:PS)(k:Nat)(hk:k≤1)(b:Bool)(hb:Hid (rNu ts s k=b))(w:World)(h:RSt ts en p s w) :
 Calls Tryz.prog 157 #[.pointer (some ⟨p,0,none⟩),.int .i64 (k:Int)] w (RetN (.bool b) w):=by
 have hb:=hb.out
 obtain⟨A,c,c0,c1,c2,_,_,_,_,_,ht,hi,hl,he⟩:=h.cells
 rcases rat_cases ts s k with hf | ⟨hf,hlt⟩ | ⟨hf,hlt⟩
 ·rw[rNu_f hf] at hb
  subst hb
  have hok:=fun w h=>zAn ts en p s false hf w h
  clear ht c0 c1 c2
  go_enter Tryz.func157,Tryz.ntmps157
  go_wp2_with fail
  go_quiet ((go_at_call 17;exact Calls.quiet_of_same (hok _ h)))
  go_wp2_with fail
  go_ret
  exact⟨rfl,below_drewN (Below.refl _ _) _⟩
 ·have hb:false=b:=by rw[←hb];unfold rNu inn;rw[decide_eq_false hlt,Bool.and_false,Bool.false_and]
  subst hb
  have hok:=fun w h=>zAn ts en p s true hf w h
  obtain⟨n,hn⟩:∃ n,ts.length=n:=⟨_,rfl⟩
  rw[hn] at c0 hlt hl hi
  clear ht c2 hn
  obtain⟨i,hsi⟩:∃ i,s.i=i:=⟨_,rfl⟩
  rw[hsi] at c1 hi hlt
  clear hsi
  have h1:decide ((i:Int)+(k:Int) < (n:Int))=false:=decide_eq_false (by omega)
  have h2:¬ (i:Int)+(k:Int) < (n:Int):=by omega
  have h3:IntKind.i64.wrap ((i:Int)+(k:Int))=(i:Int)+(k:Int):=IntWalk.i64_in _ (by omega)
  clear hk hi hl
  go_enter Tryz.func157,Tryz.ntmps157
  go_wp2_with fail
  go_quiet ((go_at_call 17;exact Calls.quiet_of_same (hok _ h)))
  go_wp2_with fail
  go_ret
  exact⟨rfl,below_drewN (Below.refl _ _) _⟩
 ·obtain⟨g,rfl,hg,d0,d1,d2⟩:=zCm ht hlt
  have hb:decide ((ts.getD (s.i+k) tk0).kind=2)=b:=by
   rw[←hb];unfold rNu inn tkk;rw[hf,decide_eq_true hlt];rfl
  generalize ts.getD (s.i+k) tk0=t at hb d0 d1 d2
  obtain⟨kd,y,o⟩:=t
  dsimp only at hb d0 d1 d2
  have hok:=fun w h=>zAn ts en p s true hf w h
  obtain⟨n,hn⟩:∃ n,ts.length=n:=⟨_,rfl⟩
  rw[hn] at c0 hlt hl hi
  clear ht c2 hn d1 d2
  obtain⟨i,hsi⟩:∃ i,s.i=i:=⟨_,rfl⟩
  rw[hsi] at c1 hi hlt d0
  clear hsi
  obtain⟨kz,hkz⟩:∃ kz:Int,(kd:Int)=kz:=⟨_,rfl⟩
  rw[hkz] at d0
  have h1:decide ((i:Int)+(k:Int) < (n:Int))=true:=decide_eq_true (by omega)
  have h2:(i:Int)+(k:Int) < (n:Int):=by omega
  have h3:IntKind.i64.wrap ((i:Int)+(k:Int))=(i:Int)+(k:Int):=IntWalk.i64_in _ (by omega)
  have h4:(0:Int)≤(i:Int)+(k:Int):=by omega
  have h5:((i:Int)+(k:Int)).toNat=i+k:=by omega
  by_cases hk2:kd=2
  ·have hb:true=b:=by rw[←hb,decide_eq_true hk2]
   subst hb
   have h6:(kz==2)=true:=by rw[←hkz,hk2];rfl
   clear hk hi hl hkz hk2
   go_enter Tryz.func157,Tryz.ntmps157
   go_wp2_with fail
   go_quiet ((go_at_call 17;exact Calls.quiet_of_same (hok _ h)))
   go_wp2_with fail
   go_ret
   exact⟨rfl,below_drewN (Below.refl _ _) _⟩
  ·have hb:false=b:=by rw[←hb,decide_eq_false hk2]
   subst hb
   have h6:(kz==2)=false:=by rw[beq_eq_false_iff_ne];omega
   clear hk hi hl hkz hk2
   go_enter Tryz.func157,Tryz.ntmps157
   go_wp2_with fail
   go_quiet ((go_at_call 17;exact Calls.quiet_of_same (hok _ h)))
   go_wp2_with fail
   go_ret
   exact⟨rfl,below_drewN (Below.refl _ _) _⟩
end Go.Proofs.YtpgnlfdindmopaaGreatDoor
namespace Go.Proofs.YtpgnlfdindmopaaGreatDoor
open Go Go.RowKit WM
def RpP (l:List UInt8)(w:World)(e:Ending)(w':World):Prop:=e=.returned (.tuple #[.int .i64 (zBb l),.bool (zA0 l)])∧w=w'
set_option maxHeartbeats 1000000 in
theorem rparse_pos (s:ByteArray)(hs:s.size≤9223372036854775807)(hh:s.data.toList.getD 0 0≠45)(w:World) :
 Calls Tryz.prog 198 #[.string s] w (RpP s.data.toList w):=by
 obtain⟨e1,e2⟩:=rp_pos s.data.toList hh
 have hle:=numV_le s.data.toList 9223372036854775807
 obtain⟨V,hV⟩:∃ V:Int,(numV s.data.toList 9223372036854775807:Int)=V:=⟨_,rfl⟩
 obtain⟨b,hb⟩:∃ b,numB s.data.toList 9223372036854775807=b:=⟨_,rfl⟩
 rw[hV] at e2
 rw[hb] at e1
 have hV0:0≤V:=by omega
 have hV1:V≤9223372036854775807:=by omega
 unfold RpP
 rw[e1,e2]
 have HV:=Hd hV
 have HB:=Hd hb
 have htl:s.toList=s.data.toList:=Lib.toList_data s
 by_cases hz:s.size=0
 ·have z0:s.data.toList=[]:=by apply List.eq_nil_of_length_eq_zero;rw[zAh];exact hz
  have z1:s.toList=[]:=htl.trans z0
  have z2:s.toList.isEmpty=true:=by rw[z1];rfl
  clear hV hb e1 e2 hle htl hz z0 hh
  go_enter Tryz.func198,Tryz.ntmps198
  go_wp2_with (go_at_call 37;((with_reducible refine (zB6 s 9223372036854775807 9223372036854775807 V b hs most1 HV.out HB.out _).mono ?_);rintro e w' ⟨rfl,rfl⟩))
  go_ret2
  exact⟨rfl,rfl⟩
 ·have h0:0 < s.size:=by omega
  have z1:¬ s.toList=[]:=by
   rw[htl];intro h
   have:=congrArg List.length h
   rw[zAh] at this;exact hz this
  have z2:s.toList.isEmpty=false:=by simpa using z1
  have z3:((s[0].toNat:Int)==45)=false:=by
   rw[beq_eq_false_iff_ne];intro h
   apply hh
   rw[zB8 s 0 h0]
   apply UInt8.toNat_inj.1
   have e3:(45:UInt8).toNat=45:=rfl
   omega
  have z4:((s[0].toNat:Int) != 45)=true:=by rw[bne,z3];rfl
  clear hV hb e1 e2 hle htl hz hh
  go_enter Tryz.func198,Tryz.ntmps198
  go_wp2_with (go_at_call 37;((with_reducible refine (zB6 s 9223372036854775807 9223372036854775807 V b hs most1 HV.out HB.out _).mono ?_);rintro e w' ⟨rfl,rfl⟩))
  go_ret2
  exact⟨rfl,rfl⟩
theorem extract_tail (s:ByteArray)(t:List UInt8)(h:s.data.toList=45 :: t):(s.extract 1 s.size).data.toList=t:=by
 rw[Lib.extract_data,h,List.take_of_length_le]
 ·rfl
 ·have:s.size=t.length+1:=by rw[←zAh,h];rfl
  simp;omega
set_option maxHeartbeats 1000000 in
theorem rparse_neg (s d:ByteArray)(t:List UInt8)(hs:s.size≤9223372036854775807)(ht:s.data.toList=45 :: t)(hd:s.extract 1 s.size=d)(w:World) :
 Calls Tryz.prog 198 #[.string s] w (RpP s.data.toList w):=by
 have hdt:d.data.toList=t:=by rw[←hd];exact extract_tail s t ht
 have hsz:s.size=t.length+1:=by rw[←zAh,ht];rfl
 have hds:d.size≤9223372036854775807:=by rw[←zAh,hdt];omega
 obtain⟨e1,e2⟩:=rp_neg t
 have hle:=numV_le t 9223372036854775808
 obtain⟨V,hV⟩:∃ V:Int,(numV t 9223372036854775808:Int)=V:=⟨_,rfl⟩
 obtain⟨b,hb⟩:∃ b,numB t 9223372036854775808=b:=⟨_,rfl⟩
 rw[hV,hb] at e2
 have hV0:0≤V:=by omega
 have hV1:V≤9223372036854775808:=by omega
 have hbz:(numV t 9223372036854775808==0)=(V==0):=by
  rw[Bool.eq_iff_iff,beq_iff_eq,beq_iff_eq];omega
 rw[hb,hbz] at e1
 rw[hbz] at e2
 unfold RpP
 rw[ht,e1,e2]
 have hV':(numV d.data.toList 9223372036854775808:Int)=V:=by rw[hdt];exact hV
 have hb':numB d.data.toList 9223372036854775808=b:=by rw[hdt];exact hb
 have HV:=Hd hV'
 have HB:=Hd hb'
 have htl:s.toList=s.data.toList:=Lib.toList_data s
 have h0:1≤s.size:=by omega
 have z1:¬ s.toList=[]:=by rw[htl,ht];simp
 have z2:s.toList.isEmpty=false:=by simpa using z1
 have z3:((s[0].toNat:Int)==45)=true:=by
  have e:=zB8 s 0 (by omega)
  rw[ht] at e
  rw[←e];rfl
 have z4:((s[0].toNat:Int) != 45)=false:=by rw[bne,z3];rfl
 clear hV hb e1 e2 hle htl hsz hdt hbz hV' hb'
 cases b
 ·go_enter Tryz.func198,Tryz.ntmps198
  go_wp2_with (go_at_call 37;((with_reducible refine (zB6 d 9223372036854775808 9223372036854775808 V false hds most2 HV.out HB.out _).mono ?_);rintro e w' ⟨rfl,rfl⟩))
  go_ret2
  exact⟨rfl,rfl⟩
 ·by_cases hz:V=0
  ·subst hz
   go_enter Tryz.func198,Tryz.ntmps198
   go_wp2_with (go_at_call 37;((with_reducible refine (zB6 d 9223372036854775808 9223372036854775808 0 true hds most2 HV.out HB.out _).mono ?_);rintro e w' ⟨rfl,rfl⟩))
   go_ret2
   exact⟨rfl,rfl⟩
  ·have g0:(V==0)=false:=by simpa using hz
   have hV2:1≤V:=by omega
   have hE:-(V - 1) - 1=-V:=by omega
   have HE:=Hd hE
   rw[g0]
   clear hz hE
   go_enter Tryz.func198,Tryz.ntmps198
   go_wp2_with (go_at_call 37;((with_reducible refine (zB6 d 9223372036854775808 9223372036854775808 V true hds most2 HV.out HB.out _).mono ?_);rintro e w' ⟨rfl,rfl⟩))
   go_ret2
   exact⟨by rw[HE.out];rfl,rfl⟩
theorem rparse_any (s:ByteArray)(hs:s.size≤9223372036854775807)(w:World) :
 Calls Tryz.prog 198 #[.string s] w (RpP s.data.toList w):=by
 by_cases h:s.data.toList.getD 0 0=45
 ·cases hl:s.data.toList with
  | nil=>rw[hl] at h;exact absurd h (by decide)
  | cons c t =>
   rw[hl] at h
   have hc:c=45:=h
   subst hc
   rw[←hl]
   exact rparse_neg s _ t hs hl rfl w
 ·exact rparse_pos s hs h w
end Go.Proofs.YtpgnlfdindmopaaGreatDoor
namespace Go.Proofs.YtpgnlfdindmopaaGreatDoor
open Go.RowKit (wrap64 intOf)
open Go Go.RowKit WM LX PX
set_option maxRecDepth 100000
set_option maxHeartbeats 4000000
theorem resC_at (j:Nat)(hj:j < 9):∃ y:List UInt8,zCv[j]?=some (.string ⟨y.toArray⟩)∧y=resW.getD j []:=by
 have hc:j=0∨j=1∨j=2∨j=3∨j=4∨j=5∨j=6∨j=7∨j=8:=by omega
 rcases hc with rfl | rfl | rfl | rfl | rfl | rfl | rfl | rfl | rfl
 all_goals exact⟨_,rfl,rfl⟩
theorem rres_any (x:List UInt8)(b:Bool)(hb:Hid (resW.contains x=b))(w:World) :
 Calls Tryz.prog 62 #[.string ⟨x.toArray⟩] w (RetN (.bool b) w):=by
 obtain⟨W1,hW1⟩:∃ W1,w.alloc (.cells zCv 9)=W1:=⟨_,rfl⟩
 have hk:Blk W1 w.heap.size 9 zCv:=by rw[←hW1];exact Blk.new _ _ _
 have hb1:Below w.heap.size w W1:=by rw[←hW1];exact (Below.refl _ _).alloc (Lr _) _
 have H:=Hd (Ai hW1 (Ai hk hb1))
 clear hW1 hk hb1
 go_enter Tryz.func62,Tryz.ntmps62
 go_wp2_with fail
 rw[H.out.1]
 go_loop [4] (fun i=>∃ j:Nat,j≤9∧(∀ k,k < j→resW.getD k []≠x)∧i=.int .i64 j) (fun i=>9 - (intOf i).toNat)
 case atStart=>exact⟨0,Nat.zero_le _,fun i hi=>absurd hi (by omega),rfl⟩
 case round =>
  obtain⟨j,hj,hd,rfl⟩:=hrel
  have HD:=Hd hd
  clear hd
  by_cases hlt:j < 9
  ·obtain⟨y,hix,hy⟩:=resC_at j hlt
   have hc:W1.cell? ⟨w.heap.size,j,none⟩=some (.string ⟨y.toArray⟩):=(H.out.2.1.cell j).trans hix
   have HY:=Hd hy
   clear hy hix
   by_cases he:y=x
   ·have he1:(y==x)=true:=by simp[he]
    have HE:=Hd he
    clear he
    go_wp2_with fail
    go_ret
    exact retN (congrArg Value.bool (by rw[←hb.out,←HE.out,HY.out];exact (res_in j hlt).symm)) H.out.2.2
   ·have he1:(y==x)=false:=by simp[he]
    have HE:=Hd he
    clear he
    go_wp2_with fail
    go_round
    case rel=>exact⟨j+1,by omega,fun k hk=>by
     by_cases e:k=j
     ·subst e;rw[←HY.out];exact HE.out
     ·exact HD.out k (by omega),by go_num⟩
    case measure=>simp[intOf];omega
  ·obtain rfl:j=9:=by omega
   go_wp2_with fail
   go_ret
   exact retN (congrArg Value.bool (by rw[←hb.out];exact (res_out HD.out).symm)) H.out.2.2
theorem rnm_any (ts:List Tk)(en p:Nat)(s:PS)(k:Nat)(hk:k≤1)(b:Bool)(hb:Hid (rNm ts s k=b))(w:World)(h:RSt ts en p s w) :
 Calls Tryz.prog 39 #[.pointer (some ⟨p,0,none⟩),.int .i64 (k:Int)] w (RetN (.bool b) w):=by
 have hb:=hb.out
 obtain⟨A,c,c0,c1,c2,_,_,_,_,_,ht,hi,hl,he⟩:=h.cells
 rcases rat_cases ts s k with hf | ⟨hf,hlt⟩ | ⟨hf,hlt⟩
 ·rw[rNm_f hf] at hb
  subst hb
  have hok:=fun w h=>zAn ts en p s false hf w h
  clear ht c0 c1 c2
  go_enter Tryz.func39,Tryz.ntmps39
  go_wp2_with fail
  go_quiet ((go_at_call 17;exact Calls.quiet_of_same (hok _ h)))
  go_wp2_with fail
  go_ret
  exact⟨rfl,below_drewN (Below.refl _ _) _⟩
 ·have hb:false=b:=by rw[←hb];unfold rNm inn;rw[decide_eq_false hlt,Bool.and_false,Bool.false_and]
  subst hb
  have hok:=fun w h=>zAn ts en p s true hf w h
  obtain⟨n,hn⟩:∃ n,ts.length=n:=⟨_,rfl⟩
  rw[hn] at c0 hlt hl hi
  clear ht c2 hn
  obtain⟨i,hsi⟩:∃ i,s.i=i:=⟨_,rfl⟩
  rw[hsi] at c1 hi hlt
  clear hsi
  have h1:decide ((i:Int)+(k:Int) < (n:Int))=false:=decide_eq_false (by omega)
  have h2:¬ (i:Int)+(k:Int) < (n:Int):=by omega
  have h3:IntKind.i64.wrap ((i:Int)+(k:Int))=(i:Int)+(k:Int):=IntWalk.i64_in _ (by omega)
  clear hk hi hl
  go_enter Tryz.func39,Tryz.ntmps39
  go_wp2_with fail
  go_quiet ((go_at_call 17;exact Calls.quiet_of_same (hok _ h)))
  go_wp2_with fail
  go_ret
  exact⟨rfl,below_drewN (Below.refl _ _) _⟩
 ·obtain⟨g,rfl,hg,d0,d1,d2⟩:=zCm ht hlt
  have hb:isNm (ts.getD (s.i+k) tk0)=b:=by
   rw[←hb];unfold rNm inn tkk;rw[hf,decide_eq_true hlt];rfl
  generalize ts.getD (s.i+k) tk0=t at hb d0 d1 d2
  obtain⟨kd,y,o⟩:=t
  dsimp only at d0 d1 d2
  have hok:=fun w h=>zAn ts en p s true hf w h
  have HS:=Hd h
  have hlt0:=h.lt
  obtain⟨n,hn⟩:∃ n,ts.length=n:=⟨_,rfl⟩
  rw[hn] at c0 hlt hl hi
  clear ht c2 hn d2
  obtain⟨i,hsi⟩:∃ i,s.i=i:=⟨_,rfl⟩
  rw[hsi] at c1 hi hlt d0 d1
  clear hsi
  obtain⟨kz,hkz⟩:∃ kz:Int,(kd:Int)=kz:=⟨_,rfl⟩
  rw[hkz] at d0
  have h1:decide ((i:Int)+(k:Int) < (n:Int))=true:=decide_eq_true (by omega)
  have h2:(i:Int)+(k:Int) < (n:Int):=by omega
  have h3:IntKind.i64.wrap ((i:Int)+(k:Int))=(i:Int)+(k:Int):=IntWalk.i64_in _ (by omega)
  have h4:(0:Int)≤(i:Int)+(k:Int):=by omega
  have h5:((i:Int)+(k:Int)).toNat=i+k:=by omega
  by_cases hk1:kd=1
  ·obtain⟨q,hq⟩:∃ q,resW.contains y=q:=⟨_,rfl⟩
   have hb:(!q)=b:=by rw[←hb,←hq];unfold isNm;rw[decide_eq_true hk1];rfl
   have HQ:=Hd hq
   have h6:(kz==1)=true:=by rw[←hkz,hk1];rfl
   have HBB:=Hd hb
   clear hk hi hl hkz hk1 hq hb
   go_enter Tryz.func39,Tryz.ntmps39
   go_wp2_with fail
   go_region_held3 (fun w'=>w'.cell? ⟨p,0,none⟩=some (.slice (some ⟨g,0,none⟩) n c)∧w'.cell? ⟨p,1,none⟩=some (.int .i64 (i:Int))∧w'.cell? ⟨g,(i+k) * 3,none⟩=some (.int .i64 kz)∧w'.cell? ⟨g,(i+k) * 3+1,none⟩=some (.string ⟨y.toArray⟩)) (first | exact⟨c0,c1,d0,d1⟩ | exact⟨e0.trans c0,e1.trans c1,e2.trans d0,e3.trans d1⟩)
    (first
      | (go_at_call 17;refine (hok _ ?_).mono ?_;(first | exact HS.out | exact HS.out.drewN 1);rintro e w' ⟨rfl,rfl⟩)
      | (go_at_call 62;refine (rres_any y q HQ _).mono ?_;rintro e w2 ⟨rfl,hb2⟩;have HB2:=Hd hb2;have e0:=(bcell hb2).1 p 0 hlt0;have e1:=(bcell hb2).1 p 1 hlt0;have e2:=(bcell hb2).1 g ((i+k) * 3) (Nat.lt_trans hg hlt0);have e3:=(bcell hb2).1 g ((i+k) * 3+1) (Nat.lt_trans hg hlt0);clear hb2))
   go_wp2_with fail
   go_ret
   exact retN (congrArg Value.bool HBB.out) (below_drew (Lr _) HB2.out)
  ·have hb:false=b:=by rw[←hb];unfold isNm;rw[decide_eq_false hk1];rfl
   subst hb
   have h6:(kz==1)=false:=by rw[beq_eq_false_iff_ne];omega
   clear hk hi hl hkz hk1
   go_enter Tryz.func39,Tryz.ntmps39
   go_wp2_with fail
   go_quiet ((go_at_call 17;exact Calls.quiet_of_same (hok _ h)))
   go_wp2_with fail
   go_ret
   exact⟨rfl,below_drewN (Below.refl _ _) _⟩
theorem RSt.txt {ts:List Tk}{en p:Nat}{s:PS}{w:World}(h:RSt ts en p s w)(i:Nat):(ts.getD i tk0).text.length≤20000:=by
 obtain⟨_,_,_,_,_,_,h6⟩:=h
 by_cases hi:i < ts.length
 ·rw[List.getD_eq_getElem?_getD,Ge hi]
  exact h6 _ (List.getElem_mem hi)
 ·rw[List.getD_eq_getElem?_getD,List.getElem?_eq_none (by omega)]
  exact Nat.zero_le _
theorem zA9 (ts:List Tk)(en p:Nat)(s s1:PS)(nm:List UInt8)(hv:Hid (rNmV ts s=nm))(hs:Hid (rNmS ts s=s1))(w:World)(h:RSt ts en p s w) :
 Calls Tryz.prog 19 #[.pointer (some ⟨p,0,none⟩)] w (RAccP ts en p s1 (.string ⟨nm.toArray⟩) w):=by
 obtain rfl:=hv.out
 obtain rfl:=hs.out
 obtain⟨b,hb⟩:∃ b,rNm ts s 0=b:=⟨_,rfl⟩
 have HB:=Hd hb
 unfold rNmV rNmS
 rw[hb]
 clear hv hs
 cases b
 ·rw[if_neg (by decide),if_neg (by decide)]
  clear hb
  go_enter Tryz.func19,Tryz.ntmps19
  go_wp2_with fail
  refine (rnm_any ts en p s 0 (by decide) false HB _ h).mono ?_
  rintro e w1 ⟨rfl,hb1⟩
  have h1:=h.keep hb1
  have HB1:=Hd hb1
  clear hb1
  go_wp2_with fail
  refine (zB4 ts en p s _ h1).mono ?_
  rintro e w2 ⟨rfl,hg,hp⟩
  go_wp2_with fail
  go_ret
  exact raccP rfl (grown_to (zAa HB1.out _) hg) hp
 ·rw[if_pos rfl,if_pos rfl]
  have hlen:=zAo (rNm_inn hb)
  obtain⟨y,hy⟩:∃ y,(tkk ts s 0).text=y:=⟨_,rfl⟩
  rw[hy]
  have HY:Hid ((ts.getD s.i tk0).text=y):=Hd hy
  clear hb hy
  go_enter Tryz.func19,Tryz.ntmps19
  go_wp2_with fail
  refine (rnm_any ts en p s 0 (by decide) true HB _ h).mono ?_
  rintro e w1 ⟨rfl,hb1⟩
  have h1:=h.keep hb1
  have HB1:=Hd hb1
  obtain⟨_,_,_,c1,_,_,_,f1,_,_,_,hi,hl,_⟩:=h1.cells
  clear hb1
  obtain⟨hg,hp⟩:=radv h1 hlen
  have HG:=Hd hg
  have HP:=Hd hp
  go_wp2_with fail
  clear c1 f1
  generalize w1.setCell ⟨p,1,none⟩ (.int .i64 ((s.i:Int)+1))=W at hg hp HG HP ⊢
  obtain⟨A,c,c0,c1,_,_,_,_,_,_,ht,hi,hl,_⟩:=hp.cells
  obtain⟨g,rfl,hgp,_,d1,_⟩:=zCm ht (i:=s.i) (by have:=hlen.2;omega)
  rw[show ((adv s).i:Int)=(s.i:Int)+1 by simp[adv]] at c1
  rw[HY.out] at d1
  have hlt:=hlen.2
  obtain⟨i,hsi⟩:∃ i,s.i=i:=⟨_,rfl⟩
  rw[hsi] at c1 hlt d1
  obtain⟨n,hn⟩:∃ n,ts.length=n:=⟨_,rfl⟩
  rw[hn] at c0 hlt hl
  clear hsi hn hi ht hg hp HY
  have h2:(i:Int) < (n:Int):=by omega
  have h3:IntKind.i64.wrap ((i:Int)+1 - 1)=(i:Int):=by rw[show (i:Int)+1 - 1=(i:Int) by omega];exact IntWalk.i64_in _ (by omega)
  have h4:IntKind.i64.wrap (i:Int)=(i:Int):=IntWalk.i64_in _ (by omega)
  go_quiet (fail)
  go_wp2_with fail
  go_ret
  exact raccP rfl (grown_to (zAa HB1.out _) (grown_to HG.out (zAa (below_drewN (Below.refl _ _) _) _))) (HP.out.drewN _)
end Go.Proofs.YtpgnlfdindmopaaGreatDoor
