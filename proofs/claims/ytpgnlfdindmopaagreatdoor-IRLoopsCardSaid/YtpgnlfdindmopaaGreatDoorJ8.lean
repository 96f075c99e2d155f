/- Words and walks for the laws of the interpreter. -/
import Derived.Test.YtpgnlfdindmopaaGreatDoorJ7
import Derived.Deep.QuietTactic
import Derived.BigQuiet
import Derived.Test.YtpgnlfdindmopaaGreatDoorJ1
import Derived.Test.YtpgnlfdindmopaaGreatDoorJ2
namespace Go.Proofs.YtpgnlfdindmopaaGreatDoor
open Go.RowKit (wrap64 intOf)
open Go Go.RowKit WM LX PX
theorem stmt_all (ts:List Tk)(p:Nat)(n:Nat):WSs ts p n∧(∀ m,m≤n→WSt ts p m)∧WIf ts p n∧WWh ts p n∧WBl ts p n:=by
 induction n with
 | zero=>exact⟨fun _ _ _ _ h=>absurd h (by omega),fun m hm _ _ _ _ h=>absurd h (by omega),fun _ _ _ _ h=>absurd h (by omega),fun _ _ _ _ h=>absurd h (by omega),fun _ _ _ _ h=>absurd h (by omega)⟩
 | succ n ih =>
  obtain⟨hs,ht,hi,hw,hb⟩:=ih
  refine⟨statements_step ts p n ht,fun m hm=>?_,if_step ts p n hb,while_step ts p n hb,block_step ts p n hs⟩
  by_cases h:m≤n
  ·exact ht m h
  ·obtain rfl:m=n+1:=by omega
   exact statement_step ts p n hi hw
theorem statements_any (ts:List Tk)(p n:Nat):WSs ts p n:=(stmt_all ts p n).1
def RepA (_w:World)(_ok:Nat→Prop)(x:List UInt8 × Int)(cs:List Value):Prop:=cs=[.string ⟨x.1.toArray⟩,.int .i64 x.2]
theorem keepsA:Keeps RepA:=⟨fun h _ _=>h⟩
def RepF (w:World)(ok:Nat→Prop)(f:FN)(cs:List Value):Prop :=
 ∃ (A1:Option Addr) (L1 c1:Nat) (A2:Option Addr) (L2 c2:Nat) (A3:Option Addr) (L3 c3:Nat) (kd nn:Int) (nm:List UInt8) (op:Int) (A:Option Addr) (L c:Nat),
  cs=[.string ⟨f.name.toArray⟩,.slice A1 L1 c1,.slice A2 L2 c2,.slice A3 L3 c3,.int .i64 kd,.int .i64 nn,.string ⟨nm.toArray⟩,.int .i64 op,.slice A L c] ∧
  RepL RepN 1 w ok f.params (.slice A1 L1 c1)∧RepL RepN 1 w ok f.locals (.slice A2 L2 c2)∧RepL RepS 17 w ok f.body (.slice A3 L3 c3)∧RepE w ok f.value (exC kd nn nm op A L c)
theorem keepsF:Keeps RepF:=⟨fun ⟨A1,L1,c1,A2,L2,c2,A3,L3,c3,kd,nn,nm,op,A,L,c,h,h1,h2,h3,h4⟩ hok hw =>
 ⟨A1,L1,c1,A2,L2,c2,A3,L3,c3,kd,nn,nm,op,A,L,c,h,h1.keep keepsN hok hw,h2.keep keepsN hok hw,h3.keep keepsS hok hw,h4.keep hok hw⟩⟩
theorem arSize:(Tryz.prog.info? 75).map (·.size)=some 2:=by kernel_rfl
theorem fnSize:(Tryz.prog.info? 38).map (·.size)=some 9:=by kernel_rfl
theorem pgSize:(Tryz.prog.info? 26).map (·.size)=some 2:=by kernel_rfl
set_option maxRecDepth 100000
set_option maxHeartbeats 4000000
def ArP (ts:List Tk)(p:Nat)(q:(List UInt8 × Int) × PS)(w:World)(e:Ending)(w':World):Prop :=
 ∃ (nm:List UInt8) (n:Int),e=.returned (.agg #[.string ⟨nm.toArray⟩,.int .i64 n])∧(nm,n)=q.1∧w.grownBy w' (some p)∧PSt ts p q.2 w'
theorem array_any (ts:List Tk)(p:Nat)(s:PS)(q:(List UInt8 × Int) × PS)(hq:Hid (arF ts s=q))(w:World)(h:PSt ts p s w) :
 Calls Tryz.prog 218 #[.pointer (some ⟨p,0,none⟩)] w (ArP ts p q w):=by
 have hq:=hq.out
 unfold arF at hq
 obtain⟨nm0,hv⟩:∃ x,nmV ts s=x:=⟨_,rfl⟩
 obtain⟨s1,hs1⟩:∃ x,nmS ts s=x:=⟨_,rfl⟩
 have HV:=Hd hv
 have HS1:=Hd hs1
 rw[hv,hs1] at hq
 obtain⟨n0,hn⟩:∃ x,nuV ts s1=x:=⟨_,rfl⟩
 obtain⟨s2,hs2⟩:∃ x,nuS ts s1=x:=⟨_,rfl⟩
 have HN:=Hd hn
 have HS2:=Hd hs2
 rw[hn,hs2] at hq
 obtain⟨s3,hs3⟩:∃ x,exs ts s2 zA1=x:=⟨_,rfl⟩
 have HS3:=Hd hs3
 rw[hs3] at hq
 subst hq
 have o:=Own.start h 75 #[.string ⟨#[]⟩,.int .i64 0]
 clear hv hs1 hn hs2 hs3 h
 go_enter Tryz.func218,Tryz.ntmps218
 go_wp2_with fail
 refine (zBw ts p s s1 nm0 HV HS1 _ o.s).mono ?_
 rintro e w1 ⟨rfl,hg,hp⟩
 replace o:=o.acc hg hp
 clear hg hp
 go_wp2_with fail
 refine (pnumber_any ts p s1 s2 n0 HN HS2 _ o.s).mono ?_
 rintro e w2 ⟨rfl,hg,hp⟩
 replace o:=o.acc hg hp
 clear hg hp
 go_wp2_with fail
 refine (zAg ts p s2 s3 zA1 (by decide) HS3 _ o.s).mono ?_
 rintro e w3 ⟨rfl,hg,hp⟩
 replace o:=o.acc hg hp
 clear hg hp
 go_wp2_with (refine wpList_store_row rfl _ _ _ rfl w.heap.size #[.string ⟨nm0.toArray⟩,.int .i64 n0] rfl rfl _ _ o.r arSize rfl (by simp[Value.oneCell']) ?_)
 exact bodyPost_ret (results_cell_row rfl _ _ _ _ _ _ _ rfl (zBc o.r _) Tryz.underlying75 rfl arSize) rfl ⟨nm0,n0,rfl,rfl,zBf o.g (Lr _) _,row_pst o.s o.p _⟩
end Go.Proofs.YtpgnlfdindmopaaGreatDoor
namespace Go.Proofs.YtpgnlfdindmopaaGreatDoor
open Go.RowKit (wrap64 intOf)
open Go Go.RowKit WM LX PX
set_option maxRecDepth 100000
set_option maxHeartbeats 4000000
theorem pl_new {α:Type}{Rep:World→(Nat→Prop)→α→List Value→Prop}{sz g:Nat}{a b:World}{xs:List α}{v:Value}(h:RepL Rep sz b (Rg a.heap.size b.heap.size) xs v)(hk:Keeps Rep)(hg:g < a.heap.size):RepL Rep sz b (Rg (g+1) b.heap.size) xs v:=h.mono hk hg (Lr _)
theorem zA4 {α:Type}{Rep:World→(Nat→Prop)→α→List Value→Prop}{sz g p:Nat}{a b:World}{xs:List α}{v:Value}(h:RepL Rep sz a (Rg (g+1) a.heap.size) xs v)(hk:Keeps Rep)(hp:p < g)(hg:a.grownBy b (some p)):RepL Rep sz b (Rg (g+1) b.heap.size) xs v :=
 (h.acc hk hg (Nat.lt_succ_of_lt hp) (Lr _)).mono hk (Lr _) hg.size
theorem zAu {α:Type}{Rep:World→(Nat→Prop)→α→List Value→Prop}{sz g i:Nat}{a:World}{xs:List α}{v:Value}(h:RepL Rep sz a (Rg (g+1) a.heap.size) xs v)(hk:Keeps Rep)(u:Value):RepL Rep sz (a.setCell ⟨g,i,none⟩ u) (Rg (g+1) (a.setCell ⟨g,i,none⟩ u).heap.size) xs v :=
 h.keep hk (fun x hx=>⟨hx.1,by simp[World.setCell];exact hx.2⟩) (fun x hx=>Below.heap_setCell a _ u x (by show x≠g;have:=hx.1;omega))
theorem pe_new {g:Nat}{a b:World}{e:PE}{cs:List Value}(h:RepE b (Rg a.heap.size b.heap.size) e cs)(hg:g < a.heap.size):RepE b (Rg (g+1) b.heap.size) e cs:=h.mono hg (Lr _)
theorem pe_acc {g p:Nat}{a b:World}{e:PE}{cs:List Value}(h:RepE a (Rg (g+1) a.heap.size) e cs)(hp:p < g)(hg:a.grownBy b (some p)):RepE b (Rg (g+1) b.heap.size) e cs :=
 (h.grown hg (Nat.lt_succ_of_lt hp) (Lr _)).mono (Lr _) hg.size
theorem pe_set {g i:Nat}{a:World}{e:PE}{cs:List Value}(h:RepE a (Rg (g+1) a.heap.size) e cs)(u:Value):RepE (a.setCell ⟨g,i,none⟩ u) (Rg (g+1) (a.setCell ⟨g,i,none⟩ u).heap.size) e cs :=
 h.keep (fun x hx=>⟨hx.1,by simp[World.setCell];exact hx.2⟩) (fun x hx=>Below.heap_setCell a _ u x (by show x≠g;have:=hx.1;omega))
def FnP (ts:List Tk)(p:Nat)(q:FN × PS)(w:World)(e:Ending)(w':World):Prop :=
 ∃ cs:Array Value,e=.returned (.agg cs)∧cs.size=9∧cs.all (·.oneCell')=true∧RepF w' (Rg w.heap.size w'.heap.size) q.1 cs.toList∧w.grownBy w' (some p)∧PSt ts p q.2 w'
end Go.Proofs.YtpgnlfdindmopaaGreatDoor
namespace Go.Proofs.YtpgnlfdindmopaaGreatDoor
open Go.RowKit (wrap64 intOf)
open Go Go.RowKit WM LX PX
set_option maxRecDepth 100000
set_option maxHeartbeats 4000000
theorem function_yes (ts:List Tk)(p n:Nat)(s:PS)(q:FN × PS)(hq:Hid (fnF ts n s=q))(hm:5 * ms ts s+9≤n)(w:World)(h:PSt ts p s w)(hx:nx ts (pNF ts n (nmS ts s)).2 wVar=true) :
 Calls Tryz.prog 219 #[.pointer (some ⟨p,0,none⟩)] w (FnP ts p q w):=by
 have hq:=hq.out
 unfold fnF at hq
 obtain⟨nm0,hv⟩:∃ x,nmV ts s=x:=⟨_,rfl⟩
 obtain⟨s1,hs1⟩:∃ x,nmS ts s=x:=⟨_,rfl⟩
 have HV:=Hd hv
 have HS1:=Hd hs1
 have m1:=zCk (ts:=ts) s
 rw[hv,hs1] at hq
 rw[hs1] at m1 hx
 obtain⟨⟨ps,s2⟩,hp⟩:∃ x,pNF ts n s1=x:=⟨_,rfl⟩
 have HP:=Hd hp
 have m2:=ms_pN (ts:=ts) n s1
 rw[hp] at hq m2 hx
 dsimp only at hq m2 hx
 obtain⟨⟨lc,s3⟩,hl⟩:∃ x,fnL ts n s2=x:=⟨_,rfl⟩
 have m3:=ms_fnL (ts:=ts) n s2
 rw[hl] at hq m3
 dsimp only at hq m3
 obtain⟨s4,hs4⟩:∃ x,exs ts s3 cLc=x:=⟨_,rfl⟩
 have m4:=zAp (ts:=ts) s3 (x:=cLc) (by decide)
 rw[hs4] at hq m4
 obtain⟨⟨bd,s5⟩,hbo⟩:∃ x,ssF ts n s4=x:=⟨_,rfl⟩
 have HBo:=Hd hbo
 have m5:=(ms_st (ts:=ts) n).1 s4
 rw[hbo] at hq m5
 dsimp only at hq m5
 obtain⟨s6,hs6⟩:∃ x,exs ts s5 zAm=x:=⟨_,rfl⟩
 have HS6:=Hd hs6
 have m6:=zAp (ts:=ts) s5 (x:=zAm) (by decide)
 rw[hs6] at hq m6
 obtain⟨⟨ve,s7⟩,he⟩:∃ x,exF ts n s6=x:=⟨_,rfl⟩
 have HE:=Hd he
 rw[he] at hq
 dsimp only at hq
 obtain⟨s8,hs8⟩:∃ x,exs ts s7 zA1=x:=⟨_,rfl⟩
 have HS8:=Hd hs8
 rw[hs8] at hq
 obtain⟨s9,hs9⟩:∃ x,exs ts s8 cRc=x:=⟨_,rfl⟩
 have HS9:=Hd hs9
 rw[hs9] at hq
 subst hq
 have hP:ms ts s1+1≤n:=by omega
 have hB:5 * ms ts s4+7≤n:=by omega
 have hE:5 * ms ts s6+4≤n:=by omega
 have o:=Own.start h 38 #[.string ⟨#[]⟩,.slice none 0 0,.slice none 0 0,.slice none 0 0,.int .i64 0,.int .i64 0,.string ⟨#[]⟩,.int .i64 0,.slice none 0 0]
 have HL0:=Hd hl
 have HS40:=Hd hs4
 have HM3:=Hd m2
 clear hv hs1 hp hl hs4 hbo hs6 he hs8 hs9 h m1 m2 m3 m4 m5 m6
 have hl:=HL0.out
 unfold fnL at hl
 rw[if_pos hx] at hl
 have HX:=Hd hx
 have HL:=Hd hl
 have HS4:=HS40
 have hmv:=zAj (zA5 (by decide) hx)
 have hL:ms ts (adv s2)+1≤n:=by have:=HM3.out;omega
 clear hl hx HL0 hmv
 go_enter Tryz.func219,Tryz.ntmps219
 go_wp2_with fail
 refine (zBw ts p s s1 nm0 HV HS1 _ o.s).mono ?_
 rintro e w1 ⟨rfl,hg,hp⟩
 have hK:=Blk.new w1 38 #[.string ⟨nm0.toArray⟩,.slice none 0 0,.slice none 0 0,.slice none 0 0,.int .i64 0,.int .i64 0,.string ⟨#[]⟩,.int .i64 0,.slice none 0 0]
 have hwg:=Ll o.sz hg.size
 have hpg:=Nat.lt_trans o.p hwg
 replace o:=(o.acc hg hp).al (.cells #[.string ⟨nm0.toArray⟩,.slice none 0 0,.slice none 0 0,.slice none 0 0,.int .i64 0,.int .i64 0,.string ⟨#[]⟩,.int .i64 0,.slice none 0 0] 38)
 clear hg hp
 go_wp2_with fail
 generalize hgg:w1.heap.size=g at *
 refine (pnlist_any ts p n s1 _ HP hP _ o.s).mono ?_
 rintro e w2 ⟨A1,L1,c1,rfl,h1,hg,hp⟩
 have hlw:=hK.lt
 replace h1:=pl_new (g:=g) h1 keepsN hlw
 clear hlw
 replace o:=o.acc hg hp
 replace hK:=hK.gr hg (Nat.ne_of_lt hpg)
 clear hg hp
 obtain⟨a1,b1⟩:World.cell? w2 ⟨g,1,none⟩=some (.slice none 0 0)∧World.frozen? w2 ⟨g,1,none⟩=false:=⟨hK.cell 1,hK.free 1⟩
 go_wp2_with fail
 replace hK:=hK.set 1 (.slice A1 L1 c1)
 replace o:=o.far (a:=⟨g,1,none⟩) (by show w.heap.size < g;exact hwg) (.slice A1 L1 c1)
 replace h1:=zAu (i:=1) h1 keepsN (.slice A1 L1 c1)
 clear a1 b1
 refine (zAi ts p s2 wVar (by decide) HX _ o.s).mono ?_
 rintro e w3 ⟨rfl,hg,hp⟩
 replace o:=o.acc hg hp
 replace hK:=hK.gr hg (Nat.ne_of_lt hpg)
 replace h1:=zA4 h1 keepsN hpg hg
 clear hg hp
 go_wp2_with fail
 refine (nlist_any ts p n (adv s2) _ HL hL _ o.s).mono ?_
 rintro e w4 ⟨A2,L2,c2,rfl,h2,hg,hp⟩
 have hlw:=hK.lt
 replace h2:=pl_new (g:=g) h2 keepsN hlw
 clear hlw
 replace o:=o.acc hg hp
 replace hK:=hK.gr hg (Nat.ne_of_lt hpg)
 replace h1:=zA4 h1 keepsN hpg hg
 clear hg hp
 obtain⟨a2,b2⟩:World.cell? w4 ⟨g,2,none⟩=some (.slice none 0 0)∧World.frozen? w4 ⟨g,2,none⟩=false:=⟨hK.cell 2,hK.free 2⟩
 go_wp2_with fail
 replace hK:=hK.set 2 (.slice A2 L2 c2)
 replace o:=o.far (a:=⟨g,2,none⟩) (by show w.heap.size < g;exact hwg) (.slice A2 L2 c2)
 replace h1:=zAu (i:=2) h1 keepsN (.slice A2 L2 c2)
 replace h2:=zAu (i:=2) h2 keepsN (.slice A2 L2 c2)
 clear a2 b2
 refine (zAg ts p s3 s4 cLc (by decide) HS4 _ o.s).mono ?_
 rintro e w5 ⟨rfl,hg,hp⟩
 replace o:=o.acc hg hp
 replace hK:=hK.gr hg (Nat.ne_of_lt hpg)
 replace h1:=zA4 h1 keepsN hpg hg
 replace h2:=zA4 h2 keepsN hpg hg
 clear hg hp
 go_wp2_with fail
 refine (statements_any ts p n s4 _ _ HBo hB o.s).mono ?_
 rintro e w6 ⟨A3,L3,c3,rfl,h3,hg,hp⟩
 have hlw:=hK.lt
 replace h3:=pl_new (g:=g) h3 keepsS hlw
 clear hlw
 replace o:=o.acc hg hp
 replace hK:=hK.gr hg (Nat.ne_of_lt hpg)
 replace h1:=zA4 h1 keepsN hpg hg
 replace h2:=zA4 h2 keepsN hpg hg
 clear hg hp
 obtain⟨a3,b3⟩:World.cell? w6 ⟨g,3,none⟩=some (.slice none 0 0)∧World.frozen? w6 ⟨g,3,none⟩=false:=⟨hK.cell 3,hK.free 3⟩
 go_wp2_with fail
 replace hK:=hK.set 3 (.slice A3 L3 c3)
 replace o:=o.far (a:=⟨g,3,none⟩) (by show w.heap.size < g;exact hwg) (.slice A3 L3 c3)
 replace h1:=zAu (i:=3) h1 keepsN (.slice A3 L3 c3)
 replace h2:=zAu (i:=3) h2 keepsN (.slice A3 L3 c3)
 replace h3:=zAu (i:=3) h3 keepsS (.slice A3 L3 c3)
 clear a3 b3
 refine (zAg ts p s5 s6 zAm (by decide) HS6 _ o.s).mono ?_
 rintro e w7 ⟨rfl,hg,hp⟩
 replace o:=o.acc hg hp
 replace hK:=hK.gr hg (Nat.ne_of_lt hpg)
 replace h1:=zA4 h1 keepsN hpg hg
 replace h2:=zA4 h2 keepsN hpg hg
 replace h3:=zA4 h3 keepsS hpg hg
 clear hg hp
 go_wp2_with fail
 refine (zAq ts p n s6 _ _ HE hE o.s).mono ?_
 rintro e w8 ⟨kd,nn,nm,op,A,L,c,rfl,h4,hg,hp⟩
 have hlw:=hK.lt
 replace h4:=pe_new (g:=g) h4 hlw
 clear hlw
 replace o:=o.acc hg hp
 replace hK:=hK.gr hg (Nat.ne_of_lt hpg)
 replace h1:=zA4 h1 keepsN hpg hg
 replace h2:=zA4 h2 keepsN hpg hg
 replace h3:=zA4 h3 keepsS hpg hg
 clear hg hp
 obtain⟨a4,b4⟩:World.cell? w8 ⟨g,4,none⟩=some (.int .i64 0)∧World.frozen? w8 ⟨g,4,none⟩=false:=⟨hK.cell 4,hK.free 4⟩
 obtain⟨a5,b5⟩:World.cell? w8 ⟨g,5,none⟩=some (.int .i64 0)∧World.frozen? w8 ⟨g,5,none⟩=false:=⟨hK.cell 5,hK.free 5⟩
 obtain⟨a6,b6⟩:World.cell? w8 ⟨g,6,none⟩=some (.string ⟨#[]⟩)∧World.frozen? w8 ⟨g,6,none⟩=false:=⟨hK.cell 6,hK.free 6⟩
 obtain⟨a7,b7⟩:World.cell? w8 ⟨g,7,none⟩=some (.int .i64 0)∧World.frozen? w8 ⟨g,7,none⟩=false:=⟨hK.cell 7,hK.free 7⟩
 obtain⟨a8,b8⟩:World.cell? w8 ⟨g,8,none⟩=some (.slice none 0 0)∧World.frozen? w8 ⟨g,8,none⟩=false:=⟨hK.cell 8,hK.free 8⟩
 go_wp2_with fail
 replace hK:=hK.set 4 (.int .i64 kd)
 replace o:=o.far (a:=⟨g,4,none⟩) (by show w.heap.size < g;exact hwg) (.int .i64 kd)
 replace h1:=zAu (i:=4) h1 keepsN (.int .i64 kd)
 replace h2:=zAu (i:=4) h2 keepsN (.int .i64 kd)
 replace h3:=zAu (i:=4) h3 keepsS (.int .i64 kd)
 replace h4:=pe_set (i:=4) h4 (.int .i64 kd)
 replace hK:=hK.set 5 (.int .i64 nn)
 replace o:=o.far (a:=⟨g,5,none⟩) (by show w.heap.size < g;exact hwg) (.int .i64 nn)
 replace h1:=zAu (i:=5) h1 keepsN (.int .i64 nn)
 replace h2:=zAu (i:=5) h2 keepsN (.int .i64 nn)
 replace h3:=zAu (i:=5) h3 keepsS (.int .i64 nn)
 replace h4:=pe_set (i:=5) h4 (.int .i64 nn)
 replace hK:=hK.set 6 (.string ⟨nm.toArray⟩)
 replace o:=o.far (a:=⟨g,6,none⟩) (by show w.heap.size < g;exact hwg) (.string ⟨nm.toArray⟩)
 replace h1:=zAu (i:=6) h1 keepsN (.string ⟨nm.toArray⟩)
 replace h2:=zAu (i:=6) h2 keepsN (.string ⟨nm.toArray⟩)
 replace h3:=zAu (i:=6) h3 keepsS (.string ⟨nm.toArray⟩)
 replace h4:=pe_set (i:=6) h4 (.string ⟨nm.toArray⟩)
 replace hK:=hK.set 7 (.int .i64 op)
 replace o:=o.far (a:=⟨g,7,none⟩) (by show w.heap.size < g;exact hwg) (.int .i64 op)
 replace h1:=zAu (i:=7) h1 keepsN (.int .i64 op)
 replace h2:=zAu (i:=7) h2 keepsN (.int .i64 op)
 replace h3:=zAu (i:=7) h3 keepsS (.int .i64 op)
 replace h4:=pe_set (i:=7) h4 (.int .i64 op)
 replace hK:=hK.set 8 (.slice A L c)
 replace o:=o.far (a:=⟨g,8,none⟩) (by show w.heap.size < g;exact hwg) (.slice A L c)
 replace h1:=zAu (i:=8) h1 keepsN (.slice A L c)
 replace h2:=zAu (i:=8) h2 keepsN (.slice A L c)
 replace h3:=zAu (i:=8) h3 keepsS (.slice A L c)
 replace h4:=pe_set (i:=8) h4 (.slice A L c)
 have hK':Blk (World.setCell (World.setCell (World.setCell (World.setCell (World.setCell w8 ⟨g,4,none⟩ (.int .i64 kd)) ⟨g,5,none⟩ (.int .i64 nn)) ⟨g,6,none⟩ (.string ⟨nm.toArray⟩)) ⟨g,7,none⟩ (.int .i64 op)) ⟨g,8,none⟩ (.slice A L c)) g 38 #[.string ⟨nm0.toArray⟩,.slice A1 L1 c1,.slice A2 L2 c2,.slice A3 L3 c3,.int .i64 kd,.int .i64 nn,.string ⟨nm.toArray⟩,.int .i64 op,.slice A L c]:=hK
 clear hK
 have hK:=hK'
 clear hK'
 clear a4 b4 a5 b5 a6 b6 a7 b7 a8 b8
 refine (zAg ts p s7 s8 zA1 (by decide) HS8 _ o.s).mono ?_
 rintro e w9 ⟨rfl,hg,hp⟩
 replace o:=o.acc hg hp
 replace hK:=hK.gr hg (Nat.ne_of_lt hpg)
 replace h1:=zA4 h1 keepsN hpg hg
 replace h2:=zA4 h2 keepsN hpg hg
 replace h3:=zA4 h3 keepsS hpg hg
 replace h4:=pe_acc h4 hpg hg
 clear hg hp
 go_wp2_with fail
 refine (zAg ts p s8 s9 cRc (by decide) HS9 _ o.s).mono ?_
 rintro e w10 ⟨rfl,hg,hp⟩
 replace o:=o.acc hg hp
 replace hK:=hK.gr hg (Nat.ne_of_lt hpg)
 replace h1:=zA4 h1 keepsN hpg hg
 replace h2:=zA4 h2 keepsN hpg hg
 replace h3:=zA4 h3 keepsS hpg hg
 replace h4:=pe_acc h4 hpg hg
 clear hg hp
 go_wp2_with (first | (refine wpList_load_row rfl _ _ rfl g rfl _ _ _ _ hK Tryz.underlying38 rfl fnSize ?_) | (refine wpList_store_row rfl _ _ _ rfl w.heap.size #[.string ⟨nm0.toArray⟩,.slice A1 L1 c1,.slice A2 L2 c2,.slice A3 L3 c3,.int .i64 kd,.int .i64 nn,.string ⟨nm.toArray⟩,.int .i64 op,.slice A L c] rfl rfl _ _ o.r fnSize rfl (by simp[Value.oneCell']) ?_))
 have hfin:RepF w10 (Rg (g+1) w10.heap.size) ⟨nm0,ps,lc,bd,ve⟩ [.string ⟨nm0.toArray⟩,.slice A1 L1 c1,.slice A2 L2 c2,.slice A3 L3 c3,.int .i64 kd,.int .i64 nn,.string ⟨nm.toArray⟩,.int .i64 op,.slice A L c] :=
  ⟨A1,L1,c1,A2,L2,c2,A3,L3,c3,kd,nn,nm,op,A,L,c,rfl,h1,h2,h3,h4⟩
 exact bodyPost_ret (results_cell_row rfl _ _ _ _ _ _ _ rfl (zBc o.r _) Tryz.underlying38 rfl fnSize) rfl
  ⟨_,rfl,rfl,by simp[Value.oneCell'],keepsF.k hfin (fun x h=>⟨Nat.le_trans (Nat.le_of_lt hwg) (Nat.le_of_succ_le h.1),by rw[zBm];exact h.2⟩) (fun x h=>zBi _ _ _ _ (by have:=h.1;omega)),zBf o.g (Lr _) _,row_pst o.s o.p _⟩
end Go.Proofs.YtpgnlfdindmopaaGreatDoor
namespace Go.Proofs.YtpgnlfdindmopaaGreatDoor
open Go.RowKit (wrap64 intOf)
open Go Go.RowKit WM LX PX
set_option maxRecDepth 100000
set_option maxHeartbeats 4000000
theorem function_no (ts:List Tk)(p n:Nat)(s:PS)(q:FN × PS)(hq:Hid (fnF ts n s=q))(hm:5 * ms ts s+9≤n)(w:World)(h:PSt ts p s w)(hx:nx ts (pNF ts n (nmS ts s)).2 wVar=false) :
 Calls Tryz.prog 219 #[.pointer (some ⟨p,0,none⟩)] w (FnP ts p q w):=by
 have hq:=hq.out
 unfold fnF at hq
 obtain⟨nm0,hv⟩:∃ x,nmV ts s=x:=⟨_,rfl⟩
 obtain⟨s1,hs1⟩:∃ x,nmS ts s=x:=⟨_,rfl⟩
 have HV:=Hd hv
 have HS1:=Hd hs1
 have m1:=zCk (ts:=ts) s
 rw[hv,hs1] at hq
 rw[hs1] at m1 hx
 obtain⟨⟨ps,s2⟩,hp⟩:∃ x,pNF ts n s1=x:=⟨_,rfl⟩
 have HP:=Hd hp
 have m2:=ms_pN (ts:=ts) n s1
 rw[hp] at hq m2 hx
 dsimp only at hq m2 hx
 obtain⟨⟨lc,s3⟩,hl⟩:∃ x,fnL ts n s2=x:=⟨_,rfl⟩
 have m3:=ms_fnL (ts:=ts) n s2
 rw[hl] at hq m3
 dsimp only at hq m3
 obtain⟨s4,hs4⟩:∃ x,exs ts s3 cLc=x:=⟨_,rfl⟩
 have m4:=zAp (ts:=ts) s3 (x:=cLc) (by decide)
 rw[hs4] at hq m4
 obtain⟨⟨bd,s5⟩,hbo⟩:∃ x,ssF ts n s4=x:=⟨_,rfl⟩
 have HBo:=Hd hbo
 have m5:=(ms_st (ts:=ts) n).1 s4
 rw[hbo] at hq m5
 dsimp only at hq m5
 obtain⟨s6,hs6⟩:∃ x,exs ts s5 zAm=x:=⟨_,rfl⟩
 have HS6:=Hd hs6
 have m6:=zAp (ts:=ts) s5 (x:=zAm) (by decide)
 rw[hs6] at hq m6
 obtain⟨⟨ve,s7⟩,he⟩:∃ x,exF ts n s6=x:=⟨_,rfl⟩
 have HE:=Hd he
 rw[he] at hq
 dsimp only at hq
 obtain⟨s8,hs8⟩:∃ x,exs ts s7 zA1=x:=⟨_,rfl⟩
 have HS8:=Hd hs8
 rw[hs8] at hq
 obtain⟨s9,hs9⟩:∃ x,exs ts s8 cRc=x:=⟨_,rfl⟩
 have HS9:=Hd hs9
 rw[hs9] at hq
 subst hq
 have hP:ms ts s1+1≤n:=by omega
 have hB:5 * ms ts s4+7≤n:=by omega
 have hE:5 * ms ts s6+4≤n:=by omega
 have o:=Own.start h 38 #[.string ⟨#[]⟩,.slice none 0 0,.slice none 0 0,.slice none 0 0,.int .i64 0,.int .i64 0,.string ⟨#[]⟩,.int .i64 0,.slice none 0 0]
 have HL0:=Hd hl
 have HS40:=Hd hs4
 have HM3:=Hd m2
 clear hv hs1 hp hl hs4 hbo hs6 he hs8 hs9 h m1 m2 m3 m4 m5 m6
 have hl:=HL0.out
 unfold fnL at hl
 rw[if_neg (by rw[hx];decide)] at hl
 obtain⟨rfl,rfl⟩:[]=lc∧s2=s3:=⟨congrArg Prod.fst hl,congrArg Prod.snd hl⟩
 have HX:=Hd hx
 have HS4:=HS40
 clear hl hx HL0
 go_enter Tryz.func219,Tryz.ntmps219
 go_wp2_with fail
 refine (zBw ts p s s1 nm0 HV HS1 _ o.s).mono ?_
 rintro e w1 ⟨rfl,hg,hp⟩
 have hK:=Blk.new w1 38 #[.string ⟨nm0.toArray⟩,.slice none 0 0,.slice none 0 0,.slice none 0 0,.int .i64 0,.int .i64 0,.string ⟨#[]⟩,.int .i64 0,.slice none 0 0]
 have hwg:=Ll o.sz hg.size
 have hpg:=Nat.lt_trans o.p hwg
 replace o:=(o.acc hg hp).al (.cells #[.string ⟨nm0.toArray⟩,.slice none 0 0,.slice none 0 0,.slice none 0 0,.int .i64 0,.int .i64 0,.string ⟨#[]⟩,.int .i64 0,.slice none 0 0] 38)
 clear hg hp
 go_wp2_with fail
 generalize hgg:w1.heap.size=g at *
 refine (pnlist_any ts p n s1 _ HP hP _ o.s).mono ?_
 rintro e w2 ⟨A1,L1,c1,rfl,h1,hg,hp⟩
 have hlw:=hK.lt
 replace h1:=pl_new (g:=g) h1 keepsN hlw
 clear hlw
 replace o:=o.acc hg hp
 replace hK:=hK.gr hg (Nat.ne_of_lt hpg)
 clear hg hp
 obtain⟨a1,b1⟩:World.cell? w2 ⟨g,1,none⟩=some (.slice none 0 0)∧World.frozen? w2 ⟨g,1,none⟩=false:=⟨hK.cell 1,hK.free 1⟩
 go_wp2_with fail
 replace hK:=hK.set 1 (.slice A1 L1 c1)
 replace o:=o.far (a:=⟨g,1,none⟩) (by show w.heap.size < g;exact hwg) (.slice A1 L1 c1)
 replace h1:=zAu (i:=1) h1 keepsN (.slice A1 L1 c1)
 clear a1 b1
 refine (zAd ts p s2 wVar HX _ o.s).mono ?_
 rintro e w3 ⟨rfl,hg,hp⟩
 replace o:=o.acc hg hp
 replace hK:=hK.gr hg (Nat.ne_of_lt hpg)
 replace h1:=zA4 h1 keepsN hpg hg
 clear hg hp
 go_wp2_with fail
 refine (zAg ts p s2 s4 cLc (by decide) HS4 _ o.s).mono ?_
 rintro e w5 ⟨rfl,hg,hp⟩
 replace o:=o.acc hg hp
 replace hK:=hK.gr hg (Nat.ne_of_lt hpg)
 replace h1:=zA4 h1 keepsN hpg hg
 clear hg hp
 go_wp2_with fail
 refine (statements_any ts p n s4 _ _ HBo hB o.s).mono ?_
 rintro e w6 ⟨A3,L3,c3,rfl,h3,hg,hp⟩
 have hlw:=hK.lt
 replace h3:=pl_new (g:=g) h3 keepsS hlw
 clear hlw
 replace o:=o.acc hg hp
 replace hK:=hK.gr hg (Nat.ne_of_lt hpg)
 replace h1:=zA4 h1 keepsN hpg hg
 clear hg hp
 obtain⟨a3,b3⟩:World.cell? w6 ⟨g,3,none⟩=some (.slice none 0 0)∧World.frozen? w6 ⟨g,3,none⟩=false:=⟨hK.cell 3,hK.free 3⟩
 go_wp2_with fail
 replace hK:=hK.set 3 (.slice A3 L3 c3)
 replace o:=o.far (a:=⟨g,3,none⟩) (by show w.heap.size < g;exact hwg) (.slice A3 L3 c3)
 replace h1:=zAu (i:=3) h1 keepsN (.slice A3 L3 c3)
 replace h3:=zAu (i:=3) h3 keepsS (.slice A3 L3 c3)
 clear a3 b3
 refine (zAg ts p s5 s6 zAm (by decide) HS6 _ o.s).mono ?_
 rintro e w7 ⟨rfl,hg,hp⟩
 replace o:=o.acc hg hp
 replace hK:=hK.gr hg (Nat.ne_of_lt hpg)
 replace h1:=zA4 h1 keepsN hpg hg
 replace h3:=zA4 h3 keepsS hpg hg
 clear hg hp
 go_wp2_with fail
 refine (zAq ts p n s6 _ _ HE hE o.s).mono ?_
 rintro e w8 ⟨kd,nn,nm,op,A,L,c,rfl,h4,hg,hp⟩
 have hlw:=hK.lt
 replace h4:=pe_new (g:=g) h4 hlw
 clear hlw
 replace o:=o.acc hg hp
 replace hK:=hK.gr hg (Nat.ne_of_lt hpg)
 replace h1:=zA4 h1 keepsN hpg hg
 replace h3:=zA4 h3 keepsS hpg hg
 clear hg hp
 obtain⟨a4,b4⟩:World.cell? w8 ⟨g,4,none⟩=some (.int .i64 0)∧World.frozen? w8 ⟨g,4,none⟩=false:=⟨hK.cell 4,hK.free 4⟩
 obtain⟨a5,b5⟩:World.cell? w8 ⟨g,5,none⟩=some (.int .i64 0)∧World.frozen? w8 ⟨g,5,none⟩=false:=⟨hK.cell 5,hK.free 5⟩
 obtain⟨a6,b6⟩:World.cell? w8 ⟨g,6,none⟩=some (.string ⟨#[]⟩)∧World.frozen? w8 ⟨g,6,none⟩=false:=⟨hK.cell 6,hK.free 6⟩
 obtain⟨a7,b7⟩:World.cell? w8 ⟨g,7,none⟩=some (.int .i64 0)∧World.frozen? w8 ⟨g,7,none⟩=false:=⟨hK.cell 7,hK.free 7⟩
 obtain⟨a8,b8⟩:World.cell? w8 ⟨g,8,none⟩=some (.slice none 0 0)∧World.frozen? w8 ⟨g,8,none⟩=false:=⟨hK.cell 8,hK.free 8⟩
 go_wp2_with fail
 replace hK:=hK.set 4 (.int .i64 kd)
 replace o:=o.far (a:=⟨g,4,none⟩) (by show w.heap.size < g;exact hwg) (.int .i64 kd)
 replace h1:=zAu (i:=4) h1 keepsN (.int .i64 kd)
 replace h3:=zAu (i:=4) h3 keepsS (.int .i64 kd)
 replace h4:=pe_set (i:=4) h4 (.int .i64 kd)
 replace hK:=hK.set 5 (.int .i64 nn)
 replace o:=o.far (a:=⟨g,5,none⟩) (by show w.heap.size < g;exact hwg) (.int .i64 nn)
 replace h1:=zAu (i:=5) h1 keepsN (.int .i64 nn)
 replace h3:=zAu (i:=5) h3 keepsS (.int .i64 nn)
 replace h4:=pe_set (i:=5) h4 (.int .i64 nn)
 replace hK:=hK.set 6 (.string ⟨nm.toArray⟩)
 replace o:=o.far (a:=⟨g,6,none⟩) (by show w.heap.size < g;exact hwg) (.string ⟨nm.toArray⟩)
 replace h1:=zAu (i:=6) h1 keepsN (.string ⟨nm.toArray⟩)
 replace h3:=zAu (i:=6) h3 keepsS (.string ⟨nm.toArray⟩)
 replace h4:=pe_set (i:=6) h4 (.string ⟨nm.toArray⟩)
 replace hK:=hK.set 7 (.int .i64 op)
 replace o:=o.far (a:=⟨g,7,none⟩) (by show w.heap.size < g;exact hwg) (.int .i64 op)
 replace h1:=zAu (i:=7) h1 keepsN (.int .i64 op)
 replace h3:=zAu (i:=7) h3 keepsS (.int .i64 op)
 replace h4:=pe_set (i:=7) h4 (.int .i64 op)
 replace hK:=hK.set 8 (.slice A L c)
 replace o:=o.far (a:=⟨g,8,none⟩) (by show w.heap.size < g;exact hwg) (.slice A L c)
 replace h1:=zAu (i:=8) h1 keepsN (.slice A L c)
 replace h3:=zAu (i:=8) h3 keepsS (.slice A L c)
 replace h4:=pe_set (i:=8) h4 (.slice A L c)
 have hK':Blk (World.setCell (World.setCell (World.setCell (World.setCell (World.setCell w8 ⟨g,4,none⟩ (.int .i64 kd)) ⟨g,5,none⟩ (.int .i64 nn)) ⟨g,6,none⟩ (.string ⟨nm.toArray⟩)) ⟨g,7,none⟩ (.int .i64 op)) ⟨g,8,none⟩ (.slice A L c)) g 38 #[.string ⟨nm0.toArray⟩,.slice A1 L1 c1,.slice none 0 0,.slice A3 L3 c3,.int .i64 kd,.int .i64 nn,.string ⟨nm.toArray⟩,.int .i64 op,.slice A L c]:=hK
 clear hK
 have hK:=hK'
 clear hK'
 clear a4 b4 a5 b5 a6 b6 a7 b7 a8 b8
 refine (zAg ts p s7 s8 zA1 (by decide) HS8 _ o.s).mono ?_
 rintro e w9 ⟨rfl,hg,hp⟩
 replace o:=o.acc hg hp
 replace hK:=hK.gr hg (Nat.ne_of_lt hpg)
 replace h1:=zA4 h1 keepsN hpg hg
 replace h3:=zA4 h3 keepsS hpg hg
 replace h4:=pe_acc h4 hpg hg
 clear hg hp
 go_wp2_with fail
 refine (zAg ts p s8 s9 cRc (by decide) HS9 _ o.s).mono ?_
 rintro e w10 ⟨rfl,hg,hp⟩
 replace o:=o.acc hg hp
 replace hK:=hK.gr hg (Nat.ne_of_lt hpg)
 replace h1:=zA4 h1 keepsN hpg hg
 replace h3:=zA4 h3 keepsS hpg hg
 replace h4:=pe_acc h4 hpg hg
 clear hg hp
 go_wp2_with (first | (refine wpList_load_row rfl _ _ rfl g rfl _ _ _ _ hK Tryz.underlying38 rfl fnSize ?_) | (refine wpList_store_row rfl _ _ _ rfl w.heap.size #[.string ⟨nm0.toArray⟩,.slice A1 L1 c1,.slice none 0 0,.slice A3 L3 c3,.int .i64 kd,.int .i64 nn,.string ⟨nm.toArray⟩,.int .i64 op,.slice A L c] rfl rfl _ _ o.r fnSize rfl (by simp[Value.oneCell']) ?_))
 have hfin:RepF w10 (Rg (g+1) w10.heap.size) ⟨nm0,ps,[],bd,ve⟩ [.string ⟨nm0.toArray⟩,.slice A1 L1 c1,.slice none 0 0,.slice A3 L3 c3,.int .i64 kd,.int .i64 nn,.string ⟨nm.toArray⟩,.int .i64 op,.slice A L c] :=
  ⟨A1,L1,c1,none,0,0,A3,L3,c3,kd,nn,nm,op,A,L,c,rfl,h1,repL_nil _ _ _ _,h3,h4⟩
 exact bodyPost_ret (results_cell_row rfl _ _ _ _ _ _ _ rfl (zBc o.r _) Tryz.underlying38 rfl fnSize) rfl
  ⟨_,rfl,rfl,by simp[Value.oneCell'],keepsF.k hfin (fun x h=>⟨Nat.le_trans (Nat.le_of_lt hwg) (Nat.le_of_succ_le h.1),by rw[zBm];exact h.2⟩) (fun x h=>zBi _ _ _ _ (by have:=h.1;omega)),zBf o.g (Lr _) _,row_pst o.s o.p _⟩
end Go.Proofs.YtpgnlfdindmopaaGreatDoor
namespace Go.Proofs.YtpgnlfdindmopaaGreatDoor
open Go.RowKit (wrap64 intOf)
open Go Go.RowKit WM LX PX
theorem function_any (ts:List Tk)(p n:Nat)(s:PS)(q:FN × PS)(hq:Hid (fnF ts n s=q))(hm:5 * ms ts s+9≤n)(w:World)(h:PSt ts p s w) :
 Calls Tryz.prog 219 #[.pointer (some ⟨p,0,none⟩)] w (FnP ts p q w):=by
 cases hx:nx ts (pNF ts n (nmS ts s)).2 wVar with
 | true=>exact function_yes ts p n s q hq hm w h hx
 | false=>exact function_no ts p n s q hq hm w h hx
structure Two (B:Nat)(xa:List (List UInt8 × Int))(ca:List (List Value))(va:Value)(xf:List FN)(cf:List (List Value))(vf:Value)(w:World):Prop where
 a:Coll RepA 2 75 B xa ca va w
 o:w.ownsRow B 38 9 vf cf.length cf.flatten
 l:xf.length=cf.length
 s:∀ cs∈cf,cs.length=9
 r:∀ (i:Nat) (x:FN) (cs:List Value),xf[i]?=some x→cf[i]?=some cs→RepF w (fun g=>B≤g∧g < w.heap.size∧vf.ownBlock≠some g∧va.ownBlock≠some g) x cs
 d:∀ g,va.ownBlock=some g→vf.ownBlock≠some g
section
variable {B p:Nat} {xa:List (List UInt8 × Int)} {ca:List (List Value)} {va va':Value} {xf:List FN} {cf:List (List Value)} {vf vf':Value} {w w1 w':World}
theorem two_nil (B:Nat)(w:World):Two B [] [] (.slice none 0 0) [] [] (.slice none 0 0) w :=
 ⟨coll_nil _ _ _ _ _,World.ownsRow_nil _ _ _ _,rfl,fun _ h=>(by cases h),fun i x cs h=>(by simp at h),fun g h=>by simp[Value.ownBlock] at h⟩
theorem own_p {e:TypeId}{size n:Nat}{v:Value}{xs:List Value}(h:w.ownsRow B e size v n xs)(hg:w.grownBy w' (some p))(hp:p < B):w'.ownsRow B e size v n xs :=
 h.kept hg (by
  cases hv:v.ownBlock with
  | none=>exact Or.inl rfl
  | some k=>exact Or.inr (fun e=>by injection e with e;have:=(h.lt k hv).1;omega))
theorem Two.grown (t:Two B xa ca va xf cf vf w)(hg:w.grownBy w' (some p))(hp:p < B):Two B xa ca va xf cf vf w' :=
 ⟨t.a.grown keepsA hg hp,own_p t.o hg hp,t.l,t.s,fun i x cs hx hc=>keepsF.k (t.r i x cs hx hc) (fun g h=>⟨h.1,Ll h.2.1 hg.size,h.2.2⟩) (fun g h=>hg.block g h.2.1 (by intro e;injection e with e;have:=h.1;omega)),t.d⟩
theorem Two.snocA {o:Obj}{x:List UInt8 × Int}{cs:List Value}(t:Two B xa ca va xf cf vf w1)(hx:cs=[.string ⟨x.1.toArray⟩,.int .i64 x.2])
 (hown:w'.ownsRow B 75 2 va' (ca.length+1) (ca.flatten++cs)) (hg:(w1.alloc o).grownBy w' va.ownBlock) (hv':va'.ownBlock=va.ownBlock∨va'.ownBlock=some (w1.alloc o).heap.size):Two B (xa++[x]) (ca++[cs]) va' xf cf vf w':=by
 have hz:w1.heap.size < (w1.alloc o).heap.size:=by rw[World.size_alloc];omega
 have hz2:=hg.size
 have hkeep:∀ g,g < w1.heap.size→va.ownBlock≠some g→w'.heap[g]?=w1.heap[g]?:=fun g h1 h2 =>
  (hg.block g (by omega) (fun e=>h2 e.symm)).trans (Below.heap_alloc _ _ _ h1)
 have hno:∀ g,g < w1.heap.size→va.ownBlock≠some g→va'.ownBlock≠some g:=fun g h1 h2 h3=>by
  rcases hv' with e | e
  ·exact h2 (e ▸ h3)
  ·rw[e] at h3;injection h3 with h3;omega
 refine⟨?_,?_,t.l,t.s,fun i y c hy hc=>keepsF.k (t.r i y c hy hc) (fun g h=>⟨h.1,by have:=h.2.1;omega,h.2.2.1,hno g h.2.1 h.2.2.2⟩) (fun g h=>hkeep g h.2.1 h.2.2.2),fun g h=>?_⟩
 ·refine⟨by simpa using hown,by simp[t.a.len],fun c hc=>?_,fun i y c hy hc=>?_⟩
  ·rcases List.mem_append.1 hc with h | h
   ·exact t.a.szs c h
   ·rw[List.mem_singleton] at h;rw[h,hx];rfl
  ·by_cases hi:i < xa.length
   ·rw[List.getElem?_append_left hi] at hy
    rw[List.getElem?_append_left (by rw[←t.a.len];exact hi)] at hc
    exact t.a.rep i y c hy hc
   ·rw[List.getElem?_append_right (by omega)] at hy
    rw[List.getElem?_append_right (by rw[←t.a.len];omega)] at hc
    have hi2:i=xa.length:=by
     have:=(Gs.1 hy).1
     simp at this;omega
    subst hi2
    rw[t.a.len] at hc
    simp at hy hc
    subst hy hc
    exact hx
 ·refine (t.o.alloc o).kept hg ?_
  cases hv:vf.ownBlock with
  | none=>exact Or.inl rfl
  | some k=>exact Or.inr (fun e=>t.d k e.symm hv)
 ·rcases hv' with e | e
  ·exact t.d g (e ▸ h)
  ·rw[e] at h
   injection h with h
   intro hf
   have:=(t.o.lt g hf).2
   omega
theorem Two.snocF {o:Obj}{x:FN}{cs:List Value}{lo:Nat}(t:Two B xa ca va xf cf vf w1)(hr:RepF w1 (Rg lo w1.heap.size) x cs)(hl:B≤lo)(hva:∀ k,va.ownBlock=some k→k < lo)(hvf:∀ k,vf.ownBlock=some k→k < lo)(hs:cs.length=9)
 (hown:w'.ownsRow B 38 9 vf' (cf.length+1) (cf.flatten++cs)) (hg:(w1.alloc o).grownBy w' vf.ownBlock) (hv':vf'.ownBlock=vf.ownBlock∨vf'.ownBlock=some (w1.alloc o).heap.size):Two B xa ca va (xf++[x]) (cf++[cs]) vf' w':=by
 have hz:w1.heap.size < (w1.alloc o).heap.size:=by rw[World.size_alloc];omega
 have hz2:=hg.size
 have hkeep:∀ g,g < w1.heap.size→vf.ownBlock≠some g→w'.heap[g]?=w1.heap[g]?:=fun g h1 h2 =>
  (hg.block g (by omega) (fun e=>h2 e.symm)).trans (Below.heap_alloc _ _ _ h1)
 have hno:∀ g,g < w1.heap.size→vf.ownBlock≠some g→vf'.ownBlock≠some g:=fun g h1 h2 h3=>by
  rcases hv' with e | e
  ·exact h2 (e ▸ h3)
  ·rw[e] at h3;injection h3 with h3;omega
 refine⟨⟨?_,t.a.len,t.a.szs,fun i y c hy hc=>t.a.rep i y c hy hc⟩,by simpa using hown,by simp[t.l],fun c hc=>?_,fun i y c hy hc=>?_,fun g h=>hno g (t.a.own.lt g h).2 (t.d g h)⟩
 ·refine (t.a.own.alloc o).kept hg ?_
  cases hv:va.ownBlock with
  | none=>exact Or.inl rfl
  | some k=>exact Or.inr (fun e=>t.d k hv e.symm)
 ·rcases List.mem_append.1 hc with h | h
  ·exact t.s c h
  ·rw[List.mem_singleton] at h;rw[h,hs]
 ·by_cases hi:i < xf.length
  ·rw[List.getElem?_append_left hi] at hy
   rw[List.getElem?_append_left (by rw[←t.l];exact hi)] at hc
   exact keepsF.k (t.r i y c hy hc) (fun g h=>⟨h.1,by have:=h.2.1;omega,hno g h.2.1 h.2.2.1,h.2.2.2⟩) (fun g h=>hkeep g h.2.1 h.2.2.1)
  ·rw[List.getElem?_append_right (by omega)] at hy
   rw[List.getElem?_append_right (by rw[←t.l];omega)] at hc
   have hi2:i=xf.length:=by
    have:=(Gs.1 hy).1
    simp at this;omega
   subst hi2
   rw[t.l] at hc
   simp at hy hc
   subst hy hc
   have hne:∀ g,lo≤g→vf.ownBlock≠some g:=fun g h e=>by have:=hvf g e;omega
   have hne2:∀ g,lo≤g→va.ownBlock≠some g:=fun g h e=>by have:=hva g e;omega
   exact keepsF.k hr (fun g h=>⟨Nat.le_trans hl h.1,by have:=h.2;omega,hno g h.2 (hne g h.1),hne2 g h.1⟩) (fun g h=>hkeep g h.2 (hne g h.1))
theorem Two.formF (t:Two B xa ca va xf cf vf w):∃ A L cp,vf=.slice A L cp:=by
 rcases t.o.2 with ⟨rfl,_⟩ | ⟨g,cap,cur,hv,_⟩
 ·exact⟨_,_,_,rfl⟩
 ·exact⟨_,_,_,hv⟩
theorem Two.outF (t:Two B xa ca va xf cf vf w):RepL RepF 9 w (Rg B w.heap.size) xf vf:=by
 refine⟨fun i=>cf.getD i [],?_,fun i x hx=>?_⟩
 ·rw[t.l];exact rowF_own t.o rfl t.s
 ·have hi:i < cf.length:=by rw[←t.l];exact (Gs.1 hx).1
  have hci:cf[i]?=some (cf.getD i []):=by rw[List.getD_eq_getElem?_getD,Ge hi];rfl
  exact keepsF.k (t.r i x _ hx hci) (fun g h=>⟨h.1,h.2.1⟩) (fun _ _=>rfl)
end
theorem wp_app {P:Program}{Q:Exit→Act→World→Prop}{K:Act→World→Prop}{o:Oper}{a:Act}{w:World}(s x:Operand)(t:TypeId)(ho:o.op=.call { callee:=.builtin .append,args:=#[s,x],argTypes:=#[t,t] })
 (B:Nat) (e:TypeId) (i:TypeInfo) (z:Value) (size bytes:Nat) (ht:P.underlying t=some (.slice e)) (hi:P.info? e=some i) (hz:i.zero=some z) (hsize:i.size=size) (hby:i.bytes=bytes) (hzs:z.cells.size=size) (hsz:0 < size)
 (v:Value) (n:Nat) (xs:List Value) (hs:a.eval s=v) (hown:w.ownsRow B e size v n xs) (ad:Addr) (c:Nat) (news:List Value) (hx:a.eval x=.slice (some ad) 1 c) (hl:news.length=1 * size)
 (hnews:∀ j u,news[j]?=some u→w.cell? (ad.add j)=some u) (h1:∀ u∈news,u.oneCell'=true) (h63:n+1≤maxLen) (hb:(n+1) * bytes≤140737488355328) (hB:B≤w.heap.size)
 (h:∀ v' w',w'.ownsRow B e size v' (n+1) (xs++news)→w.grownBy w' v.ownBlock→(v'.ownBlock=v.ownBlock∨v'.ownBlock=some w.heap.size)→K (a.put o.dst v') w'):o.wp P a w K Q:=by
 obtain⟨v',w',hr,h2,h3,_,h5⟩:=run_append_own_at (P:=P) w B t o.type e i z size bytes ht hi hz hsize hby hzs hsz v n xs hown ad 1 c news hl hnews h1 h63 hb hB
 unfold Oper.wp execOp
 simp only[ho,resolve,invoke,builtin,Sem.run_bind,Sem.run_pure,Result.andThen_ok,List.map_toArray,List.map_cons,List.map_nil,hs,hx,hr]
 exact h v' w' h2 h3 h5
end Go.Proofs.YtpgnlfdindmopaaGreatDoor
namespace Go.Proofs.YtpgnlfdindmopaaGreatDoor
open Go.RowKit (wrap64 intOf)
open Go Go.RowKit WM LX PX
set_option maxRecDepth 100000
set_option maxHeartbeats 4000000
theorem arInfo:(Tryz.prog.info? 75).map (fun i=>(i.zero,i.size,i.bytes))=some (some (.agg #[.string ⟨#[]⟩,.int .i64 0]),2,24):=by kernel_rfl
theorem fnInfo:(Tryz.prog.info? 38).map (fun i=>(i.zero,i.size,i.bytes))=some (some (.agg #[.string ⟨#[]⟩,.slice none 0 0,.slice none 0 0,.slice none 0 0,.int .i64 0,.int .i64 0,.string ⟨#[]⟩,.int .i64 0,.slice none 0 0]),9,152):=by kernel_rfl
theorem Own.rowg {ts:List Tk}{p:Nat}{q:PS}{t:TypeId}{cs:Array Value}{w a b:World}{row:Option Nat}(o:Own ts p q t cs w a)(g:a.grownBy b row)(hrow:∀ k,row=some k→w.heap.size < k):Own ts p q t cs w b :=
 ⟨zCt o.g g (fun k hk=>Nat.le_of_lt (hrow k hk)),o.s.row g (fun k hk=>Nat.lt_trans o.p (hrow k hk)),(g.block _ o.r.lt (fun e=>by have:=hrow _ e.symm;omega)).trans o.r,o.p⟩
theorem Two.far1 {B:Nat}{xa:List (List UInt8 × Int)}{ca:List (List Value)}{va:Value}{xf:List FN}{cf:List (List Value)}{vf:Value}{w1:World}(t:Two B xa ca va xf cf vf w1){a:Addr}(ha:a.block < B)(u:Value):Two B xa ca va xf cf vf (w1.setCell a u) :=
 t.grown (p:=a.block) ⟨rfl,rfl,rfl,by simp[World.setCell],fun i _ hne=>Below.heap_setCell w1 a u i (fun e=>hne (by rw[e]))⟩ ha
def PgP (ts:List Tk)(p:Nat)(q:PG × PS)(w:World)(e:Ending)(w':World):Prop :=
 ∃ A L c A' L' c',e=.returned (.agg #[.slice A L c,.slice A' L' c'])∧RepL RepA 2 w' (Rg w.heap.size w'.heap.size) q.1.arrays (.slice A L c)∧RepL RepF 9 w' (Rg w.heap.size w'.heap.size) q.1.funcs (.slice A' L' c')∧w.grownBy w' (some p)∧PSt ts p q.2 w'
abbrev pg0:Array Value:=#[.slice none 0 0,.slice none 0 0]
def PgR (ts:List Tk)(p:Nat)(q:PG × PS)(w:World)(k:Nat)(wr:World):Prop :=
 ∃ (s':PS) (xa:List (List UInt8 × Int)) (ca:List (List Value)) (va:Value) (xf:List FN) (cf:List (List Value)) (vf:Value),
  xa++(pgF ts k s').1.arrays=q.1.arrays∧xf++(pgF ts k s').1.funcs=q.1.funcs∧(pgF ts k s').2=q.2∧5 * ms ts s'+10≤k∧xa.length+xf.length+ms ts s'≤ts.length+2 ∧
  Own ts p s' 26 pg0 w wr∧Blk wr (w.heap.size+1) 26 #[va,vf]∧Two (w.heap.size+2) xa ca va xf cf vf wr
theorem PSt.bnd {ts:List Tk}{p:Nat}{s:PS}{w:World}(h:PSt ts p s w):∃ A c,w.cell? ⟨p,0,none⟩=some (.slice A ts.length c)∧w.cell? ⟨p,1,none⟩=some (.int .i64 (s.i:Int))∧w.cell? ⟨p,2,none⟩=some (.bool s.f)∧s.i≤ts.length∧ts.length≤20000:=by
 obtain⟨A,c,hb,_,_,h4,h5,_⟩:=h
 obtain⟨c0,c1,c2,_⟩:=hb.cells3
 exact⟨A,c,c0,c1,c2,h4,h5⟩
theorem pg_done {ts:List Tk}{p:Nat}{q:PG × PS}{s':PS}{w wr:World}{xa:List (List UInt8 × Int)}{ca:List (List Value)}{A:Option Addr}{L c:Nat}{xf:List FN}{cf:List (List Value)}{A':Option Addr}{L' c':Nat}
 (o:Own ts p s' 26 pg0 w wr) (t:Two (w.heap.size+2) xa ca (.slice A L c) xf cf (.slice A' L' c') wr) (h1:xa=q.1.arrays) (h2:xf=q.1.funcs) (h3:s'=q.2) :
 Blk (wr.setRow w.heap.size #[.slice A L c,.slice A' L' c']) w.heap.size 26 #[.slice A L c,.slice A' L' c']∧PgP ts p q w (.returned (.agg #[.slice A L c,.slice A' L' c'])) (wr.setRow w.heap.size #[.slice A L c,.slice A' L' c']):=by
 subst h1 h2 h3
 refine⟨zBc o.r _,A,L,c,A',L',c',rfl,?_,?_,zBf o.g (Lr _) _,row_pst o.s o.p _⟩
 ·exact (t.a.out keepsA).keep keepsA (fun g h=>⟨by have:=h.1;omega,by rw[zBm];exact h.2⟩) (fun g h=>zBi _ _ _ _ (by have:=h.1;omega))
 ·exact t.outF.keep keepsF (fun g h=>⟨by have:=h.1;omega,by rw[zBm];exact h.2⟩) (fun g h=>zBi _ _ _ _ (by have:=h.1;omega))
theorem pg_stop {ts:List Tk}{k:Nat}{s:PS}(h:(s.f||decide (ts.length≤s.i))=true):pgF ts (k+1) s=(⟨[],[]⟩,s):=by rw[pgF,if_pos h]
theorem pg_arr {ts:List Tk}{k:Nat}{s s1:PS}{a:List UInt8 × Int}(h:(s.f||decide (ts.length≤s.i))=false)(hx:nx ts s zB9=true)(ha:arF ts (adv s)=(a,s1)):pgF ts (k+1) s=(⟨a :: (pgF ts k s1).1.arrays,(pgF ts k s1).1.funcs⟩,(pgF ts k s1).2):=by rw[pgF,h,hx,ha];rfl
theorem pg_fun {ts:List Tk}{k:Nat}{s s1:PS}{f:FN}(h:(s.f||decide (ts.length≤s.i))=false)(hx:nx ts s zB9=false)(hy:nx ts s zCp=true)(ha:fnF ts k (adv s)=(f,s1)):pgF ts (k+1) s=(⟨(pgF ts k s1).1.arrays,f :: (pgF ts k s1).1.funcs⟩,(pgF ts k s1).2):=by rw[pgF,h,hx,hy,ha];rfl
theorem pg_bad {ts:List Tk}{k:Nat}{s:PS}(h:(s.f||decide (ts.length≤s.i))=false)(hx:nx ts s zB9=false)(hy:nx ts s zCp=false):pgF ts (k+1) s=(⟨[],[]⟩,fl s):=by rw[pgF,h,hx,hy];rfl
theorem pg_fl {ts:List Tk}{k:Nat}{s:PS}:pgF ts k (fl s)=(⟨[],[]⟩,fl s):=by
 cases k with
 | zero=>rfl
 | succ k=>exact pg_stop (by simp[fl])
theorem program_any (ts:List Tk)(p n:Nat)(s:PS)(q:PG × PS)(hq:Hid (pgF ts n s=q))(hm:5 * ms ts s+10≤n)(w:World)(h:PSt ts p s w) :
 Calls Tryz.prog 202 #[.pointer (some ⟨p,0,none⟩)] w (PgP ts p q w):=by
 have hq:=hq.out
 have hml:=ms_le ts s
 have hfew:=h.few
 have o0:=(Own.start h 26 pg0).al (.cells pg0 26)
 have hK0:Blk ((w.alloc (.cells pg0 26)).alloc (.cells pg0 26)) (w.heap.size+1) 26 pg0:=blk_at (by simp) _ _
 have H0:Hid (PgR ts p q w n ((w.alloc (.cells pg0 26)).alloc (.cells pg0 26))):=Hd ⟨s,[],[],.slice none 0 0,[],[],.slice none 0 0,by rw[hq];rfl,by rw[hq];rfl,by rw[hq],hm,by simp;omega,o0,hK0,two_nil _ _⟩
 have hpw:=h.lt
 clear hq h o0 hK0
 obtain⟨i0,hi,hz0,hz1,hz2⟩:=info_parts arInfo
 obtain⟨i1,gi,gz0,gz1,gz2⟩:=info_parts fnInfo
 go_enter Tryz.func202,Tryz.ntmps202
 go_wp2_with fail
 go_loopg [] n (fun k wr=>PgR ts p q w k wr)
 case atStart=>exact H0.out
 case round =>
  clear H0
  obtain⟨s',xa,ca,va,xf,cf,vf,hA,hF,hS,hk,hln,o,hK,ht⟩:=hrel
  obtain⟨m,rfl⟩:∃ m,gk=m+1:=⟨gk - 1,by omega⟩
  obtain⟨At,ct,t0,t1,t2,hil,hl2⟩:=o.s.bnd
  by_cases hst:(s'.f||decide (ts.length≤s'.i))=true
  ·rw[pg_stop hst] at hA hF hS
   have hA:xa=q.1.arrays:=by simpa using hA
   have hF:xf=q.1.funcs:=by simpa using hF
   obtain⟨A,L,c,rfl⟩:=ht.a.form
   obtain⟨A',L',c',rfl⟩:=ht.formF
   have HA:=Hd hA
   have HF:=Hd hF
   have HS:=Hd hS
   have hcs:s'.f=true∨(s'.f=false∧ts.length≤s'.i):=by
    cases hf:s'.f with
    | true=>exact Or.inl rfl
    | false=>rw[hf] at hst;exact Or.inr ⟨rfl,by simpa using hst⟩
   obtain⟨i,f⟩:=s'
   dsimp only at t1 t2 hcs hil
   clear hA hF hS hst
   obtain⟨nn,hnn⟩:∃ nn,ts.length=nn:=⟨_,rfl⟩
   rw[hnn] at t0 hcs hl2 hil
   rcases hcs with rfl | ⟨rfl,hle⟩
   ·clear hnn
    go_wp2_with fail
    go_quiet (fail)
    replace o:=o.low (below_drewN (Below.refl _ _) nq)
    replace hK:=hK.drewN nq
    replace ht:=ht.grown (p:=p) (zAa (below_drewN (Below.refl _ _) nq) _) (by omega)
    go_wp2_with (first | (refine wpList_load_row rfl _ _ rfl (w.heap.size+1) rfl _ _ _ _ hK Tryz.underlying26 rfl pgSize ?_) | (refine wpList_store_row rfl _ _ _ rfl w.heap.size #[.slice A L c,.slice A' L' c'] rfl rfl _ _ o.r pgSize rfl (by simp[Value.oneCell']) ?_))
    obtain⟨hk,hx⟩:=pg_done o ht HA.out HF.out HS.out
    exact bodyPost_ret (results_cell_row rfl _ _ _ _ _ _ _ rfl hk Tryz.underlying26 rfl pgSize) rfl hx
   ·have e1:decide ((i:Int) < (nn:Int))=false:=decide_eq_false (by omega)
    have e2:¬ (i:Int) < (nn:Int):=by omega
    clear hnn
    go_wp2_with fail
    go_quiet (fail)
    replace o:=o.low (below_drewN (Below.refl _ _) nq)
    replace hK:=hK.drewN nq
    replace ht:=ht.grown (p:=p) (zAa (below_drewN (Below.refl _ _) nq) _) (by omega)
    go_wp2_with (first | (refine wpList_load_row rfl _ _ rfl (w.heap.size+1) rfl _ _ _ _ hK Tryz.underlying26 rfl pgSize ?_) | (refine wpList_store_row rfl _ _ _ rfl w.heap.size #[.slice A L c,.slice A' L' c'] rfl rfl _ _ o.r pgSize rfl (by simp[Value.oneCell']) ?_))
    obtain⟨hk,hx⟩:=pg_done o ht HA.out HF.out HS.out
    exact bodyPost_ret (results_cell_row rfl _ _ _ _ _ _ _ rfl hk Tryz.underlying26 rfl pgSize) rfl hx
  ·have hst:(s'.f||decide (ts.length≤s'.i))=false:=by simpa using hst
   have hff:s'.f=false∧s'.i < ts.length:=by simpa using hst
   obtain⟨nn,hnn⟩:∃ nn,ts.length=nn:=⟨_,rfl⟩
   have e1:decide ((s'.i:Int) < (nn:Int))=true:=decide_eq_true (by omega)
   have e2:(s'.i:Int) < (nn:Int):=by omega
   rw[hff.1] at t2
   rw[hnn] at t0
   have HFF:=Hd hff
   have HST:=Hd hst
   have HNN:=Hd hnn
   clear hff hst hnn
   by_cases hx:nx ts s' zB9=true
   ·obtain⟨⟨⟨an0,ai0⟩,s1⟩,hc⟩:∃ x,arF ts (adv s')=x:=⟨_,rfl⟩
    have HC:=Hd hc
    have hmv:=zAj HFF.out
    have hm2:=ms_ar (ts:=ts) (adv s')
    rw[hc] at hm2
    rw[pg_arr HST.out hx hc] at hA hF hS
    dsimp only at hm2 hA hF hS
    have HX:=Hd hx
    have HA:=Hd hA
    have HF:=Hd hF
    have HS:=Hd hS
    clear hx hc hA hF hS
    go_wp2_with fail
    go_quiet (fail)
    replace o:=o.low (below_drewN (Below.refl _ _) nq)
    replace hK:=hK.drewN nq
    replace ht:=ht.grown (p:=p) (zAa (below_drewN (Below.refl _ _) nq) _) (by omega)
    generalize hwq:wr.drewN nq=wq at *
    clear hwq t0 t1 t2
    go_wp2_with fail
    refine (zAi ts p s' zB9 (by decide) HX _ o.s).mono ?_
    rintro e w2 ⟨rfl,hg,hp⟩
    replace o:=o.acc hg hp
    replace hK:=hK.gr hg (by omega)
    replace ht:=ht.grown hg (by omega)
    clear hg hp
    go_wp2_with fail
    have oD:Own ts p (adv s') 26 pg0 w w2.drew:=o.low (below_drewN (Below.refl _ _) 1)
    have hKD:Blk w2.drew (w.heap.size+1) 26 #[va,vf]:=hK
    have htD:=ht.grown (w':=w2.drew) (p:=p) (zAa (below_drewN (Below.refl _ _) 1) _) (by omega)
    have hcall:=array_any ts p (adv s') _ HC _ oD.s
    obtain⟨k0,k1,_⟩:=hK.cells2
    refine wp_region_any (by kernel_rfl) ?_
    change wpAny _ _ _ _ _ _ _ (World.drew _)
    refine wpAny_take (i:=0) (v:=.pointer (some ⟨w.heap.size+1,0,none⟩)) rfl (by kernel_rfl) (by kernel_rfl) (by kernel_rfl) (fun _ _ _ h=>h) (Or.inl ⟨by kernel_rfl,fun w=>by go_simp⟩) ?_
    refine wpAny_take (i:=2) (v:=.pointer (some ⟨p,0,none⟩)) rfl (by kernel_rfl) (by kernel_rfl) (by kernel_rfl) (fun _ _ _ h=>h) (Or.inl ⟨by kernel_rfl,fun w=>by go_simp⟩) ?_
    refine wpAny_ready (rs:=[1,3]) (by kernel_rfl) (by simp) ?_
    refine AllReady.cons rfl (fun K hK'=>?_) (AllReady.cons rfl (fun K hK'=>?_) AllReady.nil)
    ·go_simp
     refine hK' _ _ ?_
     clear hK' K
     refine wpAny_ready (rs:=[3]) (by kernel_rfl) (by simp) ?_
     refine AllReady.cons rfl (fun K hK'=>?_) AllReady.nil
     go_simp
     go_wp2_with (go_at_call 218;((with_reducible refine hcall.mono ?_);rintro e wc ⟨nm,an,rfl,hra,hg,hp⟩;have hKE:=hKD.gr hg (show p≠w.heap.size+1 by omega);have oE:=oD.acc hg hp;have htE:=htD.grown hg (show p < w.heap.size+2 by omega)))
     have hlen:=htE.a.len
     refine wpAny_ready (rs:=[4]) (by kernel_rfl) (by simp) ?_
     refine AllReady.cons rfl (fun K hK'=>?_) AllReady.nil
     go_simp
     refine hK' _ _ ?_
     clear hK' K
     refine wpAny_ready (rs:=[5]) (by kernel_rfl) (by simp) ?_
     refine AllReady.cons rfl (fun K hK'=>?_) AllReady.nil
     rw[if_pos (by kernel_rfl)]
     refine wp_app (.tmp 27) (.tmp 30) _ rfl (w.heap.size+2) 75 i0 _ 2 24 Tryz.underlying23 hi hz0 hz1 hz2 rfl (by decide) _ _ _ rfl (htE.a.own.alloc _) ⟨wc.heap.size,0,none⟩ 1 [.string ⟨nm.toArray⟩,.int .i64 an] rfl rfl (World.news_of_block (heap_alloc_new _ _)) (by simp[Value.oneCell']) (by unfold maxLen;omega) (by omega) (by have:=hKE.lt;simp;omega) ?_
     intro v2 w5 hown2 hgr2 hob
     refine hK' _ _ ?_
     clear hK' K
     have hrow:∀ k,va.ownBlock=some k→w.heap.size+2≤k:=fun k hk=>(htE.a.own.lt k hk).1
     have o5:=(oE.al (.cells #[.string ⟨nm.toArray⟩,.int .i64 an] 75)).rowg hgr2 (fun k hk=>by have:=hrow k hk;omega)
     have hK5:Blk w5 (w.heap.size+1) 26 #[va,vf]:=(hgr2.block _ (hKE.alloc (.cells #[.string ⟨nm.toArray⟩,.int .i64 an] 75)).lt (fun e=>by have:=hrow _ e.symm;omega)).trans (hKE.alloc (.cells #[.string ⟨nm.toArray⟩,.int .i64 an] 75))
     have t5:=htE.snocA (x:=(nm,an)) rfl hown2 hgr2 hob
     obtain⟨A5,L5,c5,rfl⟩:=t5.a.form
     obtain⟨q0,q1,g0,g1⟩:=hK5.cells2
     refine wpAny_take (i:=6) (v:=.pointer (some ⟨w.heap.size+1,0,none⟩)) rfl (by kernel_rfl) (by kernel_rfl) (by kernel_rfl) (fun _ _ _ h=>h) (Or.inl ⟨by kernel_rfl,fun w=>by go_simp⟩) ?_
     refine wpAny_ready (rs:=[7]) (by kernel_rfl) (by simp) ?_
     refine AllReady.cons rfl (fun K hK'=>?_) AllReady.nil
     go_simp
     refine hK' _ _ ?_
     clear hK' K
     refine wpAny_done (by kernel_rfl) ?_ _
     have hKf:=hK5.set 0 (.slice A5 L5 c5)
     have of:=o5.far (a:=⟨w.heap.size+1,0,none⟩) (by show w.heap.size < w.heap.size+1;omega) (.slice A5 L5 c5)
     have tf:=t5.far1 (a:=⟨w.heap.size+1,0,none⟩) (by show w.heap.size+1 < w.heap.size+2;omega) (.slice A5 L5 c5)
     go_wp2_with fail
     go_roundg m
     case measure=>exact Nat.lt_succ_self m
     case rel=>exact⟨s1,xa++[(nm,an)],_,_,xf,cf,vf,by rw[List.append_assoc,hra];exact HA.out,HF.out,HS.out,by omega,by simp;omega,of,hKf,tf⟩
    ·go_simp
     go_wp2_with (go_at_call 218;((with_reducible refine hcall.mono ?_);rintro e wc ⟨nm,an,rfl,hra,hg,hp⟩;have hKE:=hKD.gr hg (show p≠w.heap.size+1 by omega);have oE:=oD.acc hg hp;have htE:=htD.grown hg (show p < w.heap.size+2 by omega)))
     obtain⟨j0,j1,_⟩:=hKE.cells2
     refine wpAny_ready (rs:=[1,4]) (by kernel_rfl) (by simp) ?_
     refine AllReady.cons rfl (fun K hK'=>?_) (AllReady.cons rfl (fun K hK'=>?_) AllReady.nil)
     ·go_simp
      refine hK' _ _ ?_
      clear hK' K j0 j1
      have hlen:=htE.a.len
      refine wpAny_ready (rs:=[4]) (by kernel_rfl) (by simp) ?_
      refine AllReady.cons rfl (fun K hK'=>?_) AllReady.nil
      go_simp
      refine hK' _ _ ?_
      clear hK' K
      refine wpAny_ready (rs:=[5]) (by kernel_rfl) (by simp) ?_
      refine AllReady.cons rfl (fun K hK'=>?_) AllReady.nil
      rw[if_pos (by kernel_rfl)]
      refine wp_app (.tmp 27) (.tmp 30) _ rfl (w.heap.size+2) 75 i0 _ 2 24 Tryz.underlying23 hi hz0 hz1 hz2 rfl (by decide) _ _ _ rfl (htE.a.own.alloc _) ⟨wc.heap.size,0,none⟩ 1 [.string ⟨nm.toArray⟩,.int .i64 an] rfl rfl (World.news_of_block (heap_alloc_new _ _)) (by simp[Value.oneCell']) (by unfold maxLen;omega) (by omega) (by have:=hKE.lt;simp;omega) ?_
      intro v2 w5 hown2 hgr2 hob
      refine hK' _ _ ?_
      clear hK' K
      have hrow:∀ k,va.ownBlock=some k→w.heap.size+2≤k:=fun k hk=>(htE.a.own.lt k hk).1
      have o5:=(oE.al (.cells #[.string ⟨nm.toArray⟩,.int .i64 an] 75)).rowg hgr2 (fun k hk=>by have:=hrow k hk;omega)
      have hK5:Blk w5 (w.heap.size+1) 26 #[va,vf]:=(hgr2.block _ (hKE.alloc (.cells #[.string ⟨nm.toArray⟩,.int .i64 an] 75)).lt (fun e=>by have:=hrow _ e.symm;omega)).trans (hKE.alloc (.cells #[.string ⟨nm.toArray⟩,.int .i64 an] 75))
      have t5:=htE.snocA (x:=(nm,an)) rfl hown2 hgr2 hob
      obtain⟨A5,L5,c5,rfl⟩:=t5.a.form
      obtain⟨q0,q1,g0,g1⟩:=hK5.cells2
      refine wpAny_take (i:=6) (v:=.pointer (some ⟨w.heap.size+1,0,none⟩)) rfl (by kernel_rfl) (by kernel_rfl) (by kernel_rfl) (fun _ _ _ h=>h) (Or.inl ⟨by kernel_rfl,fun w=>by go_simp⟩) ?_
      refine wpAny_ready (rs:=[7]) (by kernel_rfl) (by simp) ?_
      refine AllReady.cons rfl (fun K hK'=>?_) AllReady.nil
      go_simp
      refine hK' _ _ ?_
      clear hK' K
      refine wpAny_done (by kernel_rfl) ?_ _
      have hKf:=hK5.set 0 (.slice A5 L5 c5)
      have of:=o5.far (a:=⟨w.heap.size+1,0,none⟩) (by show w.heap.size < w.heap.size+1;omega) (.slice A5 L5 c5)
      have tf:=t5.far1 (a:=⟨w.heap.size+1,0,none⟩) (by show w.heap.size+1 < w.heap.size+2;omega) (.slice A5 L5 c5)
      go_wp2_with fail
      go_roundg m
      case measure=>exact Nat.lt_succ_self m
      case rel=>exact⟨s1,xa++[(nm,an)],_,_,xf,cf,vf,by rw[List.append_assoc,hra];exact HA.out,HF.out,HS.out,by omega,by simp;omega,of,hKf,tf⟩
     ·go_simp
      refine hK' _ _ ?_
      clear hK' K j0 j1
      obtain⟨j0,j1,_⟩:=(hKE.alloc (.cells #[.string ⟨nm.toArray⟩,.int .i64 an] 75)).cells2
      refine wpAny_ready (rs:=[1]) (by kernel_rfl) (by simp) ?_
      refine AllReady.cons rfl (fun K hK'=>?_) AllReady.nil
      go_simp
      refine hK' _ _ ?_
      clear hK' K j0 j1
      have hlen:=htE.a.len
      refine wpAny_ready (rs:=[5]) (by kernel_rfl) (by simp) ?_
      refine AllReady.cons rfl (fun K hK'=>?_) AllReady.nil
      rw[if_pos (by kernel_rfl)]
      refine wp_app (.tmp 27) (.tmp 30) _ rfl (w.heap.size+2) 75 i0 _ 2 24 Tryz.underlying23 hi hz0 hz1 hz2 rfl (by decide) _ _ _ rfl (htE.a.own.alloc _) ⟨wc.heap.size,0,none⟩ 1 [.string ⟨nm.toArray⟩,.int .i64 an] rfl rfl (World.news_of_block (heap_alloc_new _ _)) (by simp[Value.oneCell']) (by unfold maxLen;omega) (by omega) (by have:=hKE.lt;simp;omega) ?_
      intro v2 w5 hown2 hgr2 hob
      refine hK' _ _ ?_
      clear hK' K
      have hrow:∀ k,va.ownBlock=some k→w.heap.size+2≤k:=fun k hk=>(htE.a.own.lt k hk).1
      have o5:=(oE.al (.cells #[.string ⟨nm.toArray⟩,.int .i64 an] 75)).rowg hgr2 (fun k hk=>by have:=hrow k hk;omega)
      have hK5:Blk w5 (w.heap.size+1) 26 #[va,vf]:=(hgr2.block _ (hKE.alloc (.cells #[.string ⟨nm.toArray⟩,.int .i64 an] 75)).lt (fun e=>by have:=hrow _ e.symm;omega)).trans (hKE.alloc (.cells #[.string ⟨nm.toArray⟩,.int .i64 an] 75))
      have t5:=htE.snocA (x:=(nm,an)) rfl hown2 hgr2 hob
      obtain⟨A5,L5,c5,rfl⟩:=t5.a.form
      obtain⟨q0,q1,g0,g1⟩:=hK5.cells2
      refine wpAny_take (i:=6) (v:=.pointer (some ⟨w.heap.size+1,0,none⟩)) rfl (by kernel_rfl) (by kernel_rfl) (by kernel_rfl) (fun _ _ _ h=>h) (Or.inl ⟨by kernel_rfl,fun w=>by go_simp⟩) ?_
      refine wpAny_ready (rs:=[7]) (by kernel_rfl) (by simp) ?_
      refine AllReady.cons rfl (fun K hK'=>?_) AllReady.nil
      go_simp
      refine hK' _ _ ?_
      clear hK' K
      refine wpAny_done (by kernel_rfl) ?_ _
      have hKf:=hK5.set 0 (.slice A5 L5 c5)
      have of:=o5.far (a:=⟨w.heap.size+1,0,none⟩) (by show w.heap.size < w.heap.size+1;omega) (.slice A5 L5 c5)
      have tf:=t5.far1 (a:=⟨w.heap.size+1,0,none⟩) (by show w.heap.size+1 < w.heap.size+2;omega) (.slice A5 L5 c5)
      go_wp2_with fail
      go_roundg m
      case measure=>exact Nat.lt_succ_self m
      case rel=>exact⟨s1,xa++[(nm,an)],_,_,xf,cf,vf,by rw[List.append_assoc,hra];exact HA.out,HF.out,HS.out,by omega,by simp;omega,of,hKf,tf⟩
   ·have hx:nx ts s' zB9=false:=by simpa using hx
    have HX:=Hd hx
    by_cases hy:nx ts s' zCp=true
    ·obtain⟨⟨f0,s1⟩,hc⟩:∃ x,fnF ts m (adv s')=x:=⟨_,rfl⟩
     have HC:=Hd hc
     have hmv:=zAj HFF.out
     have hm2:=ms_fn (ts:=ts) m (adv s')
     rw[hc] at hm2
     rw[pg_fun HST.out hx hy hc] at hA hF hS
     dsimp only at hm2 hA hF hS
     have HY:=Hd hy
     have HA:=Hd hA
     have HF:=Hd hF
     have HS:=Hd hS
     have hfn:5 * ms ts (adv s')+9≤m:=by omega
     clear hx hy hc hA hF hS
     go_wp2_with fail
     go_quiet (fail)
     replace o:=o.low (below_drewN (Below.refl _ _) nq)
     replace hK:=hK.drewN nq
     replace ht:=ht.grown (p:=p) (zAa (below_drewN (Below.refl _ _) nq) _) (by omega)
     generalize hwq:wr.drewN nq=wq at *
     clear hwq t0 t1 t2
     go_wp2_with fail
     refine (zAd ts p s' zB9 HX _ o.s).mono ?_
     rintro e w2 ⟨rfl,hg,hp⟩
     replace o:=o.acc hg hp
     replace hK:=hK.gr hg (by omega)
     replace ht:=ht.grown hg (by omega)
     clear hg hp
     go_wp2_with fail
     refine (zAi ts p s' zCp (by decide) HY _ o.s).mono ?_
     rintro e w3 ⟨rfl,hg,hp⟩
     replace o:=o.acc hg hp
     replace hK:=hK.gr hg (by omega)
     replace ht:=ht.grown hg (by omega)
     clear hg hp
     go_wp2_with fail
     have hlo3:w.heap.size+2≤w3.drew.heap.size:=hK.lt
     have hva3:∀ k,va.ownBlock=some k→k < w3.drew.heap.size:=fun k hk=>(ht.a.own.lt k hk).2
     have hvf3:∀ k,vf.ownBlock=some k→k < w3.drew.heap.size:=fun k hk=>(ht.o.lt k hk).2
     have oD:Own ts p (adv s') 26 pg0 w w3.drew:=o.low (below_drewN (Below.refl _ _) 1)
     have hKD:Blk w3.drew (w.heap.size+1) 26 #[va,vf]:=hK
     have htD:=ht.grown (w':=w3.drew) (p:=p) (zAa (below_drewN (Below.refl _ _) 1) _) (by omega)
     have hcall:=function_any ts p m (adv s') _ HC hfn _ oD.s
     obtain⟨k0,k1,_⟩:=hK.cells2
     refine wp_region_any (by kernel_rfl) ?_
     change wpAny _ _ _ _ _ _ _ (World.drew _)
     refine wpAny_take (i:=0) (v:=.pointer (some ⟨w.heap.size+1,1,none⟩)) rfl (by kernel_rfl) (by kernel_rfl) (by kernel_rfl) (fun _ _ _ h=>h) (Or.inl ⟨by kernel_rfl,fun w=>by go_simp⟩) ?_
     refine wpAny_take (i:=2) (v:=.pointer (some ⟨p,0,none⟩)) rfl (by kernel_rfl) (by kernel_rfl) (by kernel_rfl) (fun _ _ _ h=>h) (Or.inl ⟨by kernel_rfl,fun w=>by go_simp⟩) ?_
     refine wpAny_ready (rs:=[1,3]) (by kernel_rfl) (by simp) ?_
     refine AllReady.cons rfl (fun K hK'=>?_) (AllReady.cons rfl (fun K hK'=>?_) AllReady.nil)
     ·go_simp
      refine hK' _ _ ?_
      clear hK' K
      refine wpAny_ready (rs:=[3]) (by kernel_rfl) (by simp) ?_
      refine AllReady.cons rfl (fun K hK'=>?_) AllReady.nil
      go_simp
      go_wp2_with (go_at_call 219;((with_reducible refine hcall.mono ?_);rintro e wc ⟨cs,rfl,hcz,hca,⟨A1,L1,c1,A2,L2,c2,A3,L3,c3,kd,nf,nm,op,A,L,c,hcs,h1,h2,h3,h4⟩,hg,hp⟩;have hKE:=hKD.gr hg (show p≠w.heap.size+1 by omega);have oE:=oD.acc hg hp;have htE:=htD.grown hg (show p < w.heap.size+2 by omega);obtain⟨fname,hfname⟩:∃ x,f0.name=x:=⟨_,rfl⟩;rw[hfname] at hcs;obtain rfl:cs=#[.string ⟨fname.toArray⟩,.slice A1 L1 c1,.slice A2 L2 c2,.slice A3 L3 c3,.int .i64 kd,.int .i64 nf,.string ⟨nm.toArray⟩,.int .i64 op,.slice A L c]:=by rw[←Array.toArray_toList (xs:=cs),hcs]))
      have hlen:=htE.l
      have hrf:RepF wc (Rg w3.drew.heap.size wc.heap.size) f0 [.string ⟨fname.toArray⟩,.slice A1 L1 c1,.slice A2 L2 c2,.slice A3 L3 c3,.int .i64 kd,.int .i64 nf,.string ⟨nm.toArray⟩,.int .i64 op,.slice A L c]:=⟨A1,L1,c1,A2,L2,c2,A3,L3,c3,kd,nf,nm,op,A,L,c,by rw[hfname],h1,h2,h3,h4⟩
      refine wpAny_ready (rs:=[4]) (by kernel_rfl) (by simp) ?_
      refine AllReady.cons rfl (fun K hK'=>?_) AllReady.nil
      go_simp
      refine hK' _ _ ?_
      clear hK' K
      refine wpAny_ready (rs:=[5]) (by kernel_rfl) (by simp) ?_
      refine AllReady.cons rfl (fun K hK'=>?_) AllReady.nil
      rw[if_pos (by kernel_rfl)]
      refine wp_app (.tmp 37) (.tmp 40) _ rfl (w.heap.size+2) 38 i1 _ 9 152 Tryz.underlying24 gi gz0 gz1 gz2 rfl (by decide) _ _ _ rfl (htE.o.alloc _) ⟨wc.heap.size,0,none⟩ 1 [.string ⟨fname.toArray⟩,.slice A1 L1 c1,.slice A2 L2 c2,.slice A3 L3 c3,.int .i64 kd,.int .i64 nf,.string ⟨nm.toArray⟩,.int .i64 op,.slice A L c] rfl rfl (World.news_of_block (heap_alloc_new _ _)) (by simp[Value.oneCell']) (by unfold maxLen;omega) (by omega) (by have:=hKE.lt;simp;omega) ?_
      intro v2 w5 hown2 hgr2 hob
      refine hK' _ _ ?_
      clear hK' K
      have hrow:∀ k,vf.ownBlock=some k→w.heap.size+2≤k:=fun k hk=>(htE.o.lt k hk).1
      have o5:=(oE.al (.cells #[.string ⟨fname.toArray⟩,.slice A1 L1 c1,.slice A2 L2 c2,.slice A3 L3 c3,.int .i64 kd,.int .i64 nf,.string ⟨nm.toArray⟩,.int .i64 op,.slice A L c] 38)).rowg hgr2 (fun k hk=>by have:=hrow k hk;omega)
      have hK5:Blk w5 (w.heap.size+1) 26 #[va,vf]:=(hgr2.block _ (hKE.alloc (.cells #[.string ⟨fname.toArray⟩,.slice A1 L1 c1,.slice A2 L2 c2,.slice A3 L3 c3,.int .i64 kd,.int .i64 nf,.string ⟨nm.toArray⟩,.int .i64 op,.slice A L c] 38)).lt (fun e=>by have:=hrow _ e.symm;omega)).trans (hKE.alloc (.cells #[.string ⟨fname.toArray⟩,.slice A1 L1 c1,.slice A2 L2 c2,.slice A3 L3 c3,.int .i64 kd,.int .i64 nf,.string ⟨nm.toArray⟩,.int .i64 op,.slice A L c] 38))
      have t5:=htE.snocF (x:=f0) (cs:=[.string ⟨fname.toArray⟩,.slice A1 L1 c1,.slice A2 L2 c2,.slice A3 L3 c3,.int .i64 kd,.int .i64 nf,.string ⟨nm.toArray⟩,.int .i64 op,.slice A L c]) (lo:=w3.drew.heap.size) hrf hlo3 hva3 hvf3 rfl hown2 hgr2 hob
      obtain⟨A5,L5,c5,rfl⟩:=t5.formF
      obtain⟨q0,q1,g0,g1⟩:=hK5.cells2
      refine wpAny_take (i:=6) (v:=.pointer (some ⟨w.heap.size+1,1,none⟩)) rfl (by kernel_rfl) (by kernel_rfl) (by kernel_rfl) (fun _ _ _ h=>h) (Or.inl ⟨by kernel_rfl,fun w=>by go_simp⟩) ?_
      refine wpAny_ready (rs:=[7]) (by kernel_rfl) (by simp) ?_
      refine AllReady.cons rfl (fun K hK'=>?_) AllReady.nil
      go_simp
      refine hK' _ _ ?_
      clear hK' K
      refine wpAny_done (by kernel_rfl) ?_ _
      have hKf:=hK5.set 1 (.slice A5 L5 c5)
      have of:=o5.far (a:=⟨w.heap.size+1,1,none⟩) (by show w.heap.size < w.heap.size+1;omega) (.slice A5 L5 c5)
      have tf:=t5.far1 (a:=⟨w.heap.size+1,1,none⟩) (by show w.heap.size+1 < w.heap.size+2;omega) (.slice A5 L5 c5)
      go_wp2_with fail
      go_roundg m
      case measure=>exact Nat.lt_succ_self m
      case rel=>exact⟨s1,xa,ca,va,xf++[f0],_,_,HA.out,by rw[List.append_assoc];exact HF.out,HS.out,by omega,by simp;omega,of,hKf,tf⟩
     ·go_simp
      go_wp2_with (go_at_call 219;((with_reducible refine hcall.mono ?_);rintro e wc ⟨cs,rfl,hcz,hca,⟨A1,L1,c1,A2,L2,c2,A3,L3,c3,kd,nf,nm,op,A,L,c,hcs,h1,h2,h3,h4⟩,hg,hp⟩;have hKE:=hKD.gr hg (show p≠w.heap.size+1 by omega);have oE:=oD.acc hg hp;have htE:=htD.grown hg (show p < w.heap.size+2 by omega);obtain⟨fname,hfname⟩:∃ x,f0.name=x:=⟨_,rfl⟩;rw[hfname] at hcs;obtain rfl:cs=#[.string ⟨fname.toArray⟩,.slice A1 L1 c1,.slice A2 L2 c2,.slice A3 L3 c3,.int .i64 kd,.int .i64 nf,.string ⟨nm.toArray⟩,.int .i64 op,.slice A L c]:=by rw[←Array.toArray_toList (xs:=cs),hcs]))
      obtain⟨j0,j1,_⟩:=hKE.cells2
      refine wpAny_ready (rs:=[1,4]) (by kernel_rfl) (by simp) ?_
      refine AllReady.cons rfl (fun K hK'=>?_) (AllReady.cons rfl (fun K hK'=>?_) AllReady.nil)
      ·go_simp
       refine hK' _ _ ?_
       clear hK' K j0 j1
       have hlen:=htE.l
       have hrf:RepF wc (Rg w3.drew.heap.size wc.heap.size) f0 [.string ⟨fname.toArray⟩,.slice A1 L1 c1,.slice A2 L2 c2,.slice A3 L3 c3,.int .i64 kd,.int .i64 nf,.string ⟨nm.toArray⟩,.int .i64 op,.slice A L c]:=⟨A1,L1,c1,A2,L2,c2,A3,L3,c3,kd,nf,nm,op,A,L,c,by rw[hfname],h1,h2,h3,h4⟩
       refine wpAny_ready (rs:=[4]) (by kernel_rfl) (by simp) ?_
       refine AllReady.cons rfl (fun K hK'=>?_) AllReady.nil
       go_simp
       refine hK' _ _ ?_
       clear hK' K
       refine wpAny_ready (rs:=[5]) (by kernel_rfl) (by simp) ?_
       refine AllReady.cons rfl (fun K hK'=>?_) AllReady.nil
       rw[if_pos (by kernel_rfl)]
       refine wp_app (.tmp 37) (.tmp 40) _ rfl (w.heap.size+2) 38 i1 _ 9 152 Tryz.underlying24 gi gz0 gz1 gz2 rfl (by decide) _ _ _ rfl (htE.o.alloc _) ⟨wc.heap.size,0,none⟩ 1 [.string ⟨fname.toArray⟩,.slice A1 L1 c1,.slice A2 L2 c2,.slice A3 L3 c3,.int .i64 kd,.int .i64 nf,.string ⟨nm.toArray⟩,.int .i64 op,.slice A L c] rfl rfl (World.news_of_block (heap_alloc_new _ _)) (by simp[Value.oneCell']) (by unfold maxLen;omega) (by omega) (by have:=hKE.lt;simp;omega) ?_
       intro v2 w5 hown2 hgr2 hob
       refine hK' _ _ ?_
       clear hK' K
       have hrow:∀ k,vf.ownBlock=some k→w.heap.size+2≤k:=fun k hk=>(htE.o.lt k hk).1
       have o5:=(oE.al (.cells #[.string ⟨fname.toArray⟩,.slice A1 L1 c1,.slice A2 L2 c2,.slice A3 L3 c3,.int .i64 kd,.int .i64 nf,.string ⟨nm.toArray⟩,.int .i64 op,.slice A L c] 38)).rowg hgr2 (fun k hk=>by have:=hrow k hk;omega)
       have hK5:Blk w5 (w.heap.size+1) 26 #[va,vf]:=(hgr2.block _ (hKE.alloc (.cells #[.string ⟨fname.toArray⟩,.slice A1 L1 c1,.slice A2 L2 c2,.slice A3 L3 c3,.int .i64 kd,.int .i64 nf,.string ⟨nm.toArray⟩,.int .i64 op,.slice A L c] 38)).lt (fun e=>by have:=hrow _ e.symm;omega)).trans (hKE.alloc (.cells #[.string ⟨fname.toArray⟩,.slice A1 L1 c1,.slice A2 L2 c2,.slice A3 L3 c3,.int .i64 kd,.int .i64 nf,.string ⟨nm.toArray⟩,.int .i64 op,.slice A L c] 38))
       have t5:=htE.snocF (x:=f0) (cs:=[.string ⟨fname.toArray⟩,.slice A1 L1 c1,.slice A2 L2 c2,.slice A3 L3 c3,.int .i64 kd,.int .i64 nf,.string ⟨nm.toArray⟩,.int .i64 op,.slice A L c]) (lo:=w3.drew.heap.size) hrf hlo3 hva3 hvf3 rfl hown2 hgr2 hob
       obtain⟨A5,L5,c5,rfl⟩:=t5.formF
       obtain⟨q0,q1,g0,g1⟩:=hK5.cells2
       refine wpAny_take (i:=6) (v:=.pointer (some ⟨w.heap.size+1,1,none⟩)) rfl (by kernel_rfl) (by kernel_rfl) (by kernel_rfl) (fun _ _ _ h=>h) (Or.inl ⟨by kernel_rfl,fun w=>by go_simp⟩) ?_
       refine wpAny_ready (rs:=[7]) (by kernel_rfl) (by simp) ?_
       refine AllReady.cons rfl (fun K hK'=>?_) AllReady.nil
       go_simp
       refine hK' _ _ ?_
       clear hK' K
       refine wpAny_done (by kernel_rfl) ?_ _
       have hKf:=hK5.set 1 (.slice A5 L5 c5)
       have of:=o5.far (a:=⟨w.heap.size+1,1,none⟩) (by show w.heap.size < w.heap.size+1;omega) (.slice A5 L5 c5)
       have tf:=t5.far1 (a:=⟨w.heap.size+1,1,none⟩) (by show w.heap.size+1 < w.heap.size+2;omega) (.slice A5 L5 c5)
       go_wp2_with fail
       go_roundg m
       case measure=>exact Nat.lt_succ_self m
       case rel=>exact⟨s1,xa,ca,va,xf++[f0],_,_,HA.out,by rw[List.append_assoc];exact HF.out,HS.out,by omega,by simp;omega,of,hKf,tf⟩
      ·go_simp
       refine hK' _ _ ?_
       clear hK' K j0 j1
       obtain⟨j0,j1,_⟩:=(hKE.alloc (.cells #[.string ⟨fname.toArray⟩,.slice A1 L1 c1,.slice A2 L2 c2,.slice A3 L3 c3,.int .i64 kd,.int .i64 nf,.string ⟨nm.toArray⟩,.int .i64 op,.slice A L c] 38)).cells2
       refine wpAny_ready (rs:=[1]) (by kernel_rfl) (by simp) ?_
       refine AllReady.cons rfl (fun K hK'=>?_) AllReady.nil
       go_simp
       refine hK' _ _ ?_
       clear hK' K j0 j1
       have hlen:=htE.l
       have hrf:RepF wc (Rg w3.drew.heap.size wc.heap.size) f0 [.string ⟨fname.toArray⟩,.slice A1 L1 c1,.slice A2 L2 c2,.slice A3 L3 c3,.int .i64 kd,.int .i64 nf,.string ⟨nm.toArray⟩,.int .i64 op,.slice A L c]:=⟨A1,L1,c1,A2,L2,c2,A3,L3,c3,kd,nf,nm,op,A,L,c,by rw[hfname],h1,h2,h3,h4⟩
       refine wpAny_ready (rs:=[5]) (by kernel_rfl) (by simp) ?_
       refine AllReady.cons rfl (fun K hK'=>?_) AllReady.nil
       rw[if_pos (by kernel_rfl)]
       refine wp_app (.tmp 37) (.tmp 40) _ rfl (w.heap.size+2) 38 i1 _ 9 152 Tryz.underlying24 gi gz0 gz1 gz2 rfl (by decide) _ _ _ rfl (htE.o.alloc _) ⟨wc.heap.size,0,none⟩ 1 [.string ⟨fname.toArray⟩,.slice A1 L1 c1,.slice A2 L2 c2,.slice A3 L3 c3,.int .i64 kd,.int .i64 nf,.string ⟨nm.toArray⟩,.int .i64 op,.slice A L c] rfl rfl (World.news_of_block (heap_alloc_new _ _)) (by simp[Value.oneCell']) (by unfold maxLen;omega) (by omega) (by have:=hKE.lt;simp;omega) ?_
       intro v2 w5 hown2 hgr2 hob
       refine hK' _ _ ?_
       clear hK' K
       have hrow:∀ k,vf.ownBlock=some k→w.heap.size+2≤k:=fun k hk=>(htE.o.lt k hk).1
       have o5:=(oE.al (.cells #[.string ⟨fname.toArray⟩,.slice A1 L1 c1,.slice A2 L2 c2,.slice A3 L3 c3,.int .i64 kd,.int .i64 nf,.string ⟨nm.toArray⟩,.int .i64 op,.slice A L c] 38)).rowg hgr2 (fun k hk=>by have:=hrow k hk;omega)
       have hK5:Blk w5 (w.heap.size+1) 26 #[va,vf]:=(hgr2.block _ (hKE.alloc (.cells #[.string ⟨fname.toArray⟩,.slice A1 L1 c1,.slice A2 L2 c2,.slice A3 L3 c3,.int .i64 kd,.int .i64 nf,.string ⟨nm.toArray⟩,.int .i64 op,.slice A L c] 38)).lt (fun e=>by have:=hrow _ e.symm;omega)).trans (hKE.alloc (.cells #[.string ⟨fname.toArray⟩,.slice A1 L1 c1,.slice A2 L2 c2,.slice A3 L3 c3,.int .i64 kd,.int .i64 nf,.string ⟨nm.toArray⟩,.int .i64 op,.slice A L c] 38))
       have t5:=htE.snocF (x:=f0) (cs:=[.string ⟨fname.toArray⟩,.slice A1 L1 c1,.slice A2 L2 c2,.slice A3 L3 c3,.int .i64 kd,.int .i64 nf,.string ⟨nm.toArray⟩,.int .i64 op,.slice A L c]) (lo:=w3.drew.heap.size) hrf hlo3 hva3 hvf3 rfl hown2 hgr2 hob
       obtain⟨A5,L5,c5,rfl⟩:=t5.formF
       obtain⟨q0,q1,g0,g1⟩:=hK5.cells2
       refine wpAny_take (i:=6) (v:=.pointer (some ⟨w.heap.size+1,1,none⟩)) rfl (by kernel_rfl) (by kernel_rfl) (by kernel_rfl) (fun _ _ _ h=>h) (Or.inl ⟨by kernel_rfl,fun w=>by go_simp⟩) ?_
       refine wpAny_ready (rs:=[7]) (by kernel_rfl) (by simp) ?_
       refine AllReady.cons rfl (fun K hK'=>?_) AllReady.nil
       go_simp
       refine hK' _ _ ?_
       clear hK' K
       refine wpAny_done (by kernel_rfl) ?_ _
       have hKf:=hK5.set 1 (.slice A5 L5 c5)
       have of:=o5.far (a:=⟨w.heap.size+1,1,none⟩) (by show w.heap.size < w.heap.size+1;omega) (.slice A5 L5 c5)
       have tf:=t5.far1 (a:=⟨w.heap.size+1,1,none⟩) (by show w.heap.size+1 < w.heap.size+2;omega) (.slice A5 L5 c5)
       go_wp2_with fail
       go_roundg m
       case measure=>exact Nat.lt_succ_self m
       case rel=>exact⟨s1,xa,ca,va,xf++[f0],_,_,HA.out,by rw[List.append_assoc];exact HF.out,HS.out,by omega,by simp;omega,of,hKf,tf⟩
    ·have hy:nx ts s' zCp=false:=by simpa using hy
     have HY:=Hd hy
     rw[pg_bad HST.out hx hy] at hA hF hS
     dsimp only at hA hF hS
     have HA:=Hd hA
     have HF:=Hd hF
     have HS:=Hd hS
     have hm3:=ms_fl (ts:=ts) s'
     have hmv:=zAj HFF.out
     clear hx hy hA hF hS
     go_wp2_with fail
     go_quiet (fail)
     replace o:=o.low (below_drewN (Below.refl _ _) nq)
     replace hK:=hK.drewN nq
     replace ht:=ht.grown (p:=p) (zAa (below_drewN (Below.refl _ _) nq) _) (by omega)
     generalize hwq:wr.drewN nq=wq at *
     clear hwq t0 t1 t2
     go_wp2_with fail
     refine (zAd ts p s' zB9 HX _ o.s).mono ?_
     rintro e w2 ⟨rfl,hg,hp⟩
     replace o:=o.acc hg hp
     replace hK:=hK.gr hg (by omega)
     replace ht:=ht.grown hg (by omega)
     clear hg hp
     go_wp2_with fail
     refine (zAd ts p s' zCp HY _ o.s).mono ?_
     rintro e w3 ⟨rfl,hg,hp⟩
     replace o:=o.acc hg hp
     replace hK:=hK.gr hg (by omega)
     replace ht:=ht.grown hg (by omega)
     clear hg hp
     go_wp2_with fail
     refine (fail_any ts p s' _ o.s).mono ?_
     rintro e w4 ⟨rfl,hw4⟩
     have hg4:w3.grownBy w4 (some p):=by rw[←hw4];exact zAz (grown_id _ _) _
     have o4:=o.setF
     rw[hw4] at o4
     clear hw4
     replace o:=o4
     replace hK:=hK.gr hg4 (by omega)
     replace ht:=ht.grown hg4 (by omega)
     clear hg4 o4
     go_wp2_with fail
     go_roundg m
     case measure=>exact Nat.lt_succ_self m
     case rel=>exact⟨fl s',xa,ca,va,xf,cf,vf,by rw[pg_fl];exact HA.out,by rw[pg_fl];exact HF.out,by rw[pg_fl];exact HS.out,by omega,by omega,o,hK,ht⟩
end Go.Proofs.YtpgnlfdindmopaaGreatDoor
namespace Go.Proofs.YtpgnlfdindmopaaGreatDoor
open Go.RowKit (wrap64 intOf)
open Go Go.RowKit WM LX PX
theorem lxN_small (m:Nat):∀ l p,(lxN m l p).1.length≤l.length∧∀ t∈(lxN m l p).1,t.text.length≤l.length:=by
 induction m with
 | zero=>intro l p;exact⟨Nat.zero_le _,fun t h=>by simp[lxN] at h⟩
 | succ m ih =>
  intro l p
  rw[lxN]
  split
  ·exact⟨Nat.zero_le _,fun t h=>by simp at h⟩
  ·next h1 =>
   split
   ·next h2 =>
    have h3:=zCi h1 h2
    have h4:1≤(l.drop (zAb false l)).length:=by
     cases hh:l.drop (zAb false l) with
     | nil=>exact absurd hh h1
     | cons a t=>simp
    have h5:=ih ((l.drop (zAb false l)).drop (tokN (l.drop (zAb false l)))) (p+zAb false l+tokN (l.drop (zAb false l)))
    rw[List.length_drop,List.length_drop] at h5
    rw[List.length_drop] at h4
    dsimp only
    refine⟨by rw[List.length_cons];have:=h5.1;omega,fun t ht=>?_⟩
    rcases List.mem_cons.1 ht with h | h
    ·rw[h]
     show ((l.drop (zAb false l)).take (tokN (l.drop (zAb false l)))).length≤_
     rw[List.length_take,List.length_drop];omega
    ·have:=h5.2 t h;omega
   ·exact⟨Nat.zero_le _,fun t h=>by simp at h⟩
theorem scan_small {l:List UInt8}{q:List Tk × Nat × Nat}(h:zBl l=q):q.1.length≤20000∧∀ t∈q.1,t.text.length≤20000:=by
 rw[←scanN_eq] at h
 subst h
 unfold scanN
 split
 ·exact⟨Nat.zero_le _,fun t h=>by simp at h⟩
 ·next hl =>
  have hs:=lxN_small (l.length+1) l 0
  split
  ·exact⟨by have:=hs.1;show (lxN (l.length+1) l 0).1.length≤_;omega,fun t ht=>by have:=hs.2 t ht;omega⟩
  ·exact⟨Nat.zero_le _,fun t h=>by simp at h⟩
theorem scan_any (s:ByteArray)(w:World)(ht:Tab w.heap.size w):Calls Tryz.prog 201 #[.string s] w (ScanP (zBl s.data.toList) w):=by
 by_cases h:s.size≤20000
 ·exact scan_short s h w ht
 ·exact scan_long s (by omega) w
def ScanQ (q:List Tk × Nat × Nat)(w:World)(e:Ending)(w':World):Prop :=
 ∃ A c,e=.returned (.tuple #[.slice A q.1.length c,.agg #[.int .i64 (q.2.1:Int),.int .i64 (q.2.2:Int)]])∧Toks w' w'.heap.size A q.1∧Below w.heap.size w w'
theorem scan_q (s:ByteArray)(q:List Tk × Nat × Nat)(hq:Hid (zBl s.data.toList=q))(w:World)(ht:Tab w.heap.size w):Calls Tryz.prog 201 #[.string s] w (ScanQ q w):=by
 obtain rfl:=hq.out
 refine (scan_any s w ht).mono fun _ _ h=>?_
 obtain⟨v,rfl,hown,hb⟩:=h
 obtain⟨A,c,rfl,ht⟩:=toks_own hown
 exact⟨A,c,rfl,ht,hb⟩
def PaP (r:PG × Nat × Nat)(w:World)(e:Ending)(w':World):Prop :=
 ∃ A L c A' L' c',e=.returned (.tuple #[.agg #[.slice A L c,.slice A' L' c'],.agg #[.int .i64 (r.2.1:Int),.int .i64 (r.2.2:Int)]]) ∧
  RepL RepA 2 w' (Rg w.heap.size w'.heap.size) r.1.arrays (.slice A L c)∧RepL RepF 9 w' (Rg w.heap.size w'.heap.size) r.1.funcs (.slice A' L' c')∧Below w.heap.size w w'
def PEnv (w:World):Prop:=Tab w.heap.size w∧Env w.heap.size w
theorem PEnv.on {w w':World}(h:PEnv w)(hb:Below w.heap.size w w'):PEnv w' :=
 ⟨(h.1.on hb).up hb.size,⟨(h.2.1.on hb).up hb.size,(h.2.2.1.on hb).up hb.size,fun w2 h2=>h.2.2.2 w2 (hb.trans (below_down h2 hb.size))⟩⟩
set_option maxRecDepth 100000
set_option maxHeartbeats 4000000
abbrev er0:Array Value:=#[.int .i64 0,.int .i64 0]
theorem parse_bad (s:ByteArray)(y a:Nat)(hy:y≠0)(ts:List Tk)(hq:Hid (zBl s.data.toList=(ts,y,a)))(w:World)(h:PEnv w) :
 Calls Tryz.prog 163 #[.string s] w (PaP (⟨[],[]⟩,y,a) w):=by
 have hE:=h.on (w':=(w.alloc (.cells pg0 26)).alloc (.cells er0 29)) (((Below.refl _ _).alloc (Lr _) _).alloc (by simp) _)
 have hz:((w.alloc (.cells pg0 26)).alloc (.cells er0 29)).heap.size=w.heap.size+2:=by simp
 have hK1:Blk ((w.alloc (.cells pg0 26)).alloc (.cells er0 29)) w.heap.size 26 pg0:=(Blk.new w _ _).alloc _
 have hK2:Blk ((w.alloc (.cells pg0 26)).alloc (.cells er0 29)) (w.heap.size+1) 29 er0:=blk_at (by simp) _ _
 have hB:Below w.heap.size w ((w.alloc (.cells pg0 26)).alloc (.cells er0 29)):=((Below.refl _ _).alloc (Lr _) _).alloc (by simp) _
 have b1:((y:Int)==0)=false:=by rw[beq_eq_false_iff_ne];omega
 have b2:((y:Int) != 0)=true:=by rw[bne,b1];rfl
 have HK1:=Hd hK1
 have HK2:=Hd hK2
 have HB:=Hd hB
 clear hK1 hK2 hB h
 go_enter Tryz.func163,Tryz.ntmps163
 go_wp2_with fail
 generalize hW:(w.alloc (.cells pg0 26)).alloc (.cells er0 29)=W at *
 clear hW
 refine (scan_q s _ hq W hE.1).mono ?_
 rintro e w1 ⟨A,c,rfl,_,hb⟩
 have k1:=(HK1.out.on hb HK1.out.lt).alloc (.cells #[.int .i64 (y:Int),.int .i64 (a:Int)] 29)
 have k2:=(HK2.out.on hb HK2.out.lt).alloc (.cells #[.int .i64 (y:Int),.int .i64 (a:Int)] 29)
 have k3:=Blk.new w1 29 #[.int .i64 (y:Int),.int .i64 (a:Int)]
 have hb1:=HB.out.trans (below_down (hb.alloc hb.size (.cells #[.int .i64 (y:Int),.int .i64 (a:Int)] 29)) HB.out.size)
 have hsz:=hb.size
 have HK:=Hd (Ai k1 k2)
 have HB1:=Hd hb1
 clear hb hb1
 go_wp2_with fail
 obtain⟨r0,r1,f0,f1⟩:=k1.cells2
 obtain⟨r2,r3,f2,f3⟩:=k2.cells2
 obtain⟨r4,r5,_⟩:=k3.cells2
 clear k1 k2 k3
 generalize hW2:w1.alloc (.cells #[.int .i64 (y:Int),.int .i64 (a:Int)] 29)=W2 at *
 have hs2:w.heap.size+1 < W2.heap.size:=HK.out.2.lt
 have hne:w1.heap.size≠w.heap.size∧w1.heap.size≠w.heap.size+1:=by omega
 obtain⟨hn1,hn2⟩:=hne
 clear hW2
 go_region
 all_goals
  go_wp2_with fail
  have z1:=((((HK.out.1.set 0 (.slice none 0 0)).set 1 (.slice none 0 0)).far (p:=⟨w.heap.size+1,0,none⟩) (by show w.heap.size+1≠w.heap.size;omega) (.int .i64 (y:Int))).far (p:=⟨w.heap.size+1,1,none⟩) (by show w.heap.size+1≠w.heap.size;omega) (.int .i64 (a:Int))).drewN 1
  have z2:=((((HK.out.2.far (p:=⟨w.heap.size,0,none⟩) (by show w.heap.size≠w.heap.size+1;omega) (.slice none 0 0)).far (p:=⟨w.heap.size,1,none⟩) (by show w.heap.size≠w.heap.size+1;omega) (.slice none 0 0)).set 0 (.int .i64 (y:Int))).set 1 (.int .i64 (a:Int))).drewN 1
  obtain⟨q0,q1,_⟩:=z1.cells2
  obtain⟨q2,q3,_⟩:=z2.cells2
  exact bodyPost_ret (v:=.tuple #[.agg #[.slice none 0 0,.slice none 0 0],.agg #[.int .i64 (y:Int),.int .i64 (a:Int)]]) (by simp[results,Tryz.results163,go_sem,show ∀ w:World,w.drew=w.drewN 1 from fun _=>rfl,q0,q1,q2,q3]) rfl
   ⟨none,0,0,none,0,0,rfl,repL_nil _ _ _ _,repL_nil _ _ _ _,below_drewN ((((HB1.out.setCell (Lr _) _).setCell (Lr _) _).setCell (Nat.le_succ _) _).setCell (Nat.le_succ _) _) 1⟩
theorem two_sets {W:World}{g:Nat}{t1 t2:TypeId}{a0 a1 b0 b1:Value}(h1:Blk W g t1 #[a0,a1])(h2:Blk W (g+1) t2 #[b0,b1])(x y u v:Value) :
 Blk ((((W.setCell ⟨g,0,none⟩ x).setCell ⟨g,1,none⟩ y).setCell ⟨g+1,0,none⟩ u).setCell ⟨g+1,1,none⟩ v) g t1 #[x,y]∧Blk ((((W.setCell ⟨g,0,none⟩ x).setCell ⟨g,1,none⟩ y).setCell ⟨g+1,0,none⟩ u).setCell ⟨g+1,1,none⟩ v) (g+1) t2 #[u,v] :=
 ⟨(((h1.set 0 x).set 1 y).far (p:=⟨g+1,0,none⟩) (by show g+1≠g;omega) u).far (p:=⟨g+1,1,none⟩) (by show g+1≠g;omega) v,
  (((h2.far (p:=⟨g,0,none⟩) (by show g≠g+1;omega) x).far (p:=⟨g,1,none⟩) (by show g≠g+1;omega) y).set 0 u).set 1 v⟩
theorem two_heap (W:World)(g:Nat)(x y u v:Value)(k:Nat)(h1:k≠g)(h2:k≠g+1):((((W.setCell ⟨g,0,none⟩ x).setCell ⟨g,1,none⟩ y).setCell ⟨g+1,0,none⟩ u).setCell ⟨g+1,1,none⟩ v).heap[k]?=W.heap[k]? :=
 (Below.heap_setCell _ _ _ _ h2).trans ((Below.heap_setCell _ _ _ _ h2).trans ((Below.heap_setCell _ _ _ _ h1).trans (Below.heap_setCell _ _ _ _ h1)))
theorem pa_keep {α:Type}{Rep:World→(Nat→Prop)→α→List Value→Prop}(hk:Keeps Rep){sz:Nat}{W:World}{lo g:Nat}{xs:List α}{z:Value}(h:RepL Rep sz W (Rg lo W.heap.size) xs z)(hl:g+1 < lo)(x y u v:Value)(o:Obj) :
 RepL Rep sz (((((W.setCell ⟨g,0,none⟩ x).setCell ⟨g,1,none⟩ y).setCell ⟨g+1,0,none⟩ u).setCell ⟨g+1,1,none⟩ v).alloc o) (Rg g (((((W.setCell ⟨g,0,none⟩ x).setCell ⟨g,1,none⟩ y).setCell ⟨g+1,0,none⟩ u).setCell ⟨g+1,1,none⟩ v).alloc o).heap.size) xs z:=by
 have hs:((((W.setCell ⟨g,0,none⟩ x).setCell ⟨g,1,none⟩ y).setCell ⟨g+1,0,none⟩ u).setCell ⟨g+1,1,none⟩ v).heap.size=W.heap.size:=by simp[World.setCell]
 refine h.keep hk (fun k hr=>⟨by have:=hr.1;omega,by rw[World.size_alloc,hs];have:=hr.2;omega⟩) (fun k hr=>?_)
 exact (Below.heap_alloc _ _ _ (by rw[hs];exact hr.2)).trans (two_heap W g x y u v k (by have:=hr.1;omega) (by have:=hr.1;omega))
theorem parse_ok (s:ByteArray)(ts:List Tk)(hq:Hid (zBl s.data.toList=(ts,0,0)))(pg:PG)(s1:PS)(hr:Hid (pgF ts (5 * ts.length+20) ⟨0,false⟩=(pg,s1)))(r:PG × Nat × Nat)
 (hres:Hid ((if s1.f=true then ((⟨[],[]⟩:PG),2,if s1.i < ts.length then (ts.getD s1.i tk0).pos else s.size) else (pg,0,0))=r)) (w:World) (h:PEnv w) :
 Calls Tryz.prog 163 #[.string s] w (PaP r w):=by
 have hE:=h.on (w':=(w.alloc (.cells pg0 26)).alloc (.cells er0 29)) (((Below.refl _ _).alloc (Lr _) _).alloc (by simp) _)
 have hz:((w.alloc (.cells pg0 26)).alloc (.cells er0 29)).heap.size=w.heap.size+2:=by simp
 have hK1:Blk ((w.alloc (.cells pg0 26)).alloc (.cells er0 29)) w.heap.size 26 pg0:=(Blk.new w _ _).alloc _
 have hK2:Blk ((w.alloc (.cells pg0 26)).alloc (.cells er0 29)) (w.heap.size+1) 29 er0:=blk_at (by simp) _ _
 have hB:Below w.heap.size w ((w.alloc (.cells pg0 26)).alloc (.cells er0 29)):=((Below.refl _ _).alloc (Lr _) _).alloc (by simp) _
 obtain⟨hfew,htx⟩:=scan_small hq.out
 dsimp only at hfew htx
 have HTX:=Hd htx
 have HK1:=Hd hK1
 have HK2:=Hd hK2
 have HB:=Hd hB
 clear hK1 hK2 hB h htx
 go_enter Tryz.func163,Tryz.ntmps163
 go_wp2_with fail
 generalize hW:(w.alloc (.cells pg0 26)).alloc (.cells er0 29)=W at *
 clear hW
 refine (scan_q s _ hq W hE.1).mono ?_
 rintro e w1 ⟨A,c,rfl,htk,hb⟩
 have hE1:=hE.on hb
 have hsz:=hb.size
 have k1:=((HK1.out.on hb HK1.out.lt).alloc (.cells er0 29)).alloc (.cells #[.slice A ts.length c,.int .i64 0,.bool false] 243)
 have k2:=((HK2.out.on hb HK2.out.lt).alloc (.cells er0 29)).alloc (.cells #[.slice A ts.length c,.int .i64 0,.bool false] 243)
 have hbl:Below w1.heap.size w1 ((w1.alloc (.cells er0 29)).alloc (.cells #[.slice A ts.length c,.int .i64 0,.bool false] 243)):=((Below.refl _ _).alloc (Lr _) _).alloc (by simp) _
 have htk2:Toks ((w1.alloc (.cells er0 29)).alloc (.cells #[.slice A ts.length c,.int .i64 0,.bool false] 243)) (w1.heap.size+1) A ts:=(htk.on hbl).up (Nat.le_succ _)
 have hE2:Env (w1.heap.size+1) ((w1.alloc (.cells er0 29)).alloc (.cells #[.slice A ts.length c,.int .i64 0,.bool false] 243)):=by
  have h0:=hE1.2.on hbl
  exact⟨h0.1.up (Nat.le_succ _),h0.2.1.up (Nat.le_succ _),fun w2 h2=>h0.2.2 w2 (below_down h2 (Nat.le_succ _))⟩
 have hps:PSt ts (w1.heap.size+1) ⟨0,false⟩ ((w1.alloc (.cells er0 29)).alloc (.cells #[.slice A ts.length c,.int .i64 0,.bool false] 243)) :=
  ⟨A,c,blk_at (by simp) _ _,htk2,hE2,Nat.zero_le _,hfew,HTX.out⟩
 have hB1:=HB.out.trans (below_down (hb.trans (below_down hbl hb.size)) HB.out.size)
 have hm:5 * ms ts ⟨0,false⟩+10≤5 * ts.length+20:=by have:=ms_le ts ⟨0,false⟩;omega
 have HK:=Hd (Ai k1 k2)
 have HB1:=Hd hB1
 have HPS:=Hd hps
 clear hE hE1 htk hb k1 k2 hbl hE2 hps hB1
 have HTK:=Hd htk2
 clear htk2
 go_wp2_with fail
 generalize hW2:(w1.alloc (.cells er0 29)).alloc (.cells #[.slice A ts.length c,.int .i64 0,.bool false] 243)=W2 at *
 have hpp:=HPS.out.lt
 clear hW2
 refine (program_any ts _ _ _ _ hr hm _ HPS.out).mono ?_
 rintro e w3 ⟨A1,L1,c1,A2,L2,c2,rfl,ra,rf,hg,hp⟩
 dsimp only at ra rf hp
 have k1:=HK.out.1.gr hg (by omega)
 have k2:=HK.out.2.gr hg (by omega)
 have hgs:=hg.size
 have hB3:Below w.heap.size w w3:=HB1.out.trans ⟨hg.os,hg.tape,hg.output,hg.size,fun i hi=>hg.block i (by omega) (by intro e;injection e with e;omega)⟩
 have hTK3:Toks w3 (w1.heap.size+1) A ts:=HTK.out.on (grown_below' hg (Nat.le_of_lt hpp))
 obtain⟨Ax,cx,t0,t1,t2,hil,_⟩:=hp.bnd
 obtain⟨i1,f1⟩:=s1
 dsimp only at t1 t2 hil
 have HRA:=Hd ra
 have HRF:=Hd rf
 have HB3:=Hd hB3
 have HTK3:=Hd hTK3
 have HP:=Hd hp
 have HKK:=Hd (Ai k1 k2)
 obtain⟨r0,r1,f0',f1'⟩:=k1.cells2
 obtain⟨r2,r3,f2,f3⟩:=k2.cells2
 clear ra rf hg hp hB3 hTK3 k1 k2 t0
 have hl1:w.heap.size+1 < w3.heap.size:=HKK.out.2.lt
 have hl0:w.heap.size < w3.heap.size:=HKK.out.1.lt
 have hlo:w.heap.size+1 < W2.heap.size:=by omega
 have hl2:w1.heap.size+1 < w3.heap.size:=HP.out.lt
 cases f1
 ·have hres:=hres.out
  rw[if_neg (by simp)] at hres
  subst hres
  go_wp2_with fail
  obtain⟨z1,z2⟩:=two_sets HKK.out.1 HKK.out.2 (.slice A1 L1 c1) (.slice A2 L2 c2) (.int .i64 0) (.int .i64 0)
  obtain⟨q0,q1,_⟩:=(z1.alloc (.cells #[.slice A1 L1 c1,.slice A2 L2 c2] 26)).cells2
  obtain⟨q2,q3,_⟩:=(z2.alloc (.cells #[.slice A1 L1 c1,.slice A2 L2 c2] 26)).cells2
  exact bodyPost_ret (v:=.tuple #[.agg #[.slice A1 L1 c1,.slice A2 L2 c2],.agg #[.int .i64 0,.int .i64 0]]) (by simp[results,Tryz.results163,go_sem,q0,q1,q2,q3]) rfl
   ⟨A1,L1,c1,A2,L2,c2,rfl,pa_keep keepsA HRA.out hlo _ _ _ _ _,pa_keep keepsF HRF.out hlo _ _ _ _ _,(((((HB3.out.setCell (Lr _) _).setCell (Lr _) _).setCell (Nat.le_succ _) _).setCell (Nat.le_succ _) _).alloc (by simp[World.setCell];omega) _)⟩
 ·have hres:=hres.out
  rw[if_pos rfl] at hres
  by_cases hi:i1 < ts.length
  ·rw[if_pos hi] at hres
   subst hres
   obtain⟨g,rfl,hgl,d0,d1,d2⟩:=tok_cells HTK3.out hi
   obtain⟨tn,htn⟩:∃ tn,ts.length=tn:=⟨_,rfl⟩
   have e1:(i1:Int) < (tn:Int):=by omega
   have e2:decide ((i1:Int) < (tn:Int))=true:=decide_eq_true e1
   have hgw:g < w3.heap.size:=by omega
   obtain⟨at0,hat⟩:∃ x,(ts.getD i1 tk0).pos=x:=⟨_,rfl⟩
   rw[hat] at d2
   have HAT:=Hd hat
   rw[htn]
   clear d0 d1 hat htn
   go_wp2_with fail
   obtain⟨z1,z2⟩:=two_sets HKK.out.1 HKK.out.2 (.slice none 0 0) (.slice none 0 0) (.int .i64 2) (.int .i64 (at0:Int))
   obtain⟨q0,q1,_⟩:=(z1.alloc (.cells #[.slice A1 L1 c1,.slice A2 L2 c2] 26)).cells2
   obtain⟨q2,q3,_⟩:=(z2.alloc (.cells #[.slice A1 L1 c1,.slice A2 L2 c2] 26)).cells2
   exact bodyPost_ret (v:=.tuple #[.agg #[.slice none 0 0,.slice none 0 0],.agg #[.int .i64 2,.int .i64 (at0:Int)]]) (by simp[results,Tryz.results163,go_sem,q0,q1,q2,q3]) rfl
    ⟨none,0,0,none,0,0,by rw[←HAT.out];rfl,repL_nil _ _ _ _,repL_nil _ _ _ _,(((((HB3.out.setCell (Lr _) _).setCell (Lr _) _).setCell (Nat.le_succ _) _).setCell (Nat.le_succ _) _).alloc (by simp[World.setCell];omega) _)⟩
  ·rw[if_neg hi] at hres
   subst hres
   obtain⟨tn,htn⟩:∃ tn,ts.length=tn:=⟨_,rfl⟩
   have e1:¬ (i1:Int) < (tn:Int):=by omega
   have e2:decide ((i1:Int) < (tn:Int))=false:=decide_eq_false e1
   rw[htn]
   clear htn
   go_wp2_with fail
   obtain⟨z1,z2⟩:=two_sets HKK.out.1 HKK.out.2 (.slice none 0 0) (.slice none 0 0) (.int .i64 2) (.int .i64 (s.size:Int))
   obtain⟨q0,q1,_⟩:=(z1.alloc (.cells #[.slice A1 L1 c1,.slice A2 L2 c2] 26)).cells2
   obtain⟨q2,q3,_⟩:=(z2.alloc (.cells #[.slice A1 L1 c1,.slice A2 L2 c2] 26)).cells2
   exact bodyPost_ret (v:=.tuple #[.agg #[.slice none 0 0,.slice none 0 0],.agg #[.int .i64 2,.int .i64 (s.size:Int)]]) (by simp[results,Tryz.results163,go_sem,q0,q1,q2,q3]) rfl
    ⟨none,0,0,none,0,0,rfl,repL_nil _ _ _ _,repL_nil _ _ _ _,(((((HB3.out.setCell (Lr _) _).setCell (Lr _) _).setCell (Nat.le_succ _) _).setCell (Nat.le_succ _) _).alloc (by simp[World.setCell];omega) _)⟩
theorem parse_any (s:ByteArray)(r:PG × Nat × Nat)(hr:Hid (parseF s.data.toList=r))(w:World)(h:PEnv w):Calls Tryz.prog 163 #[.string s] w (PaP r w):=by
 have hr:=hr.out
 unfold parseF at hr
 obtain⟨⟨ts,y,a⟩,hq⟩:∃ q,zBl s.data.toList=q:=⟨_,rfl⟩
 rw[hq] at hr
 dsimp only at hr
 by_cases hy:y=0
 ·rw[if_pos hy] at hr
  subst hy
  have hq2:=hq
  unfold zBl at hq2
  by_cases hl:20000 < s.data.toList.length
  ·rw[if_pos hl] at hq2
   injection hq2 with _ h2
   injection h2 with h2 _
   cases h2
  ·rw[if_neg hl] at hq2
   have ha:a=0:=by
    by_cases h0:(lx s.data.toList 0).2.1=0
    ·rw[if_pos h0] at hq2
     injection hq2 with _ h2
     injection h2 with _ h2
     exact h2.symm
    ·rw[if_neg h0] at hq2
     injection hq2 with _ h2
     rw[h2] at h0
     exact absurd rfl h0
   subst ha
   obtain⟨⟨pg,s1⟩,hp⟩:∃ x,pgF ts (5 * ts.length+20) ⟨0,false⟩=x:=⟨_,rfl⟩
   rw[hp] at hr
   dsimp only at hr
   exact parse_ok s ts (Hd hq) pg s1 (Hd hp) r (Hd hr) w h
 ·rw[if_neg hy] at hr
  subst hr
  exact parse_bad s y a hy ts (Hd hq) w h
end Go.Proofs.YtpgnlfdindmopaaGreatDoor
