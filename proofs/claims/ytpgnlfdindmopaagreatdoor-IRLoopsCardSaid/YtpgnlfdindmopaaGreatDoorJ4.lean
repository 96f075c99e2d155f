/- Words and walks for the laws of the interpreter. -/
import Derived.Test.YtpgnlfdindmopaaGreatDoorJ3
import Derived.Maps.AppendAt
import Derived.IntWalk
namespace Go.Proofs.YtpgnlfdindmopaaGreatDoor
open Go.RowKit (wrap64 intOf)
open Go Go.RowKit WM LX PX
def RowF (w:World)(ok:Nat→Prop)(n sz:Nat)(F:Nat→List Value)(v:Value):Prop :=
 ∃ A c,v=.slice A n c∧(0 < n→∃ g,A=some ⟨g,0,none⟩∧ok g∧(∀ i j u,i < n→(F i)[j]?=some u→w.cell? ⟨g,i * sz+j,none⟩=some u)∧(sz=17→∀ j,w.frozen? ⟨g,j,none⟩=false))
theorem RowF.keep {w w':World}{ok ok':Nat→Prop}{n sz:Nat}{F:Nat→List Value}{v:Value}(h:RowF w ok n sz F v)(hok:∀ g,ok g→ok' g)(hw:∀ g,ok g→w'.heap[g]?=w.heap[g]?):RowF w' ok' n sz F v:=by
 obtain⟨A,c,hv,h⟩:=h
 refine⟨A,c,hv,fun h0=>?_⟩
 obtain⟨g,hA,hg,hcell,hfz⟩:=h h0
 exact⟨g,hA,hok g hg,fun i j u hi hu=>(Cb (hw g hg)).trans (hcell i j u hi hu),fun hz j=>(World.frozen?_of_block (hw g hg)).trans (hfz hz j)⟩
theorem rowF_nil (w:World)(ok:Nat→Prop)(sz:Nat)(F:Nat→List Value):RowF w ok 0 sz F (.slice none 0 0):=⟨none,0,rfl,fun h=>absurd h (Nat.lt_irrefl _)⟩
theorem rowF_own {w:World}{base:Nat}{E:TypeId}{sz:Nat}{v:Value}{n:Nat}{css:List (List Value)}(h:w.ownsRow base E sz v n css.flatten)(hl:css.length=n)(hs:∀ cs∈css,cs.length=sz):RowF w (Rg base w.heap.size) n sz (fun i=>css.getD i []) v:=by
 rcases h.2 with ⟨rfl,rfl⟩ | ⟨g,cap,cur,hv,hb,hg,_⟩
 ·exact rowF_nil _ _ _ _
 ·refine⟨_,cap,hv,fun _=>⟨g,rfl,⟨hb,(Array.getElem?_eq_some_iff.1 hg).1⟩,fun i j u hi hu=>?_,fun _ j=>by simp[World.frozen?,hg]⟩⟩
  have hci:css[i]?=some (css.getD i []):=by rw[List.getD_eq_getElem?_getD,Ge (by omega)];rfl
  have:=h.cells (g:=g) (by rw[hv];rfl) _ u (flat_at sz css hs i j u _ hci hu)
  rwa [show ∀ k,(⟨g,0,none⟩:Addr).add k=⟨g,k,none⟩ from fun k=>by unfold Addr.add;split <;> simp_all] at this
structure Keeps {α:Type}(Rep:World→(Nat→Prop)→α→List Value→Prop):Prop where
 k:∀ {w w':World} {ok ok':Nat→Prop} {x:α} {cs:List Value},Rep w ok x cs→(∀ g,ok g→ok' g)→(∀ g,ok g→w'.heap[g]?=w.heap[g]?)→Rep w' ok' x cs
def RepL {α:Type}(Rep:World→(Nat→Prop)→α→List Value→Prop)(sz:Nat)(w:World)(ok:Nat→Prop)(xs:List α)(v:Value):Prop :=
 ∃ F,RowF w ok xs.length sz F v∧∀ (i:Nat) (x:α),xs[i]?=some x→Rep w ok x (F i)
theorem RepL.keep {α:Type}{Rep:World→(Nat→Prop)→α→List Value→Prop}{sz:Nat}{w w':World}{ok ok':Nat→Prop}{xs:List α}{v:Value}(h:RepL Rep sz w ok xs v)(hk:Keeps Rep)(hok:∀ g,ok g→ok' g)(hw:∀ g,ok g→w'.heap[g]?=w.heap[g]?):RepL Rep sz w' ok' xs v:=by
 obtain⟨F,h1,h2⟩:=h
 exact⟨F,h1.keep hok hw,fun i x hx=>hk.k (h2 i x hx) hok hw⟩
theorem repL_nil {α:Type}(Rep:World→(Nat→Prop)→α→List Value→Prop)(sz:Nat)(w:World)(ok:Nat→Prop):RepL Rep sz w ok [] (.slice none 0 0):=⟨fun _=>[],rowF_nil _ _ _ _,fun i x h=>by simp at h⟩
def RepN (_w:World)(_ok:Nat→Prop)(x:List UInt8)(cs:List Value):Prop:=cs=[.string ⟨x.toArray⟩]
theorem keepsN:Keeps RepN:=⟨fun h _ _=>h⟩
theorem keepsE:Keeps RepE:=⟨fun h hok hw=>h.keep hok hw⟩
structure Coll {α:Type}(Rep:World→(Nat→Prop)→α→List Value→Prop)(sz:Nat)(E:TypeId)(B:Nat)(xs:List α)(css:List (List Value))(v:Value)(w:World):Prop where
 own:w.ownsRow B E sz v css.length css.flatten
 len:xs.length=css.length
 szs:∀ cs∈css,cs.length=sz
 rep:∀ (i:Nat) (x:α) (cs:List Value),xs[i]?=some x→css[i]?=some cs→Rep w (fun g=>B≤g∧g < w.heap.size∧v.ownBlock≠some g) x cs
section
variable {α:Type} {Rep:World→(Nat→Prop)→α→List Value→Prop} {sz:Nat} {E:TypeId} {B p:Nat} {xs:List α} {css:List (List Value)} {v v':Value} {w w':World}
theorem Coll.grown (c:Coll Rep sz E B xs css v w)(hk:Keeps Rep)(hg:w.grownBy w' (some p))(hp:p < B):Coll Rep sz E B xs css v w' :=
 ⟨c.own.kept hg (by
  cases hv:v.ownBlock with
  | none=>exact Or.inl rfl
  | some k=>exact Or.inr (fun e=>by injection e with e;have:=(c.own.lt k hv).1;omega)),
  c.len,c.szs,fun i x cs hx hc=>hk.k (c.rep i x cs hx hc) (fun g h=>⟨h.1,Ll h.2.1 hg.size,h.2.2⟩) (fun g h=>hg.block g h.2.1 (by intro e;injection e with e;have:=h.1;omega))⟩
theorem coll_nil (Rep:World→(Nat→Prop)→α→List Value→Prop)(sz:Nat)(E:TypeId)(B:Nat)(w:World):Coll Rep sz E B [] [] (.slice none 0 0) w :=
 ⟨World.ownsRow_nil _ _ _ _,rfl,fun _ h=>(by cases h),fun i x cs h=>(by simp at h)⟩
theorem coll_one (hk:Keeps Rep){x:α}{cs:List Value}{lo:Nat}(hr:Rep w (Rg lo w.heap.size) x cs)(hl:B≤lo)(hB:B≤w.heap.size)(hs:cs.length=sz)(arr:Array Value)(ha:arr.toList=cs):Coll Rep sz E B [x] [cs] (.slice (some ⟨w.heap.size,0,none⟩) 1 1) (w.alloc (.cells arr E)):=by
 have hsize:arr.size=sz:=by rw[←Array.length_toList,ha,hs]
 refine⟨⟨by simp[hs],Or.inr ⟨w.heap.size,1,arr,rfl,hB,heap_alloc_new w _,Lr _,by unfold maxLen;omega,by omega,?_⟩⟩,rfl,fun c hc=>?_,fun i y c hy hc=>?_⟩
 ·rw[ha]
  simp
  rw[←hs]
  simp
 ·rw[List.mem_singleton] at hc
  rw[hc,hs]
 ·match i with
  | 0 =>
   simp at hy hc
   subst hy hc
   exact hk.k hr (fun g h=>⟨Nat.le_trans hl h.1,by rw[World.size_alloc];have:=h.2;omega,by simp[Value.ownBlock];have:=h.2;omega⟩) (fun g h=>Below.heap_alloc _ _ _ h.2)
  | i+1=>simp at hy
theorem Coll.snoc {w1:World}{o:Obj}{x:α}{cs:List Value}{lo:Nat}(hk:Keeps Rep)(c:Coll Rep sz E B xs css v w1)(hr:Rep w1 (Rg lo w1.heap.size) x cs)(hl:B≤lo)(hv:∀ k,v.ownBlock=some k→k < lo)(hs:cs.length=sz)
 (hown:w'.ownsRow B E sz v' (css.length+1) (css.flatten++cs)) (hg:(w1.alloc o).grownBy w' v.ownBlock) (hv':v'.ownBlock=v.ownBlock∨v'.ownBlock=some (w1.alloc o).heap.size):Coll Rep sz E B (xs++[x]) (css++[cs]) v' w':=by
 have hz:w1.heap.size < (w1.alloc o).heap.size:=by rw[World.size_alloc];omega
 have hz2:=hg.size
 have hno:∀ g,g < w1.heap.size→v.ownBlock≠some g→v'.ownBlock≠some g:=fun g h1 h2 h3=>by
  rcases hv' with e | e
  ·exact h2 (e ▸ h3)
  ·rw[e] at h3;injection h3 with h3;omega
 have hkeep:∀ g,g < w1.heap.size→v.ownBlock≠some g→w'.heap[g]?=w1.heap[g]?:=fun g h1 h2 =>
  (hg.block g (by omega) (fun e=>h2 e.symm)).trans (Below.heap_alloc _ _ _ h1)
 refine⟨by simpa using hown,by simp[c.len],fun d hd=>?_,fun i y d hy hd=>?_⟩
 ·rcases List.mem_append.1 hd with h | h
  ·exact c.szs d h
  ·rw[List.mem_singleton] at h;rw[h,hs]
 ·by_cases hi:i < xs.length
  ·rw[List.getElem?_append_left hi] at hy
   rw[List.getElem?_append_left (by rw[←c.len];exact hi)] at hd
   exact hk.k (c.rep i y d hy hd) (fun g h=>⟨h.1,by have:=h.2.1;omega,hno g h.2.1 h.2.2⟩) (fun g h=>hkeep g h.2.1 h.2.2)
  ·rw[List.getElem?_append_right (by omega)] at hy
   rw[List.getElem?_append_right (by rw[←c.len];omega)] at hd
   have hi2:i=xs.length:=by
    have:=(Gs.1 hy).1
    simp at this;omega
   subst hi2
   rw[c.len] at hd
   simp at hy hd
   subst hy hd
   have hne:∀ g,lo≤g→v.ownBlock≠some g:=fun g h e=>by have:=hv g e;omega
   exact hk.k hr (fun g h=>⟨Nat.le_trans hl h.1,by have:=h.2;omega,hno g h.2 (hne g h.1)⟩) (fun g h=>hkeep g h.2 (hne g h.1))
theorem Coll.out (c:Coll Rep sz E B xs css v w)(hk:Keeps Rep):RepL Rep sz w (Rg B w.heap.size) xs v:=by
 refine⟨fun i=>css.getD i [],?_,fun i x hx=>?_⟩
 ·rw[c.len];exact rowF_own c.own rfl c.szs
 ·have hi:i < css.length:=by rw[←c.len];exact (Gs.1 hx).1
  have hci:css[i]?=some (css.getD i []):=by rw[List.getD_eq_getElem?_getD,Ge hi];rfl
  exact hk.k (c.rep i x _ hx hci) (fun g h=>⟨h.1,h.2.1⟩) (fun _ _=>rfl)
theorem Coll.blk (c:Coll Rep sz E B xs css v w):∀ k,v.ownBlock=some k→k < w.heap.size:=fun k h=>(c.own.lt k h).2
theorem Coll.form (c:Coll Rep sz E B xs css v w):∃ A L cp,v=.slice A L cp:=by
 rcases c.own.2 with ⟨rfl,_⟩ | ⟨g,cap,cur,hv,_⟩
 ·exact⟨_,_,_,rfl⟩
 ·exact⟨_,_,_,hv⟩
end
def LiP {α:Type}(Rep:World→(Nat→Prop)→α→List Value→Prop)(sz:Nat)(ts:List Tk)(p:Nat)(q:List α × PS)(w:World)(e:Ending)(w':World):Prop :=
 ∃ A L c,e=.returned (.slice A L c)∧RepL Rep sz w' (Rg w.heap.size w'.heap.size) q.1 (.slice A L c)∧w.grownBy w' (some p)∧PSt ts p q.2 w'
theorem liP {α:Type}{Rep:World→(Nat→Prop)→α→List Value→Prop}{sz:Nat}{ts:List Tk}{p:Nat}{xs:List α}{s:PS}{w w':World}{A:Option Addr}{L c:Nat}(hr:RepL Rep sz w' (Rg w.heap.size w'.heap.size) xs (.slice A L c))(hg:w.grownBy w' (some p))(hp:PSt ts p s w'):LiP Rep sz ts p (xs,s) w (.returned (.slice A L c)) w':=⟨A,L,c,rfl,hr,hg,hp⟩
theorem liP_of {α:Type}{Rep:World→(Nat→Prop)→α→List Value→Prop}(hk:Keeps Rep){sz:Nat}{E:TypeId}{ts:List Tk}{p:Nat}{xs:List α}{css:List (List Value)}{q:List α × PS}{s:PS}{w w':World}{v:Value}(c:Coll Rep sz E w.heap.size xs css v w')(hx:xs=q.1)(hs:s=q.2)(hg:w.grownBy w' (some p))(hp:PSt ts p s w'):LiP Rep sz ts p q w (.returned v) w':=by
 obtain⟨A,L,cp,rfl⟩:=c.form
 obtain⟨q1,q2⟩:=q
 dsimp only at hx hs
 subst hx hs
 exact liP (c.out hk) hg hp
theorem zCt {a b w:World}{p:Nat}{row:Option Nat}(h:w.grownBy a (some p))(g:a.grownBy b row)(hrow:∀ k,row=some k→w.heap.size≤k):w.grownBy b (some p) :=
 ⟨g.os.trans h.os,g.tape.trans h.tape,g.output.trans h.output,Nat.le_trans h.size g.size,fun i hi hne=>(g.block i (Ll hi h.size) (fun e=>by have:=hrow i e.symm;omega)).trans (h.block i hi hne)⟩
theorem PSt.row {ts:List Tk}{p:Nat}{s:PS}{a b:World}{row:Option Nat}(h:PSt ts p s a)(g:a.grownBy b row)(hrow:∀ k,row=some k→p < k):PSt ts p s b:=by
 have hp:=h.lt
 have hb:Below p a b:=⟨g.os,g.tape,g.output,g.size,fun i hi=>g.block i (by omega) (fun e=>by have:=hrow i e.symm;omega)⟩
 obtain⟨A,c,h1,h2,h3,h4⟩:=h
 exact⟨A,c,(g.block p hp (fun e=>by have:=hrow p e.symm;omega)).trans h1,h2.on hb,h3.on hb,h4⟩
theorem RepL.acc {α:Type}{Rep:World→(Nat→Prop)→α→List Value→Prop}{sz:Nat}{a b:World}{lo hi p:Nat}{xs:List α}{v:Value}(h:RepL Rep sz a (Rg lo hi) xs v)(hk:Keeps Rep)(hg:a.grownBy b (some p))(hp:p < lo)(hh:hi≤a.heap.size):RepL Rep sz b (Rg lo hi) xs v :=
 h.keep hk (fun _ h=>h) (fun g hr=>hg.block g (Ll hr.2 hh) (by intro e;injection e with e;have:=hr.1;omega))
theorem RepL.mono {α:Type}{Rep:World→(Nat→Prop)→α→List Value→Prop}{sz:Nat}{a:World}{lo hi lo' hi':Nat}{xs:List α}{v:Value}(h:RepL Rep sz a (Rg lo hi) xs v)(hk:Keeps Rep)(h1:lo'≤lo)(h2:hi≤hi'):RepL Rep sz a (Rg lo' hi') xs v :=
 h.keep hk (fun _ hr=>⟨Nat.le_trans h1 hr.1,Ll hr.2 h2⟩) (fun _ _=>rfl)
end Go.Proofs.YtpgnlfdindmopaaGreatDoor
namespace Go.Proofs.YtpgnlfdindmopaaGreatDoor
open Go.RowKit (wrap64 intOf)
open Go Go.RowKit WM LX PX
set_option maxRecDepth 100000
set_option maxHeartbeats 4000000
theorem strInfo:(Tryz.prog.info? 9).map (fun i=>(i.zero,i.size,i.bytes))=some (some (.string ⟨#[]⟩),1,16):=by kernel_rfl
theorem ms_le (ts:List Tk)(s:PS):ms ts s≤ts.length+1:=by unfold ms;split <;> omega
theorem PSt.few {ts:List Tk}{p:Nat}{s:PS}{w:World}(h:PSt ts p s w):ts.length≤20000:=by
 obtain⟨_,_,_,_,_,_,h5,_⟩:=h
 exact h5
def NlR (ts:List Tk)(p:Nat)(q:List (List UInt8) × PS)(w:World)(k:Nat)(v:Value)(wr:World):Prop :=
 ∃ (s':PS) (acc:List (List UInt8)) (css:List (List Value)),acc++(mNF ts k s').1=q.1∧(mNF ts k s').2=q.2∧ms ts s'+1≤k∧acc.length+ms ts s'≤ts.length+2∧w.grownBy wr (some p)∧PSt ts p s' wr∧Coll RepN 1 9 w.heap.size acc css v wr
theorem nlist_any (ts:List Tk)(p n:Nat)(s:PS)(q:List (List UInt8) × PS)(hq:Hid (lNF ts n s=q))(hm:ms ts s+1≤n)(w:World)(h:PSt ts p s w) :
 Calls Tryz.prog 238 #[.pointer (some ⟨p,0,none⟩),.func (.func 234) #[.pointer (some ⟨p,0,none⟩)] #[]] w (LiP RepN 1 ts p q w):=by
 have hq:=hq.out
 unfold lNF at hq
 obtain⟨nm0,hv⟩:∃ x,nmV ts s=x:=⟨_,rfl⟩
 obtain⟨s1,hs1⟩:∃ x,nmS ts s=x:=⟨_,rfl⟩
 have HV:=Hd hv
 have HS1:=Hd hs1
 have hm1:=zCk (ts:=ts) s
 have hml:=ms_le ts s
 have hfew:=h.few
 have hpw:=h.lt
 rw[hs1] at hm1
 rw[hv,hs1] at hq
 have hq1:nm0 :: (mNF ts n s1).1=q.1:=by rw[←hq]
 have hq2:(mNF ts n s1).2=q.2:=by rw[←hq]
 have HQ1:=Hd hq1
 have HQ2:=Hd hq2
 clear hq hv hs1 hq1 hq2
 obtain⟨i0,hi,hz0,hz1,hz2⟩:=info_parts strInfo
 go_enter Tryz.func238,Tryz.ntmps238
 go_wp2_with fail
 refine (zBw ts p s s1 nm0 HV HS1 _ h).mono ?_
 rintro e w1 ⟨rfl,hg,hp⟩
 have H0:Hid (NlR ts p q w n (.slice (some ⟨w1.heap.size,0,none⟩) 1 1) (w1.alloc (.cells #[.string ⟨nm0.toArray⟩] 9))) :=
  Hd ⟨s1,[nm0],[[.string ⟨nm0.toArray⟩]],HQ1.out,HQ2.out,by omega,by simp;omega,grown_al hg _,hp.alloc _,coll_one (Rep:=RepN) (x:=nm0) (cs:=[.string ⟨nm0.toArray⟩]) keepsN (lo:=w1.heap.size) rfl hg.size hg.size rfl _ rfl⟩
 clear hg hp
 go_wp2_with fail
 go_loopg [5] n (fun k v wr=>NlR ts p q w k v wr)
 case atStart=>exact H0.out
 case round =>
  obtain⟨s',acc,css,ha,hb,hk,hln,hg,hp,hcl⟩:=hrel
  obtain⟨m,rfl⟩:∃ m,gk=m+1:=⟨gk - 1,by omega⟩
  rw[mNF] at ha hb
  by_cases hx:nx ts s' zA7=true
  ·rw[if_pos hx] at ha hb
   have HX:=Hd hx
   have hmv:=zAj (zA5 (by decide) hx)
   obtain⟨nm,hv⟩:∃ x,nmV ts (adv s')=x:=⟨_,rfl⟩
   obtain⟨s2,hs2⟩:∃ x,nmS ts (adv s')=x:=⟨_,rfl⟩
   have hm2:=zCk (ts:=ts) (adv s')
   have HV2:=Hd hv
   have HS2:=Hd hs2
   rw[hs2] at hm2
   rw[hv,hs2] at ha
   rw[hs2] at hb
   have HA:=Hd ha
   have HB:=Hd hb
   clear hx hv hs2 ha hb
   go_wp2_with fail
   refine (zAi ts p s' zA7 (by decide) HX _ hp).mono ?_
   rintro e w2 ⟨rfl,hg2,hp2⟩
   replace hcl:=hcl.grown keepsN hg2 hpw
   replace hg:=grown_to hg hg2
   clear hg2 hp
   go_wp2_with fail
   refine (zBw ts p (adv s') s2 nm HV2 HS2 _ hp2).mono ?_
   rintro e w3 ⟨rfl,hg3,hp3⟩
   have hlo:=hcl.blk
   have hlw:=hg.size
   replace hcl:=hcl.grown keepsN hg3 hpw
   replace hg:=grown_to hg hg3
   have hlen:=hcl.len
   clear hg3 hp2
   have HCL:=Hd hcl
   have HLO:=Hd hlo
   have HG:=Hd hg
   have hown:=hcl.own
   have hsz:=hg.size
   clear hcl hlo hg
   go_wp2_with (
    at_builtin
    refine wpList_append_own_at _ rfl (.tmp 11) (.tmp 14) 32 rfl w.heap.size 9 i0 _ 1 16 Tryz.underlying32 hi hz0 hz1 hz2 rfl (by decide) _ _ _ rfl (hown.alloc _) ⟨w3.heap.size,0,none⟩ 1 1 [.string ⟨nm.toArray⟩] rfl rfl (World.news_of_block (heap_alloc_new _ _)) (by simp[Value.oneCell']) (by unfold maxLen;omega) (by omega) (by simp;omega) ?_
    intro v2 w4 hown2 hgr2 _ hob)
   have hrow:∀ k,u5.ownBlock=some k→w.heap.size≤k:=fun k hk=>(HCL.out.own.lt k hk).1
   go_roundg m
   case measure=>exact Nat.lt_succ_self m
   case rel=>exact⟨s2,acc++[nm],css++[[.string ⟨nm.toArray⟩]],by rw[List.append_assoc];exact HA.out,HB.out,by omega,by simp;omega,zCt (grown_al HG.out _) hgr2 hrow,(hp3.alloc _).row hgr2 (fun k hk=>Ll hpw (hrow k hk)),
    HCL.out.snoc (Rep:=RepN) (x:=nm) (cs:=[.string ⟨nm.toArray⟩]) keepsN (lo:=w2.heap.size) rfl hlw HLO.out rfl hown2 hgr2 hob⟩
  ·rw[if_neg hx] at ha hb
   have HX:=Hd (show nx ts s' zA7=false by simpa using hx)
   have ha:acc=q.1:=by simpa using ha
   have HA:=Hd ha
   have HB:=Hd hb
   clear hx ha hb
   go_wp2_with fail
   refine (zAd ts p s' zA7 HX _ hp).mono ?_
   rintro e w2 ⟨rfl,hg2,hp2⟩
   go_wp2_with fail
   go_ret
   exact liP_of keepsN (hcl.grown keepsN hg2 hpw) HA.out HB.out (grown_to hg hg2) hp2
theorem pnlist_any (ts:List Tk)(p n:Nat)(s:PS)(q:List (List UInt8) × PS)(hq:Hid (pNF ts n s=q))(hm:ms ts s+1≤n)(w:World)(h:PSt ts p s w) :
 Calls Tryz.prog 237 #[.pointer (some ⟨p,0,none⟩),.func (.func 234) #[.pointer (some ⟨p,0,none⟩)] #[]] w (LiP RepN 1 ts p q w):=by
 have hq:=hq.out
 unfold pNF at hq
 obtain⟨s1,hs1⟩:∃ x,exs ts s cLp=x:=⟨_,rfl⟩
 have HS1:=Hd hs1
 have hm1:=zAp (ts:=ts) s (x:=cLp) (by decide)
 rw[hs1] at hm1 hq
 clear hs1
 by_cases hx:nx ts s1 cRp=true
 ·rw[if_pos hx] at hq
  have HX:=Hd hx
  subst hq
  clear hx
  go_enter Tryz.func237,Tryz.ntmps237
  go_wp2_with fail
  refine (zAg ts p s s1 cLp (by decide) HS1 _ h).mono ?_
  rintro e w1 ⟨rfl,hg,hp⟩
  go_wp2_with fail
  refine (zAi ts p s1 cRp (by decide) HX _ hp).mono ?_
  rintro e w2 ⟨rfl,hg2,hp2⟩
  go_wp2_with fail
  go_ret
  exact liP (repL_nil _ _ _ _) (grown_to hg hg2) hp2
 ·rw[if_neg hx] at hq
  have HX:=Hd (show nx ts s1 cRp=false by simpa using hx)
  obtain⟨⟨l,s2⟩,hc⟩:∃ x,lNF ts n s1=x:=⟨_,rfl⟩
  have HC:=Hd hc
  rw[hc] at hq
  dsimp only at hq
  obtain⟨s3,hs3⟩:∃ x,exs ts s2 cRp=x:=⟨_,rfl⟩
  have HS3:=Hd hs3
  rw[hs3] at hq
  subst hq
  have hA:ms ts s1+1≤n:=by omega
  have hpw:=h.lt
  clear hx hc hs3
  go_enter Tryz.func237,Tryz.ntmps237
  go_wp2_with fail
  refine (zAg ts p s s1 cLp (by decide) HS1 _ h).mono ?_
  rintro e w1 ⟨rfl,hg,hp⟩
  go_wp2_with fail
  refine (zAd ts p s1 cRp HX _ hp).mono ?_
  rintro e w2 ⟨rfl,hg2,hp2⟩
  replace hg:=grown_to hg hg2
  clear hg2 hp
  go_wp2_with fail
  refine (nlist_any ts p n s1 _ HC hA _ hp2).mono ?_
  rintro e w3 ⟨A,L,c,rfl,hr,hg3,hp3⟩
  go_wp2_with fail
  refine (zAg ts p s2 s3 cRp (by decide) HS3 _ hp3).mono ?_
  rintro e w4 ⟨rfl,hg4,hp4⟩
  have hr4:=(hr.acc keepsN hg4 (Ll hpw hg.size) (Lr _)).mono keepsN hg.size hg4.size
  have HR:=Hd hr4
  clear hr hr4
  go_wp2_with fail
  go_ret
  exact liP HR.out (grown_to (grown_to hg hg3) hg4) hp4
end Go.Proofs.YtpgnlfdindmopaaGreatDoor
namespace Go.Proofs.YtpgnlfdindmopaaGreatDoor
open Go.RowKit (wrap64 intOf)
open Go Go.RowKit WM LX PX
set_option maxRecDepth 100000
set_option maxHeartbeats 4000000
structure Left (w1:World)(p B g:Nat)(t:TypeId)(pe:PE)(kd nn:Int)(nm:List UInt8)(op:Int)(A:Option Addr)(L c:Nat):Prop where
 r:RepE w1 (fun x=>B < x∧x≠g∧x < w1.heap.size) pe (exC kd nn nm op A L c)
 k:Blk w1 g t #[.int .i64 kd,.int .i64 nn,.string ⟨nm.toArray⟩,.int .i64 op,.slice A L c]
 l:B < g
 q:p < B
section
variable {w1 w2:World} {p B g:Nat} {t:TypeId} {pe:PE} {kd nn:Int} {nm:List UInt8} {op:Int} {A:Option Addr} {L c:Nat}
theorem Left.acc (x:Left w1 p B g t pe kd nn nm op A L c)(hg:w1.grownBy w2 (some p)):Left w2 p B g t pe kd nn nm op A L c :=
 ⟨x.r.keep (fun y h=>⟨h.1,h.2.1,Ll h.2.2 hg.size⟩) (fun y h=>hg.block y h.2.2 (by intro e;injection e with e;have:=x.q;have:=h.1;omega)),x.k.gr hg (by have:=x.l;have:=x.q;omega),x.l,x.q⟩
theorem Left.low (x:Left w1 p B g t pe kd nn nm op A L c)(hb:Below w1.heap.size w1 w2):Left w2 p B g t pe kd nn nm op A L c:=x.acc (zAa hb _)
theorem Left.al (x:Left w1 p B g t pe kd nn nm op A L c)(o:Obj):Left (w1.alloc o) p B g t pe kd nn nm op A L c:=x.low ((Below.refl _ _).alloc (Lr _) o)
theorem Left.out (x:Left w1 p B g t pe kd nn nm op A L c):RepE w1 (Rg (B+1) w1.heap.size) pe (exC kd nn nm op A L c):=x.r.keep (fun _ h=>⟨h.1,h.2.2⟩) (fun _ _=>rfl)
end
def BiR (ts:List Tk)(p lv:Nat)(q:PE × PS)(w:World)(g m:Nat)(wr:World):Prop :=
 ∃ (s':PS) (pe:PE) (kd nn:Int) (nm:List UInt8) (op:Int) (A:Option Addr) (L c:Nat),loF ts m lv pe s'=q∧5 * ms ts s'+2≤m∧Own ts p s' 36 ex0 w wr∧Left wr p w.heap.size g 36 pe kd nn nm op A L c
theorem biR_next {ts:List Tk}{p lv:Nat}{q:PE × PS}{w wA w3 w4:World}{g m gq:Nat}{s1 s2:PS}{pe rpe:PE}{kd nn:Int}{nm:List UInt8}{op:Int}{A:Option Addr}{L c:Nat}{kd2 nn2:Int}{nm2:List UInt8}{op2:Int}{A2:Option Addr}{L2 c2:Nat}{o2:Nat}{ex:Bool}
 (o:Own ts p s1 36 ex0 w wA) (x1:Left wA p w.heap.size g 36 pe kd nn nm op A L c) (hr2:RepE w3 (Rg wA.drew.heap.size w3.heap.size) rpe (exC kd2 nn2 nm2 op2 A2 L2 c2)) (hg2:wA.drew.grownBy w3 (some p)) (hp2:PSt ts p s2 w3) (hb4:Below w3.heap.size w3 w4) (hgq:w3.heap.size≤gq)
 (hK4:Blk w4 gq 36 (if ex=true then exC kd2 nn2 nm2 op2 A2 L2 c2++exC kd nn nm op A L c else exC kd nn nm op A L c++exC kd2 nn2 nm2 op2 A2 L2 c2).toArray) (hlo:loF ts m lv (apE o2 ex pe rpe) s2=q) (hm:5 * ms ts s2+2≤m) :
 BiR ts p lv q w g m (set5 w4 g (.int .i64 4) (.int .i64 0) (.string ⟨#[]⟩) (.int .i64 (o2:Int)) (.slice (some ⟨gq,0,none⟩) 2 2)):=by
 have hgA:g < wA.heap.size:=x1.k.lt
 have hl:=x1.l
 have hz3:wA.heap.size≤w3.heap.size:=hg2.size
 have hz4:=hb4.size
 have hz5:=hK4.lt
 have o4:Own ts p s2 36 ex0 w w4:=(Own.acc (w1:=wA.drew) (o.low (below_drewN (Below.refl _ _) 1)) hg2 hp2).low hb4
 have x4:Left w4 p w.heap.size g 36 pe kd nn nm op A L c:=(Left.acc (w1:=wA.drew) (x1.low (below_drewN (Below.refl _ _) 1)) hg2).low hb4
 have y4:RepE w4 (fun x=>w.heap.size < x∧x≠g∧x < w4.heap.size) rpe (exC kd2 nn2 nm2 op2 A2 L2 c2) :=
  (hr2.under hb4 (Lr _)).keep (fun x h=>by
   have h1:wA.heap.size≤x:=h.1
   have h2:=h.2
   exact⟨by omega,by omega,by omega⟩) (fun _ _=>rfl)
 refine⟨s2,apE o2 ex pe rpe,4,0,[],o2,some ⟨gq,0,none⟩,2,2,hlo,hm,((((o4.far hl _).far hl _).far hl _).far hl _).far hl _,?_,zB2 x4.k _ _ _ _ _,hl,x1.q⟩
 have hfin:∀ {pe':PE} {cs:List Value},RepE w4 (fun x=>w.heap.size < x∧x≠g∧x < w4.heap.size) pe' cs→RepE (set5 w4 g (.int .i64 4) (.int .i64 0) (.string ⟨#[]⟩) (.int .i64 (o2:Int)) (.slice (some ⟨gq,0,none⟩) 2 2)) (fun x=>w.heap.size < x∧x≠g∧x < (set5 w4 g (.int .i64 4) (.int .i64 0) (.string ⟨#[]⟩) (.int .i64 (o2:Int)) (.slice (some ⟨gq,0,none⟩) 2 2)).heap.size) pe' cs :=
  fun h=>h.keep (fun x hx=>⟨hx.1,hx.2.1,by rw[zBj];exact hx.2.2⟩) (fun x hx=>zBp _ _ _ _ _ _ _ _ hx.2.1)
 have hok:w.heap.size < gq∧gq≠g∧gq < w4.heap.size:=⟨by omega,by omega,hz5⟩
 cases ex
 ·exact hfin (repE_2 (ca:=exC kd nn nm op A L c) (cb:=exC kd2 nn2 nm2 op2 A2 L2 c2) (c:=2) hK4 rfl hok x4.r y4 rfl rfl 4 0 [] (o2:Int))
 ·exact hfin (repE_2 (ca:=exC kd2 nn2 nm2 op2 A2 L2 c2) (cb:=exC kd nn nm op A L c) (c:=2) hK4 rfl hok y4 x4.r rfl rfl 4 0 [] (o2:Int))
theorem binary_step (ts:List Tk)(p n:Nat)(hpr:WPr ts p n)(hbi:∀ m,m≤n→WBi ts p m):WBi ts p (n+1):=by
 intro lv s q w hlv hq hm h
 have hq:=hq.out
 rw[biF] at hq
 obtain⟨⟨lpe,s1⟩,hc⟩:∃ x,prF ts n s=x:=⟨_,rfl⟩
 have HC:=Hd hc
 have hm1:=(ms_all (ts:=ts) n).2.2.2.1 s
 rw[hc] at hq hm1
 dsimp only at hq hm1
 have HQ:=Hd hq
 have hms:5 * ms ts s+2≤n:=by omega
 have hms1:5 * ms ts s1+2≤n:=by omega
 have o:=Own.start h 36 ex0
 have HBI:=Hd hbi
 have HPR:=Hd hpr
 clear hbi hpr hc h hq hm hm1
 go_enter Tryz.func254,Tryz.ntmps254
 go_wp2_with fail
 refine (HPR.out s _ _ HC hms o.s).mono ?_
 rintro e w1 ⟨kd,nn,nm,op,A,L,c,rfl,hr,hg,hp⟩
 have hl:=o.sz
 have hL:Left (w1.alloc (.cells #[.int .i64 kd,.int .i64 nn,.string ⟨nm.toArray⟩,.int .i64 op,.slice A L c] 36)) p w.heap.size w1.heap.size 36 lpe kd nn nm op A L c :=
  ⟨(hr.alloc (Lr _) _).keep (fun x h=>⟨Ll hl h.1,Nat.ne_of_lt h.2,by rw[World.size_alloc];have:=h.2;omega⟩) (fun _ _=>rfl),Blk.new _ _ _,Ll hl hg.size,o.p⟩
 replace o:=(o.acc hg hp).al (.cells #[.int .i64 kd,.int .i64 nn,.string ⟨nm.toArray⟩,.int .i64 op,.slice A L c] 36)
 have H0:Hid (BiR ts p lv q w w1.heap.size n (w1.alloc (.cells #[.int .i64 kd,.int .i64 nn,.string ⟨nm.toArray⟩,.int .i64 op,.slice A L c] 36))):=Hd ⟨s1,lpe,kd,nn,nm,op,A,L,c,HQ.out,hms1,o,hL⟩
 have hg0:w.heap.size < w1.heap.size:=Ll hl hg.size
 clear hr hg hp hL o hl
 generalize hgg:w1.heap.size=g at *
 go_wp2_with fail
 go_loopg [] n (fun m wr=>m≤n∧BiR ts p lv q w g m wr)
 case atStart=>exact⟨Lr _,H0.out⟩
 case round =>
  obtain⟨hkn,s',pe,kd,nn,nm,op,A,L,c,hlo,hmm,o,x1⟩:=hrel
  obtain⟨r,hr⟩:∃ r,opAt (pk ts s').text=r:=⟨_,rfl⟩
  have HR:=Hd hr
  obtain⟨m,rfl⟩:∃ m,gk=m+1:=⟨gk - 1,by omega⟩
  rw[loF,hr] at hlo
  cases r with
  | none =>
   dsimp only at hlo
   subst hlo
   clear hr hmm
   go_wp2_with fail
   refine (operator_any ts p s' _ HR _ o.s).mono ?_
   rintro e w2 ⟨rfl,hb1⟩
   replace o:=(o.low hb1).al (.cells op0 290)
   replace x1:=(x1.low hb1).al (.cells op0 290)
   clear hb1
   obtain⟨r0,r1,r2,r3,r4,f0,f1,f2,f3,f4⟩:=o.ok
   obtain⟨a0,a1,a2,a3,a4,b0,b1,b2,b3,b4⟩:=x1.k.cells5
   go_wp2_with fail
   obtain⟨hk,hx⟩:=o.fin x1.out
   obtain⟨q0,q1,q2,q3,q4,_⟩:=hk.cells5
   exact bodyPost_ret (v:=exV kd nn nm op A L c) (by simp[results,Tryz.results254,go_sem,q0,q1,q2,q3,q4]) rfl hx
  | some y =>
   obtain⟨sy,l2,o2,ex⟩:=y
   have htx:=opAt_text hr
   have hlen:=(zCr (ts:=ts) (s:=s') (Or.inl htx.1))
   have hmv:=zAj hlen
   dsimp only at hlo htx
   by_cases hlt:l2 < lv
   ·rw[if_pos hlt] at hlo
    subst hlo
    have hdec:decide ((l2:Int) < (lv:Int))=true:=decide_eq_true (by omega)
    have hlt2:(l2:Int) < (lv:Int):=by omega
    clear hr hmm hmv hlen htx hlt
    go_wp2_with fail
    refine (operator_any ts p s' _ HR _ o.s).mono ?_
    rintro e w2 ⟨rfl,hb1⟩
    replace o:=(o.low hb1).al (.cells #[.string ⟨sy.toArray⟩,.int .i64 (l2:Int),.int .i64 (o2:Int),.bool ex] 290)
    replace x1:=(x1.low hb1).al (.cells #[.string ⟨sy.toArray⟩,.int .i64 (l2:Int),.int .i64 (o2:Int),.bool ex] 290)
    clear hb1
    obtain⟨r0,r1,r2,r3,r4,f0,f1,f2,f3,f4⟩:=o.ok
    obtain⟨a0,a1,a2,a3,a4,b0,b1,b2,b3,b4⟩:=x1.k.cells5
    go_wp2_with fail
    obtain⟨hk,hx⟩:=o.fin x1.out
    obtain⟨q0,q1,q2,q3,q4,_⟩:=hk.cells5
    exact bodyPost_ret (v:=exV kd nn nm op A L c) (by simp[results,Tryz.results254,go_sem,q0,q1,q2,q3,q4]) rfl hx
   ·rw[if_neg hlt] at hlo
    obtain⟨⟨rpe,s2⟩,hc2⟩:∃ x,biF ts m (l2+1) (adv s')=x:=⟨_,rfl⟩
    have HC2:=Hd hc2
    have hm2:=(ms_all (ts:=ts) m).2.1 (l2+1) (adv s')
    rw[hc2] at hlo hm2
    dsimp only at hlo hm2
    have HLO:=Hd hlo
    have hA:5 * ms ts (adv s')+3≤m:=by omega
    have hB:5 * ms ts s2+2≤m:=by omega
    have hl8:l2+1≤9:=by omega
    have hdec:decide ((l2:Int) < (lv:Int))=false:=decide_eq_false (by omega)
    clear hlo hc2 hr htx hmv
    go_wp2_with fail
    refine (operator_any ts p s' _ HR _ o.s).mono ?_
    rintro e w2 ⟨rfl,hb1⟩
    have hgO:g < w2.heap.size:=Ll x1.k.lt hb1.size
    have hpO:w2.heap.size≠p:=by have:=o.p;have:=o.sz;have:=hb1.size;omega
    replace o:=(o.low hb1).al (.cells #[.string ⟨sy.toArray⟩,.int .i64 (l2:Int),.int .i64 (o2:Int),.bool ex] 290)
    replace x1:=(x1.low hb1).al (.cells #[.string ⟨sy.toArray⟩,.int .i64 (l2:Int),.int .i64 (o2:Int),.bool ex] 290)
    have hO:=Blk.new w2 290 #[.string ⟨sy.toArray⟩,.int .i64 (l2:Int),.int .i64 (o2:Int),.bool ex]
    obtain⟨c1,g1,hi⟩:=o.s.cells
    clear hb1
    go_wp2_with fail
    replace o:=o.setI (i:=s'.i+1) (by omega) (u:=.int .i64 ((s'.i:Int)+1)) rfl
    replace x1:=x1.acc (zAz (grown_id (w2.alloc (.cells #[.string ⟨sy.toArray⟩,.int .i64 (l2:Int),.int .i64 (o2:Int),.bool ex] 290)) _) (r:=p) (i:=1) (.int .i64 ((s'.i:Int)+1)))
    replace hO:=hO.far (p:=⟨p,1,none⟩) hpO.symm (.int .i64 ((s'.i:Int)+1))
    clear c1 g1
    generalize hwA:(w2.alloc (.cells #[.string ⟨sy.toArray⟩,.int .i64 (l2:Int),.int .i64 (o2:Int),.bool ex] 290)).setCell ⟨p,1,none⟩ (.int .i64 ((s'.i:Int)+1))=wA at *
    have hOs:w2.heap.size < wA.heap.size:=hO.lt
    have hps:PSt ts p (adv s') wA.drew:=o.s.drewN 1
    have hbin:Calls Tryz.prog 254 #[.pointer (some ⟨p,0,none⟩),.int .i64 ((l2:Int)+1)] wA.drew (ExP ts p (rpe,s2) wA.drew):=HBI.out m (by omega) (l2+1) (adv s') _ _ hl8 HC2 hA hps
    obtain⟨a0,a1,a2,a3,a4,b0,b1,b2,b3,b4⟩:=x1.k.cells5
    obtain⟨d0,d1,d2,d3,_⟩:=hO.cells4
    have hwr:IntKind.i64.wrap ((l2:Int)+1)=(l2:Int)+1:=IntWalk.i64_in _ (by omega)
    have HO:=Hd hO
    have HPS:=Hd hps
    have hpg:p≠g:=by have:=x1.l;have:=x1.q;omega
    have HB:=Hd hB
    clear hO hwA hps hA hB hm2 hmm hlen hlt hl8
    go_region_with (first
     | (go_at_call 254;((with_reducible refine hbin.mono ?_);rintro e w3 ⟨kd2,nn2,nm2,op2,A2,L2,c2,rfl,hr2,hg2,hp2⟩;obtain⟨a0',a1',a2',a3',a4',b0',b1',b2',b3',b4'⟩:=(Blk.gr (w:=wA.drew) x1.k hg2 hpg).cells5;obtain⟨d0',d1',d2',d3',_⟩:=(Blk.gr (w:=wA.drew) HO.out hg2 hpO.symm).cells4))
     | (go_at_call 274;((with_reducible refine (apply_any sy (l2:Int) (o2:Int) ex kd nn nm op A L c _ _ _ _ _ _ _ _).mono ?_);rintro e w4 ⟨gq,rfl,hb4,hgq,hK4⟩;obtain⟨a0x,a1x,a2x,a3x,a4x,b0x,b1x,b2x,b3x,b4x⟩:=((Blk.gr (w:=wA.drew) x1.k hg2 hpg).on hb4 (Blk.gr (w:=wA.drew) x1.k hg2 hpg).lt).cells5)))
    all_goals
     clear a0 a1 a2 a3 a4 b0 b1 b2 b3 b4 d0 d1 d2 d3
     go_wp2_with fail
     go_roundg m
     case measure=>exact Nat.lt_succ_self m
     case rel=>exact⟨Nat.le_of_succ_le hkn,biR_next o x1 hr2 hg2 hp2 hb4 hgq hK4 HLO.out HB.out⟩
end Go.Proofs.YtpgnlfdindmopaaGreatDoor
namespace Go.Proofs.YtpgnlfdindmopaaGreatDoor
open Go.RowKit (wrap64 intOf)
open Go Go.RowKit WM LX PX
theorem binary_zero (ts:List Tk)(p:Nat):WBi ts p 0:=fun _ _ _ _ _ _ h=>absurd h (by omega)
theorem expr_all (ts:List Tk)(p:Nat)(n:Nat):WEx ts p n∧(∀ m,m≤n→WBi ts p m)∧WPr ts p n∧WPi ts p n:=by
 induction n with
 | zero=>exact⟨fun _ _ _ _ h=>absurd h (by omega),fun m hm=>Nat.le_zero.1 hm ▸ binary_zero ts p,fun _ _ _ _ h=>absurd h (by omega),fun _ _ _ _ h=>absurd h (by omega)⟩
 | succ n ih =>
  obtain⟨he,hb,hp,hi⟩:=ih
  refine⟨expression_step ts p n (hb n (Lr _)) he,fun m hm=>?_,prefixed_step ts p n hp hi,primary_step ts p n he⟩
  by_cases h:m≤n
  ·exact hb m h
  ·obtain rfl:m=n+1:=by omega
   exact binary_step ts p n hp hb
theorem zAq (ts:List Tk)(p n:Nat):WEx ts p n:=(expr_all ts p n).1
end Go.Proofs.YtpgnlfdindmopaaGreatDoor
