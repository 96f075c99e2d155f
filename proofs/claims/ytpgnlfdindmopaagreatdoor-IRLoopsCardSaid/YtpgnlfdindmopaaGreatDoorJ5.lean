/- Words and walks for the laws of the interpreter. -/
import Derived.Test.YtpgnlfdindmopaaGreatDoorJ4
namespace Go.Proofs.YtpgnlfdindmopaaGreatDoor
open Go.RowKit (wrap64 intOf)
open Go Go.RowKit WM LX PX
set_option maxRecDepth 100000
set_option maxHeartbeats 4000000
theorem exprInfo:(Tryz.prog.info? 36).map (fun i=>(i.zero,i.size,i.bytes))=some (some (.agg ex0),5,64):=by kernel_rfl
def ElR (ts:List Tk)(p:Nat)(q:List PE × PS)(w:World)(k:Nat)(v:Value)(wr:World):Prop :=
 ∃ (s':PS) (acc:List PE) (css:List (List Value)),acc++(mEF ts k s').1=q.1∧(mEF ts k s').2=q.2∧5 * ms ts s'+1≤k∧acc.length+ms ts s'≤ts.length+2∧w.grownBy wr (some p)∧PSt ts p s' wr∧Coll RepE 5 36 w.heap.size acc css v wr
theorem elist_any (ts:List Tk)(p n:Nat)(s:PS)(q:List PE × PS)(hq:Hid (lEF ts n s=q))(hm:5 * ms ts s+4≤n)(w:World)(h:PSt ts p s w) :
 Calls Tryz.prog 288 #[.pointer (some ⟨p,0,none⟩),.func (.func 240) #[.pointer (some ⟨p,0,none⟩)] #[]] w (LiP RepE 5 ts p q w):=by
 have hq:=hq.out
 unfold lEF at hq
 obtain⟨⟨ape,s1⟩,ha⟩:∃ x,exF ts n s=x:=⟨_,rfl⟩
 have HA:=Hd ha
 have hm1:=ms_ex (ts:=ts) n s
 have hml:=ms_le ts s
 have hfew:=h.few
 have hpw:=h.lt
 rw[ha] at hm1 hq
 dsimp only at hm1 hq
 have hq1:ape :: (mEF ts n s1).1=q.1:=by rw[←hq]
 have hq2:(mEF ts n s1).2=q.2:=by rw[←hq]
 have HQ1:=Hd hq1
 have HQ2:=Hd hq2
 clear hq ha hq1 hq2
 obtain⟨i0,hi,hz0,hz1,hz2⟩:=info_parts exprInfo
 go_enter Tryz.func288,Tryz.ntmps288
 go_wp2_with fail
 refine (zAq ts p n s _ _ HA hm h).mono ?_
 rintro e w1 ⟨kd,nn,nm,op,A,L,c,rfl,hr,hg,hp⟩
 have H0:Hid (ElR ts p q w n (.slice (some ⟨w1.heap.size,0,none⟩) 1 1) (w1.alloc (.cells #[.int .i64 kd,.int .i64 nn,.string ⟨nm.toArray⟩,.int .i64 op,.slice A L c] 36))) :=
  Hd ⟨s1,[ape],[[.int .i64 kd,.int .i64 nn,.string ⟨nm.toArray⟩,.int .i64 op,.slice A L c]],HQ1.out,HQ2.out,by omega,by simp;omega,grown_al hg _,hp.alloc _,coll_one keepsE (lo:=w.heap.size) hr (Lr _) hg.size rfl _ rfl⟩
 clear hg hp hr
 go_wp2_with fail
 go_loopg [5] n (fun k v wr=>ElR ts p q w k v wr)
 case atStart=>exact H0.out
 case round =>
  clear H0
  obtain⟨s',acc,css,ha,hb,hk,hln,hg,hp,hcl⟩:=hrel
  obtain⟨m,rfl⟩:∃ m,gk=m+1:=⟨gk - 1,by omega⟩
  rw[mEF] at ha hb
  by_cases hx:nx ts s' zA7=true
  ·rw[if_pos hx] at ha hb
   have HX:=Hd hx
   have hmv:=zAj (zA5 (by decide) hx)
   obtain⟨⟨bpe,s2⟩,hc⟩:∃ x,exF ts m (adv s')=x:=⟨_,rfl⟩
   have hm2:=ms_ex (ts:=ts) m (adv s')
   have HC:=Hd hc
   rw[hc] at hm2 ha hb
   dsimp only at hm2 ha hb
   have HA:=Hd ha
   have HB:=Hd hb
   have hA:5 * ms ts (adv s')+4≤m:=by omega
   clear hx hc ha hb
   go_wp2_with fail
   refine (zAi ts p s' zA7 (by decide) HX _ hp).mono ?_
   rintro e w2 ⟨rfl,hg2,hp2⟩
   replace hcl:=hcl.grown keepsE hg2 hpw
   replace hg:=grown_to hg hg2
   clear hg2 hp
   go_wp2_with fail
   refine (zAq ts p m (adv s') _ _ HC hA hp2).mono ?_
   rintro e w3 ⟨kd,nn,nm,op,A,L,c,rfl,hr,hg3,hp3⟩
   have hlo:=hcl.blk
   have hlw:=hg.size
   replace hcl:=hcl.grown keepsE hg3 hpw
   replace hg:=grown_to hg hg3
   have hlen:=hcl.len
   clear hg3 hp2
   have HCL:=Hd hcl
   have HLO:=Hd hlo
   have HG:=Hd hg
   have HR:=Hd hr
   have hown:=hcl.own
   have hsz:=hg.size
   clear hcl hlo hg hr
   go_wp2_with (
    at_builtin
    refine wpList_append_own_at _ rfl (.tmp 11) (.tmp 14) 34 rfl w.heap.size 36 i0 _ 5 64 Tryz.underlying34 hi hz0 hz1 hz2 rfl (by decide) _ _ _ rfl (hown.alloc _) ⟨w3.heap.size,0,none⟩ 1 1 [.int .i64 kd,.int .i64 nn,.string ⟨nm.toArray⟩,.int .i64 op,.slice A L c] rfl rfl (World.news_of_block (heap_alloc_new _ _)) (by simp[Value.oneCell']) (by unfold maxLen;omega) (by omega) (by simp;omega) ?_
    intro v2 w4 hown2 hgr2 _ hob)
   have hrow:∀ k,u5.ownBlock=some k→w.heap.size≤k:=fun k hk=>(HCL.out.own.lt k hk).1
   go_roundg m
   case measure=>exact Nat.lt_succ_self m
   case rel=>exact⟨s2,acc++[bpe],css++[[.int .i64 kd,.int .i64 nn,.string ⟨nm.toArray⟩,.int .i64 op,.slice A L c]],by rw[List.append_assoc];exact HA.out,HB.out,by omega,by simp;omega,zCt (grown_al HG.out _) hgr2 hrow,(hp3.alloc _).row hgr2 (fun k hk=>Ll hpw (hrow k hk)),
    HCL.out.snoc (x:=bpe) (cs:=[.int .i64 kd,.int .i64 nn,.string ⟨nm.toArray⟩,.int .i64 op,.slice A L c]) keepsE (lo:=w2.heap.size) HR.out hlw HLO.out rfl hown2 hgr2 hob⟩
  ·rw[if_neg hx] at ha hb
   have HX:=Hd (show nx ts s' zA7=false by simpa using hx)
   have ha:acc=q.1:=by simpa using ha
   have HA:=Hd ha
   have HB:=Hd hb
   clear hx ha hb
   go_wp2_with fail
   refine (zAd ts p s' zA7 HX _ hp).mono ?_
   rintro e w2 ⟨rfl,hg2,hp2⟩
   go_wp2_with fail
   go_ret
   exact liP_of keepsE (hcl.grown keepsE hg2 hpw) HA.out HB.out (grown_to hg hg2) hp2
theorem pelist_any (ts:List Tk)(p n:Nat)(s:PS)(q:List PE × PS)(hq:Hid (pEF ts n s=q))(hm:5 * ms ts s+4≤n)(w:World)(h:PSt ts p s w) :
 Calls Tryz.prog 283 #[.pointer (some ⟨p,0,none⟩),.func (.func 240) #[.pointer (some ⟨p,0,none⟩)] #[]] w (LiP RepE 5 ts p q w):=by
 have hq:=hq.out
 unfold pEF at hq
 obtain⟨s1,hs1⟩:∃ x,exs ts s cLp=x:=⟨_,rfl⟩
 have HS1:=Hd hs1
 have hm1:=zAp (ts:=ts) s (x:=cLp) (by decide)
 rw[hs1] at hm1 hq
 clear hs1
 by_cases hx:nx ts s1 cRp=true
 ·rw[if_pos hx] at hq
  have HX:=Hd hx
  subst hq
  clear hx
  go_enter Tryz.func283,Tryz.ntmps283
  go_wp2_with fail
  refine (zAg ts p s s1 cLp (by decide) HS1 _ h).mono ?_
  rintro e w1 ⟨rfl,hg,hp⟩
  go_wp2_with fail
  refine (zAi ts p s1 cRp (by decide) HX _ hp).mono ?_
  rintro e w2 ⟨rfl,hg2,hp2⟩
  go_wp2_with fail
  go_ret
  exact liP (repL_nil _ _ _ _) (grown_to hg hg2) hp2
 ·rw[if_neg hx] at hq
  have HX:=Hd (show nx ts s1 cRp=false by simpa using hx)
  obtain⟨⟨l,s2⟩,hc⟩:∃ x,lEF ts n s1=x:=⟨_,rfl⟩
  have HC:=Hd hc
  rw[hc] at hq
  dsimp only at hq
  obtain⟨s3,hs3⟩:∃ x,exs ts s2 cRp=x:=⟨_,rfl⟩
  have HS3:=Hd hs3
  rw[hs3] at hq
  subst hq
  have hA:5 * ms ts s1+4≤n:=by omega
  have hpw:=h.lt
  clear hx hc hs3
  go_enter Tryz.func283,Tryz.ntmps283
  go_wp2_with fail
  refine (zAg ts p s s1 cLp (by decide) HS1 _ h).mono ?_
  rintro e w1 ⟨rfl,hg,hp⟩
  go_wp2_with fail
  refine (zAd ts p s1 cRp HX _ hp).mono ?_
  rintro e w2 ⟨rfl,hg2,hp2⟩
  replace hg:=grown_to hg hg2
  clear hg2 hp
  go_wp2_with fail
  refine (elist_any ts p n s1 _ HC hA _ hp2).mono ?_
  rintro e w3 ⟨A,L,c,rfl,hr,hg3,hp3⟩
  go_wp2_with fail
  refine (zAg ts p s2 s3 cRp (by decide) HS3 _ hp3).mono ?_
  rintro e w4 ⟨rfl,hg4,hp4⟩
  have hr4:=(hr.acc keepsE hg4 (Ll hpw hg.size) (Lr _)).mono keepsE hg.size hg4.size
  have HR:=Hd hr4
  clear hr hr4
  go_wp2_with fail
  go_ret
  exact liP HR.out (grown_to (grown_to hg hg3) hg4) hp4
end Go.Proofs.YtpgnlfdindmopaaGreatDoor
namespace Go.Proofs.YtpgnlfdindmopaaGreatDoor
open Go.RowKit (wrap64 intOf)
open Go Go.RowKit WM LX PX
abbrev stC (kd:Int)(nm to:List UInt8)(num:Int)(k1 n1:Int)(x1:List UInt8)(o1:Int)(A1:Option Addr)(L1 c1:Nat)(k2 n2:Int)(x2:List UInt8)(o2:Int)(A2:Option Addr)(L2 c2:Nat)(A3:Option Addr)(L3 c3:Nat)(A4:Option Addr)(L4 c4:Nat)(A5:Option Addr)(L5 c5:Nat):List Value:=[.int .i64 kd,.string ⟨nm.toArray⟩,.string ⟨to.toArray⟩,.int .i64 num,.int .i64 k1,.int .i64 n1,.string ⟨x1.toArray⟩,.int .i64 o1,.slice A1 L1 c1,.int .i64 k2,.int .i64 n2,.string ⟨x2.toArray⟩,.int .i64 o2,.slice A2 L2 c2,.slice A3 L3 c3,.slice A4 L4 c4,.slice A5 L5 c5]
abbrev stV (kd:Int)(nm to:List UInt8)(num:Int)(k1 n1:Int)(x1:List UInt8)(o1:Int)(A1:Option Addr)(L1 c1:Nat)(k2 n2:Int)(x2:List UInt8)(o2:Int)(A2:Option Addr)(L2 c2:Nat)(A3:Option Addr)(L3 c3:Nat)(A4:Option Addr)(L4 c4:Nat)(A5:Option Addr)(L5 c5:Nat):Value:=.agg #[.int .i64 kd,.string ⟨nm.toArray⟩,.string ⟨to.toArray⟩,.int .i64 num,.int .i64 k1,.int .i64 n1,.string ⟨x1.toArray⟩,.int .i64 o1,.slice A1 L1 c1,.int .i64 k2,.int .i64 n2,.string ⟨x2.toArray⟩,.int .i64 o2,.slice A2 L2 c2,.slice A3 L3 c3,.slice A4 L4 c4,.slice A5 L5 c5]
abbrev st0:Array Value:=#[.int .i64 0,.string ⟨#[]⟩,.string ⟨#[]⟩,.int .i64 0,.int .i64 0,.int .i64 0,.string ⟨#[]⟩,.int .i64 0,.slice none 0 0,.int .i64 0,.int .i64 0,.string ⟨#[]⟩,.int .i64 0,.slice none 0 0,.slice none 0 0,.slice none 0 0,.slice none 0 0]
inductive RepS (w:World) (ok:Nat→Prop):ST→List Value→Prop where
 | mk (kd:Int) (nm to:List UInt8) (n:Int) (pos value:PE) (args:List PE) (thn els:List ST) (cp cv:List Value) (va vt ve:Value) (F G:Nat→List Value)
  (hp:RepE w ok pos cp) (hv:RepE w ok value cv) (ha:RepL RepE 5 w ok args va) (ht:RowF w ok thn.length 17 F vt) (he:RowF w ok els.length 17 G ve)
  (hkt:∀ (i:Nat) (s:ST),thn[i]?=some s→RepS w ok s (F i)) (hke:∀ (i:Nat) (s:ST),els[i]?=some s→RepS w ok s (G i)) :
  RepS w ok (.mk kd nm to n pos value args thn els) ([.int .i64 kd,.string ⟨nm.toArray⟩,.string ⟨to.toArray⟩,.int .i64 n]++cp++cv++[va,vt,ve])
theorem RepS.keep {w w':World}{ok ok':Nat→Prop}{s:ST}{cs:List Value}(h:RepS w ok s cs)(hok:∀ g,ok g→ok' g)(hw:∀ g,ok g→w'.heap[g]?=w.heap[g]?):RepS w' ok' s cs:=by
 induction h with
 | mk kd nm to n pos value args thn els cp cv va vt ve F G hp hv ha ht he hkt hke iht ihe =>
  exact RepS.mk kd nm to n pos value args thn els cp cv va vt ve F G (hp.keep hok hw) (hv.keep hok hw) (ha.keep keepsE hok hw) (ht.keep hok hw) (he.keep hok hw) iht ihe
theorem keepsS:Keeps RepS:=⟨fun h hok hw=>h.keep hok hw⟩
theorem repS_mk {w:World}{ok:Nat→Prop}{pos value:PE}{args:List PE}{thn els:List ST}{kd:Int}{nm to:List UInt8}{num:Int}{k1 n1:Int}{x1:List UInt8}{o1:Int}{A1:Option Addr}{L1 c1:Nat}{k2 n2:Int}{x2:List UInt8}{o2:Int}{A2:Option Addr}{L2 c2:Nat}{A3:Option Addr}{L3 c3:Nat}{A4:Option Addr}{L4 c4:Nat}{A5:Option Addr}{L5 c5:Nat}(hp:RepE w ok pos (exC k1 n1 x1 o1 A1 L1 c1))(hv:RepE w ok value (exC k2 n2 x2 o2 A2 L2 c2))(ha:RepL RepE 5 w ok args (.slice A3 L3 c3))(ht:RepL RepS 17 w ok thn (.slice A4 L4 c4))(he:RepL RepS 17 w ok els (.slice A5 L5 c5)) :
 RepS w ok (.mk kd nm to num pos value args thn els) (stC kd nm to num k1 n1 x1 o1 A1 L1 c1 k2 n2 x2 o2 A2 L2 c2 A3 L3 c3 A4 L4 c4 A5 L5 c5):=by
 obtain⟨F,h1,h2⟩:=ht
 obtain⟨G,h3,h4⟩:=he
 exact RepS.mk kd nm to num pos value args thn els _ _ _ _ _ F G hp hv ha h1 h3 h2 h4
def StP (ts:List Tk)(p:Nat)(q:ST × PS)(w:World)(e:Ending)(w':World):Prop :=
 ∃ (kd:Int) (nm to:List UInt8) (num:Int) (k1 n1:Int) (x1:List UInt8) (o1:Int) (A1:Option Addr) (L1 c1:Nat) (k2 n2:Int) (x2:List UInt8) (o2:Int) (A2:Option Addr) (L2 c2:Nat) (A3:Option Addr) (L3 c3:Nat) (A4:Option Addr) (L4 c4:Nat) (A5:Option Addr) (L5 c5:Nat),e=.returned (stV kd nm to num k1 n1 x1 o1 A1 L1 c1 k2 n2 x2 o2 A2 L2 c2 A3 L3 c3 A4 L4 c4 A5 L5 c5)∧RepS w' (Rg w.heap.size w'.heap.size) q.1 (stC kd nm to num k1 n1 x1 o1 A1 L1 c1 k2 n2 x2 o2 A2 L2 c2 A3 L3 c3 A4 L4 c4 A5 L5 c5)∧w.grownBy w' (some p)∧PSt ts p q.2 w'
theorem zAf:(Tryz.prog.info? 40).map (·.size)=some 17:=by kernel_rfl
theorem zBm (w:World)(g:Nat)(cs:Array Value):(w.setRow g cs).heap.size=w.heap.size:=by simp[World.setRow]
theorem zBi (w:World)(g:Nat)(cs:Array Value)(x:Nat)(hx:x≠g):(w.setRow g cs).heap[x]?=w.heap[x]?:=by
 simp[World.setRow,Array.getElem?_modify,hx.symm]
theorem zBc {w:World}{g:Nat}{t:TypeId}{cs0:Array Value}(h:Blk w g t cs0)(cs:Array Value):Blk (w.setRow g cs) g t cs:=by
 unfold Blk at h ⊢
 simp[World.setRow,Array.getElem?_modify,h]
theorem zBu {w w1:World}{B g:Nat}(h:Below B w w1)(hg:B≤g)(cs:Array Value):Below B w (w1.setRow g cs) :=
 ⟨h.os,h.tape,h.output,by rw[zBm];exact h.size,fun i hi=>(zBi w1 g cs i (by omega)).trans (h.block i hi)⟩
theorem zBf {w w1:World}{p g:Nat}(h:w.grownBy w1 (some p))(hg:w.heap.size≤g)(cs:Array Value):w.grownBy (w1.setRow g cs) (some p) :=
 ⟨h.os,h.tape,h.output,by rw[zBm];exact h.size,fun i hi hne=>(zBi w1 g cs i (by omega)).trans (h.block i hi hne)⟩
theorem row_pst {ts:List Tk}{p g:Nat}{q:PS}{w1:World}(h:PSt ts p q w1)(hg:p < g)(cs:Array Value):PSt ts p q (w1.setRow g cs):=by
 have hb:=zBu (Below.refl (p+1) w1) (g:=g) hg cs
 obtain⟨A,c,h1,h2,h3,h4⟩:=h
 exact⟨A,c,h1.on hb (Nat.lt_succ_self _),h2.on (below_down hb (Nat.le_succ _)),h3.on (below_down hb (Nat.le_succ _)),h4⟩
theorem Own.row {ts:List Tk}{p:Nat}{q:PS}{t:TypeId}{cs0:Array Value}{w w1:World}(o:Own ts p q t cs0 w w1)(cs:Array Value):Own ts p q t cs w (w1.setRow w.heap.size cs) :=
 ⟨zBf o.g (Lr _) cs,row_pst o.s o.p cs,zBc o.r cs,o.p⟩
theorem Own.fin17 {ts:List Tk}{p:Nat}{q:PS}{t:TypeId}{w w1:World}{cs0:Array Value}(o:Own ts p q t cs0 w w1){st:ST}{kd:Int}{nm to:List UInt8}{num:Int}{k1 n1:Int}{x1:List UInt8}{o1:Int}{A1:Option Addr}{L1 c1:Nat}{k2 n2:Int}{x2:List UInt8}{o2:Int}{A2:Option Addr}{L2 c2:Nat}{A3:Option Addr}{L3 c3:Nat}{A4:Option Addr}{L4 c4:Nat}{A5:Option Addr}{L5 c5:Nat}(hr:RepS w1 (Rg (w.heap.size+1) w1.heap.size) st (stC kd nm to num k1 n1 x1 o1 A1 L1 c1 k2 n2 x2 o2 A2 L2 c2 A3 L3 c3 A4 L4 c4 A5 L5 c5)) :
 Blk (w1.setRow w.heap.size #[.int .i64 kd,.string ⟨nm.toArray⟩,.string ⟨to.toArray⟩,.int .i64 num,.int .i64 k1,.int .i64 n1,.string ⟨x1.toArray⟩,.int .i64 o1,.slice A1 L1 c1,.int .i64 k2,.int .i64 n2,.string ⟨x2.toArray⟩,.int .i64 o2,.slice A2 L2 c2,.slice A3 L3 c3,.slice A4 L4 c4,.slice A5 L5 c5]) w.heap.size t #[.int .i64 kd,.string ⟨nm.toArray⟩,.string ⟨to.toArray⟩,.int .i64 num,.int .i64 k1,.int .i64 n1,.string ⟨x1.toArray⟩,.int .i64 o1,.slice A1 L1 c1,.int .i64 k2,.int .i64 n2,.string ⟨x2.toArray⟩,.int .i64 o2,.slice A2 L2 c2,.slice A3 L3 c3,.slice A4 L4 c4,.slice A5 L5 c5]∧StP ts p (st,q) w (.returned (stV kd nm to num k1 n1 x1 o1 A1 L1 c1 k2 n2 x2 o2 A2 L2 c2 A3 L3 c3 A4 L4 c4 A5 L5 c5)) (w1.setRow w.heap.size #[.int .i64 kd,.string ⟨nm.toArray⟩,.string ⟨to.toArray⟩,.int .i64 num,.int .i64 k1,.int .i64 n1,.string ⟨x1.toArray⟩,.int .i64 o1,.slice A1 L1 c1,.int .i64 k2,.int .i64 n2,.string ⟨x2.toArray⟩,.int .i64 o2,.slice A2 L2 c2,.slice A3 L3 c3,.slice A4 L4 c4,.slice A5 L5 c5]) :=
 ⟨zBc o.r _,_,_,_,_,_,_,_,_,_,_,_,_,_,_,_,_,_,_,_,_,_,_,_,_,_,_,_,rfl,hr.keep (fun g h=>⟨Nat.le_trans (Nat.le_succ _) h.1,by rw[zBm];exact h.2⟩) (fun g h=>zBi _ _ _ _ (by have:=h.1;omega)),zBf o.g (Lr _) _,row_pst o.s o.p _⟩
section
variable {w w':World} {lo hi p:Nat} {e:ST} {cs:List Value}
theorem RepS.mono {lo' hi':Nat}(h:RepS w (Rg lo hi) e cs)(h1:lo'≤lo)(h2:hi≤hi'):RepS w (Rg lo' hi') e cs:=h.keep (fun _ hg=>⟨Nat.le_trans h1 hg.1,Ll hg.2 h2⟩) (fun _ _=>rfl)
end
end Go.Proofs.YtpgnlfdindmopaaGreatDoor
namespace Go.Proofs.YtpgnlfdindmopaaGreatDoor
open Go.RowKit (wrap64 intOf)
open Go Go.RowKit WM LX PX
set_option maxRecDepth 100000
set_option maxHeartbeats 4000000
theorem zCy (ts:List Tk)(p n:Nat)(s:PS)(q:PE × PS)(hq:Hid (cdF ts n s=q))(hm:5 * ms ts s+4≤n)(w:World)(h:PSt ts p s w) :
 Calls Tryz.prog 281 #[.pointer (some ⟨p,0,none⟩)] w (ExP ts p q w):=by
 have hq:=hq.out
 unfold cdF at hq
 obtain⟨s1,hs1⟩:∃ x,exs ts s cLp=x:=⟨_,rfl⟩
 have HS1:=Hd hs1
 have hm1:=zAp (ts:=ts) s (x:=cLp) (by decide)
 rw[hs1] at hm1 hq
 obtain⟨⟨ape,s2⟩,hc⟩:∃ x,exF ts n s1=x:=⟨_,rfl⟩
 have HC:=Hd hc
 rw[hc] at hq
 dsimp only at hq
 obtain⟨s3,hs3⟩:∃ x,exs ts s2 cRp=x:=⟨_,rfl⟩
 have HS3:=Hd hs3
 rw[hs3] at hq
 subst hq
 have hA:5 * ms ts s1+4≤n:=by omega
 have o:=Own.start h 36 ex0
 clear hs1 hc hs3 hm1 h
 go_enter Tryz.func281,Tryz.ntmps281
 go_wp2_with fail
 refine (zAg ts p s s1 cLp (by decide) HS1 _ o.s).mono ?_
 rintro e w1 ⟨rfl,hg,hp⟩
 replace o:=o.acc hg hp
 clear hg hp
 go_wp2_with fail
 refine (zAq ts p n s1 _ _ HC hA o.s).mono ?_
 rintro e w2 ⟨k1,n1,x1,o1,A1,L1,c1,rfl,hr,hg,hp⟩
 have x1h:=Hold.start hr o hg.size 36
 replace o:=(o.acc hg hp).al (.cells #[.int .i64 k1,.int .i64 n1,.string ⟨x1.toArray⟩,.int .i64 o1,.slice A1 L1 c1] 36)
 clear hg hp hr
 go_wp2_with fail
 refine (zAg ts p s2 s3 cRp (by decide) HS3 _ o.s).mono ?_
 rintro e w3 ⟨rfl,hg,hp⟩
 replace o:=o.acc hg hp
 replace x1h:=x1h.acc hg
 clear hg hp
 obtain⟨r0,r1,r2,r3,r4,f0,f1,f2,f3,f4⟩:=o.ok
 obtain⟨a0,a1,a2,a3,a4,_⟩:=x1h.k.cells5
 go_wp2_with fail
 obtain⟨hk,hx⟩:=o.fin x1h.out
 obtain⟨q0,q1,q2,q3,q4,_⟩:=hk.cells5
 exact bodyPost_ret (v:=exV k1 n1 x1 o1 A1 L1 c1) (by simp[results,Tryz.results281,go_sem,q0,q1,q2,q3,q4]) rfl hx
theorem out_any (ts:List Tk)(p n:Nat)(s:PS)(q:ST × PS)(hq:Hid (ouF ts n s=q))(hm:5 * ms ts s+4≤n)(w:World)(h:PSt ts p s w) :
 Calls Tryz.prog 266 #[.pointer (some ⟨p,0,none⟩)] w (StP ts p q w):=by
 have hq:=hq.out
 unfold ouF at hq
 obtain⟨⟨ape,s2⟩,hc⟩:∃ x,exF ts n s=x:=⟨_,rfl⟩
 have HC:=Hd hc
 rw[hc] at hq
 dsimp only at hq
 obtain⟨s3,hs3⟩:∃ x,exs ts s2 zA1=x:=⟨_,rfl⟩
 have HS3:=Hd hs3
 rw[hs3] at hq
 subst hq
 have o:=Own.start h 40 st0
 clear hc hs3 h
 go_enter Tryz.func266,Tryz.ntmps266
 go_wp2_with fail
 refine (zAq ts p n s _ _ HC hm o.s).mono ?_
 rintro e w2 ⟨k2,n2,x2,o2,A2,L2,c2,rfl,hr,hg,hp⟩
 have x2h:=Hold.start hr o hg.size 36
 replace o:=(o.acc hg hp).al (.cells #[.int .i64 k2,.int .i64 n2,.string ⟨x2.toArray⟩,.int .i64 o2,.slice A2 L2 c2] 36)
 clear hg hp hr
 go_wp2_with fail
 refine (zAg ts p s2 s3 zA1 (by decide) HS3 _ o.s).mono ?_
 rintro e w3 ⟨rfl,hg,hp⟩
 replace o:=o.acc hg hp
 replace x2h:=x2h.acc hg
 clear hg hp
 obtain⟨a0,a1,a2,a3,a4,_⟩:=x2h.k.cells5
 go_wp2_with (refine wpList_store_row rfl _ _ _ rfl w.heap.size #[.int .i64 5,.string ⟨#[]⟩,.string ⟨#[]⟩,.int .i64 0,.int .i64 0,.int .i64 0,.string ⟨#[]⟩,.int .i64 0,.slice none 0 0,.int .i64 k2,.int .i64 n2,.string ⟨x2.toArray⟩,.int .i64 o2,.slice A2 L2 c2,.slice none 0 0,.slice none 0 0,.slice none 0 0] rfl rfl _ _ o.r zAf rfl (by simp[Value.oneCell']) ?_)
 obtain⟨hk,hx⟩:=o.fin17 (kd:=5) (nm:=[]) (to:=[]) (num:=0) (repS_mk (repE_leaf _ _ 0 0 [] 0 none 0) x2h.out (repL_nil _ _ _ _) (repL_nil _ _ _ _) (repL_nil _ _ _ _))
 exact bodyPost_ret (results_cell_row rfl _ _ _ _ _ _ _ rfl hk Tryz.underlying40 rfl zAf) rfl hx
theorem assign_any (ts:List Tk)(p n:Nat)(nm:List UInt8)(s:PS)(q:ST × PS)(hq:Hid (asF ts n nm s=q))(hm:5 * ms ts s+4≤n)(w:World)(h:PSt ts p s w) :
 Calls Tryz.prog 271 #[.pointer (some ⟨p,0,none⟩),.string ⟨nm.toArray⟩] w (StP ts p q w):=by
 have hq:=hq.out
 unfold asF at hq
 obtain⟨⟨ape,s2⟩,hc⟩:∃ x,exF ts n s=x:=⟨_,rfl⟩
 have HC:=Hd hc
 rw[hc] at hq
 dsimp only at hq
 obtain⟨s3,hs3⟩:∃ x,exs ts s2 zA1=x:=⟨_,rfl⟩
 have HS3:=Hd hs3
 rw[hs3] at hq
 subst hq
 have o:=Own.start h 40 st0
 clear hc hs3 h
 go_enter Tryz.func271,Tryz.ntmps271
 go_wp2_with fail
 refine (zAq ts p n s _ _ HC hm o.s).mono ?_
 rintro e w2 ⟨k2,n2,x2,o2,A2,L2,c2,rfl,hr,hg,hp⟩
 have x2h:=Hold.start hr o hg.size 36
 replace o:=(o.acc hg hp).al (.cells #[.int .i64 k2,.int .i64 n2,.string ⟨x2.toArray⟩,.int .i64 o2,.slice A2 L2 c2] 36)
 clear hg hp hr
 go_wp2_with fail
 refine (zAg ts p s2 s3 zA1 (by decide) HS3 _ o.s).mono ?_
 rintro e w3 ⟨rfl,hg,hp⟩
 replace o:=o.acc hg hp
 replace x2h:=x2h.acc hg
 clear hg hp
 obtain⟨a0,a1,a2,a3,a4,_⟩:=x2h.k.cells5
 go_wp2_with (refine wpList_store_row rfl _ _ _ rfl w.heap.size #[.int .i64 1,.string ⟨nm.toArray⟩,.string ⟨#[]⟩,.int .i64 0,.int .i64 0,.int .i64 0,.string ⟨#[]⟩,.int .i64 0,.slice none 0 0,.int .i64 k2,.int .i64 n2,.string ⟨x2.toArray⟩,.int .i64 o2,.slice A2 L2 c2,.slice none 0 0,.slice none 0 0,.slice none 0 0] rfl rfl _ _ o.r zAf rfl (by simp[Value.oneCell']) ?_)
 obtain⟨hk,hx⟩:=o.fin17 (kd:=1) (nm:=nm) (to:=[]) (num:=0) (repS_mk (repE_leaf _ _ 0 0 [] 0 none 0) x2h.out (repL_nil _ _ _ _) (repL_nil _ _ _ _) (repL_nil _ _ _ _))
 exact bodyPost_ret (results_cell_row rfl _ _ _ _ _ _ _ rfl hk Tryz.underlying40 rfl zAf) rfl hx
theorem trap_any (ts:List Tk)(p:Nat)(s:PS)(q:ST × PS)(hq:Hid (tpF ts s=q))(w:World)(h:PSt ts p s w) :
 Calls Tryz.prog 267 #[.pointer (some ⟨p,0,none⟩)] w (StP ts p q w):=by
 have hq:=hq.out
 unfold tpF at hq
 obtain⟨num,hv⟩:∃ x,nuV ts s=x:=⟨_,rfl⟩
 obtain⟨s1,hs1⟩:∃ x,nuS ts s=x:=⟨_,rfl⟩
 have HV:=Hd hv
 have HS1:=Hd hs1
 rw[hv,hs1] at hq
 obtain⟨s3,hs3⟩:∃ x,exs ts s1 zA1=x:=⟨_,rfl⟩
 have HS3:=Hd hs3
 rw[hs3] at hq
 subst hq
 have o:=Own.start h 40 st0
 clear hv hs1 hs3 h
 go_enter Tryz.func267,Tryz.ntmps267
 go_wp2_with fail
 refine (pnumber_any ts p s s1 num HV HS1 _ o.s).mono ?_
 rintro e w1 ⟨rfl,hg,hp⟩
 replace o:=o.acc hg hp
 clear hg hp
 go_wp2_with fail
 refine (zAg ts p s1 s3 zA1 (by decide) HS3 _ o.s).mono ?_
 rintro e w3 ⟨rfl,hg,hp⟩
 replace o:=o.acc hg hp
 clear hg hp
 go_wp2_with (refine wpList_store_row rfl _ _ _ rfl w.heap.size #[.int .i64 7,.string ⟨#[]⟩,.string ⟨#[]⟩,.int .i64 num,.int .i64 0,.int .i64 0,.string ⟨#[]⟩,.int .i64 0,.slice none 0 0,.int .i64 0,.int .i64 0,.string ⟨#[]⟩,.int .i64 0,.slice none 0 0,.slice none 0 0,.slice none 0 0,.slice none 0 0] rfl rfl _ _ o.r zAf rfl (by simp[Value.oneCell']) ?_)
 obtain⟨hk,hx⟩:=o.fin17 (kd:=7) (nm:=[]) (to:=[]) (num:=num) (repS_mk (repE_leaf _ _ 0 0 [] 0 none 0) (repE_leaf _ _ 0 0 [] 0 none 0) (repL_nil _ _ _ _) (repL_nil _ _ _ _) (repL_nil _ _ _ _))
 exact bodyPost_ret (results_cell_row rfl _ _ _ _ _ _ _ rfl hk Tryz.underlying40 rfl zAf) rfl hx
theorem store_any (ts:List Tk)(p n:Nat)(nm:List UInt8)(s:PS)(q:ST × PS)(hq:Hid (soF ts n nm s=q))(hm:5 * ms ts s+4≤n)(w:World)(h:PSt ts p s w) :
 Calls Tryz.prog 268 #[.pointer (some ⟨p,0,none⟩),.string ⟨nm.toArray⟩] w (StP ts p q w):=by
 have hq:=hq.out
 unfold soF at hq
 obtain⟨⟨ape,s1⟩,hc⟩:∃ x,exF ts n s=x:=⟨_,rfl⟩
 have HC:=Hd hc
 have hm1:=ms_ex (ts:=ts) n s
 rw[hc] at hq hm1
 dsimp only at hq hm1
 obtain⟨s2,hs2⟩:∃ x,exs ts s1 cRb=x:=⟨_,rfl⟩
 have HS2:=Hd hs2
 have hm2:=zAp (ts:=ts) s1 (x:=cRb) (by decide)
 rw[hs2] at hq hm2
 obtain⟨s3,hs3⟩:∃ x,exs ts s2 cEq=x:=⟨_,rfl⟩
 have HS3:=Hd hs3
 have hm3:=zAp (ts:=ts) s2 (x:=cEq) (by decide)
 rw[hs3] at hq hm3
 obtain⟨⟨bpe,s4⟩,hd⟩:∃ x,exF ts n s3=x:=⟨_,rfl⟩
 have HD:=Hd hd
 rw[hd] at hq
 dsimp only at hq
 obtain⟨s5,hs5⟩:∃ x,exs ts s4 zA1=x:=⟨_,rfl⟩
 have HS5:=Hd hs5
 rw[hs5] at hq
 subst hq
 have hB:5 * ms ts s3+4≤n:=by omega
 have o:=Own.start h 40 st0
 clear hc hs2 hs3 hd hs5 hm1 hm2 hm3 h
 go_enter Tryz.func268,Tryz.ntmps268
 go_wp2_with fail
 refine (zAq ts p n s _ _ HC hm o.s).mono ?_
 rintro e w1 ⟨k1,n1,x1,o1,A1,L1,c1,rfl,hr,hg,hp⟩
 have x1h:=Hold.start hr o hg.size 36
 replace o:=(o.acc hg hp).al (.cells #[.int .i64 k1,.int .i64 n1,.string ⟨x1.toArray⟩,.int .i64 o1,.slice A1 L1 c1] 36)
 clear hg hp hr
 go_wp2_with fail
 refine (zAg ts p s1 s2 cRb (by decide) HS2 _ o.s).mono ?_
 rintro e w2 ⟨rfl,hg,hp⟩
 replace o:=o.acc hg hp
 replace x1h:=x1h.acc hg
 clear hg hp
 go_wp2_with fail
 refine (zAg ts p s2 s3 cEq (by decide) HS3 _ o.s).mono ?_
 rintro e w3 ⟨rfl,hg,hp⟩
 replace o:=o.acc hg hp
 replace x1h:=x1h.acc hg
 clear hg hp
 go_wp2_with fail
 refine (zAq ts p n s3 _ _ HD hB o.s).mono ?_
 rintro e w4 ⟨k2,n2,x2,o2,A2,L2,c2,rfl,hr,hg,hp⟩
 have x2h:=Hold.start hr o hg.size 36
 replace x1h:=(x1h.acc hg).al (.cells #[.int .i64 k2,.int .i64 n2,.string ⟨x2.toArray⟩,.int .i64 o2,.slice A2 L2 c2] 36)
 replace o:=(o.acc hg hp).al (.cells #[.int .i64 k2,.int .i64 n2,.string ⟨x2.toArray⟩,.int .i64 o2,.slice A2 L2 c2] 36)
 clear hg hp hr
 go_wp2_with fail
 refine (zAg ts p s4 s5 zA1 (by decide) HS5 _ o.s).mono ?_
 rintro e w5 ⟨rfl,hg,hp⟩
 replace o:=o.acc hg hp
 replace x1h:=x1h.acc hg
 replace x2h:=x2h.acc hg
 clear hg hp
 obtain⟨a0,a1,a2,a3,a4,_⟩:=x1h.k.cells5
 obtain⟨b0,b1,b2,b3,b4,_⟩:=x2h.k.cells5
 go_wp2_with (refine wpList_store_row rfl _ _ _ rfl w.heap.size #[.int .i64 2,.string ⟨nm.toArray⟩,.string ⟨#[]⟩,.int .i64 0,.int .i64 k1,.int .i64 n1,.string ⟨x1.toArray⟩,.int .i64 o1,.slice A1 L1 c1,.int .i64 k2,.int .i64 n2,.string ⟨x2.toArray⟩,.int .i64 o2,.slice A2 L2 c2,.slice none 0 0,.slice none 0 0,.slice none 0 0] rfl rfl _ _ o.r zAf rfl (by simp[Value.oneCell']) ?_)
 obtain⟨hk,hx⟩:=o.fin17 (kd:=2) (nm:=nm) (to:=[]) (num:=0) (repS_mk x1h.out x2h.out (repL_nil _ _ _ _) (repL_nil _ _ _ _) (repL_nil _ _ _ _))
 exact bodyPost_ret (results_cell_row rfl _ _ _ _ _ _ _ rfl hk Tryz.underlying40 rfl zAf) rfl hx
theorem call_any (ts:List Tk)(p n:Nat)(nm:List UInt8)(s:PS)(q:ST × PS)(hq:Hid (caF ts n nm s=q))(hm:5 * ms ts s+4≤n)(w:World)(h:PSt ts p s w) :
 Calls Tryz.prog 270 #[.pointer (some ⟨p,0,none⟩),.string ⟨nm.toArray⟩] w (StP ts p q w):=by
 have hq:=hq.out
 unfold caF at hq
 obtain⟨to,hv⟩:∃ x,nmV ts s=x:=⟨_,rfl⟩
 obtain⟨s1,hs1⟩:∃ x,nmS ts s=x:=⟨_,rfl⟩
 have HV:=Hd hv
 have HS1:=Hd hs1
 have hm1:=zCk (ts:=ts) s
 rw[hs1] at hm1
 rw[hv,hs1] at hq
 obtain⟨⟨l,s2⟩,hc⟩:∃ x,pEF ts n s1=x:=⟨_,rfl⟩
 have HC:=Hd hc
 rw[hc] at hq
 dsimp only at hq
 obtain⟨s3,hs3⟩:∃ x,exs ts s2 zA1=x:=⟨_,rfl⟩
 have HS3:=Hd hs3
 rw[hs3] at hq
 subst hq
 have hA:5 * ms ts s1+4≤n:=by omega
 have o:=Own.start h 40 st0
 clear hv hs1 hc hs3 h
 go_enter Tryz.func270,Tryz.ntmps270
 go_wp2_with fail
 refine (zBw ts p s s1 to HV HS1 _ o.s).mono ?_
 rintro e w1 ⟨rfl,hg,hp⟩
 replace o:=o.acc hg hp
 clear hg hp
 go_wp2_with fail
 refine (pelist_any ts p n s1 _ HC hA _ o.s).mono ?_
 rintro e w2 ⟨A3,L3,c3,rfl,hr,hg,hp⟩
 have hl:=o.sz
 have hpl:p < w1.heap.size:=Nat.lt_trans o.p hl
 replace o:=o.acc hg hp
 clear hg hp
 go_wp2_with fail
 refine (zAg ts p s2 s3 zA1 (by decide) HS3 _ o.s).mono ?_
 rintro e w3 ⟨rfl,hg,hp⟩
 have hr2:=(hr.acc keepsE hg hpl (Lr _)).mono keepsE (lo':=w.heap.size+1) hl hg.size
 have HR:=Hd hr2
 replace o:=o.acc hg hp
 clear hg hp hr hr2
 go_wp2_with (refine wpList_store_row rfl _ _ _ rfl w.heap.size #[.int .i64 6,.string ⟨nm.toArray⟩,.string ⟨to.toArray⟩,.int .i64 0,.int .i64 0,.int .i64 0,.string ⟨#[]⟩,.int .i64 0,.slice none 0 0,.int .i64 0,.int .i64 0,.string ⟨#[]⟩,.int .i64 0,.slice none 0 0,.slice A3 L3 c3,.slice none 0 0,.slice none 0 0] rfl rfl _ _ o.r zAf rfl (by simp[Value.oneCell']) ?_)
 obtain⟨hk,hx⟩:=o.fin17 (kd:=6) (nm:=nm) (to:=to) (num:=0) (repS_mk (repE_leaf _ _ 0 0 [] 0 none 0) (repE_leaf _ _ 0 0 [] 0 none 0) HR.out (repL_nil _ _ _ _) (repL_nil _ _ _ _))
 exact bodyPost_ret (results_cell_row rfl _ _ _ _ _ _ _ rfl hk Tryz.underlying40 rfl zAf) rfl hx
end Go.Proofs.YtpgnlfdindmopaaGreatDoor
namespace Go.Proofs.YtpgnlfdindmopaaGreatDoor
open Go.RowKit (wrap64 intOf)
open Go Go.RowKit WM LX PX
set_option maxRecDepth 100000
set_option maxHeartbeats 4000000
def WSs (ts:List Tk)(p n:Nat):Prop:=∀ (s:PS)(q:List ST × PS)(w:World),Hid (ssF ts n s=q)→5 * ms ts s+7≤n→PSt ts p s w→Calls Tryz.prog 239 #[.pointer (some ⟨p,0,none⟩)] w (LiP RepS 17 ts p q w)
def WSt (ts:List Tk)(p n:Nat):Prop:=∀ (s:PS)(q:ST × PS)(w:World),Hid (stF ts n s=q)→5 * ms ts s+6≤n→PSt ts p s w→Calls Tryz.prog 253 #[.pointer (some ⟨p,0,none⟩)] w (StP ts p q w)
def WIf (ts:List Tk)(p n:Nat):Prop:=∀ (s:PS)(q:ST × PS)(w:World),Hid (ifF ts n s=q)→5 * ms ts s+9≤n→PSt ts p s w→Calls Tryz.prog 264 #[.pointer (some ⟨p,0,none⟩)] w (StP ts p q w)
def WWh (ts:List Tk)(p n:Nat):Prop:=∀ (s:PS)(q:ST × PS)(w:World),Hid (whF ts n s=q)→5 * ms ts s+9≤n→PSt ts p s w→Calls Tryz.prog 265 #[.pointer (some ⟨p,0,none⟩)] w (StP ts p q w)
def WBl (ts:List Tk)(p n:Nat):Prop:=∀ (s:PS)(q:List ST × PS)(w:World),Hid (blF ts n s=q)→5 * ms ts s+8≤n→PSt ts p s w→Calls Tryz.prog 282 #[.pointer (some ⟨p,0,none⟩)] w (LiP RepS 17 ts p q w)
theorem block_step (ts:List Tk)(p n:Nat)(hss:WSs ts p n):WBl ts p (n+1):=by
 intro s q w hq hm h
 have hq:=hq.out
 rw[blF] at hq
 obtain⟨s1,hs1⟩:∃ x,exs ts s cLc=x:=⟨_,rfl⟩
 have HS1:=Hd hs1
 have hm1:=zAp (ts:=ts) s (x:=cLc) (by decide)
 rw[hs1] at hm1 hq
 obtain⟨⟨l,s2⟩,hc⟩:∃ x,ssF ts n s1=x:=⟨_,rfl⟩
 have HC:=Hd hc
 rw[hc] at hq
 dsimp only at hq
 obtain⟨s3,hs3⟩:∃ x,exs ts s2 cRc=x:=⟨_,rfl⟩
 have HS3:=Hd hs3
 rw[hs3] at hq
 subst hq
 have hA:5 * ms ts s1+7≤n:=by omega
 have hpw:=h.lt
 have HSS:=Hd hss
 clear hs1 hc hs3 hss hm1 hm
 go_enter Tryz.func282,Tryz.ntmps282
 go_wp2_with fail
 refine (zAg ts p s s1 cLc (by decide) HS1 _ h).mono ?_
 rintro e w1 ⟨rfl,hg,hp⟩
 go_wp2_with fail
 refine (HSS.out s1 _ _ HC hA hp).mono ?_
 rintro e w2 ⟨A,L,c,rfl,hr,hg2,hp2⟩
 go_wp2_with fail
 refine (zAg ts p s2 s3 cRc (by decide) HS3 _ hp2).mono ?_
 rintro e w3 ⟨rfl,hg3,hp3⟩
 have HR:=Hd ((hr.acc keepsS hg3 (Ll hpw hg.size) (Lr _)).mono keepsS hg.size hg3.size)
 clear hr
 go_wp2_with fail
 go_ret
 exact liP HR.out (grown_to (grown_to hg hg2) hg3) hp3
theorem if_step (ts:List Tk)(p n:Nat)(hbl:WBl ts p n):WIf ts p (n+1):=by
 intro s q w hq hm h
 have hq:=hq.out
 rw[ifF] at hq
 obtain⟨⟨cpe,s1⟩,hc⟩:∃ x,cdF ts n s=x:=⟨_,rfl⟩
 have HC:=Hd hc
 have hm1:=ms_cd (ts:=ts) n s
 rw[hc] at hq hm1
 dsimp only at hq hm1
 obtain⟨⟨tl,s2⟩,hd⟩:∃ x,blF ts n s1=x:=⟨_,rfl⟩
 have HD:=Hd hd
 have hm2:=(ms_st (ts:=ts) n).2.2.2.2.2 s1
 rw[hd] at hq hm2
 dsimp only at hq hm2
 have hA:5 * ms ts s+4≤n:=by omega
 have hB:5 * ms ts s1+8≤n:=by omega
 have o:=Own.start h 40 st0
 have HBL:=Hd hbl
 clear hc hd hbl h
 by_cases hx:nx ts s2 wElse=true
 ·rw[if_pos hx] at hq
  have HX:=Hd hx
  have hmv:=zAj (zA5 (by decide) hx)
  obtain⟨⟨el,s3⟩,he⟩:∃ x,blF ts n (adv s2)=x:=⟨_,rfl⟩
  have HE:=Hd he
  rw[he] at hq
  dsimp only at hq
  subst hq
  have hC:5 * ms ts (adv s2)+8≤n:=by omega
  clear hx he hmv hm1 hm2 hm
  go_enter Tryz.func264,Tryz.ntmps264
  go_wp2_with fail
  refine (zCy ts p n s _ HC hA _ o.s).mono ?_
  rintro e w1 ⟨k2,n2,x2,o2,A2,L2,c2,rfl,hr,hg,hp⟩
  have hl:=o.sz
  have hl1:=hg.size
  replace hr:=(hr.mono (lo':=w.heap.size+1) hl (Lr _)).alloc (Lr _) (.cells #[.int .i64 3,.string ⟨#[]⟩,.string ⟨#[]⟩,.int .i64 0,.int .i64 0,.int .i64 0,.string ⟨#[]⟩,.int .i64 0,.slice none 0 0,.int .i64 k2,.int .i64 n2,.string ⟨x2.toArray⟩,.int .i64 o2,.slice A2 L2 c2,.slice none 0 0,.slice none 0 0,.slice none 0 0] 40)
  have hK:=Blk.new w1 40 #[.int .i64 3,.string ⟨#[]⟩,.string ⟨#[]⟩,.int .i64 0,.int .i64 0,.int .i64 0,.string ⟨#[]⟩,.int .i64 0,.slice none 0 0,.int .i64 k2,.int .i64 n2,.string ⟨x2.toArray⟩,.int .i64 o2,.slice A2 L2 c2,.slice none 0 0,.slice none 0 0,.slice none 0 0]
  replace o:=(o.acc hg hp).al (.cells #[.int .i64 3,.string ⟨#[]⟩,.string ⟨#[]⟩,.int .i64 0,.int .i64 0,.int .i64 0,.string ⟨#[]⟩,.int .i64 0,.slice none 0 0,.int .i64 k2,.int .i64 n2,.string ⟨x2.toArray⟩,.int .i64 o2,.slice A2 L2 c2,.slice none 0 0,.slice none 0 0,.slice none 0 0] 40)
  have hpl:p < w.heap.size:=o.p
  clear hg hp
  go_wp2_with fail
  refine (HBL.out s1 _ _ HD hB o.s).mono ?_
  rintro e w2 ⟨A4,L4,c4,rfl,ht,hg,hp⟩
  replace hK:=hK.gr hg (by omega)
  have hlw:=hg.size
  rw[World.size_alloc] at hlw
  replace hr:=hr.grown hg (by omega) (by rw[World.size_alloc];omega)
  replace o:=o.acc hg hp
  have hz:w1.heap.size+1≤w2.heap.size:=hlw
  replace ht:=ht.mono keepsS (lo':=w1.heap.size+1) (by rw[World.size_alloc];exact Lr _) (Lr _)
  clear hg hp hlw
  obtain⟨a15,b15⟩:w2.cell? ⟨w1.heap.size,15,none⟩=some (.slice none 0 0)∧w2.frozen? ⟨w1.heap.size,15,none⟩=false:=⟨hK.cell 15,hK.free 15⟩
  go_wp2_with fail
  have hne:w1.heap.size≠w.heap.size:=by omega
  replace hK:=hK.set 15 (.slice A4 L4 c4)
  replace o:=o.far (a:=⟨w1.heap.size,15,none⟩) (by show w.heap.size < w1.heap.size;omega) (.slice A4 L4 c4)
  replace hr:=hr.far (a:=⟨w1.heap.size,15,none⟩) (Or.inr (Lr _)) (.slice A4 L4 c4)
  replace ht:=ht.keep keepsS (w':=w2.setCell ⟨w1.heap.size,15,none⟩ (.slice A4 L4 c4)) (fun _ h=>h) (fun g hg=>Below.heap_setCell _ _ _ _ (by show g≠w1.heap.size;have:=hg.1;omega))
  clear a15 b15
  have hzz:(w2.setCell ⟨w1.heap.size,15,none⟩ (.slice A4 L4 c4)).heap.size=w2.heap.size:=by simp[World.setCell]
  generalize hww:w2.setCell ⟨w1.heap.size,15,none⟩ (.slice A4 L4 c4)=ww at *
  rw[←hzz] at ht hz
  clear hww hzz
  refine (zAi ts p s2 wElse (by decide) HX _ o.s).mono ?_
  rintro e w3 ⟨rfl,hg,hp⟩
  replace hK:=hK.gr hg (by omega)
  replace hr:=hr.grown hg (by omega) (by omega)
  replace ht:=ht.acc keepsS hg (by omega) (Lr _)
  have hlw:=hg.size
  replace o:=o.acc hg hp
  clear hg hp
  go_wp2_with fail
  refine (HBL.out (adv s2) _ _ HE hC o.s).mono ?_
  rintro e w4 ⟨A5,L5,c5,rfl,he,hg,hp⟩
  replace hK:=hK.gr hg (by omega)
  replace hr:=hr.grown hg (by omega) (by omega)
  replace ht:=ht.acc keepsS hg (by omega) (by omega)
  have hlw2:=hg.size
  replace o:=o.acc hg hp
  clear hg hp
  obtain⟨a16,b16⟩:w4.cell? ⟨w1.heap.size,16,none⟩=some (.slice none 0 0)∧w4.frozen? ⟨w1.heap.size,16,none⟩=false:=⟨hK.cell 16,hK.free 16⟩
  replace hK:=hK.set 16 (.slice A5 L5 c5)
  replace o:=o.far (a:=⟨w1.heap.size,16,none⟩) (by show w.heap.size < w1.heap.size;omega) (.slice A5 L5 c5)
  replace hr:=hr.far (a:=⟨w1.heap.size,16,none⟩) (Or.inr (Lr _)) (.slice A5 L5 c5)
  replace ht:=ht.keep keepsS (w':=w4.setCell ⟨w1.heap.size,16,none⟩ (.slice A5 L5 c5)) (fun _ h=>h) (fun g hg=>Below.heap_setCell _ _ _ _ (by show g≠w1.heap.size;have:=hg.1;omega))
  replace he:=he.keep keepsS (w':=w4.setCell ⟨w1.heap.size,16,none⟩ (.slice A5 L5 c5)) (fun _ h=>h) (fun g hg=>Below.heap_setCell _ _ _ _ (by show g≠w1.heap.size;have:=hg.1;omega))
  have hz4:(w4.setCell ⟨w1.heap.size,16,none⟩ (.slice A5 L5 c5)).heap.size=w4.heap.size:=by simp[World.setCell]
  have hK':Blk (w4.setCell ⟨w1.heap.size,16,none⟩ (.slice A5 L5 c5)) w1.heap.size 40 #[.int .i64 3,.string ⟨#[]⟩,.string ⟨#[]⟩,.int .i64 0,.int .i64 0,.int .i64 0,.string ⟨#[]⟩,.int .i64 0,.slice none 0 0,.int .i64 k2,.int .i64 n2,.string ⟨x2.toArray⟩,.int .i64 o2,.slice A2 L2 c2,.slice none 0 0,.slice A4 L4 c4,.slice A5 L5 c5]:=hK
  clear hK
  have hK:=hK'
  have HF:Hid (RepS (w4.setCell ⟨w1.heap.size,16,none⟩ (.slice A5 L5 c5)) (Rg (w.heap.size+1) (w4.setCell ⟨w1.heap.size,16,none⟩ (.slice A5 L5 c5)).heap.size) (.mk 3 [] [] 0 emE cpe [] tl el) (stC 3 [] [] 0 0 0 [] 0 none 0 0 k2 n2 x2 o2 A2 L2 c2 none 0 0 A4 L4 c4 A5 L5 c5)) :=
   Hd (repS_mk (repE_leaf _ _ 0 0 [] 0 none 0) (hr.mono (Lr _) (by omega)) (repL_nil _ _ _ _) (ht.mono keepsS (by omega) (by omega)) (he.mono keepsS (by omega) (by omega)))
  clear hr ht he hK'
  go_wp2_with (first | (refine wpList_load_row rfl _ _ rfl w1.heap.size rfl _ _ _ _ hK Tryz.underlying40 rfl zAf ?_) | (refine wpList_store_row rfl _ _ _ rfl w.heap.size #[.int .i64 3,.string ⟨#[]⟩,.string ⟨#[]⟩,.int .i64 0,.int .i64 0,.int .i64 0,.string ⟨#[]⟩,.int .i64 0,.slice none 0 0,.int .i64 k2,.int .i64 n2,.string ⟨x2.toArray⟩,.int .i64 o2,.slice A2 L2 c2,.slice none 0 0,.slice A4 L4 c4,.slice A5 L5 c5] rfl rfl _ _ o.r zAf rfl (by simp[Value.oneCell']) ?_))
  obtain⟨hk,hx⟩:=o.fin17 (kd:=3) (nm:=[]) (to:=[]) (num:=0) (HF.out)
  exact bodyPost_ret (results_cell_row rfl _ _ _ _ _ _ _ rfl hk Tryz.underlying40 rfl zAf) rfl hx
 ·rw[if_neg hx] at hq
  have HX:=Hd (show nx ts s2 wElse=false by simpa using hx)
  subst hq
  clear hx hm1 hm2 hm
  go_enter Tryz.func264,Tryz.ntmps264
  go_wp2_with fail
  refine (zCy ts p n s _ HC hA _ o.s).mono ?_
  rintro e w1 ⟨k2,n2,x2,o2,A2,L2,c2,rfl,hr,hg,hp⟩
  have hl:=o.sz
  have hl1:=hg.size
  replace hr:=(hr.mono (lo':=w.heap.size+1) hl (Lr _)).alloc (Lr _) (.cells #[.int .i64 3,.string ⟨#[]⟩,.string ⟨#[]⟩,.int .i64 0,.int .i64 0,.int .i64 0,.string ⟨#[]⟩,.int .i64 0,.slice none 0 0,.int .i64 k2,.int .i64 n2,.string ⟨x2.toArray⟩,.int .i64 o2,.slice A2 L2 c2,.slice none 0 0,.slice none 0 0,.slice none 0 0] 40)
  have hK:=Blk.new w1 40 #[.int .i64 3,.string ⟨#[]⟩,.string ⟨#[]⟩,.int .i64 0,.int .i64 0,.int .i64 0,.string ⟨#[]⟩,.int .i64 0,.slice none 0 0,.int .i64 k2,.int .i64 n2,.string ⟨x2.toArray⟩,.int .i64 o2,.slice A2 L2 c2,.slice none 0 0,.slice none 0 0,.slice none 0 0]
  replace o:=(o.acc hg hp).al (.cells #[.int .i64 3,.string ⟨#[]⟩,.string ⟨#[]⟩,.int .i64 0,.int .i64 0,.int .i64 0,.string ⟨#[]⟩,.int .i64 0,.slice none 0 0,.int .i64 k2,.int .i64 n2,.string ⟨x2.toArray⟩,.int .i64 o2,.slice A2 L2 c2,.slice none 0 0,.slice none 0 0,.slice none 0 0] 40)
  have hpl:p < w.heap.size:=o.p
  clear hg hp
  go_wp2_with fail
  refine (HBL.out s1 _ _ HD hB o.s).mono ?_
  rintro e w2 ⟨A4,L4,c4,rfl,ht,hg,hp⟩
  replace hK:=hK.gr hg (by omega)
  have hlw:=hg.size
  rw[World.size_alloc] at hlw
  replace hr:=hr.grown hg (by omega) (by rw[World.size_alloc];omega)
  replace o:=o.acc hg hp
  have hz:w1.heap.size+1≤w2.heap.size:=hlw
  replace ht:=ht.mono keepsS (lo':=w1.heap.size+1) (by rw[World.size_alloc];exact Lr _) (Lr _)
  clear hg hp hlw
  obtain⟨a15,b15⟩:w2.cell? ⟨w1.heap.size,15,none⟩=some (.slice none 0 0)∧w2.frozen? ⟨w1.heap.size,15,none⟩=false:=⟨hK.cell 15,hK.free 15⟩
  go_wp2_with fail
  have hne:w1.heap.size≠w.heap.size:=by omega
  replace hK:=hK.set 15 (.slice A4 L4 c4)
  replace o:=o.far (a:=⟨w1.heap.size,15,none⟩) (by show w.heap.size < w1.heap.size;omega) (.slice A4 L4 c4)
  replace hr:=hr.far (a:=⟨w1.heap.size,15,none⟩) (Or.inr (Lr _)) (.slice A4 L4 c4)
  replace ht:=ht.keep keepsS (w':=w2.setCell ⟨w1.heap.size,15,none⟩ (.slice A4 L4 c4)) (fun _ h=>h) (fun g hg=>Below.heap_setCell _ _ _ _ (by show g≠w1.heap.size;have:=hg.1;omega))
  clear a15 b15
  have hzz:(w2.setCell ⟨w1.heap.size,15,none⟩ (.slice A4 L4 c4)).heap.size=w2.heap.size:=by simp[World.setCell]
  generalize hww:w2.setCell ⟨w1.heap.size,15,none⟩ (.slice A4 L4 c4)=ww at *
  rw[←hzz] at ht hz
  clear hww hzz
  refine (zAd ts p s2 wElse HX _ o.s).mono ?_
  rintro e w3 ⟨rfl,hg,hp⟩
  replace hK:=hK.gr hg (by omega)
  replace hr:=hr.grown hg (by omega) (by omega)
  replace ht:=ht.acc keepsS hg (by omega) (Lr _)
  have hlw:=hg.size
  replace o:=o.acc hg hp
  clear hg hp
  have hK':Blk w3 w1.heap.size 40 #[.int .i64 3,.string ⟨#[]⟩,.string ⟨#[]⟩,.int .i64 0,.int .i64 0,.int .i64 0,.string ⟨#[]⟩,.int .i64 0,.slice none 0 0,.int .i64 k2,.int .i64 n2,.string ⟨x2.toArray⟩,.int .i64 o2,.slice A2 L2 c2,.slice none 0 0,.slice A4 L4 c4,.slice none 0 0]:=hK
  clear hK
  have hK:=hK'
  have HF:Hid (RepS w3 (Rg (w.heap.size+1) w3.heap.size) (.mk 3 [] [] 0 emE cpe [] tl []) (stC 3 [] [] 0 0 0 [] 0 none 0 0 k2 n2 x2 o2 A2 L2 c2 none 0 0 A4 L4 c4 none 0 0)) :=
   Hd (repS_mk (repE_leaf _ _ 0 0 [] 0 none 0) (hr.mono (Lr _) (by omega)) (repL_nil _ _ _ _) (ht.mono keepsS (by omega) (by omega)) (repL_nil _ _ _ _))
  clear hr ht hK'
  go_wp2_with (first | (refine wpList_load_row rfl _ _ rfl w1.heap.size rfl _ _ _ _ hK Tryz.underlying40 rfl zAf ?_) | (refine wpList_store_row rfl _ _ _ rfl w.heap.size #[.int .i64 3,.string ⟨#[]⟩,.string ⟨#[]⟩,.int .i64 0,.int .i64 0,.int .i64 0,.string ⟨#[]⟩,.int .i64 0,.slice none 0 0,.int .i64 k2,.int .i64 n2,.string ⟨x2.toArray⟩,.int .i64 o2,.slice A2 L2 c2,.slice none 0 0,.slice A4 L4 c4,.slice none 0 0] rfl rfl _ _ o.r zAf rfl (by simp[Value.oneCell']) ?_))
  obtain⟨hk,hx⟩:=o.fin17 (kd:=3) (nm:=[]) (to:=[]) (num:=0) (HF.out)
  exact bodyPost_ret (results_cell_row rfl _ _ _ _ _ _ _ rfl hk Tryz.underlying40 rfl zAf) rfl hx
end Go.Proofs.YtpgnlfdindmopaaGreatDoor
