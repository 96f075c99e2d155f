/- Words and walks for the laws of the interpreter. -/
import Derived.Test.YtpgnlfdindmopaaGreatDoorJ5
import Derived.Deep.RegionWith
import Derived.Test.YtpgnlfdindmopaaGreatDoorJ6
namespace Go.Proofs.YtpgnlfdindmopaaGreatDoor
open Go.RowKit (wrap64 intOf)
open Go Go.RowKit WM LX PX
set_option maxRecDepth 100000
set_option maxHeartbeats 4000000
theorem while_step (ts:List Tk)(p n:Nat)(hbl:WBl ts p n):WWh ts p (n+1):=by
 intro s q w hq hm h
 have hq:=hq.out
 rw[whF] at hq
 obtain⟨⟨cpe,s1⟩,hc⟩:∃ x,cdF ts n s=x:=⟨_,rfl⟩
 have HC:=Hd hc
 have hm1:=ms_cd (ts:=ts) n s
 rw[hc] at hq hm1
 dsimp only at hq hm1
 obtain⟨⟨tl,s2⟩,hd⟩:∃ x,blF ts n s1=x:=⟨_,rfl⟩
 have HD:=Hd hd
 rw[hd] at hq
 dsimp only at hq
 subst hq
 have hA:5 * ms ts s+4≤n:=by omega
 have hB:5 * ms ts s1+8≤n:=by omega
 have o:=Own.start h 40 st0
 have HBL:=Hd hbl
 clear hc hd hbl h hm hm1
 go_enter Tryz.func265,Tryz.ntmps265
 go_wp2_with fail
 refine (zCy ts p n s _ HC hA _ o.s).mono ?_
 rintro e w1 ⟨k2,n2,x2,o2,A2,L2,c2,rfl,hr,hg,hp⟩
 have x2h:=Hold.start hr o hg.size 36
 replace o:=(o.acc hg hp).al (.cells #[.int .i64 k2,.int .i64 n2,.string ⟨x2.toArray⟩,.int .i64 o2,.slice A2 L2 c2] 36)
 clear hg hp hr
 go_wp2_with fail
 generalize hwA:w1.alloc (.cells #[.int .i64 k2,.int .i64 n2,.string ⟨x2.toArray⟩,.int .i64 o2,.slice A2 L2 c2] 36)=wA at *
 clear hwA
 have hbl:Calls Tryz.prog 282 #[.pointer (some ⟨p,0,none⟩)] wA.drew (LiP RepS 17 ts p (tl,s2) wA.drew):=HBL.out s1 _ _ HD hB (o.s.drewN 1)
 obtain⟨a0,a1,a2,a3,a4,_⟩:=x2h.k.cells5
 have oD:Own ts p s1 40 st0 w wA.drew:=o.low (below_drewN (Below.refl _ _) 1)
 have xD:=x2h.low (w2:=wA.drew) (below_drewN (Below.refl _ _) 1)
 refine wp_region_any (by kernel_rfl) ?_
 change wpAny _ _ _ _ _ _ _ (World.drew _)
 refine wpAny_take (i:=1) (v:=.pointer (some ⟨p,0,none⟩)) rfl (by kernel_rfl) (by kernel_rfl) (by kernel_rfl) (fun _ _ _ h=>h) (Or.inl ⟨by kernel_rfl,fun w=>by go_simp⟩) ?_
 refine wpAny_ready (rs:=[0,2]) (by kernel_rfl) (by simp) ?_
 refine AllReady.cons rfl (fun K hK=>?_) (AllReady.cons rfl (fun K hK=>?_) AllReady.nil)
 ·go_simp
  refine hK _ _ ?_
  clear hK K
  refine wpAny_ready (rs:=[2]) (by kernel_rfl) (by simp) ?_
  refine AllReady.cons rfl (fun K hK=>?_) AllReady.nil
  go_simp
  go_wp2_with (go_at_call 282;((with_reducible refine hbl.mono ?_);rintro e w2 ⟨A4,L4,c4,rfl,ht,hg2,hp2⟩;have oE:=oD.acc hg2 hp2;have xE:=xD.acc hg2))
  refine wpAny_take (i:=3) (v:=.agg #[.int .i64 4,.string ⟨#[]⟩,.string ⟨#[]⟩,.int .i64 0,.int .i64 0,.int .i64 0,.string ⟨#[]⟩,.int .i64 0,.slice none 0 0,.int .i64 k2,.int .i64 n2,.string ⟨x2.toArray⟩,.int .i64 o2,.slice A2 L2 c2,.slice none 0 0,.slice A4 L4 c4,.slice none 0 0]) rfl (by kernel_rfl) (by kernel_rfl) (by kernel_rfl) (fun _ _ _ h=>h) (Or.inl ⟨by kernel_rfl,fun w=>by go_simp⟩) ?_
  refine wpAny_ready (rs:=[4]) (by kernel_rfl) (by simp) ?_
  refine AllReady.cons rfl (fun K hK=>?_) AllReady.nil
  rw[if_pos (by kernel_rfl)]
  refine wp_store_row _ _ _ rfl w.heap.size #[.int .i64 4,.string ⟨#[]⟩,.string ⟨#[]⟩,.int .i64 0,.int .i64 0,.int .i64 0,.string ⟨#[]⟩,.int .i64 0,.slice none 0 0,.int .i64 k2,.int .i64 n2,.string ⟨x2.toArray⟩,.int .i64 o2,.slice A2 L2 c2,.slice none 0 0,.slice A4 L4 c4,.slice none 0 0] rfl rfl _ _ oE.r zAf rfl (by simp[Value.oneCell']) ?_
  refine hK _ _ ?_
  clear hK K
  refine wpAny_done (by kernel_rfl) ?_ _
  have hzw:wA.heap.size≤w2.heap.size:=hg2.size
  have hzo:w.heap.size < wA.heap.size:=o.sz
  obtain⟨hk,hx⟩:=oE.fin17 (kd:=4) (nm:=[]) (to:=[]) (num:=0) (repS_mk (repE_leaf _ _ 0 0 [] 0 none 0) xE.out (repL_nil _ _ _ _) (ht.mono keepsS (lo':=w.heap.size+1) hzo (Lr _)) (repL_nil _ _ _ _))
  go_wp2_with fail
  exact bodyPost_ret (results_cell_row rfl _ _ _ _ _ _ _ rfl hk Tryz.underlying40 rfl zAf) rfl hx
 ·go_simp
  go_wp2_with (go_at_call 282;((with_reducible refine hbl.mono ?_);rintro e w2 ⟨A4,L4,c4,rfl,ht,hg2,hp2⟩;have oE:=oD.acc hg2 hp2;have xE:=xD.acc hg2;obtain⟨b0,b1,b2,b3,b4,_⟩:=xE.k.cells5))
  refine wpAny_ready (rs:=[0]) (by kernel_rfl) (by simp) ?_
  refine AllReady.cons rfl (fun K hK=>?_) AllReady.nil
  go_simp
  refine hK _ _ ?_
  clear hK K
  refine wpAny_take (i:=3) (v:=.agg #[.int .i64 4,.string ⟨#[]⟩,.string ⟨#[]⟩,.int .i64 0,.int .i64 0,.int .i64 0,.string ⟨#[]⟩,.int .i64 0,.slice none 0 0,.int .i64 k2,.int .i64 n2,.string ⟨x2.toArray⟩,.int .i64 o2,.slice A2 L2 c2,.slice none 0 0,.slice A4 L4 c4,.slice none 0 0]) rfl (by kernel_rfl) (by kernel_rfl) (by kernel_rfl) (fun _ _ _ h=>h) (Or.inl ⟨by kernel_rfl,fun w=>by go_simp⟩) ?_
  refine wpAny_ready (rs:=[4]) (by kernel_rfl) (by simp) ?_
  refine AllReady.cons rfl (fun K hK=>?_) AllReady.nil
  rw[if_pos (by kernel_rfl)]
  refine wp_store_row _ _ _ rfl w.heap.size #[.int .i64 4,.string ⟨#[]⟩,.string ⟨#[]⟩,.int .i64 0,.int .i64 0,.int .i64 0,.string ⟨#[]⟩,.int .i64 0,.slice none 0 0,.int .i64 k2,.int .i64 n2,.string ⟨x2.toArray⟩,.int .i64 o2,.slice A2 L2 c2,.slice none 0 0,.slice A4 L4 c4,.slice none 0 0] rfl rfl _ _ oE.r zAf rfl (by simp[Value.oneCell']) ?_
  refine hK _ _ ?_
  clear hK K
  refine wpAny_done (by kernel_rfl) ?_ _
  have hzw:wA.heap.size≤w2.heap.size:=hg2.size
  have hzo:w.heap.size < wA.heap.size:=o.sz
  obtain⟨hk,hx⟩:=oE.fin17 (kd:=4) (nm:=[]) (to:=[]) (num:=0) (repS_mk (repE_leaf _ _ 0 0 [] 0 none 0) xE.out (repL_nil _ _ _ _) (ht.mono keepsS (lo':=w.heap.size+1) hzo (Lr _)) (repL_nil _ _ _ _))
  go_wp2_with fail
  exact bodyPost_ret (results_cell_row rfl _ _ _ _ _ _ _ rfl hk Tryz.underlying40 rfl zAf) rfl hx
end Go.Proofs.YtpgnlfdindmopaaGreatDoor
namespace Go.Proofs.YtpgnlfdindmopaaGreatDoor
open Go.RowKit (wrap64 intOf)
open Go Go.RowKit WM LX PX
set_option maxRecDepth 100000
set_option maxHeartbeats 4000000
theorem stInfo:(Tryz.prog.info? 40).map (fun i=>(i.zero,i.size,i.bytes))=some (some (.agg st0),17,248):=by kernel_rfl
theorem PSt.flag {ts:List Tk}{p:Nat}{s:PS}{w:World}(h:PSt ts p s w):w.cell? ⟨p,2,none⟩=some (.bool s.f):=by
 obtain⟨_,_,hb,_⟩:=h
 exact hb.cells3.2.2.1
def SlR (ts:List Tk)(p:Nat)(q:List ST × PS)(w:World)(k:Nat)(v:Value)(wr:World):Prop :=
 ∃ (s':PS) (acc:List ST) (css:List (List Value)),acc++(ssF ts k s').1=q.1∧(ssF ts k s').2=q.2∧5 * ms ts s'+7≤k∧acc.length+ms ts s'≤ts.length+2∧w.grownBy wr (some p)∧PSt ts p s' wr∧Coll RepS 17 40 w.heap.size acc css v wr
theorem ss_stop {ts:List Tk}{k:Nat}{s:PS}(h:(s.f||nx ts s cRc||nx ts s zAm)=true):ssF ts (k+1) s=([],s):=by rw[ssF,if_pos h]
theorem ss_go {ts:List Tk}{k:Nat}{s:PS}{st:ST}{s1:PS}(h:(s.f||nx ts s cRc||nx ts s zAm)=false)(hst:stF ts k s=(st,s1)):ssF ts (k+1) s=(st :: (ssF ts k s1).1,(ssF ts k s1).2):=by rw[ssF,h,hst];rfl
theorem statements_step (ts:List Tk)(p n:Nat)(hst:∀ m,m≤n→WSt ts p m):WSs ts p (n+1):=by
 intro s q w hq hm h
 have hq:=hq.out
 have hml:=ms_le ts s
 have hfew:=h.few
 have hpw:=h.lt
 have H0:Hid (SlR ts p q w (n+1) (.slice none 0 0) w):=Hd ⟨s,[],[],by rw[hq];rfl,by rw[hq],hm,by simp;omega,grown_id _ _,h,coll_nil _ _ _ _ _⟩
 have HST:=Hd hst
 clear hst hq h
 obtain⟨i0,hi,hz0,hz1,hz2⟩:=info_parts stInfo
 go_enter Tryz.func239,Tryz.ntmps239
 go_wp2_with fail
 go_loopg [3] (n+1) (fun k v wr=>k≤n+1∧SlR ts p q w k v wr)
 case atStart=>exact⟨Lr _,H0.out⟩
 case round =>
  clear H0
  rename_i u3
  obtain⟨hkn,s',acc,css,ha,hb,hk,hln,hg,hp,hcl⟩:=hrel
  obtain⟨m,rfl⟩:∃ m,gk=m+1:=⟨gk - 1,by omega⟩
  have hc2:=hp.flag
  cases hf:s'.f with
  | true =>
   rw[ss_stop (by rw[hf];rfl)] at ha hb
   have ha:acc=q.1:=by simpa using ha
   rw[hf] at hc2
   have HA:=Hd ha
   have HB:=Hd hb
   clear ha hb hf
   go_wp2_with fail
   go_ret
   exact liP_of keepsS hcl HA.out HB.out hg hp
  | false =>
   rw[hf] at hc2
   by_cases hx:nx ts s' cRc=true
   ·rw[ss_stop (by rw[hx];simp)] at ha hb
    have ha:acc=q.1:=by simpa using ha
    have HA:=Hd ha
    have HB:=Hd hb
    have HX:=Hd hx
    clear ha hb hx hf
    go_wp2_with fail
    refine (zB0 ts p s' cRc true HX _ hp).mono ?_
    rintro e w2 ⟨rfl,hb2⟩
    go_wp2_with fail
    go_ret
    exact liP_of keepsS (hcl.grown keepsS (zAa hb2 _) hpw) HA.out HB.out (grown_to hg (zAa hb2 _)) (hp.keep hb2)
   ·have hx:nx ts s' cRc=false:=by simpa using hx
    have HX:=Hd hx
    by_cases hy:nx ts s' zAm=true
    ·rw[ss_stop (by rw[hy];simp)] at ha hb
     have ha:acc=q.1:=by simpa using ha
     have HA:=Hd ha
     have HB:=Hd hb
     have HY:=Hd hy
     clear ha hb hx hy hf
     go_wp2_with fail
     refine (zB0 ts p s' cRc false HX _ hp).mono ?_
     rintro e w2 ⟨rfl,hb2⟩
     have hp2:=hp.keep hb2
     go_wp2_with fail
     refine (zB0 ts p s' zAm true HY _ hp2).mono ?_
     rintro e w3 ⟨rfl,hb3⟩
     go_wp2_with fail
     go_ret
     exact liP_of keepsS ((hcl.grown keepsS (zAa hb2 _) hpw).grown keepsS (zAa hb3 _) hpw) HA.out HB.out (grown_to (grown_to hg (zAa hb2 _)) (zAa hb3 _)) (hp2.keep hb3)
    ·have hy:nx ts s' zAm=false:=by simpa using hy
     have HY:=Hd hy
     obtain⟨⟨st,s2⟩,hc⟩:∃ x,stF ts m s'=x:=⟨_,rfl⟩
     have hm2:=(ms_st (ts:=ts) m).2.2.1 s' hf (by omega)
     rw[ss_go (by rw[hf,hx,hy];rfl) hc] at ha hb
     rw[hc] at hm2
     dsimp only at hm2 ha hb
     have HC:=Hd hc
     have HA:=Hd ha
     have HB:=Hd hb
     have hA:5 * ms ts s'+6≤m:=by omega
     have hmn:m≤n:=by omega
     clear ha hb hx hy hf hc
     go_wp2_with fail
     refine (zB0 ts p s' cRc false HX _ hp).mono ?_
     rintro e w2 ⟨rfl,hb2⟩
     replace hcl:=hcl.grown keepsS (zAa hb2 _) hpw
     replace hg:=grown_to hg (zAa hb2 _)
     replace hp:=hp.keep hb2
     clear hb2 hc2
     go_wp2_with fail
     refine (zB0 ts p s' zAm false HY _ hp).mono ?_
     rintro e w3 ⟨rfl,hb2⟩
     replace hcl:=hcl.grown keepsS (zAa hb2 _) hpw
     replace hg:=grown_to hg (zAa hb2 _)
     replace hp:=hp.keep hb2
     clear hb2
     go_wp2_with fail
     refine (HST.out m hmn s' _ _ HC hA hp).mono ?_
     rintro e w4 ⟨kd,nm,to,num,k1,n1,x1,o1,A1,L1,c1,k2,n2,x2,o2,A2,L2,c2,A3,L3,c3,A4,L4,c4,A5,L5,c5,rfl,hr,hg3,hp3⟩
     have hlo:=hcl.blk
     have hlw:=hg.size
     replace hcl:=hcl.grown keepsS hg3 hpw
     replace hg:=grown_to hg hg3
     have hlen:=hcl.len
     clear hg3 hp
     have HCL:=Hd hcl
     have HLO:=Hd hlo
     have HG:=Hd hg
     have HR:=Hd hr
     have hown:=hcl.own
     have hsz:=hg.size
     clear hcl hlo hg hr
     go_wp2_with (
      at_builtin
      refine wpList_append_own_at _ rfl (.tmp 19) (.tmp 22) 33 rfl w.heap.size 40 i0 _ 17 248 Tryz.underlying33 hi hz0 hz1 hz2 rfl (by decide) _ _ _ rfl (hown.alloc _) ⟨w4.heap.size,0,none⟩ 1 1 [.int .i64 kd,.string ⟨nm.toArray⟩,.string ⟨to.toArray⟩,.int .i64 num,.int .i64 k1,.int .i64 n1,.string ⟨x1.toArray⟩,.int .i64 o1,.slice A1 L1 c1,.int .i64 k2,.int .i64 n2,.string ⟨x2.toArray⟩,.int .i64 o2,.slice A2 L2 c2,.slice A3 L3 c3,.slice A4 L4 c4,.slice A5 L5 c5] rfl rfl (World.news_of_block (heap_alloc_new _ _)) (by simp[Value.oneCell']) (by unfold maxLen;omega) (by omega) (by simp;omega) ?_
      intro v2 w5 hown2 hgr2 _ hob)
     have hrow:∀ k,u3.ownBlock=some k→w.heap.size≤k:=fun k hk=>(HCL.out.own.lt k hk).1
     go_roundg m
     case measure=>exact Nat.lt_succ_self m
     case rel=>exact⟨by omega,s2,acc++[st],css++[[.int .i64 kd,.string ⟨nm.toArray⟩,.string ⟨to.toArray⟩,.int .i64 num,.int .i64 k1,.int .i64 n1,.string ⟨x1.toArray⟩,.int .i64 o1,.slice A1 L1 c1,.int .i64 k2,.int .i64 n2,.string ⟨x2.toArray⟩,.int .i64 o2,.slice A2 L2 c2,.slice A3 L3 c3,.slice A4 L4 c4,.slice A5 L5 c5]],by rw[List.append_assoc];exact HA.out,HB.out,by omega,by simp;omega,zCt (grown_al HG.out _) hgr2 hrow,(hp3.alloc _).row hgr2 (fun k hk=>Ll hpw (hrow k hk)),
      HCL.out.snoc (x:=st) (cs:=[.int .i64 kd,.string ⟨nm.toArray⟩,.string ⟨to.toArray⟩,.int .i64 num,.int .i64 k1,.int .i64 n1,.string ⟨x1.toArray⟩,.int .i64 o1,.slice A1 L1 c1,.int .i64 k2,.int .i64 n2,.string ⟨x2.toArray⟩,.int .i64 o2,.slice A2 L2 c2,.slice A3 L3 c3,.slice A4 L4 c4,.slice A5 L5 c5]) keepsS (lo:=w3.heap.size) HR.out hlw HLO.out rfl hown2 hgr2 hob⟩
end Go.Proofs.YtpgnlfdindmopaaGreatDoor
namespace Go.Proofs.YtpgnlfdindmopaaGreatDoor
open Go.RowKit (wrap64 intOf)
open Go Go.RowKit WM LX PX
set_option maxRecDepth 100000
set_option maxHeartbeats 4000000
theorem starts_any (ts:List Tk)(p:Nat)(s:PS)(b:Bool)(hb:Hid (clB ts s=b))(w:World)(h:PSt ts p s w) :
 Calls Tryz.prog 269 #[.pointer (some ⟨p,0,none⟩)] w (RetN (.bool b) w):=by
 by_cases hn:isNm (pk ts s)=true
 ·exact starts_yes ts p s (Hd hn) b hb w h
 ·have hf:isNm (pk ts s)=false:=by simpa using hn
  have:clB ts s=false:=by unfold clB;rw[hf];rfl
  obtain rfl:false=b:=by rw[←this];exact hb.out
  exact starts_no ts p s (Hd hf) w h
theorem statement_step (ts:List Tk)(p n:Nat)(hif:WIf ts p n)(hwh:WWh ts p n):WSt ts p (n+1):=by
 intro s q w hq hm h
 have hq:=hq.out
 rw[stF] at hq
 have o:=Own.start h 40 st0
 have HIF:=Hd hif
 have HWH:=Hd hwh
 clear hif hwh h
 by_cases h0:nx ts s wIf=true
 ·rw[if_pos h0] at hq
  have hmv:=zAj (zA5 (by decide) h0)
  have HI:=Hd h0
  have HQ:=Hd hq
  have hA:5 * ms ts (adv s)+9≤n:=by omega
  clear h0 hq hmv hm
  go_enter Tryz.func253,Tryz.ntmps253
  go_wp2_with fail
  refine (zAi ts p s wIf (by decide) HI _ o.s).mono ?_
  rintro e w0 ⟨rfl,hg,hp⟩
  replace o:=o.acc hg hp
  clear hg hp
  go_wp2_with fail
  refine (HIF.out (adv s) q _ HQ hA o.s).mono ?_
  rintro e wz ⟨kd,nm,to,num,k1,n1,x1,o1,A1,L1,c1,k2,n2,x2,o2,A2,L2,c2,A3,L3,c3,A4,L4,c4,A5,L5,c5,rfl,hr,hg,hp⟩
  have hl:=o.sz
  replace o:=o.acc hg hp
  have HR:=Hd (hr.mono (lo':=w.heap.size+1) hl (Lr _))
  clear hg hp hr
  go_wp2_with (refine wpList_store_row rfl _ _ _ rfl w.heap.size #[.int .i64 kd,.string ⟨nm.toArray⟩,.string ⟨to.toArray⟩,.int .i64 num,.int .i64 k1,.int .i64 n1,.string ⟨x1.toArray⟩,.int .i64 o1,.slice A1 L1 c1,.int .i64 k2,.int .i64 n2,.string ⟨x2.toArray⟩,.int .i64 o2,.slice A2 L2 c2,.slice A3 L3 c3,.slice A4 L4 c4,.slice A5 L5 c5] rfl rfl _ _ o.r zAf rfl (by simp[Value.oneCell']) ?_)
  obtain⟨hk,hx⟩:=o.fin17 HR.out
  exact bodyPost_ret (results_cell_row rfl _ _ _ _ _ _ _ rfl hk Tryz.underlying40 rfl zAf) rfl hx
 ·rw[if_neg h0] at hq
  have HI:=Hd (show nx ts s wIf=false by simpa using h0)
  clear h0
  by_cases h1:nx ts s zBn=true
  ·rw[if_pos h1] at hq
   have hmv:=zAj (zA5 (by decide) h1)
   have HW:=Hd h1
   have HQ:=Hd hq
   have hA:5 * ms ts (adv s)+9≤n:=by omega
   clear h1 hq hmv hm
   go_enter Tryz.func253,Tryz.ntmps253
   go_wp2_with fail
   refine (zAd ts p s wIf HI _ o.s).mono ?_
   rintro e w0 ⟨rfl,hg,hp⟩
   replace o:=o.acc hg hp
   clear hg hp
   go_wp2_with fail
   refine (zAi ts p s zBn (by decide) HW _ o.s).mono ?_
   rintro e w1 ⟨rfl,hg,hp⟩
   replace o:=o.acc hg hp
   clear hg hp
   go_wp2_with fail
   refine (HWH.out (adv s) q _ HQ hA o.s).mono ?_
   rintro e wz ⟨kd,nm,to,num,k1,n1,x1,o1,A1,L1,c1,k2,n2,x2,o2,A2,L2,c2,A3,L3,c3,A4,L4,c4,A5,L5,c5,rfl,hr,hg,hp⟩
   have hl:=o.sz
   replace o:=o.acc hg hp
   have HR:=Hd (hr.mono (lo':=w.heap.size+1) hl (Lr _))
   clear hg hp hr
   go_wp2_with (refine wpList_store_row rfl _ _ _ rfl w.heap.size #[.int .i64 kd,.string ⟨nm.toArray⟩,.string ⟨to.toArray⟩,.int .i64 num,.int .i64 k1,.int .i64 n1,.string ⟨x1.toArray⟩,.int .i64 o1,.slice A1 L1 c1,.int .i64 k2,.int .i64 n2,.string ⟨x2.toArray⟩,.int .i64 o2,.slice A2 L2 c2,.slice A3 L3 c3,.slice A4 L4 c4,.slice A5 L5 c5] rfl rfl _ _ o.r zAf rfl (by simp[Value.oneCell']) ?_)
   obtain⟨hk,hx⟩:=o.fin17 HR.out
   exact bodyPost_ret (results_cell_row rfl _ _ _ _ _ _ _ rfl hk Tryz.underlying40 rfl zAf) rfl hx
  ·rw[if_neg h1] at hq
   have HW:=Hd (show nx ts s zBn=false by simpa using h1)
   clear h1
   by_cases h2:nx ts s wOut=true
   ·rw[if_pos h2] at hq
    have hmv:=zAj (zA5 (by decide) h2)
    have HO:=Hd h2
    have HQ:=Hd hq
    have hA:5 * ms ts (adv s)+4≤n:=by omega
    clear h2 hq hmv hm
    go_enter Tryz.func253,Tryz.ntmps253
    go_wp2_with fail
    refine (zAd ts p s wIf HI _ o.s).mono ?_
    rintro e w0 ⟨rfl,hg,hp⟩
    replace o:=o.acc hg hp
    clear hg hp
    go_wp2_with fail
    refine (zAd ts p s zBn HW _ o.s).mono ?_
    rintro e w1 ⟨rfl,hg,hp⟩
    replace o:=o.acc hg hp
    clear hg hp
    go_wp2_with fail
    refine (zAi ts p s wOut (by decide) HO _ o.s).mono ?_
    rintro e w2 ⟨rfl,hg,hp⟩
    replace o:=o.acc hg hp
    clear hg hp
    go_wp2_with fail
    refine (out_any ts p n (adv s) q HQ hA _ o.s).mono ?_
    rintro e wz ⟨kd,nm,to,num,k1,n1,x1,o1,A1,L1,c1,k2,n2,x2,o2,A2,L2,c2,A3,L3,c3,A4,L4,c4,A5,L5,c5,rfl,hr,hg,hp⟩
    have hl:=o.sz
    replace o:=o.acc hg hp
    have HR:=Hd (hr.mono (lo':=w.heap.size+1) hl (Lr _))
    clear hg hp hr
    go_wp2_with (refine wpList_store_row rfl _ _ _ rfl w.heap.size #[.int .i64 kd,.string ⟨nm.toArray⟩,.string ⟨to.toArray⟩,.int .i64 num,.int .i64 k1,.int .i64 n1,.string ⟨x1.toArray⟩,.int .i64 o1,.slice A1 L1 c1,.int .i64 k2,.int .i64 n2,.string ⟨x2.toArray⟩,.int .i64 o2,.slice A2 L2 c2,.slice A3 L3 c3,.slice A4 L4 c4,.slice A5 L5 c5] rfl rfl _ _ o.r zAf rfl (by simp[Value.oneCell']) ?_)
    obtain⟨hk,hx⟩:=o.fin17 HR.out
    exact bodyPost_ret (results_cell_row rfl _ _ _ _ _ _ _ rfl hk Tryz.underlying40 rfl zAf) rfl hx
   ·rw[if_neg h2] at hq
    have HO:=Hd (show nx ts s wOut=false by simpa using h2)
    clear h2
    by_cases h3:nx ts s wTrap=true
    ·rw[if_pos h3] at hq
     have hmv:=zAj (zA5 (by decide) h3)
     have HT:=Hd h3
     have HQ:=Hd hq
     clear h3 hq hmv hm
     go_enter Tryz.func253,Tryz.ntmps253
     go_wp2_with fail
     refine (zAd ts p s wIf HI _ o.s).mono ?_
     rintro e w0 ⟨rfl,hg,hp⟩
     replace o:=o.acc hg hp
     clear hg hp
     go_wp2_with fail
     refine (zAd ts p s zBn HW _ o.s).mono ?_
     rintro e w1 ⟨rfl,hg,hp⟩
     replace o:=o.acc hg hp
     clear hg hp
     go_wp2_with fail
     refine (zAd ts p s wOut HO _ o.s).mono ?_
     rintro e w2 ⟨rfl,hg,hp⟩
     replace o:=o.acc hg hp
     clear hg hp
     go_wp2_with fail
     refine (zAi ts p s wTrap (by decide) HT _ o.s).mono ?_
     rintro e w3 ⟨rfl,hg,hp⟩
     replace o:=o.acc hg hp
     clear hg hp
     go_wp2_with fail
     refine (trap_any ts p (adv s) q HQ _ o.s).mono ?_
     rintro e wz ⟨kd,nm,to,num,k1,n1,x1,o1,A1,L1,c1,k2,n2,x2,o2,A2,L2,c2,A3,L3,c3,A4,L4,c4,A5,L5,c5,rfl,hr,hg,hp⟩
     have hl:=o.sz
     replace o:=o.acc hg hp
     have HR:=Hd (hr.mono (lo':=w.heap.size+1) hl (Lr _))
     clear hg hp hr
     go_wp2_with (refine wpList_store_row rfl _ _ _ rfl w.heap.size #[.int .i64 kd,.string ⟨nm.toArray⟩,.string ⟨to.toArray⟩,.int .i64 num,.int .i64 k1,.int .i64 n1,.string ⟨x1.toArray⟩,.int .i64 o1,.slice A1 L1 c1,.int .i64 k2,.int .i64 n2,.string ⟨x2.toArray⟩,.int .i64 o2,.slice A2 L2 c2,.slice A3 L3 c3,.slice A4 L4 c4,.slice A5 L5 c5] rfl rfl _ _ o.r zAf rfl (by simp[Value.oneCell']) ?_)
     obtain⟨hk,hx⟩:=o.fin17 HR.out
     exact bodyPost_ret (results_cell_row rfl _ _ _ _ _ _ _ rfl hk Tryz.underlying40 rfl zAf) rfl hx
    ·rw[if_neg h3] at hq
     have HT:=Hd (show nx ts s wTrap=false by simpa using h3)
     clear h3
     obtain⟨nm0,hv⟩:∃ x,nmV ts s=x:=⟨_,rfl⟩
     obtain⟨s1,hs1⟩:∃ x,nmS ts s=x:=⟨_,rfl⟩
     have HV:=Hd hv
     have HS1:=Hd hs1
     have hm1:=zCk (ts:=ts) s
     rw[hv,hs1] at hq
     rw[hs1] at hm1
     clear hv hs1
     by_cases h5:nx ts s1 cLb=true
     ·rw[if_pos h5] at hq
      have hmv:=zAj (zA5 (by decide) h5)
      have H5:=Hd h5
      have HQ:=Hd hq
      have hA:5 * ms ts (adv s1)+4≤n:=by omega
      clear h5 hq hmv hm hm1
      go_enter Tryz.func253,Tryz.ntmps253
      go_wp2_with fail
      refine (zAd ts p s wIf HI _ o.s).mono ?_
      rintro e w0 ⟨rfl,hg,hp⟩
      replace o:=o.acc hg hp
      clear hg hp
      go_wp2_with fail
      refine (zAd ts p s zBn HW _ o.s).mono ?_
      rintro e w1 ⟨rfl,hg,hp⟩
      replace o:=o.acc hg hp
      clear hg hp
      go_wp2_with fail
      refine (zAd ts p s wOut HO _ o.s).mono ?_
      rintro e w2 ⟨rfl,hg,hp⟩
      replace o:=o.acc hg hp
      clear hg hp
      go_wp2_with fail
      refine (zAd ts p s wTrap HT _ o.s).mono ?_
      rintro e w3 ⟨rfl,hg,hp⟩
      replace o:=o.acc hg hp
      clear hg hp
      go_wp2_with fail
      refine (zBw ts p s s1 nm0 HV HS1 _ o.s).mono ?_
      rintro e w5 ⟨rfl,hg,hp⟩
      replace o:=o.acc hg hp
      clear hg hp
      go_wp2_with fail
      refine (zAi ts p s1 cLb (by decide) H5 _ o.s).mono ?_
      rintro e w6 ⟨rfl,hg,hp⟩
      replace o:=o.acc hg hp
      clear hg hp
      go_wp2_with fail
      refine (store_any ts p n nm0 (adv s1) q HQ hA _ o.s).mono ?_
      rintro e wz ⟨kd,nm,to,num,k1,n1,x1,o1,A1,L1,c1,k2,n2,x2,o2,A2,L2,c2,A3,L3,c3,A4,L4,c4,A5,L5,c5,rfl,hr,hg,hp⟩
      have hl:=o.sz
      replace o:=o.acc hg hp
      have HR:=Hd (hr.mono (lo':=w.heap.size+1) hl (Lr _))
      clear hg hp hr
      go_wp2_with (refine wpList_store_row rfl _ _ _ rfl w.heap.size #[.int .i64 kd,.string ⟨nm.toArray⟩,.string ⟨to.toArray⟩,.int .i64 num,.int .i64 k1,.int .i64 n1,.string ⟨x1.toArray⟩,.int .i64 o1,.slice A1 L1 c1,.int .i64 k2,.int .i64 n2,.string ⟨x2.toArray⟩,.int .i64 o2,.slice A2 L2 c2,.slice A3 L3 c3,.slice A4 L4 c4,.slice A5 L5 c5] rfl rfl _ _ o.r zAf rfl (by simp[Value.oneCell']) ?_)
      obtain⟨hk,hx⟩:=o.fin17 HR.out
      exact bodyPost_ret (results_cell_row rfl _ _ _ _ _ _ _ rfl hk Tryz.underlying40 rfl zAf) rfl hx
     ·rw[if_neg h5] at hq
      have H5:=Hd (show nx ts s1 cLb=false by simpa using h5)
      obtain⟨s2,hs2⟩:∃ x,exs ts s1 cEq=x:=⟨_,rfl⟩
      have HS2:=Hd hs2
      have hm2:=zAp (ts:=ts) s1 (x:=cEq) (by decide)
      rw[hs2] at hq hm2
      have hA:5 * ms ts s2+4≤n:=by omega
      clear h5 hs2 hm hm1 hm2
      by_cases h6:clB ts s2=true
      ·rw[if_pos h6] at hq
       have H6:=Hd h6
       have HQ:=Hd hq
       clear h6 hq
       go_enter Tryz.func253,Tryz.ntmps253
       go_wp2_with fail
       refine (zAd ts p s wIf HI _ o.s).mono ?_
       rintro e w0 ⟨rfl,hg,hp⟩
       replace o:=o.acc hg hp
       clear hg hp
       go_wp2_with fail
       refine (zAd ts p s zBn HW _ o.s).mono ?_
       rintro e w1 ⟨rfl,hg,hp⟩
       replace o:=o.acc hg hp
       clear hg hp
       go_wp2_with fail
       refine (zAd ts p s wOut HO _ o.s).mono ?_
       rintro e w2 ⟨rfl,hg,hp⟩
       replace o:=o.acc hg hp
       clear hg hp
       go_wp2_with fail
       refine (zAd ts p s wTrap HT _ o.s).mono ?_
       rintro e w3 ⟨rfl,hg,hp⟩
       replace o:=o.acc hg hp
       clear hg hp
       go_wp2_with fail
       refine (zBw ts p s s1 nm0 HV HS1 _ o.s).mono ?_
       rintro e w5 ⟨rfl,hg,hp⟩
       replace o:=o.acc hg hp
       clear hg hp
       go_wp2_with fail
       refine (zAd ts p s1 cLb H5 _ o.s).mono ?_
       rintro e w6 ⟨rfl,hg,hp⟩
       replace o:=o.acc hg hp
       clear hg hp
       go_wp2_with fail
       refine (zAg ts p s1 s2 cEq (by decide) HS2 _ o.s).mono ?_
       rintro e w7 ⟨rfl,hg,hp⟩
       replace o:=o.acc hg hp
       clear hg hp
       go_wp2_with fail
       refine (starts_any ts p s2 true H6 _ o.s).mono ?_
       rintro e w8 ⟨rfl,hb⟩
       replace o:=o.low hb
       clear hb
       go_wp2_with fail
       refine (call_any ts p n nm0 s2 q HQ hA _ o.s).mono ?_
       rintro e wz ⟨kd,nm,to,num,k1,n1,x1,o1,A1,L1,c1,k2,n2,x2,o2,A2,L2,c2,A3,L3,c3,A4,L4,c4,A5,L5,c5,rfl,hr,hg,hp⟩
       have hl:=o.sz
       replace o:=o.acc hg hp
       have HR:=Hd (hr.mono (lo':=w.heap.size+1) hl (Lr _))
       clear hg hp hr
       go_wp2_with (refine wpList_store_row rfl _ _ _ rfl w.heap.size #[.int .i64 kd,.string ⟨nm.toArray⟩,.string ⟨to.toArray⟩,.int .i64 num,.int .i64 k1,.int .i64 n1,.string ⟨x1.toArray⟩,.int .i64 o1,.slice A1 L1 c1,.int .i64 k2,.int .i64 n2,.string ⟨x2.toArray⟩,.int .i64 o2,.slice A2 L2 c2,.slice A3 L3 c3,.slice A4 L4 c4,.slice A5 L5 c5] rfl rfl _ _ o.r zAf rfl (by simp[Value.oneCell']) ?_)
       obtain⟨hk,hx⟩:=o.fin17 HR.out
       exact bodyPost_ret (results_cell_row rfl _ _ _ _ _ _ _ rfl hk Tryz.underlying40 rfl zAf) rfl hx
      ·rw[if_neg h6] at hq
       have H6:=Hd (show clB ts s2=false by simpa using h6)
       have HQ:=Hd hq
       clear h6 hq
       go_enter Tryz.func253,Tryz.ntmps253
       go_wp2_with fail
       refine (zAd ts p s wIf HI _ o.s).mono ?_
       rintro e w0 ⟨rfl,hg,hp⟩
       replace o:=o.acc hg hp
       clear hg hp
       go_wp2_with fail
       refine (zAd ts p s zBn HW _ o.s).mono ?_
       rintro e w1 ⟨rfl,hg,hp⟩
       replace o:=o.acc hg hp
       clear hg hp
       go_wp2_with fail
       refine (zAd ts p s wOut HO _ o.s).mono ?_
       rintro e w2 ⟨rfl,hg,hp⟩
       replace o:=o.acc hg hp
       clear hg hp
       go_wp2_with fail
       refine (zAd ts p s wTrap HT _ o.s).mono ?_
       rintro e w3 ⟨rfl,hg,hp⟩
       replace o:=o.acc hg hp
       clear hg hp
       go_wp2_with fail
       refine (zBw ts p s s1 nm0 HV HS1 _ o.s).mono ?_
       rintro e w5 ⟨rfl,hg,hp⟩
       replace o:=o.acc hg hp
       clear hg hp
       go_wp2_with fail
       refine (zAd ts p s1 cLb H5 _ o.s).mono ?_
       rintro e w6 ⟨rfl,hg,hp⟩
       replace o:=o.acc hg hp
       clear hg hp
       go_wp2_with fail
       refine (zAg ts p s1 s2 cEq (by decide) HS2 _ o.s).mono ?_
       rintro e w7 ⟨rfl,hg,hp⟩
       replace o:=o.acc hg hp
       clear hg hp
       go_wp2_with fail
       refine (starts_any ts p s2 false H6 _ o.s).mono ?_
       rintro e w8 ⟨rfl,hb⟩
       replace o:=o.low hb
       clear hb
       go_wp2_with fail
       refine (assign_any ts p n nm0 s2 q HQ hA _ o.s).mono ?_
       rintro e wz ⟨kd,nm,to,num,k1,n1,x1,o1,A1,L1,c1,k2,n2,x2,o2,A2,L2,c2,A3,L3,c3,A4,L4,c4,A5,L5,c5,rfl,hr,hg,hp⟩
       have hl:=o.sz
       replace o:=o.acc hg hp
       have HR:=Hd (hr.mono (lo':=w.heap.size+1) hl (Lr _))
       clear hg hp hr
       go_wp2_with (refine wpList_store_row rfl _ _ _ rfl w.heap.size #[.int .i64 kd,.string ⟨nm.toArray⟩,.string ⟨to.toArray⟩,.int .i64 num,.int .i64 k1,.int .i64 n1,.string ⟨x1.toArray⟩,.int .i64 o1,.slice A1 L1 c1,.int .i64 k2,.int .i64 n2,.string ⟨x2.toArray⟩,.int .i64 o2,.slice A2 L2 c2,.slice A3 L3 c3,.slice A4 L4 c4,.slice A5 L5 c5] rfl rfl _ _ o.r zAf rfl (by simp[Value.oneCell']) ?_)
       obtain⟨hk,hx⟩:=o.fin17 HR.out
       exact bodyPost_ret (results_cell_row rfl _ _ _ _ _ _ _ rfl hk Tryz.underlying40 rfl zAf) rfl hx
end Go.Proofs.YtpgnlfdindmopaaGreatDoor
