/- Words and walks for the laws of the interpreter. -/
import Derived.Test.YtpgnlfdindmopaaGreatDoorI5
import Derived.Deep.AppendLies
import Derived.Deep.RegionLaw
namespace Go.Proofs.YtpgnlfdindmopaaGreatDoor
open Go.RowKit (wrap64 intOf)
open Go Go.RowKit WM LX PX CX IX
set_option maxRecDepth 100000
set_option maxHeartbeats 4000000
theorem i64_info:(Tryz.prog.info? 2).map (fun i=>(i.zero,i.size,i.bytes))=some (some (.int .i64 0),1,8):=by kernel_rfl
theorem out_fin {K:Cf}{o:Option Nat}{m:MS}{Vs:IX.Vs}{V:Nat}{w w3 w4:World}(hK:CfOK K)(hM:MSt K o m w3)(hV:VMp K o V m.k Vs w3)(hb:Below w.heap.size w w3){ov:Value}(hov:ov.ownBlock=o)(hR:Blk w3 K.R 84 (rnC K m.fuel 0 0 ov 0))(x:Int)(ob:Obj){g cap:Nat}
 (hown:w4.ownsRow K.b 2 1 (.slice (some ⟨g,0,none⟩) (m.out.length+1) cap) (m.out.length+1) (m.out.map (Value.int .i64)++[.int .i64 x])) (hg:(w3.alloc ob).grownBy w4 ov.ownBlock) (hat:ov.ownBlock=some g∨g=w3.heap.size+1) (hlt:g < w4.heap.size) :
 XrP K V o (.ok ⟨m.fuel,m.C,m.out++[x],m.k+1⟩ Vs) w (.returned (.bool true)) (w4.setCell ⟨K.R,5,none⟩ (.slice (some ⟨g,0,none⟩) (m.out.length+1) cap)):=by
 have ho:=hM.o
 have hMlt:=hM.lt
 have hVl:=hV.lt
 obtain⟨hV1,hV2,hV3⟩:=hV
 obtain⟨⟨cf,gf,hF1,hF2⟩,⟨ca,ga,hA1,hA2⟩,_,h1,h2,h3,h4⟩:=hM
 have hRlt:K.R < w3.heap.size:=h3 _ (Or.inl rfl)
 have hgn:g≠K.R:=fun e=>by
  rcases hat with e2 | e2
  ·exact (ho g (hov ▸ e2)).2.1 e
  ·omega
 have hgr:Gr (fun i=>i=K.R∨o=some i) w3 (w4.setCell ⟨K.R,5,none⟩ (.slice (some ⟨g,0,none⟩) (m.out.length+1) cap)) :=
  ⟨hg.os,hg.tape,hg.output,by have:=hg.size;simp at this;simp[World.setCell];omega,fun i hi hn=>(Below.heap_setCell w4 _ _ i (fun e=>hn (Or.inl e))).trans ((hg.block i (by simp;omega) (fun e=>hn (Or.inr (hov ▸ e.symm)))).trans (Below.heap_alloc _ _ _ hi))⟩
 have hstep:Step K (some V) o w3 (some g) (w4.setCell ⟨K.R,5,none⟩ (.slice (some ⟨g,0,none⟩) (m.out.length+1) cap)) :=
  ⟨hgr.weak (fun i _ e=>by
   rcases e with e | e
   ·exact Or.inl (Or.inl e)
   ·exact Or.inl (Or.inr (Or.inl e))),fun i e=>by
   injection e with e
   subst e
   rcases hat with e2 | e2
   ·exact Or.inl (hov ▸ e2)
   ·exact Or.inr (by omega)⟩
 have hmem:∀ i,SS K (some g) i→i < w3.heap.size→SS K o i:=fun i e hi=>by
  rcases e with e | e | e
  ·exact Or.inl e
  ·injection e with e
   subst e
   rcases hat with e2 | e2
   ·exact Or.inr (Or.inl (hov ▸ e2))
   ·omega
  ·exact Or.inr (Or.inr e)
 have hz:w3.heap.size < w4.heap.size:=by have:=hg.size;simp at this;omega
 have hgo:K.b≤g∧g≠K.R∧g≠K.F∧g≠K.Cm∧∀ x,0 < K.len x→g≠K.G x:=by
  rcases hat with e2 | e2
  ·exact ho g (hov ▸ e2)
  ·have hr:=hK.r
   have a1:=hF1.lt
   have a2:=hA1.lt
   refine⟨by omega,hgn,by omega,by omega,fun y hy=>?_⟩
   have:=h3 _ (Or.inr (Or.inr ⟨y,hy,rfl⟩))
   omega
 have hblk:=fun i (hi:i < w3.heap.size) (hn:¬ (i=K.R∨o=some i))=>hgr.block i hi hn
 refine⟨rfl,some g,Step.after hb hstep,⟨⟨cf,gf,hF1.same (hblk _ hF1.lt (fun e=>?_)),fun y=>?_⟩,⟨ca,ga,hA1.same (hblk _ hA1.lt (fun e=>?_)),fun y=>?_⟩,⟨.slice (some ⟨g,0,none⟩) (m.out.length+1) cap,?_,?_,rfl⟩,h1,?_,fun i hi=>?_,fun i e=>?_⟩,?_⟩
 ·rcases e with e | e
  ·exact hK.rf e.symm
  ·exact (ho _ e).2.2.1 rfl
 ·have:=hF2 y
  cases hy:fnOf K.fs y with
  | none=>rw[hy] at this;exact this
  | some f =>
   rw[hy] at this
   obtain⟨cs,e1,e2⟩:=this
   refine⟨cs,e1,keepsF.k e2 (fun _ h=>h) (fun j hj=>hblk j (by have:=hK.ok j hj;have:=hK.r;omega) (fun e=>?_))⟩
   have hj2:=hK.ok j hj
   rcases e with e | e
   ·have:=hK.r;omega
   ·have:=(ho _ e).1;omega
 ·rcases e with e | e
  ·exact hK.rc e.symm
  ·exact (ho _ e).2.2.2.1 rfl
 ·obtain⟨e1,A,cp,e2,e3⟩:=hA2 y
  refine⟨e1,A,cp,e2,fun h0=>⟨(e3 h0).1,(hblk _ (h3 _ (Or.inr (Or.inr ⟨y,h0,rfl⟩))) (fun e=>?_)).trans (e3 h0).2⟩⟩
  rcases e with e | e
  ·exact (hK.gr y h0).1 e
  ·exact (ho _ e).2.2.2.2 y h0 rfl
 ·have hR4:Blk w4 K.R 84 (rnC K m.fuel 0 0 ov 0):=(hg.block K.R (by simp;omega) (fun e=>(ho _ (hov ▸ e.symm)).2.1 rfl)).trans ((Below.heap_alloc _ _ _ hRlt).trans hR)
  exact hR4.set 5 _
 ·have:=own_setne hown (p:=⟨K.R,5,none⟩) (fun e=>hgn (by simpa[Value.ownBlock] using e)) (.slice (some ⟨g,0,none⟩) (m.out.length+1) cap)
  simpa using this
 ·rw[List.length_append]
  show m.out.length+1≤m.k+1
  omega
 ·have e:(w4.setCell ⟨K.R,5,none⟩ (.slice (some ⟨g,0,none⟩) (m.out.length+1) cap)).heap.size=w4.heap.size:=by simp[World.setCell]
  rw[e]
  rcases hi with hi | hi | ⟨y,hy,hi⟩
  ·rw[hi];omega
  ·injection hi with hi;rw[←hi];exact hlt
  ·have:=h3 _ (Or.inr (Or.inr ⟨y,hy,rfl⟩));rw[hi];omega
 ·injection e with e
  subst e
  exact hgo
 ·obtain⟨f,f1,f2⟩:=hV1
  have hne:¬ (V=K.R∨o=some V):=fun e=>by
   rcases e with e | e
   ·exact absurd (Or.inl e) (by assumption)
   ·exact absurd (Or.inr (Or.inl e)) (by assumption)
  exact⟨⟨f,(f1.same (hblk V hVl hne)).mono (by show 3000+m.k≤3000+(m.k+1);omega),f2⟩,hV2,hV3,fun e=>absurd (hmem V e hVl) (by assumption)⟩
theorem is_out (g:Nat){K:Cf}(hK:CfOK K){o:Option Nat}{m:MS}{Vs:IX.Vs}{V:Nat}{nm tn:List UInt8}{n:Int}{pos value:PE}{args:List PE}{thn els:List ST}{r:XR}{cs:List Value}{w:World}
 {r2:Rs} (he2:evE g Vs m.C value=some r2) (hr:(∃ c,r2=.trap c∧r=.ended 2 c m.out)∨∃ x,r2=.val x∧m.k < most∧r=.ok ⟨m.fuel,m.C,m.out++[x],m.k+1⟩ Vs) (hS:RepS w K.ok (.mk 5 nm tn n pos value args thn els) cs) (hM:MSt K o m w) (hV:VMp K o V m.k Vs w) :
 Calls Tryz.prog 131 #[acV K.R V,.agg cs.toArray] w (XrP K V o r w):=by
 obtain⟨k1,n1,x1,o1,A1,L1,c1,k2,n2,x2,o2,A2,L2,c2,A3,c3,A4,c4,A5,c5,hcs,rp,rv,ra,rt,re⟩:=zBo hS
 obtain⟨h17,_⟩:=zCn _ _ _ _ hS
 have hsz:=hM.size hK
 have hRlt:K.R < w.heap.size:=hM.lt _ (Or.inl rfl)
 have d9:cs[9]?=some (.int .i64 k2):=by rw[hcs];rfl
 have d10:cs[10]?=some (.int .i64 n2):=by rw[hcs];rfl
 have d11:cs[11]?=some (.string ⟨x2.toArray⟩):=by rw[hcs];rfl
 have d12:cs[12]?=some (.int .i64 o2):=by rw[hcs];rfl
 have d13:cs[13]?=some (.slice A2 L2 c2):=by rw[hcs];rfl
 obtain⟨W2,hW2⟩:∃ W2,(w.alloc (.cells #[.pointer (some ⟨K.R,0,none⟩),.map (some V)] 114)).alloc (.cells cs.toArray 40)=W2:=⟨_,rfl⟩
 have hb2:Below w.heap.size w W2:=by rw[←hW2];exact ((Below.refl _ _).alloc (Lr _) _).alloc (by simp) _
 have j1:Blk W2 w.heap.size 114 #[.pointer (some ⟨K.R,0,none⟩),.map (some V)]:=by rw[←hW2];exact (Blk.new _ _ _).alloc _
 have j2:Blk W2 (w.heap.size+1) 40 cs.toArray:=by rw[←hW2];exact blk_at (by simp) _ _
 have v9:W2.cell? ⟨w.heap.size+1,9,none⟩=some (.int .i64 k2):=by rw[j2.cell 9];simpa using d9
 have v10:W2.cell? ⟨w.heap.size+1,10,none⟩=some (.int .i64 n2):=by rw[j2.cell 10];simpa using d10
 have v11:W2.cell? ⟨w.heap.size+1,11,none⟩=some (.string ⟨x2.toArray⟩):=by rw[j2.cell 11];simpa using d11
 have v12:W2.cell? ⟨w.heap.size+1,12,none⟩=some (.int .i64 o2):=by rw[j2.cell 12];simpa using d12
 have v13:W2.cell? ⟨w.heap.size+1,13,none⟩=some (.slice A2 L2 c2):=by rw[j2.cell 13];simpa using d13
 have hc2:∀ W,Below W2.heap.size W2 W→Calls Tryz.prog 50 #[acV K.R V,.agg #[.int .i64 k2,.int .i64 n2,.string ⟨x2.toArray⟩,.int .i64 o2,.slice A2 L2 c2]] W (EvP K m.out r2 W):=fun W hW=>by
  have hbW:Below w.heap.size w W:=hb2.trans (below_down hW hb2.size)
  exact ev_any g K o m Vs V m.k value r2 _ W hK he2 (rv.keep (fun _ h=>h) (fun i hi=>hbW.block i (Ll (hK.ok i hi) hsz))) (hM.low hK hbW) (hV.low hbW)
 have hMW:∀ W,Below w.heap.size w W→MSt K o m W∧VMp K o V m.k Vs W:=fun W hW=>⟨hM.low hK hW,hV.low hW⟩
 obtain⟨R,hRR⟩:∃ R,K.R=R:=⟨_,rfl⟩
 obtain⟨s2,hs2⟩:∃ sx:ByteArray,(⟨x2.toArray⟩:ByteArray)=sx:=⟨_,rfl⟩
 rw[hs2] at hc2 d11 v11
 rw[hRR] at hW2 j1 hRlt hc2 ⊢
 obtain⟨u0,u1,_,_⟩:=j1.cells2
 have HW:=Hd (Ai hW2 (Ai hb2 (Ai hsz (Ai j1.lt (Ai j2.lt hRR)))))
 have HC2:=Hd hc2
 have HM:=Hd hMW
 have HQ:=Hd hr
 have HK:=Hd hK
 clear hc2 he2 hs2 rp rv ra rt re hcs h17 hW2 hb2 hsz j1 j2 hM hV hS hRR hMW hr hK
 go_enter Tryz.func131,Tryz.ntmps131
 go_wp2_with fail
 rw[HW.out.1]
 refine (HC2.out _ (Below.refl _ _)).mono ?_
 rintro e w3 h3
 obtain⟨n3,b3,rfl,h3⟩:=zA3 h3
 have q0:=(h3.at (b:=w.heap.size) (i:=0) HW.out.2.2.2.1 (HW.out.2.2.2.2.2 ▸ (Nat.ne_of_gt hRlt))).trans u0
 have HA:=Hd h3
 clear h3
 rcases HQ.out with ⟨c,rfl,rfl⟩ | ⟨x,rfl,hk,rfl⟩
 ·clear HQ
  obtain⟨hx,hend,_⟩:=HA.out
  obtain⟨rfl,rfl⟩:n3=0∧b3=false:=by injection hx with hx;injection hx with hx;simp at hx;exact hx
  have HE:=Hd hend
  clear hx hend HA
  go_wp2_with fail
  go_ret
  exact xrE HE.out HW.out.2.1 HW.out.2.2.1
 ·obtain⟨hx,hbw⟩:=HA.out
  obtain⟨rfl,rfl⟩:n3=x∧b3=true:=by injection hx with hx;injection hx with hx;simp at hx;exact hx
  clear hx HA
  have hb3:Below w.heap.size w w3:=HW.out.2.1.trans (below_down hbw HW.out.2.1.size)
  obtain⟨hM3,hV3⟩:=HM.out w3 hb3
  obtain⟨ov,hR3,hown3,hov⟩:=hM3.R
  have hfin:=fun (w4:World) (ob:Obj) (g cap:Nat)=>out_fin (w4:=w4) HK.out hM3 hV3 hb3 hov hR3 n3 ob (g:=g) (cap:=cap)
  have hbase:K.b≤w3.heap.size:=hM3.size HK.out
  have hlen:m.out.length+1≤1000000000001:=by have:=hM3.k;unfold most at hk;omega
  have hne:ov.ownBlock≠some R:=fun e=>by have:=(hM3.o R (hov ▸ e)).2.1;exact this (HW.out.2.2.2.2.2).symm
  have hne2:ov.ownBlock≠some w.heap.size:=fun e=>by
   have h1:=hown3.lt _ e
   obtain⟨hMw,_⟩:=HM.out w (Below.refl _ _)
   have:=hMw.lt _ (Or.inr (Or.inl (hov ▸ e)))
   omega
  have hRl3:R < w3.heap.size:=Ll hRlt hb3.size
  have hwl3:w.heap.size < w3.heap.size:=Ll HW.out.2.2.2.1 hbw.size
  have fz:w3.frozen? ⟨R,5,none⟩=false:=by rw[←HW.out.2.2.2.2.2];exact hR3.free 5
  have c5:w3.cell? ⟨R,5,none⟩=some ov:=by rw[←HW.out.2.2.2.2.2];exact hR3.cell 5
  rw[HW.out.2.2.2.2.2] at hfin
  have hal:=fun ob=>(Below.refl w3.heap.size w3).alloc (Lr _) ob
  have HA0:Hid (∀ ob,(w3.alloc ob).cell? ⟨w.heap.size,0,none⟩=some (.pointer (some ⟨R,0,none⟩))):=Hd (fun ob=>((hal ob).cell (p:=⟨w.heap.size,0,none⟩) hwl3).trans q0)
  have HA5:Hid (∀ ob,(w3.alloc ob).cell? ⟨R,5,none⟩=some ov):=Hd (fun ob=>((hal ob).cell (p:=⟨R,5,none⟩) hRl3).trans c5)
  have HZ5:Hid (∀ ob,(w3.alloc ob).frozen? ⟨R,5,none⟩=false):=Hd (fun ob=>((hal ob).frozen (p:=⟨R,5,none⟩) hRl3).trans fz)
  clear hal
  have HF:=Hd hfin
  have HB:=Hd hb3
  obtain⟨ol,hol⟩:∃ n,m.out.length=n:=⟨_,rfl⟩
  obtain⟨xs,hxs⟩:∃ xs,m.out.map (Value.int .i64)=xs:=⟨_,rfl⟩
  rw[hol] at hlen
  rw[hol,hxs] at hown3
  obtain⟨b,hbb⟩:∃ b,K.b=b:=⟨_,rfl⟩
  rw[hbb] at hown3 hbase
  have HN:=Hd (Ai hol (Ai hxs hbb))
  have HO:=Hd hown3
  obtain⟨i0,hi0,hz0,hz1,hz2⟩:=info_parts i64_info
  clear hfin hb3 hM3 hV3 hR3 hov hk HQ hbw hol hxs hbb
  go_wp2_with fail
  go_region_law ((refine step_append_lies _ (by rfl) _ _ _ (by rfl) b 2 i0 _ 1 8 Tryz.underlying41 hi0 hz0 hz1 hz2 rfl (by omega) ov ol xs (by rfl) ((HO.out.alloc _).drew) ⟨w3.heap.size,0,none⟩ 1 1 [.int .i64 n3] (by rfl) (by rfl) (World.news_of_block (cs:=#[.int .i64 n3]) (t:=2) (fr:=(0,0)) (heap_alloc_new w3 _)) (by simp[Value.oneCell']) (by omega) (by unfold maxLen;omega) (by omega) (by simp;omega) (w3.heap.size+1) (by simp) ?_;intro gg cap w4 hown1 hgrow hat hlt;have fz4:w4.frozen? ⟨R,5,none⟩=false:=(hgrow.frozen_far ⟨R,5,none⟩ (by simp;omega) (Ne.symm hne)).trans (HZ5.out _);have c54:w4.cell? ⟨R,5,none⟩=some ov:=(hgrow.cell_far ⟨R,5,none⟩ (by simp;omega) (Ne.symm hne)).trans (HA5.out _);have c04:w4.cell? ⟨w.heap.size,0,none⟩=some (.pointer (some ⟨R,0,none⟩)):=(hgrow.cell_far ⟨w.heap.size,0,none⟩ (by simp;omega) (Ne.symm hne2)).trans (HA0.out _)))
  all_goals
   have hf:=HF.out w4 _ gg cap (by rw[HN.out.1,HN.out.2.1,HN.out.2.2];exact hown1) (⟨hgrow.os,hgrow.tape,hgrow.output,hgrow.size,hgrow.block⟩:(w3.alloc (.cells #[.int .i64 n3] 2)).grownBy w4 ov.ownBlock) hat hlt
   rw[HN.out.1] at hf
   have HZ:=Hd hf
   clear hf hown1 hgrow hat hlt fz4 c54 c04
   go_wp2_with fail
   go_ret
   exact HZ.out
end Go.Proofs.YtpgnlfdindmopaaGreatDoor
