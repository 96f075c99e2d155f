/- Words and walks for the laws of the interpreter. -/
import Derived.Test.YtpgnlfdindmopaaGreatDoorI7
import Derived.Test.YtpgnlfdindmopaaGreatDoorI5
import Derived.Deep.RegionWith
namespace Go.Proofs.YtpgnlfdindmopaaGreatDoor
open Go.RowKit (wrap64 intOf)
open Go Go.RowKit WM LX PX CX IX
set_option maxRecDepth 100000
set_option maxHeartbeats 4000000
theorem crp_any {K:Cf}{o:Option Nat}{q:CR}{w:World}{e:Ending}{w':World}(h:CrP K o q w e w'):∃ n b,e=.returned (.tuple #[.int .i64 n,.bool b])∧CrP K o q w (.returned (.tuple #[.int .i64 n,.bool b])) w':=by
 cases q with
 | val m n=>obtain⟨rfl,h⟩:=h;exact⟨n,true,rfl,rfl,h⟩
 | ended k c out=>obtain⟨rfl,h⟩:=h;exact⟨0,false,rfl,rfl,h⟩
theorem CrP.back {K:Cf}{o:Option Nat}{q:CR}{w0 w:World}{e:Ending}{w':World}(h:CrP K o q w e w')(hb:Below w0.heap.size w0 w)(hs:K.b≤w0.heap.size):CrP K o q w0 e w':=by
 cases q with
 | val m n=>obtain⟨h1,o',h2,h3⟩:=h;exact⟨h1,o',Step.after hb h2,h3⟩
 | ended k c out=>exact⟨h.1,h.2.from (bk hb hs)⟩
theorem elp_any {K:Cf}{out:List Int}{q:RL}{w:World}{e:Ending}{w':World}(h:ElP K out q w e w'):∃ v b,e=.returned (.tuple #[v,.bool b])∧ElP K out q w (.returned (.tuple #[v,.bool b])) w':=by
 cases q with
 | vals l=>obtain⟨v,rfl,h⟩:=h;exact⟨v,true,rfl,v,rfl,h⟩
 | trap c=>obtain⟨rfl,h⟩:=h;exact⟨_,false,rfl,rfl,h⟩
def fnZ:Value:=.agg #[.string ⟨#[]⟩,.slice none 0 0,.slice none 0 0,.slice none 0 0,.int .i64 0,.int .i64 0,.string ⟨#[]⟩,.int .i64 0,.slice none 0 0]
theorem fn_zero (w:World):(zeroValue 38).run Tryz.prog w=.ok fnZ w:=by kernel_rfl
theorem fn_look {K:Cf}{o:Option Nat}{m:MS}{w:World}(h:MSt K o m w){x:List UInt8}(hx:nmOK x=true){f:FN}(hf:fnOf K.fs x=some f) :
 ∃ cs,RepF w K.ok f cs∧∀ W,W.heap=w.heap→(Instr.lookup 81 (.map (some K.F)) (.string ⟨x.toArray⟩) false).run Tryz.prog W=.ok (.agg cs.toArray) W:=by
 obtain⟨c,g,h1,h2⟩:=h.F
 have h3:=h2 x
 rw[hf] at h3
 obtain⟨cs,e1,e2⟩:=h3
 refine⟨cs,e2,fun W hW=>?_⟩
 rw[(h1.same (w':=W) (by rw[hW])).look mapF (fn_zero W) x (of_decide_eq_true hx),e1]
 rfl
theorem is_call (g:Nat){K:Cf}(hK:CfOK K){o:Option Nat}{m:MS}{Vs:IX.Vs}{V:Nat}{nm tn:List UInt8}{n:Int}{pos value:PE}{args:List PE}{thn els:List ST}{r:XR}{cs:List Value}{w:World}
 (ihc:XcC g) {rl:RL} (hnm:nmOK nm=true) (hto:nmOK tn=true) (hel:evL g Vs m.C [] args=some rl) (hr:(∃ c,rl=.trap c∧r=.ended 2 c m.out)∨∃ l,rl=.vals l∧((m.fuel=0∧r=.ended 3 0 m.out)∨(m.fuel≠0∧∃ f,fnOf K.fs tn=some f∧∃ rc,xC K.fs g ⟨m.fuel - 1,m.C,m.out,m.k⟩ f l=some rc∧((∃ k c o,rc=.ended k c o∧r=.ended k c o)∨∃ m' x,rc=.val m' x∧(m.k≤m'.k∧m'.k < most)∧r=.ok ⟨m'.fuel,m'.C,m'.out,m'.k+1⟩ (upd Vs nm x))))) (hS:RepS w K.ok (.mk 6 nm tn n pos value args thn els) cs) (hM:MSt K o m w) (hV:VMp K o V m.k Vs w) :
 Calls Tryz.prog 132 #[acV K.R V,.agg cs.toArray] w (XrP K V o r w):=by
 obtain⟨k1,n1,x1,o1,A1,L1,c1,k2,n2,x2,o2,A2,L2,c2,A3,c3,A4,c4,A5,c5,hcs,rp,rv,ra,rt,re⟩:=zBo hS
 obtain⟨h17,_⟩:=zCn _ _ _ _ hS
 have hsz:=hM.size hK
 have hRlt:K.R < w.heap.size:=hM.lt _ (Or.inl rfl)
 have d1:cs[1]?=some (.string ⟨nm.toArray⟩):=by rw[hcs];rfl
 have d2:cs[2]?=some (.string ⟨tn.toArray⟩):=by rw[hcs];rfl
 have d14:cs[14]?=some (.slice A3 args.length c3):=by rw[hcs];rfl
 obtain⟨W2,hW2⟩:∃ W2,(w.alloc (.cells #[.pointer (some ⟨K.R,0,none⟩),.map (some V)] 114)).alloc (.cells cs.toArray 40)=W2:=⟨_,rfl⟩
 have hb2:Below w.heap.size w W2:=by rw[←hW2];exact ((Below.refl _ _).alloc (Lr _) _).alloc (by simp) _
 have j1:Blk W2 w.heap.size 114 #[.pointer (some ⟨K.R,0,none⟩),.map (some V)]:=by rw[←hW2];exact (Blk.new _ _ _).alloc _
 have j2:Blk W2 (w.heap.size+1) 40 cs.toArray:=by rw[←hW2];exact blk_at (by simp) _ _
 have v1:W2.cell? ⟨w.heap.size+1,1,none⟩=some (.string ⟨nm.toArray⟩):=by rw[j2.cell 1];simpa using d1
 have v2:W2.cell? ⟨w.heap.size+1,2,none⟩=some (.string ⟨tn.toArray⟩):=by rw[j2.cell 2];simpa using d2
 have v14:W2.cell? ⟨w.heap.size+1,14,none⟩=some (.slice A3 args.length c3):=by rw[j2.cell 14];simpa using d14
 have hall:∀ W,Below w.heap.size w W→Calls Tryz.prog 172 #[acV K.R V,.slice A3 args.length c3] W (ElP K m.out rl W):=fun W hW =>
  iv_all g hK hel (ra.keep keepsE (fun _ h=>h) (fun i hi=>hW.block i (Ll (hK.ok i hi) hsz))) (hM.low hK hW) (hV.low hW)
 have hSS:∀ i,SS K o i→i < w.heap.size:=hM.lt
 have hVl:=hV.lt
 obtain⟨R,hRR⟩:∃ R,K.R=R:=⟨_,rfl⟩
 obtain⟨sx,hsx⟩:∃ sx:ByteArray,(⟨nm.toArray⟩:ByteArray)=sx:=⟨_,rfl⟩
 rw[hsx] at d1 v1
 obtain⟨la,hla⟩:∃ n,args.length=n:=⟨_,rfl⟩
 rw[hla] at d14 v14 hall
 rw[hRR] at hW2 j1 hRlt  hall ⊢
 obtain⟨u0,u1,_,_⟩:=j1.cells2
 obtain⟨st,hst⟩:∃ sx:ByteArray,(⟨tn.toArray⟩:ByteArray)=sx:=⟨_,rfl⟩
 rw[hst] at d2 v2
 have HW:=Hd (Ai hW2 (Ai hb2 (Ai hsz (Ai j1 (Ai j2 hRR)))))
 have HL:=Hd hall
 have HQ:=Hd hr
 have HK:=Hd hK
 have HC:=Hd (Ai ihc (Ai hM (Ai hV (Ai hSS (Ai hVl (Ai hnm (Ai hto (Ai hsx hst))))))))
 have HD:=Hd (Ai d1 d2)
 clear hall hla rp rv ra rt re hcs h17 hW2 hb2 hsz j1 j2 hM hV hS hRR hr hK hsx hst ihc hSS hVl hnm hto hel
 go_enter Tryz.func132,Tryz.ntmps132
 go_wp2_with fail
 rw[HW.out.1]
 clear d1 d2
 refine (HL.out _ HW.out.2.1).mono ?_
 rintro e w3 h3
 obtain⟨av,b3,rfl,h3⟩:=elp_any h3
 have HA:=Hd h3
 clear h3
 rcases HQ.out with ⟨c,rfl,rfl⟩ | ⟨l,rfl,hcase⟩
 ·clear HQ
  obtain⟨hx,hend⟩:=HA.out
  obtain⟨rfl,rfl⟩:av=.slice none 0 0∧b3=false:=by injection hx with hx;injection hx with hx;simp at hx;exact hx
  have HE:=Hd hend
  clear hx hend HA
  go_wp2_with fail
  go_ret
  exact xrE HE.out HW.out.2.1 HW.out.2.2.1
 ·obtain⟨v',hx,hbw,hav⟩:=HA.out
  obtain⟨rfl,rfl⟩:av=v'∧b3=true:=by injection hx with hx;injection hx with hx;simp at hx;exact hx
  obtain⟨_,hb2,hsz,j1,j2,hRR⟩:=HW.out
  obtain⟨ihc,hM,hV,hSS,hVl,hnm,hto,hsx,hst⟩:=HC.out
  have hb3:Below w.heap.size w w3:=hb2.trans (below_down hbw hb2.size)
  have hM3:=hM.low HK.out hb3
  have hV3:=hV.low hb3
  have k1:=j1.on hbw j1.lt
  have k2':=j2.on hbw j2.lt
  have q0:w3.cell? ⟨w.heap.size,0,none⟩=some (.pointer (some ⟨R,0,none⟩)):=k1.cell 0
  have hw3l:=k2'.lt
  rcases hcase with ⟨h0,rfl⟩ | ⟨h0,f,hf,rc,hrc,hres⟩
  ·have htk:=ir_tick0 HK.out hM3 h0
   rw[hRR] at htk
   have HT:=Hd htk
   have HB:=Hd hb3
   clear htk hx hbw hav hb2 hsz j1 j2 hRR ihc hM hV hSS hVl hnm hto hsx hst hb3 hM3 hV3 k1 k2' HA h0 HQ
   go_wp2_with fail
   refine HT.out.mono ?_
   rintro e w4 ⟨rfl,hend⟩
   have HE:=Hd hend
   clear hend
   go_wp2_with fail
   go_ret
   exact xrE HE.out HB.out HW.out.2.2.1
  ·have htk:=ir_tick1 HK.out hM3 h0
   rw[hRR] at htk
   have HT:=Hd htk
   have HB:=Hd (Ai hb3 (Ai hM3 (Ai hV3 (Ai k1 (Ai k2' (Ai hav (Ai hf (Ai hrc hres))))))))
   clear htk hx hbw hav hb2 hsz j1 j2 hRR ihc hM hV hSS hVl hnm hto hsx hst hb3 hM3 hV3 k1 k2' HA h0 HQ hf hrc hres
   go_wp2_with fail
   refine HT.out.mono ?_
   rintro e w4 ⟨rfl,hst4,hM4⟩
   obtain⟨hb3,hM3,hV3,k1,k2',hav,hf,hrc,hres⟩:=HB.out
   obtain⟨_,hb2,hsz,j1,j2,hRR⟩:=HW.out
   obtain⟨ihc,hM,hV,hSS,hVl,hnm,hto,hsx,hst⟩:=HC.out
   have hV4:=hst4.vmp hV3
   have hs4:Step K (some V) o w o w4:=Step.after hb3 (hst4.wide (some V))
   have n1:¬ SS K o w.heap.size:=fun e=>by have:=hSS _ e;omega
   have n2:¬ SS K o (w.heap.size+1):=fun e=>by have:=hSS _ e;omega
   have i1:=(hst4.wide (some V)).blk k1 n1 (fun e=>by injection e with e;omega)
   have i2:=(hst4.wide (some V)).blk k2' n2 (fun e=>by injection e with e;omega)
   obtain⟨fcs,hrf,hlk⟩:=fn_look hM4 hto hf
   have hlk4:=hlk w4.drew rfl
   have hAv4:ArgV 0 w4 l av:=by
    obtain⟨A,c,hv,hat⟩:=hav
    refine⟨A,c,hv,fun i x hx=>?_⟩
    obtain⟨g',h1,h0',h2,h3⟩:=hat i x hx
    refine⟨g',h1,Nat.zero_le _,Ll h2 hst4.g.size,(Cb (hst4.g.block g' h2 (fun e=>?_))).trans h3⟩
    rcases e with e | e
    ·have:=hSS _ e;have:=hb2.size;omega
    ·cases e
   have hcl:=fun W (hW:Below w4.heap.size w4 W)=>ihc K o _ f l rc fcs av W HK.out hrc (keepsF.k hrf (fun _ h=>h) (fun i hi=>hW.block i (by have:=HK.out.ok i hi;have:=hM4.size HK.out;omega))) (hAv4.low hW) (hM4.low HK.out hW)
   obtain⟨Fb,hFb⟩:∃ n,K.F=n:=⟨_,rfl⟩
   obtain⟨_,hRb,_,_⟩:=hM4.R
   have r0:w4.cell? ⟨R,0,none⟩=some (.map (some Fb)):=by rw[←hRR,←hFb];exact hRb.cell 0
   have x0:w4.cell? ⟨w.heap.size,0,none⟩=some (.pointer (some ⟨R,0,none⟩)):=i1.cell 0
   have y2:w4.cell? ⟨w.heap.size+1,2,none⟩=some (.string st):=by rw[i2.cell 2];simpa using HD.out.2
   rw[hst,hFb] at hlk4
   rw[hRR] at hcl
   have hRl4:R < w4.heap.size:=by have:=hM4.lt K.R (Or.inl rfl);rwa [hRR] at this
   have hwl4:=i2.lt
   have hbK4:Below K.b w w4:=hs4.below HK.out hM (fun i e=>by injection e with e;rw[←e];exact hV.b)
   have HCL:=Hd hcl
   have HG:=Hd (Ai hs4 (Ai hM4 (Ai hV4 (Ai i1 (Ai i2 (Ai hbK4 (Ai hSS (Ai hVl (Ai hnm (Ai hsx hres))))))))))
   clear hbK4 hs4 hM4 hV4 i1 i2 hres hcl hrf hlk hAv4 hRb hFb hst4 hb3 hM3 hV3 k1 k2' hav hf hrc hb2 hsz j1 j2 hRR ihc hM hV hSS hVl hnm hto hsx hst n1 n2 HT HB
   go_wp2_with fail
   go_region_with (go_at_call 25;((with_reducible refine (HCL.out _ ?_).mono ?_));rotate_left;(rintro e w5 h5;obtain⟨n5,b5,rfl,h5⟩:=crp_any h5;have h5:=h5.back (w0:=w4) (by first | exact Below.refl _ _ | exact below_drewN (Below.refl _ _) _) (HG.out.2.1.size HK.out));rotate_left;(first | exact Below.refl _ _ | exact below_drewN (Below.refl _ _) _))
   all_goals
    have H5:=Hd h5
    clear h5
    rcases HG.out.2.2.2.2.2.2.2.2.2.2 with ⟨kk,cc,oo,rfl,rfl⟩ | ⟨m',x,rfl,hk,rfl⟩
    ·obtain⟨hx,hend⟩:=H5.out
     obtain⟨rfl,rfl⟩:n5=0∧b5=false:=by injection hx with hx;injection hx with hx;simp at hx;exact hx
     have HE:=Hd (hend.from HG.out.2.2.2.2.2.1)
     clear hx hend H5
     go_wp2_with fail
     go_ret
     exact⟨rfl,HE.out⟩
    ·obtain⟨hx,o5,hs5,hM5⟩:=H5.out
     obtain⟨rfl,rfl⟩:n5=x∧b5=true:=by injection hx with hx;injection hx with hx;simp at hx;exact hx
     obtain⟨hs4,hM4,hV4,i1,i2,hbK4,hSS,hVl,hnm,hsx,_⟩:=HG.out
     have hV5:=(hs5.vmp hV4).mono hk.1
     have n1:¬ SS K o w.heap.size:=fun e=>by have:=hSS _ e;omega
     have n2:¬ SS K o (w.heap.size+1):=fun e=>by have:=hSS _ e;omega
     obtain⟨w6,hrun,hfin⟩:=put_fin HK.out hM5 hV5 hk.2 nm hnm n5 (hs4.to (hs5.wide (some V)))
     have g1:=(hs5.wide (some V)).blk i1 n1 (fun e=>by injection e with e;omega)
     have g2:=(hs5.wide (some V)).blk i2 n2 (fun e=>by injection e with e;omega)
     have x1:w5.cell? ⟨w.heap.size,1,none⟩=some (.map (some V)):=g1.cell 1
     have y1:w5.cell? ⟨w.heap.size+1,1,none⟩=some (.string sx):=by rw[g2.cell 1];simpa using HD.out.1
     rw[hsx] at hrun
     have HF:=Hd hfin
     clear hx hs5 hM5 H5 hs4 hM4 hV4 i1 i2 hbK4 hSS hVl hnm hsx hV5 hfin g1 g2 hk n1 n2
     go_wp2_with fail
     go_ret
     exact HF.out
end Go.Proofs.YtpgnlfdindmopaaGreatDoor
