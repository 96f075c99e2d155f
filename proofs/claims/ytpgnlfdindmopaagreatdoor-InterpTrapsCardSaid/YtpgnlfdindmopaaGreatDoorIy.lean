/- Words and walks for the laws of the interpreter. -/
import Derived.Test.YtpgnlfdindmopaaGreatDoorIx
import Derived.Test.YtpgnlfdindmopaaGreatDoorI9
import Derived.Test.YtpgnlfdindmopaaGreatDoorK7
import Derived.Test.YtpgnlfdindmopaaGreatDoorM8
import Derived.Test.YtpgnlfdindmopaaGreatDoorI2
namespace Go.Proofs.YtpgnlfdindmopaaGreatDoor
open Go.RowKit (wrap64 intOf)
open Go Go.RowKit WM LX PX CX IX
set_option maxRecDepth 100000
set_option maxHeartbeats 4000000
def OcP (oc:OC)(w:World)(e:Ending)(w':World):Prop :=
 ∃ ov,e=.returned (.agg #[.int .i64 oc.kind,.int .i64 oc.code,ov,.int .i64 oc.value])∧ArgV w.heap.size w' oc.out ov∧Below w.heap.size w w'
theorem zCj:(Tryz.prog.info? 43).map (·.size)=some 4:=by kernel_rfl
abbrev oc0:Array Value:=#[.int .i64 0,.int .i64 0,.slice none 0 0,.int .i64 0]
theorem argV_nil (B:Nat)(w:World):ArgV B w [] (.slice none 0 0):=⟨none,0,rfl,fun i x h=>by simp at h⟩
theorem oc_zero {w w':World}(hb:Below w.heap.size w w'):OcP zeroO w (.returned (.agg oc0)) w':=⟨_,rfl,argV_nil _ _,hb⟩
theorem chk_lim {p:PG}(h:chkF p=0):p.arrays.length≤4∧p.funcs.length≤8∧∀ a∈p.arrays,1≤a.2∧a.2≤16:=by
 unfold chkF at h
 cases hl:limB p with
 | true=>rw[hl,if_pos rfl] at h;cases h
 | false =>
  unfold limB at hl
  simp only[Bool.or_eq_false_iff,decide_eq_false_iff_not] at hl
  obtain⟨h1,h2,h3,_⟩:=hl
  refine⟨by omega,by omega,fun a ha=>?_⟩
  have:=List.any_eq_false.1 h3 a ha
  unfold lenB at this
  simp only[Bool.or_eq_true,decide_eq_true_eq,not_or] at this
  omega
theorem run_low (va vf av:Value)(nm:List UInt8)(fuel:Int)(h:fuel < 0∨1000 < fuel)(w:World) :
 Calls Tryz.prog 9 #[.agg #[va,vf],.string ⟨nm.toArray⟩,av,.int .i64 fuel] w (OcP zeroO w):=by
 obtain⟨sx,hsx⟩:∃ sx:ByteArray,(⟨nm.toArray⟩:ByteArray)=sx:=⟨_,rfl⟩
 rw[hsx]
 have hb2:Below w.heap.size w ((w.alloc (.cells #[va,vf] 26)).alloc (.cells oc0 43)):=((Below.refl _ _).alloc (Lr _) _).alloc (by simp) _
 have k8:Blk ((w.alloc (.cells #[va,vf] 26)).alloc (.cells oc0 43)) (w.heap.size+1) 43 oc0:=blk_at (by simp) _ _
 have HB:=Hd (Ai hb2 k8)
 clear hsx hb2 k8
 by_cases h0:fuel < 0
 ·clear h
  go_enter Tryz.func9,Tryz.ntmps9
  go_wp2_with (refine wpList_store_row rfl _ _ _ rfl (w.heap.size+1) oc0 rfl rfl _ _ HB.out.2 zCj rfl (by simp[Value.oneCell']) ?_)
  exact bodyPost_ret (results_cell_row rfl _ _ _ _ _ _ _ rfl (zBc HB.out.2 _) Tryz.underlying43 rfl zCj) rfl (oc_zero (zBu HB.out.1 (Nat.le_succ _) _))
 ·have h1:1000 < fuel:=by omega
  clear h
  go_enter Tryz.func9,Tryz.ntmps9
  go_wp2_with (refine wpList_store_row rfl _ _ _ rfl (w.heap.size+1) oc0 rfl rfl _ _ HB.out.2 zCj rfl (by simp[Value.oneCell']) ?_)
  exact bodyPost_ret (results_cell_row rfl _ _ _ _ _ _ _ rfl (zBc HB.out.2 _) Tryz.underlying43 rfl zCj) rfl (oc_zero (zBu HB.out.1 (Nat.le_succ _) _))
theorem run_bad (p:PG)(va vf av:Value)(nm:List UInt8)(fuel:Int)(h0:0≤fuel)(h1:fuel≤1000)(hc:chkF p≠0)(w:World)(ok:Nat→Prop)(hq:RepQ w ok p va vf)(hok:∀ g,ok g→g < w.heap.size)(hs:szP p≤1000000)(he:PEnv w) :
 Calls Tryz.prog 9 #[.agg #[va,vf],.string ⟨nm.toArray⟩,av,.int .i64 fuel] w (OcP zeroO w):=by
 obtain⟨sx,hsx⟩:∃ sx:ByteArray,(⟨nm.toArray⟩:ByteArray)=sx:=⟨_,rfl⟩
 rw[hsx]
 obtain⟨W2,hW2⟩:∃ W2,(w.alloc (.cells #[va,vf] 26)).alloc (.cells oc0 43)=W2:=⟨_,rfl⟩
 have hb2:Below w.heap.size w W2:=by rw[←hW2];exact ((Below.refl _ _).alloc (Lr _) _).alloc (by simp) _
 have k8:Blk W2 (w.heap.size+1) 43 oc0:=by rw[←hW2];exact blk_at (by simp) _ _
 have hck:=chk2_any p va vf W2 ok (hq.keep (fun _ h=>h) (fun x hx=>hb2.block x (hok x hx))) (fun g hg=>Ll (hok g hg) hb2.size) hs (he.on hb2)
 obtain⟨k,hk⟩:∃ k,chkF p=k:=⟨_,rfl⟩
 rw[hk] at hck hc
 have e1:((k:Int)==0)=false:=by rw[beq_eq_false_iff_ne];omega
 have e2:((k:Int) != 0)=true:=by rw[bne_iff_ne];omega
 have HC:=Hd hck
 have HB:=Hd (Ai hW2 (Ai hb2 k8))
 clear hck hk hc hW2 hb2 k8 hsx hq hok hs he
 go_enter Tryz.func9,Tryz.ntmps9
 go_wp2_with fail
 rw[HB.out.1]
 refine HC.out.mono ?_
 rintro e w3 ⟨rfl,hb3⟩
 have k9:=HB.out.2.2.on hb3 HB.out.2.2.lt
 have H3:=Hd (Ai (HB.out.2.1.trans (below_down hb3 HB.out.2.1.size)) k9)
 clear hb3 k9
 go_wp2_with (refine wpList_store_row rfl _ _ _ rfl (w.heap.size+1) oc0 rfl rfl _ _ H3.out.2 zCj rfl (by simp[Value.oneCell']) ?_)
 exact bodyPost_ret (results_cell_row rfl _ _ _ _ _ _ _ rfl (zBc H3.out.2 _) Tryz.underlying43 rfl zCj) rfl (oc_zero (zBu H3.out.1 (Nat.le_succ _) _))
theorem szP_names {p:PG}(hs:szP p≤1000000):(∀ f∈p.funcs,f.name.length≤1000000000)∧∀ a∈p.arrays,a.1.length≤1000000000:=by
 unfold szP at hs
 refine⟨fun f hf=>?_,fun a ha=>?_⟩
 ·obtain⟨i,hi⟩:=List.getElem?_of_mem hf
  have h1:=zA6 szF p.funcs i f hi
  have h2:szF f=1+f.name.length+sumL List.length f.params+sumL List.length f.locals+sumL szS f.body+szE f.value:=rfl
  omega
 ·obtain⟨i,hi⟩:=List.getElem?_of_mem ha
  have h1:=zA6 (fun a:List UInt8 × Int=>a.1.length) p.arrays i a hi
  omega
theorem fn_lookOk {K:Cf}{o:Option Nat}{m:MS}{w:World}(h:MSt K o m w){x:List UInt8}(hx:x.length≤1000000000) :
 match fnOf K.fs x with
 | none=>(Instr.lookup 81 (.map (some K.F)) (.string ⟨x.toArray⟩) true).run Tryz.prog w=.ok (.tuple #[fnZ,.bool false]) w
 | some f=>∃ cs,RepF w K.ok f cs∧(Instr.lookup 81 (.map (some K.F)) (.string ⟨x.toArray⟩) true).run Tryz.prog w=.ok (.tuple #[.agg cs.toArray,.bool true]) w:=by
 obtain⟨c,g,h1,h2⟩:=h.F
 have h3:=h2 x
 have hl:=h1.lookOk mapF (fn_zero w) x hx
 cases hf:fnOf K.fs x with
 | none =>
  rw[hf] at h3
  dsimp only at h3 ⊢
  rw[hl,h3]
  rfl
 | some f =>
  rw[hf] at h3
  obtain⟨cs,e1,e2⟩:=h3
  exact⟨cs,e2,by rw[hl,e1];rfl⟩
theorem oc_end {B:Nat}{w w':World}{kind code val:Int}{out:List Int}{ov:Value}(hb:Below w.heap.size w w')(hbase:w.heap.size+1 < B)(hown:w'.ownsRow B 2 1 ov out.length (out.map (Value.int .i64))) :
 OcP ⟨kind,code,out,val⟩ w (.returned (.agg #[.int .i64 kind,.int .i64 code,ov,.int .i64 val])) (w'.setRow (w.heap.size+1) #[.int .i64 kind,.int .i64 code,ov,.int .i64 val]):=by
 have hk:(w'.setRow (w.heap.size+1) #[.int .i64 kind,.int .i64 code,ov,.int .i64 val]).ownsRow B 2 1 ov out.length (out.map (Value.int .i64)):=by
  refine World.ownsRow.kept (w':=w'.setRow (w.heap.size+1) #[.int .i64 kind,.int .i64 code,ov,.int .i64 val]) (row:=some (w.heap.size+1)) hown ⟨rfl,rfl,rfl,by rw[zBm];exact Lr _,fun i _ hne=>zBi _ _ _ _ (fun e=>hne (by rw[e]))⟩ ?_
  cases hv:ov.ownBlock with
  | none=>exact Or.inl rfl
  | some k=>exact Or.inr (fun e=>by injection e with e;have:=(hown.lt k hv).1;omega)
 exact⟨ov,rfl,(argV_own hk).weak (by omega),zBu hb (Nat.le_succ _) _⟩
theorem run_go (g:Nat)(p:PG)(va vf av:Value)(nm:List UInt8)(ag:List Int)(fuel:Nat)(h1:fuel≤1000)(hc:chkF p=0)(w:World)(ok:Nat→Prop)(hr1:RepL RepA 2 w ok p.arrays va)(hr2:RepL RepF 9 w ok p.funcs vf)(hok:∀ g,ok g→g < w.heap.size)(hs:szP p≤1000000)(he:PEnv w)(hnm:nm.length≤1000000000)(hA:ArgV 0 w ag av)(oc:OC)(hgo:goF g p nm ag fuel=some oc) :
 Calls Tryz.prog 9 #[.agg #[va,vf],.string ⟨nm.toArray⟩,av,.int .i64 (fuel:Int)] w (OcP oc w):=by
 obtain⟨W2,hW2⟩:∃ W2,(w.alloc (.cells #[va,vf] 26)).alloc (.cells oc0 43)=W2:=⟨_,rfl⟩
 have hb2:Below w.heap.size w W2:=by rw[←hW2];exact ((Below.refl _ _).alloc (Lr _) _).alloc (by simp) _
 have hz2:W2.heap.size=w.heap.size+1+1:=by rw[←hW2];simp
 have k7:Blk W2 w.heap.size 26 #[va,vf]:=by rw[←hW2];exact (Blk.new _ _ _).alloc _
 have k8:Blk W2 (w.heap.size+1) 43 oc0:=by rw[←hW2];exact blk_at (by simp) _ _
 have hck:=chk2_any p va vf W2 ok ((repQ_of hr1 hr2).keep (fun _ h=>h) (fun x hx=>hb2.block x (hok x hx))) (fun g hg=>Ll (hok g hg) hb2.size) hs (he.on hb2)
 rw[hc] at hck
 obtain⟨l1,l2,l3⟩:=chk_lim hc
 obtain⟨n1,n2⟩:=szP_names hs
 have hnr:=fun W (hW:Below w.heap.size w W)=>new_run p fuel h1 va vf W ok (hr1.keep keepsA (fun _ h=>h) (fun x hx=>hW.block x (hok x hx))) (hr2.keep keepsF (fun _ h=>h) (fun x hx=>hW.block x (hok x hx))) (fun g hg=>Ll (hok g hg) hW.size) (by omega) (by omega) n1 (fun a ha=>⟨n2 a ha,by have:=l3 a ha;omega,by have:=l3 a ha;omega⟩)
 obtain⟨A3,c3,rfl,hat3⟩:=hA
 obtain⟨la,hla⟩:∃ n,ag.length=n:=⟨_,rfl⟩
 obtain⟨sx,hsx⟩:∃ sx:ByteArray,(⟨nm.toArray⟩:ByteArray)=sx:=⟨_,rfl⟩
 have HA:Hid (∀ W,Below w.heap.size w W→ArgV 0 W ag (.slice A3 la c3)):=Hd (fun W hW=>by rw[←hla];exact ArgV.low ⟨A3,c3,rfl,hat3⟩ hW)
 rw[hsx,hla]
 have hck:Calls Tryz.prog 23 #[.agg #[va,vf]] W2 (RetN (.int .i64 0) W2):=hck
 have HC:=Hd hck
 have HN:=Hd hnr
 have HB:=Hd (Ai hW2 (Ai hb2 (Ai hz2 (Ai k7 k8))))
 have HG:=Hd (Ai hgo (Ai hsx (Ai hla hnm)))
 have h1i:(fuel:Int)≤1000:=by omega
 clear hck hnr hW2 hb2 hz2 k7 k8 hgo hsx hla hnm hat3 hr1 hr2 hok hs he hc l1 l2 l3 n1 n2
 go_enter Tryz.func9,Tryz.ntmps9
 go_wp2_with fail
 rw[HB.out.1]
 refine HC.out.mono ?_
 rintro e w3 ⟨rfl,hb3⟩
 obtain⟨_,hb2,hz2,k7,k8⟩:=HB.out
 have k7':=k7.on hb3 k7.lt
 have k8':=k8.on hb3 k8.lt
 have hb3':=hb2.trans (below_down hb3 hb2.size)
 obtain⟨x0,x1,_⟩:=k7'.cells2
 have hs3:=hb3.size
 have hnr3:=HN.out w3 hb3'
 have HR:=Hd hnr3
 have H3:=Hd (Ai hb3' k8')
 have hwl:w.heap.size < w3.heap.size:=by omega
 clear hb2 hz2 k7 k8 hb3 k7' k8' hb3' hnr3
 go_wp2_with fail
 refine HR.out.mono ?_
 rintro e w4 ⟨K,rfl,hK,hKfs,hKok,hKb,hb4,hM4⟩
 have k8:=H3.out.2.on hb4 H3.out.2.lt
 have hb4':=H3.out.1.trans (below_down hb4 H3.out.1.size)
 have hlk:=fn_lookOk hM4 (x:=nm) HG.out.2.2.2
 obtain⟨_,hRb,_,_⟩:=hM4.R
 have r0:w4.cell? ⟨K.R,0,none⟩=some (.map (some K.F)):=hRb.cell 0
 have hgo:=HG.out.1
 unfold goF at hgo
 rw[hKfs] at hlk
 obtain⟨R,hRR⟩:∃ R,K.R=R:=⟨_,rfl⟩
 obtain⟨Fb,hFb⟩:∃ n,K.F=n:=⟨_,rfl⟩
 rw[hRR,hFb] at r0
 rw[HG.out.2.1,hFb] at hlk
 rw[hRR]
 cases hf:fnOf p.funcs nm with
 | none =>
  rw[hf] at hlk hgo
  dsimp only at hlk
  obtain rfl:=Oi hgo
  unfold fnZ at hlk
  have k9:∀ o,Blk (w4.alloc o) (w.heap.size+1) 43 oc0:=fun o=>k8.alloc o
  have HF:=Hd (Ai hb4' k9)
  clear k8 k9 hb4' hb4 hM4 hRb hgo hK hKfs hKok hKb hf hRR hFb
  go_wp2_with (refine wpList_store_row rfl _ _ _ rfl (w.heap.size+1) oc0 rfl rfl _ _ (HF.out.2 _) zCj rfl (by simp[Value.oneCell']) ?_)
  exact bodyPost_ret (results_cell_row rfl _ _ _ _ _ _ _ rfl (zBc (HF.out.2 _) _) Tryz.underlying43 rfl zCj) rfl (oc_zero (zBu (HF.out.1.alloc HF.out.1.size _) (Nat.le_succ _) _))
 | some f =>
  rw[hf] at hlk hgo
  obtain⟨cs,hrf,hlk⟩:=hlk
  dsimp only at hgo
  have hrf0:=hrf
  obtain⟨A1,c1,A2,c2,A4,c4,kd,nn,nm2,op,A,L,c,rfl,_⟩:=fun_of hrf
  obtain⟨p1,hp1⟩:∃ n,f.params.length=n:=⟨_,rfl⟩
  obtain⟨p2,hp2⟩:∃ n,f.locals.length=n:=⟨_,rfl⟩
  obtain⟨p3,hp3⟩:∃ n,f.body.length=n:=⟨_,rfl⟩
  rw[hp1,hp2,hp3] at hrf0 hlk
  rw[hp1,HG.out.2.2.1] at hgo
  have hlk:(Instr.lookup 81 (.map (some Fb)) (.string sx) true).run Tryz.prog w4=.ok (.tuple #[.agg #[.string ⟨f.name.toArray⟩,.slice A1 p1 c1,.slice A2 p2 c2,.slice A4 p3 c4,.int .i64 kd,.int .i64 nn,.string ⟨nm2.toArray⟩,.int .i64 op,.slice A L c],.bool true]) w4:=hlk
  obtain⟨w5,hw5⟩:∃ w5,w4.alloc (.cells #[.string ⟨f.name.toArray⟩,.slice A1 p1 c1,.slice A2 p2 c2,.slice A4 p3 c4,.int .i64 kd,.int .i64 nn,.string ⟨nm2.toArray⟩,.int .i64 op,.slice A L c] 38)=w5:=⟨_,rfl⟩
  have hb5:Below w4.heap.size w4 w5:=by rw[←hw5];exact (Below.refl _ _).alloc (Lr _) _
  have hb5':Below w.heap.size w w5:=hb4'.trans (below_down hb5 hb4'.size)
  have k85:=k8.on hb5 k8.lt
  by_cases hlen:la=p1
  ·subst hlen
   rw[if_pos rfl] at hgo
   obtain⟨q,hq,rfl⟩:=Option.map_eq_some_iff.1 hgo
   have hM5:=hM4.low hK hb5
   have hsK:=hM4.size hK
   have hcl:=icall_any g K none ⟨fuel,iniC p.arrays,[],0⟩ f ag q _ (.slice A3 la c3) w5 hK (by rw[hKfs];exact hq) (keepsF.k hrf0 (fun _ h=>h) (fun i hi=>hb5.block i (by have:=hK.ok i hi;omega))) (HA.out w5 hb5') hM5
   have hcl:Calls Tryz.prog 25 #[.pointer (some ⟨K.R,0,none⟩),.agg #[.string ⟨f.name.toArray⟩,.slice A1 la c1,.slice A2 p2 c2,.slice A4 p3 c4,.int .i64 kd,.int .i64 nn,.string ⟨nm2.toArray⟩,.int .i64 op,.slice A L c],.slice A3 la c3] w5 (CrP K none q w5):=hcl
   rw[hRR] at hcl
   have hKb2:w.heap.size+1 < K.b:=by rw[hKb];exact H3.out.2.lt
   have HCL:=Hd hcl
   have HF:=Hd (Ai hw5 (Ai hb5' (Ai k85 (Ai hM5 (Ai hK (Ai hRR (Ai hKb2 hsK)))))))
   clear k8 hb4' hb4 hM4 hRb hgo hKfs hKok hKb hf hrf hrf0 hp1 hp2 hp3 hw5 hb5 hb5' k85 hcl hM5 hK hRR hFb hq hKb2 hsK
   go_wp2_with fail
   rw[HF.out.1]
   refine HCL.out.mono ?_
   rintro e w6 h6
   obtain⟨n6,b6,rfl,h6⟩:=crp_any h6
   have H6:=Hd h6
   clear h6
   obtain⟨_,hb5',k85,hM5,hK,hRR,hKb2,hsK⟩:=HF.out
   cases q with
   | val m' x =>
    obtain⟨hx,o6,hst,hM6⟩:=H6.out
    obtain⟨rfl,rfl⟩:n6=x∧b6=true:=by injection hx with hx;injection hx with hx;simp at hx;exact hx
    have hbK:Below K.b w5 w6:=hst.below hK hM5 (fun i e=>by cases e)
    obtain⟨ov,hR6,hown,hov⟩:=hM6.R
    obtain⟨oA,ocp,rfl,_⟩:=argV_own hown
    rw[hRR] at hR6
    have k86:=k85.on hbK hKb2
    have hb6:Below w.heap.size w w6:=hb5'.trans (below_down hbK (by omega))
    have hne:(Value.slice oA m'.out.length ocp).ownBlock≠some R:=fun e=>by have:=(hM6.o R (hov ▸ e)).2.1;exact this hRR.symm
    have f3:=hR6.free 3
    have f6:=hR6.free 6
    obtain⟨y0,y1,y2,y3,y4,y5,y6⟩:=hR6.cells7
    have hRl:R < w6.heap.size:=hR6.lt
    have hnR:R≠w.heap.size+1:=by have:=hK.r;omega
    have hRw:w.heap.size≤R:=by have:=hK.r;omega
    have hb7:Below w.heap.size w ((w6.setCell ⟨R,3,none⟩ (.int .i64 1)).setCell ⟨R,6,none⟩ (.int .i64 n6)):=(hb6.setCell (p:=⟨R,3,none⟩) hRw _).setCell (p:=⟨R,6,none⟩) hRw _
    have k87:Blk ((w6.setCell ⟨R,3,none⟩ (.int .i64 1)).setCell ⟨R,6,none⟩ (.int .i64 n6)) (w.heap.size+1) 43 oc0:=(k86.far (p:=⟨R,3,none⟩) hnR _).far (p:=⟨R,6,none⟩) hnR _
    have hown7:=own_setne (own_setne hown (p:=⟨R,3,none⟩) hne (.int .i64 1)) (p:=⟨R,6,none⟩) hne (.int .i64 n6)
    have HZ:=Hd (Ai k87 (oc_end (kind:=1) (code:=0) (val:=n6) hb7 hKb2 hown7))
    clear hx hst hM6 H6 hb5' k85 hM5 hK hRR hKb2 hsK hbK hR6 hown hov k86 hb6 hne hb7 k87 hown7
    go_wp2_with (refine wpList_store_row rfl _ _ _ rfl (w.heap.size+1) #[.int .i64 1,.int .i64 0,.slice oA m'.out.length ocp,.int .i64 n6] rfl rfl _ _ HZ.out.1 zCj rfl (by simp[Value.oneCell']) ?_)
    exact bodyPost_ret (results_cell_row rfl _ _ _ _ _ _ _ rfl (zBc HZ.out.1 _) Tryz.underlying43 rfl zCj) rfl HZ.out.2
   | ended kk cc oo =>
    obtain⟨hx,hbK,ov,fu,hR6,hown⟩:=H6.out
    obtain⟨rfl,rfl⟩:n6=0∧b6=false:=by injection hx with hx;injection hx with hx;simp at hx;exact hx
    obtain⟨oA,ocp,rfl,_⟩:=argV_own hown
    rw[hRR] at hR6
    have k86:=k85.on hbK hKb2
    have hb6:Below w.heap.size w w6:=hb5'.trans (below_down hbK (by omega))
    obtain⟨y0,y1,y2,y3,y4,y5,y6⟩:=hR6.cells7
    have hRl:R < w6.heap.size:=hR6.lt
    have HZ:=Hd (Ai k86 (oc_end (kind:=kk) (code:=cc) (val:=0) hb6 hKb2 hown))
    clear hx H6 hb5' k85 hM5 hK hRR hKb2 hsK hbK hR6 hown k86 hb6
    go_wp2_with (refine wpList_store_row rfl _ _ _ rfl (w.heap.size+1) #[.int .i64 kk,.int .i64 cc,.slice oA oo.length ocp,.int .i64 0] rfl rfl _ _ HZ.out.1 zCj rfl (by simp[Value.oneCell']) ?_)
    exact bodyPost_ret (results_cell_row rfl _ _ _ _ _ _ _ rfl (zBc HZ.out.1 _) Tryz.underlying43 rfl zCj) rfl HZ.out.2
  ·have e9:((la:Int)==(p1:Int))=false:=by rw[beq_eq_false_iff_ne];omega
   have e10:((la:Int) != (p1:Int))=true:=by rw[bne_iff_ne];omega
   rw[if_neg hlen] at hgo
   obtain rfl:=Oi hgo
   have k9:∀ o,Blk (w4.alloc o) (w.heap.size+1) 43 oc0:=fun o=>k8.alloc o
   have HF:=Hd (Ai hb4' k9)
   clear k8 k9 hb4' hb4 hM4 hRb hgo hK hKfs hKok hKb hf hRR hFb hrf hrf0 hp1 hp2 hp3 hw5 hb5 hb5' k85
   go_wp2_with (refine wpList_store_row rfl _ _ _ rfl (w.heap.size+1) oc0 rfl rfl _ _ (HF.out.2 _) zCj rfl (by simp[Value.oneCell']) ?_)
   exact bodyPost_ret (results_cell_row rfl _ _ _ _ _ _ _ rfl (zBc (HF.out.2 _) _) Tryz.underlying43 rfl zCj) rfl (oc_zero (zBu (HF.out.1.alloc HF.out.1.size _) (Nat.le_succ _) _))
theorem irun_any (g:Nat)(p:PG)(va vf av:Value)(nm:List UInt8)(ag:List Int)(fuel:Int)(w:World)(ok:Nat→Prop)(hr1:RepL RepA 2 w ok p.arrays va)(hr2:RepL RepF 9 w ok p.funcs vf)(hok:∀ g,ok g→g < w.heap.size)(hs:szP p≤1000000)(he:PEnv w)(hnm:nm.length≤1000000000)(hA:ArgV 0 w ag av)(oc:OC)(hgo:IX.runF g p nm ag fuel=some oc) :
 Calls Tryz.prog 9 #[.agg #[va,vf],.string ⟨nm.toArray⟩,av,.int .i64 fuel] w (OcP oc w):=by
 unfold IX.runF at hgo
 by_cases h0:fuel < 0
 ·rw[decide_eq_true h0,Bool.true_or,if_pos rfl] at hgo
  obtain rfl:=Oi hgo
  exact run_low va vf av nm fuel (Or.inl h0) w
 ·by_cases h1:1000 < fuel
  ·rw[decide_eq_true h1,Bool.true_or,Bool.or_true,if_pos rfl] at hgo
   obtain rfl:=Oi hgo
   exact run_low va vf av nm fuel (Or.inr h1) w
  ·by_cases hc:chkF p=0
   ·rw[decide_eq_false h0,decide_eq_false h1,decide_eq_true hc,if_neg (by decide)] at hgo
    have:=run_go g p va vf av nm ag fuel.toNat (by omega) hc w ok hr1 hr2 hok hs he hnm hA oc hgo
    rwa [show ((fuel.toNat:Nat):Int)=fuel by omega] at this
   ·rw[decide_eq_false h0,decide_eq_false h1,decide_eq_false hc,if_pos (by decide)] at hgo
    obtain rfl:=Oi hgo
    exact run_bad p va vf av nm fuel (by omega) (by omega) hc w ok (repQ_of hr1 hr2) hok hs he
set_option maxRecDepth 100000
set_option maxHeartbeats 4000000
theorem same_out (k c v:Int)(out:List Int)(o1 o2:Value)(w:World)(h1:ArgV 0 w out o1)(h2:ArgV 0 w out o2)(hl:out.length≤1000000000) :
 Calls Tryz.prog 26 #[.agg #[.int .i64 k,.int .i64 c,o1,.int .i64 v],.agg #[.int .i64 k,.int .i64 c,o2,.int .i64 v]] w (RetN (.bool true) w):=by
 obtain⟨A1,c1,rfl,h1⟩:=h1
 obtain⟨A2,c2,rfl,h2⟩:=h2
 obtain⟨len,hlen⟩:∃ n,out.length=n:=⟨_,rfl⟩
 rw[hlen] at hl ⊢
 obtain⟨W2,hW2⟩:∃ W2,(w.alloc (.cells #[.int .i64 k,.int .i64 c,.slice A1 len c1,.int .i64 v] 43)).alloc (.cells #[.int .i64 k,.int .i64 c,.slice A2 len c2,.int .i64 v] 43)=W2:=⟨_,rfl⟩
 have hb2:Below w.heap.size w W2:=by rw[←hW2];exact ((Below.refl _ _).alloc (Lr _) _).alloc (by simp) _
 have j1:Blk W2 w.heap.size 43 #[.int .i64 k,.int .i64 c,.slice A1 len c1,.int .i64 v]:=by rw[←hW2];exact (Blk.new _ _ _).alloc _
 have j2:Blk W2 (w.heap.size+1) 43 #[.int .i64 k,.int .i64 c,.slice A2 len c2,.int .i64 v]:=by rw[←hW2];exact blk_at (by simp) _ _
 have H:=Hd (Ai h1 (Ai h2 (Ai hlen (Ai hW2 (Ai hb2 (Ai j1 j2))))))
 clear h1 h2 hlen hW2 hb2 j1 j2
 go_enter Tryz.func26,Tryz.ntmps26
 go_wp2_with fail
 rw[H.out.2.2.2.1]
 go_loopg [5] len (fun k i wr=>∃ j:Nat,j+k=len∧i=.int .i64 (j:Int)∧Hid (Below W2.heap.size W2 wr))
 case atStart=>exact⟨0,Nat.zero_add _,rfl,Hd (Below.refl _ _)⟩
 case round =>
  obtain⟨j,hj,rfl,HB⟩:=hrel
  obtain⟨h1,h2,hlen,_,hb2,j1,j2⟩:=H.out
  have i1:=j1.on HB.out j1.lt
  have i2:=j2.on HB.out j2.lt
  have x1:wr.cell? ⟨w.heap.size,2,none⟩=some (.slice A1 len c1):=i1.cell 2
  have x2:wr.cell? ⟨w.heap.size+1,2,none⟩=some (.slice A2 len c2):=i2.cell 2
  have l1:=i1.lt
  have l2:=i2.lt
  have hbr:Below w.heap.size w wr:=hb2.trans (below_down HB.out hb2.size)
  by_cases hlt:j < len
  ·obtain⟨x,hx⟩:∃ x,out[j]?=some x:=⟨_,Ge (by omega)⟩
   obtain⟨g1,rfl,_,hg1,hc1⟩:=h1 j x hx
   obtain⟨g2,rfl,_,hg2,hc2⟩:=h2 j x hx
   have y1:wr.cell? ⟨g1,j,none⟩=some (.int .i64 x):=(hbr.cell (p:=⟨g1,j,none⟩) hg1).trans hc1
   have y2:wr.cell? ⟨g2,j,none⟩=some (.int .i64 x):=(hbr.cell (p:=⟨g2,j,none⟩) hg2).trans hc2
   have e1:(j:Int) < (len:Int):=by omega
   have HR:=Hd hbr
   clear h1 h2 hlen hb2 j1 j2 i1 i2 hx hc1 hc2 hbr
   go_wp2_with fail
   go_quiet (fail)
   go_wp2_with fail
   go_roundg (gk - 1)
   case measure=>omega
   case rel=>exact⟨j+1,by omega,by go_num,Hd (below_drewN HB.out _)⟩
  ·obtain rfl:j=len:=by omega
   have HR:=Hd hbr
   clear h1 h2 hlen hb2 j1 j2 i1 i2 hbr
   go_wp2_with fail
   go_ret
   exact retN rfl HR.out
def PgIn (p:PG)(va vf:Value)(w:World):Prop:=RepL RepA 2 w (fun g=>g < w.heap.size) p.arrays va∧RepL RepF 9 w (fun g=>g < w.heap.size) p.funcs vf
theorem PgIn.low {p:PG}{va vf:Value}{w w':World}(h:PgIn p va vf w)(hb:Below w.heap.size w w'):PgIn p va vf w' :=
 ⟨h.1.keep keepsA (fun _ hg=>Ll hg hb.size) (fun g hg=>hb.block g hg),h.2.keep keepsF (fun _ hg=>Ll hg hb.size) (fun g hg=>hb.block g hg)⟩
def PrsP (p:PG)(w:World)(e:Ending)(w':World):Prop:=∃ A L c A' L' c',e=.returned (.tuple #[.agg #[.slice A L c,.slice A' L' c'],.agg #[.int .i64 0,.int .i64 0]])∧PgIn p (.slice A L c) (.slice A' L' c') w'∧Below w.heap.size w w'
theorem prs_any (t:List UInt8)(p:PG)(hp:zCg t=(p,0,0))(s:ByteArray)(hs:s.data.toList=t)(w:World):Calls Tryz.prog 8 #[.string s] w (PrsP p w) :=
 (rrefparse_any s (p,0,0) (Hd (by rw[hs];exact hp)) w).mono fun e w' h=>by
  obtain⟨A,L,c,A',L',c',rfl,r1,r2,hb⟩:=h
  exact⟨A,L,c,A',L',c',rfl,⟨r1.keep keepsA (fun _ h=>h.2) (fun _ _=>rfl),r2.keep keepsF (fun _ h=>h.2) (fun _ _=>rfl)⟩,hb⟩
theorem runc (g:Nat){p:PG}{va vf av:Value}{ag:List Int}{fuel:Nat}{w:World}(hp:PgIn p va vf w)(hs:szP p≤1000000)(hc:chkF p=0)(he:PEnv w)(hf:fuel≤1000)(nm:List UInt8)(hnm:nm.length≤1000000000)(hA:ArgV 0 w ag av){oc:OC}(hgo:goF g p nm ag fuel=some oc) :
 Calls Tryz.prog 9 #[.agg #[va,vf],.string ⟨nm.toArray⟩,av,.int .i64 (fuel:Int)] w (OcP oc w) :=
 run_go g p va vf av nm ag fuel hf hc w _ hp.1 hp.2 (fun _ h=>h) hs he hnm hA oc hgo
theorem argV_1 {w:World}{b c:Nat}{t:TypeId}{a:Int}(h:Blk w b t #[.int .i64 a]):ArgV 0 w [a] (.slice (some ⟨b,0,none⟩) 1 c) :=
 ⟨_,_,rfl,fun i x hx=>⟨b,rfl,Nat.zero_le _,h.lt,by
  match i,hx with
  | 0,hx=>simp at hx;subst hx;exact h.cell 0
  | i+1,hx=>simp at hx⟩⟩
theorem argV_2 {w:World}{b c:Nat}{t:TypeId}{a d:Int}(h:Blk w b t #[.int .i64 a,.int .i64 d]):ArgV 0 w [a,d] (.slice (some ⟨b,0,none⟩) 2 c) :=
 ⟨_,_,rfl,fun i x hx=>⟨b,rfl,Nat.zero_le _,h.lt,by
  match i,hx with
  | 0,hx=>simp at hx;subst hx;exact h.cell 0
  | 1,hx=>simp at hx;subst hx;exact h.cell 1
  | i+2,hx=>simp at hx⟩⟩
theorem argV_3 {w:World}{b c:Nat}{t:TypeId}{a d f:Int}(h:Blk w b t #[.int .i64 a,.int .i64 d,.int .i64 f]):ArgV 0 w [a,d,f] (.slice (some ⟨b,0,none⟩) 3 c) :=
 ⟨_,_,rfl,fun i x hx=>⟨b,rfl,Nat.zero_le _,h.lt,by
  match i,hx with
  | 0,hx=>simp at hx;subst hx;exact h.cell 0
  | 1,hx=>simp at hx;subst hx;exact h.cell 1
  | 2,hx=>simp at hx;subst hx;exact h.cell 2
  | i+3,hx=>simp at hx⟩⟩
theorem ix_sz:szP ixP≤1000000:=of_decide_eq_true (by kernel_rfl)
theorem ixs_any (w:World)(he:PEnv w):Calls Tryz.prog 10 #[] w (RetN (.bool true) w):=by
 have hps:=fun s hs=>prs_any ixT ixP ix_parse s hs w
 have HP:=Hd hps
 have HE:=Hd he
 clear hps he
 go_enter Tryz.func10,Tryz.ntmps10
 go_wp2_with fail
 refine (HP.out _ rfl).mono ?_
 rintro e w1 ⟨A,L,c,A',L',c',rfl,hpg,hb1⟩
 obtain⟨w2,hw2⟩:∃ w2,(w1.alloc (.cells #[.slice A L c,.slice A' L' c'] 26)).alloc (.cells #[.int .i64 0,.int .i64 0] 29)=w2:=⟨_,rfl⟩
 have hb2:Below w1.heap.size w1 w2:=by rw[←hw2];exact ((Below.refl _ _).alloc (Lr _) _).alloc (by simp) _
 have k1:Blk w2 w1.heap.size 26 #[.slice A L c,.slice A' L' c']:=by rw[←hw2];exact (Blk.new _ _ _).alloc _
 have hbw:=hb1.trans (below_down hb2 hb1.size)
 have hpg2:=hpg.low hb2
 have HX:=Hd (Ai hw2 (Ai k1 (Ai hbw (Ai hpg2 hb2))))
 clear hw2 hb2 k1 hbw hpg2 hpg hb1
 have hru:=fun (nm:List UInt8) (hnm:nm.length≤1000000000) (fuel:Nat) (hf:fuel≤1000) (ag:List Int) (oc:OC) (hgo:goF 30 ixP nm ag fuel=some oc) (W:World) (hW:Below w2.heap.size w2 W) (av:Value) (hA:ArgV 0 W ag av) =>
  runc 30 (HX.out.2.2.2.1.low hW) ix_sz ix_chk (HE.out.on (HX.out.2.2.1.trans (below_down hW HX.out.2.2.1.size))) hf nm hnm hA hgo
 have HR:=Hd hru
 obtain⟨x0,x1,_,_⟩:=HX.out.2.1.cells2
 have hl1:=HX.out.2.1.lt
 clear hru
 go_wp2_with fail
 rw[HX.out.1]
 refine (HR.out [102] (by decide) 2 (by decide) [] _ ix_f _ (Below.refl _ _) _ (argV_nil _ _)).mono ?_
 rintro e w3 ⟨ov,rfl,hov,hb3⟩
 have ho:=(hov.weak (Nat.zero_le _)).low ((Below.refl _ _).alloc (Lr _) (.cells #[.int .i64 7,.int .i64 7] 2))
 have hb3':Below w2.heap.size w2 (w3.alloc (.cells #[.int .i64 7,.int .i64 7] 2)):=hb3.alloc hb3.size _
 have HO:=Hd (Ai ho hb3')
 clear ho hb3' hov hb3
 go_wp2_with fail
 refine (same_out 3 0 0 [7,7] _ _ _ HO.out.1 (argV_2 (Blk.new _ _ _)) (by decide)).mono ?_
 rintro e w4 ⟨rfl,hb4⟩
 have hb4':=HO.out.2.trans (below_down hb4 HO.out.2.size)
 have k4:=HX.out.2.1.on hb4' HX.out.2.1.lt
 obtain⟨y0,y1,_,_⟩:=k4.cells2
 have hl4:=k4.lt
 have H4:=Hd hb4'
 clear hb4 hb4' k4 HO
 go_wp2_with fail
 refine (HR.out [103] (by decide) 0 (by decide) [1] _ ix_g1 _ (H4.out.alloc H4.out.size _) _ (argV_1 (Blk.new _ _ _))).mono ?_
 rintro e w5 ⟨ov,rfl,hov,hb5⟩
 have hb5':=(H4.out.alloc H4.out.size (.cells #[.int .i64 1] 2)).trans (below_down hb5 (H4.out.alloc H4.out.size (.cells #[.int .i64 1] 2)).size)
 have HO:=Hd (Ai (hov.weak (Nat.zero_le _)) hb5')
 clear hov hb5 hb5'
 go_wp2_with fail
 refine (same_out 2 1 0 [] _ _ _ HO.out.1 (argV_nil _ _) (by decide)).mono ?_
 rintro e w6 ⟨rfl,hb6⟩
 have hb6':=HO.out.2.trans (below_down hb6 HO.out.2.size)
 have k6:=HX.out.2.1.on hb6' HX.out.2.1.lt
 obtain⟨y0,y1,_,_⟩:=k6.cells2
 have hl6:=k6.lt
 have H6:=Hd hb6'
 clear hb6 hb6' k6 HO
 go_wp2_with fail
 refine (HR.out [103] (by decide) 0 (by decide) [2] _ ix_g2 _ (H6.out.alloc H6.out.size _) _ (argV_1 (Blk.new _ _ _))).mono ?_
 rintro e w7 ⟨ov,rfl,hov,hb7⟩
 have hb7':=(H6.out.alloc H6.out.size (.cells #[.int .i64 2] 2)).trans (below_down hb7 (H6.out.alloc H6.out.size (.cells #[.int .i64 2] 2)).size)
 have HO:=Hd (Ai (hov.weak (Nat.zero_le _)) hb7')
 clear hov hb7 hb7'
 go_wp2_with fail
 refine (same_out 2 2 0 [] _ _ _ HO.out.1 (argV_nil _ _) (by decide)).mono ?_
 rintro e w8 ⟨rfl,hb8⟩
 have hb8':=HO.out.2.trans (below_down hb8 HO.out.2.size)
 have k8:=HX.out.2.1.on hb8' HX.out.2.1.lt
 obtain⟨y0,y1,_,_⟩:=k8.cells2
 have hl8:=k8.lt
 have H8:=Hd hb8'
 clear hb8 hb8' k8 HO
 go_wp2_with fail
 refine (HR.out [104] (by decide) 1 (by decide) [0] _ ix_h _ (H8.out.alloc H8.out.size _) _ (argV_1 (Blk.new _ _ _))).mono ?_
 rintro e w9 ⟨ov,rfl,hov,hb9⟩
 have hb9':=(H8.out.alloc H8.out.size (.cells #[.int .i64 0] 2)).trans (below_down hb9 (H8.out.alloc H8.out.size (.cells #[.int .i64 0] 2)).size)
 have ho:=(hov.weak (Nat.zero_le _)).low ((Below.refl _ _).alloc (Lr _) (.cells #[.int .i64 (-5)] 2))
 have HO:=Hd (Ai ho (hb9'.alloc hb9'.size (.cells #[.int .i64 (-5)] 2)))
 clear hov hb9 hb9' ho
 go_wp2_with fail
 refine (same_out 1 0 (-4) [-5] _ _ _ HO.out.1 (argV_1 (Blk.new _ _ _)) (by decide)).mono ?_
 rintro e wa ⟨rfl,hba⟩
 have hba':=HO.out.2.trans (below_down hba HO.out.2.size)
 have HF:=Hd (HX.out.2.2.1.trans (below_down hba' HX.out.2.2.1.size))
 clear hba hba' HO
 go_wp2_with fail
 go_ret
 exact retN rfl HF.out
end Go.Proofs.YtpgnlfdindmopaaGreatDoor
