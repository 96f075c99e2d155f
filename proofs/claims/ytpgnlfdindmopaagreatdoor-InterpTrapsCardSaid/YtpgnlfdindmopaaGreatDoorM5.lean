/- Words and walks for the laws of the interpreter. -/
import Derived.Test.YtpgnlfdindmopaaGreatDoorM4
import Derived.Deep.DeepCutAuto
namespace Go.Proofs.YtpgnlfdindmopaaGreatDoor
open Go.RowKit (wrap64 intOf)
open Go Go.RowKit WM LX PX
set_option maxRecDepth 100000
set_option maxHeartbeats 4000000
theorem RepE.go {w w':World}{lo p:Nat}{e:PE}{cs:List Value}(h:RepE w (Rg lo w.heap.size) e cs)(hg:w.grownBy w' (some p))(hp:p < lo):RepE w' (Rg lo w'.heap.size) e cs:=(h.grown hg hp (Lr _)).mono (Lr _) hg.size
theorem RepL.go {α:Type}{Rep:World→(Nat→Prop)→α→List Value→Prop}{sz:Nat}{w w':World}{lo p:Nat}{xs:List α}{v:Value}(h:RepL Rep sz w (Rg lo w.heap.size) xs v)(hk:Keeps Rep)(hg:w.grownBy w' (some p))(hp:p < lo):RepL Rep sz w' (Rg lo w'.heap.size) xs v:=(h.acc hk hg hp (Lr _)).mono hk (Lr _) hg.size
theorem zBq (w:World)(a:Addr)(u:Value):(w.setCell a u).heap.size=w.heap.size:=by simp[World.setCell]
theorem RepE.fs {w:World}{lo:Nat}{e:PE}{cs:List Value}(h:RepE w (Rg lo w.heap.size) e cs){a:Addr}(ha:a.block < lo)(u:Value):RepE (w.setCell a u) (Rg lo (w.setCell a u).heap.size) e cs:=(h.far (Or.inl ha) u).mono (Lr _) (Nat.le_of_eq (zBq w a u).symm)
theorem RepL.fs {α:Type}{Rep:World→(Nat→Prop)→α→List Value→Prop}{sz:Nat}{w:World}{lo:Nat}{xs:List α}{v:Value}(h:RepL Rep sz w (Rg lo w.heap.size) xs v)(hk:Keeps Rep){a:Addr}(ha:a.block < lo)(u:Value):RepL Rep sz (w.setCell a u) (Rg lo (w.setCell a u).heap.size) xs v :=
 h.keep hk (fun g hg=>⟨hg.1,by rw[zBq];exact hg.2⟩) (fun g hg=>Below.heap_setCell w a u g (fun e=>by have:=hg.1;omega))
def RWAg (ts:List Tk)(en p n:Nat):Prop:=∀ (s:PS)(q:ST × PS)(w:World),Hid (ragF ts n s=q)→20 * ms ts s+15≤n→RSt ts en p s w→Calls Tryz.prog 65 #[.pointer (some ⟨p,0,none⟩)] w (RStP ts en p q w)
theorem rag_store (ts:List Tk)(en p n:Nat)(s:PS)(q:ST × PS)(w:World)(hq:Hid (ragF ts n s=q))(hm:20 * ms ts s+15≤n)(h:RSt ts en p s w)(hx:rAt ts (rNmS ts s) 0 cLb=true) :
 Calls Tryz.prog 65 #[.pointer (some ⟨p,0,none⟩)] w (RStP ts en p q w):=by
 have hq:=hq.out
 unfold ragF at hq
 rw[if_pos hx] at hq
 obtain⟨nm0,hv⟩:∃ x,rNmV ts s=x:=⟨_,rfl⟩
 obtain⟨s1,hs1⟩:∃ x,rNmS ts s=x:=⟨_,rfl⟩
 have HV:=Hd hv
 have HS1:=Hd hs1
 have hm1:=zBr (ts:=ts) s
 rw[hs1] at hx hm1
 rw[hv,hs1] at hq
 have HX:=Hd hx
 have hlen:=zAo (zBd hx)
 have hmv:=zBa hx
 obtain⟨⟨ape,s2⟩,ha⟩:∃ x,rexF ts n (adv s1)=x:=⟨_,rfl⟩
 have HA:=Hd ha
 have hm2:=ms_rex (ts:=ts) n (adv s1)
 rw[ha] at hq hm2
 dsimp only at hq hm2
 obtain⟨s3,hs3⟩:∃ x,rEx ts s2 cRb=x:=⟨_,rfl⟩
 have HS3:=Hd hs3
 have hm3:=zAt (ts:=ts) s2 cRb
 rw[hs3] at hq hm3
 obtain⟨s4,hs4⟩:∃ x,rEx ts s3 cEq=x:=⟨_,rfl⟩
 have HS4:=Hd hs4
 have hm4:=zAt (ts:=ts) s3 cEq
 rw[hs4] at hq hm4
 obtain⟨⟨bpe,s5⟩,hb5⟩:∃ x,rexF ts n s4=x:=⟨_,rfl⟩
 have HB:=Hd hb5
 rw[hb5] at hq
 dsimp only at hq
 subst hq
 have hA:20 * ms ts (adv s1)+14≤n:=by omega
 have hB:20 * ms ts s4+14≤n:=by omega
 clear hv hs1 hx ha hs3 hs4 hb5 hm hm1 hm2 hm3 hm4 hmv
 have hpw:=h.lt
 have o:=(ROwn.start h 40 st0).al (.cells st0 40)
 have b:Blk ((w.alloc (.cells st0 40)).alloc (.cells st0 40)) (w.heap.size+1) 40 st0:=blk_at (by simp) _ _
 clear h
 go_enter Tryz.func65,Tryz.ntmps65
 go_wp2_with fail
 refine (zA9 ts en p s s1 nm0 HV HS1 _ o.s).mono ?_
 rintro e w1 ⟨rfl,hg,hp⟩
 replace o:=o.acc hg hp
 replace b:=b.gr hg (by omega)
 clear hg hp
 have z1:=b.cell 1
 have y1:=b.free 1
 go_wp2_with fail
 clear z1 y1
 replace o:=o.far (a:=⟨w.heap.size+1,1,none⟩) (by show w.heap.size < w.heap.size+1;omega) (.string ⟨nm0.toArray⟩)
 replace b:Blk _ (w.heap.size+1) 40 #[.int .i64 0,.string ⟨nm0.toArray⟩,.string ⟨#[]⟩,.int .i64 0,.int .i64 0,.int .i64 0,.string ⟨#[]⟩,.int .i64 0,.slice none 0 0,.int .i64 0,.int .i64 0,.string ⟨#[]⟩,.int .i64 0,.slice none 0 0,.slice none 0 0,.slice none 0 0,.slice none 0 0]:=b.set 1 (.string ⟨nm0.toArray⟩)
 refine (zAe ts en p s1 0 (by decide) cLb true HX _ o.s).mono ?_
 rintro e w2 ⟨rfl,hb⟩
 have hg:=zAa hb (some p)
 have hp:=o.s.keep hb
 clear hb
 replace o:=o.acc hg hp
 replace b:=b.gr hg (by omega)
 clear hg hp
 have z0:=b.cell 0
 have y0:=b.free 0
 obtain⟨_,_,_,c1,_,_,_,f1,_,_,_,hi,hl,_⟩:=o.s.cells
 go_wp2_with fail
 clear z0 y0 c1 f1 hi hl
 replace o:=o.far (a:=⟨w.heap.size+1,0,none⟩) (by show w.heap.size < w.heap.size+1;omega) (.int .i64 2)
 replace b:Blk _ (w.heap.size+1) 40 #[.int .i64 2,.string ⟨nm0.toArray⟩,.string ⟨#[]⟩,.int .i64 0,.int .i64 0,.int .i64 0,.string ⟨#[]⟩,.int .i64 0,.slice none 0 0,.int .i64 0,.int .i64 0,.string ⟨#[]⟩,.int .i64 0,.slice none 0 0,.slice none 0 0,.slice none 0 0,.slice none 0 0]:=b.set 0 (.int .i64 2)
 obtain⟨hg,hp⟩:=radv o.s hlen
 replace o:=o.acc hg hp
 replace b:=b.gr hg (by omega)
 clear hg hp
 refine (zBg ts en p n (adv s1) _ _ HA hA o.s).mono ?_
 rintro e w3 ⟨k1,n1,x1,o1,A1,L1,c1,rfl,r1,hg,hp⟩
 replace r1:=r1.mono (lo':=w.heap.size+2) (by have:=b.lt;omega) (Lr _)
 replace o:=o.acc hg hp
 replace b:=b.gr hg (by omega)
 clear hg hp
 have z4:=b.cell 4
 have y4:=b.free 4
 have z5:=b.cell 5
 have y5:=b.free 5
 have z6:=b.cell 6
 have y6:=b.free 6
 have z7:=b.cell 7
 have y7:=b.free 7
 have z8:=b.cell 8
 have y8:=b.free 8
 go_wp2_with fail
 clear z4 y4 z5 y5 z6 y6 z7 y7 z8 y8
 replace o:=o.far (a:=⟨w.heap.size+1,4,none⟩) (by show w.heap.size < w.heap.size+1;omega) (.int .i64 k1)
 replace b:Blk _ (w.heap.size+1) 40 #[.int .i64 2,.string ⟨nm0.toArray⟩,.string ⟨#[]⟩,.int .i64 0,.int .i64 k1,.int .i64 0,.string ⟨#[]⟩,.int .i64 0,.slice none 0 0,.int .i64 0,.int .i64 0,.string ⟨#[]⟩,.int .i64 0,.slice none 0 0,.slice none 0 0,.slice none 0 0,.slice none 0 0]:=b.set 4 (.int .i64 k1)
 replace r1:=r1.fs (a:=⟨w.heap.size+1,4,none⟩) (by show w.heap.size+1 < w.heap.size+2;omega) (.int .i64 k1)
 replace o:=o.far (a:=⟨w.heap.size+1,5,none⟩) (by show w.heap.size < w.heap.size+1;omega) (.int .i64 n1)
 replace b:Blk _ (w.heap.size+1) 40 #[.int .i64 2,.string ⟨nm0.toArray⟩,.string ⟨#[]⟩,.int .i64 0,.int .i64 k1,.int .i64 n1,.string ⟨#[]⟩,.int .i64 0,.slice none 0 0,.int .i64 0,.int .i64 0,.string ⟨#[]⟩,.int .i64 0,.slice none 0 0,.slice none 0 0,.slice none 0 0,.slice none 0 0]:=b.set 5 (.int .i64 n1)
 replace r1:=r1.fs (a:=⟨w.heap.size+1,5,none⟩) (by show w.heap.size+1 < w.heap.size+2;omega) (.int .i64 n1)
 replace o:=o.far (a:=⟨w.heap.size+1,6,none⟩) (by show w.heap.size < w.heap.size+1;omega) (.string ⟨x1.toArray⟩)
 replace b:Blk _ (w.heap.size+1) 40 #[.int .i64 2,.string ⟨nm0.toArray⟩,.string ⟨#[]⟩,.int .i64 0,.int .i64 k1,.int .i64 n1,.string ⟨x1.toArray⟩,.int .i64 0,.slice none 0 0,.int .i64 0,.int .i64 0,.string ⟨#[]⟩,.int .i64 0,.slice none 0 0,.slice none 0 0,.slice none 0 0,.slice none 0 0]:=b.set 6 (.string ⟨x1.toArray⟩)
 replace r1:=r1.fs (a:=⟨w.heap.size+1,6,none⟩) (by show w.heap.size+1 < w.heap.size+2;omega) (.string ⟨x1.toArray⟩)
 replace o:=o.far (a:=⟨w.heap.size+1,7,none⟩) (by show w.heap.size < w.heap.size+1;omega) (.int .i64 o1)
 replace b:Blk _ (w.heap.size+1) 40 #[.int .i64 2,.string ⟨nm0.toArray⟩,.string ⟨#[]⟩,.int .i64 0,.int .i64 k1,.int .i64 n1,.string ⟨x1.toArray⟩,.int .i64 o1,.slice none 0 0,.int .i64 0,.int .i64 0,.string ⟨#[]⟩,.int .i64 0,.slice none 0 0,.slice none 0 0,.slice none 0 0,.slice none 0 0]:=b.set 7 (.int .i64 o1)
 replace r1:=r1.fs (a:=⟨w.heap.size+1,7,none⟩) (by show w.heap.size+1 < w.heap.size+2;omega) (.int .i64 o1)
 replace o:=o.far (a:=⟨w.heap.size+1,8,none⟩) (by show w.heap.size < w.heap.size+1;omega) (.slice A1 L1 c1)
 replace b:Blk _ (w.heap.size+1) 40 #[.int .i64 2,.string ⟨nm0.toArray⟩,.string ⟨#[]⟩,.int .i64 0,.int .i64 k1,.int .i64 n1,.string ⟨x1.toArray⟩,.int .i64 o1,.slice A1 L1 c1,.int .i64 0,.int .i64 0,.string ⟨#[]⟩,.int .i64 0,.slice none 0 0,.slice none 0 0,.slice none 0 0,.slice none 0 0]:=b.set 8 (.slice A1 L1 c1)
 replace r1:=r1.fs (a:=⟨w.heap.size+1,8,none⟩) (by show w.heap.size+1 < w.heap.size+2;omega) (.slice A1 L1 c1)
 refine (zAc ts en p s2 s3 cRb HS3 _ o.s).mono ?_
 rintro e w4 ⟨rfl,hg,hp⟩
 replace o:=o.acc hg hp
 replace b:=b.gr hg (by omega)
 replace r1:=r1.go hg (by omega)
 clear hg hp
 go_wp2_with fail
 refine (zAc ts en p s3 s4 cEq HS4 _ o.s).mono ?_
 rintro e w5 ⟨rfl,hg,hp⟩
 replace o:=o.acc hg hp
 replace b:=b.gr hg (by omega)
 replace r1:=r1.go hg (by omega)
 clear hg hp
 go_wp2_with fail
 refine (zBg ts en p n s4 _ _ HB hB o.s).mono ?_
 rintro e w6 ⟨k2,n2,x2,o2,A2,L2,c2,rfl,r2,hg,hp⟩
 replace r2:=r2.mono (lo':=w.heap.size+2) (by have:=b.lt;omega) (Lr _)
 replace o:=o.acc hg hp
 replace b:=b.gr hg (by omega)
 replace r1:=r1.go hg (by omega)
 clear hg hp
 have z9:=b.cell 9
 have y9:=b.free 9
 have z10:=b.cell 10
 have y10:=b.free 10
 have z11:=b.cell 11
 have y11:=b.free 11
 have z12:=b.cell 12
 have y12:=b.free 12
 have z13:=b.cell 13
 have y13:=b.free 13
 go_upto_region 10 with fail
 clear z9 y9 z10 y10 z11 y11 z12 y12 z13 y13
 replace o:=o.far (a:=⟨w.heap.size+1,9,none⟩) (by show w.heap.size < w.heap.size+1;omega) (.int .i64 k2)
 replace b:Blk _ (w.heap.size+1) 40 #[.int .i64 2,.string ⟨nm0.toArray⟩,.string ⟨#[]⟩,.int .i64 0,.int .i64 k1,.int .i64 n1,.string ⟨x1.toArray⟩,.int .i64 o1,.slice A1 L1 c1,.int .i64 k2,.int .i64 0,.string ⟨#[]⟩,.int .i64 0,.slice none 0 0,.slice none 0 0,.slice none 0 0,.slice none 0 0]:=b.set 9 (.int .i64 k2)
 replace r1:=r1.fs (a:=⟨w.heap.size+1,9,none⟩) (by show w.heap.size+1 < w.heap.size+2;omega) (.int .i64 k2)
 replace r2:=r2.fs (a:=⟨w.heap.size+1,9,none⟩) (by show w.heap.size+1 < w.heap.size+2;omega) (.int .i64 k2)
 replace o:=o.far (a:=⟨w.heap.size+1,10,none⟩) (by show w.heap.size < w.heap.size+1;omega) (.int .i64 n2)
 replace b:Blk _ (w.heap.size+1) 40 #[.int .i64 2,.string ⟨nm0.toArray⟩,.string ⟨#[]⟩,.int .i64 0,.int .i64 k1,.int .i64 n1,.string ⟨x1.toArray⟩,.int .i64 o1,.slice A1 L1 c1,.int .i64 k2,.int .i64 n2,.string ⟨#[]⟩,.int .i64 0,.slice none 0 0,.slice none 0 0,.slice none 0 0,.slice none 0 0]:=b.set 10 (.int .i64 n2)
 replace r1:=r1.fs (a:=⟨w.heap.size+1,10,none⟩) (by show w.heap.size+1 < w.heap.size+2;omega) (.int .i64 n2)
 replace r2:=r2.fs (a:=⟨w.heap.size+1,10,none⟩) (by show w.heap.size+1 < w.heap.size+2;omega) (.int .i64 n2)
 replace o:=o.far (a:=⟨w.heap.size+1,11,none⟩) (by show w.heap.size < w.heap.size+1;omega) (.string ⟨x2.toArray⟩)
 replace b:Blk _ (w.heap.size+1) 40 #[.int .i64 2,.string ⟨nm0.toArray⟩,.string ⟨#[]⟩,.int .i64 0,.int .i64 k1,.int .i64 n1,.string ⟨x1.toArray⟩,.int .i64 o1,.slice A1 L1 c1,.int .i64 k2,.int .i64 n2,.string ⟨x2.toArray⟩,.int .i64 0,.slice none 0 0,.slice none 0 0,.slice none 0 0,.slice none 0 0]:=b.set 11 (.string ⟨x2.toArray⟩)
 replace r1:=r1.fs (a:=⟨w.heap.size+1,11,none⟩) (by show w.heap.size+1 < w.heap.size+2;omega) (.string ⟨x2.toArray⟩)
 replace r2:=r2.fs (a:=⟨w.heap.size+1,11,none⟩) (by show w.heap.size+1 < w.heap.size+2;omega) (.string ⟨x2.toArray⟩)
 replace o:=o.far (a:=⟨w.heap.size+1,12,none⟩) (by show w.heap.size < w.heap.size+1;omega) (.int .i64 o2)
 replace b:Blk _ (w.heap.size+1) 40 #[.int .i64 2,.string ⟨nm0.toArray⟩,.string ⟨#[]⟩,.int .i64 0,.int .i64 k1,.int .i64 n1,.string ⟨x1.toArray⟩,.int .i64 o1,.slice A1 L1 c1,.int .i64 k2,.int .i64 n2,.string ⟨x2.toArray⟩,.int .i64 o2,.slice none 0 0,.slice none 0 0,.slice none 0 0,.slice none 0 0]:=b.set 12 (.int .i64 o2)
 replace r1:=r1.fs (a:=⟨w.heap.size+1,12,none⟩) (by show w.heap.size+1 < w.heap.size+2;omega) (.int .i64 o2)
 replace r2:=r2.fs (a:=⟨w.heap.size+1,12,none⟩) (by show w.heap.size+1 < w.heap.size+2;omega) (.int .i64 o2)
 replace o:=o.far (a:=⟨w.heap.size+1,13,none⟩) (by show w.heap.size < w.heap.size+1;omega) (.slice A2 L2 c2)
 replace b:Blk _ (w.heap.size+1) 40 #[.int .i64 2,.string ⟨nm0.toArray⟩,.string ⟨#[]⟩,.int .i64 0,.int .i64 k1,.int .i64 n1,.string ⟨x1.toArray⟩,.int .i64 o1,.slice A1 L1 c1,.int .i64 k2,.int .i64 n2,.string ⟨x2.toArray⟩,.int .i64 o2,.slice A2 L2 c2,.slice none 0 0,.slice none 0 0,.slice none 0 0]:=b.set 13 (.slice A2 L2 c2)
 replace r1:=r1.fs (a:=⟨w.heap.size+1,13,none⟩) (by show w.heap.size+1 < w.heap.size+2;omega) (.slice A2 L2 c2)
 replace r2:=r2.fs (a:=⟨w.heap.size+1,13,none⟩) (by show w.heap.size+1 < w.heap.size+2;omega) (.slice A2 L2 c2)
 go_wp2_with (first | (refine wpList_load_row rfl _ _ rfl (w.heap.size+1) rfl _ _ _ _ b Tryz.underlying40 rfl zAf ?_) | (refine wpList_store_row rfl _ _ _ rfl w.heap.size #[.int .i64 2,.string ⟨nm0.toArray⟩,.string ⟨#[]⟩,.int .i64 0,.int .i64 k1,.int .i64 n1,.string ⟨x1.toArray⟩,.int .i64 o1,.slice A1 L1 c1,.int .i64 k2,.int .i64 n2,.string ⟨x2.toArray⟩,.int .i64 o2,.slice A2 L2 c2,.slice none 0 0,.slice none 0 0,.slice none 0 0] rfl rfl _ _ o.r zAf rfl (by simp[Value.oneCell']) ?_))
 obtain⟨hk,hx⟩:=o.fin17 (kd:=2) (nm:=nm0) («to»:=[]) (num:=0) (repS_mk (r1.mono (Nat.le_succ _) (Lr _)) (r2.mono (Nat.le_succ _) (Lr _)) (repL_nil _ _ _ _) (repL_nil _ _ _ _) (repL_nil _ _ _ _))
 exact bodyPost_ret (results_cell_row rfl _ _ _ _ _ _ _ rfl hk Tryz.underlying40 rfl zAf) rfl hx
theorem rag_plain (ts:List Tk)(en p n:Nat)(s:PS)(q:ST × PS)(w:World)(hq:Hid (ragF ts n s=q))(hm:20 * ms ts s+15≤n)(h:RSt ts en p s w)(hx:rAt ts (rNmS ts s) 0 cLb=false)(hy:(rNm ts (rEx ts (rNmS ts s) cEq) 0&&rAt ts (rEx ts (rNmS ts s) cEq) 1 cLp)=false) :
 Calls Tryz.prog 65 #[.pointer (some ⟨p,0,none⟩)] w (RStP ts en p q w):=by
 have hq:=hq.out
 unfold ragF at hq
 rw[if_neg (by rw[hx];decide)] at hq
 dsimp only at hq
 rw[if_neg (by rw[hy];decide)] at hq
 obtain⟨nm0,hv⟩:∃ x,rNmV ts s=x:=⟨_,rfl⟩
 obtain⟨s1,hs1⟩:∃ x,rNmS ts s=x:=⟨_,rfl⟩
 have HV:=Hd hv
 have HS1:=Hd hs1
 have hm1:=zBr (ts:=ts) s
 rw[hs1] at hx hy hm1
 rw[hv,hs1] at hq
 have HX:=Hd hx
 obtain⟨s2,hs2⟩:∃ x,rEx ts s1 cEq=x:=⟨_,rfl⟩
 have HS2:=Hd hs2
 have hm2:=zAt (ts:=ts) s1 cEq
 rw[hs2] at hq hm2 hy
 obtain⟨⟨ape,s3⟩,ha⟩:∃ x,rexF ts n s2=x:=⟨_,rfl⟩
 have HA:=Hd ha
 rw[ha] at hq
 dsimp only at hq
 subst hq
 have hf0:20 * ms ts s2+14≤n:=by omega
 obtain⟨cn,hcn⟩:∃ b,rNm ts s2 0=b:=⟨_,rfl⟩
 have HN:=Hd hcn
 rw[hcn] at hy
 clear hv hs1 hx hs2 ha hm hm1 hm2 hcn
 cases cn
 ·clear hy
  have hpw:=h.lt
  have o:=(ROwn.start h 40 st0).al (.cells st0 40)
  have b:Blk ((w.alloc (.cells st0 40)).alloc (.cells st0 40)) (w.heap.size+1) 40 st0:=blk_at (by simp) _ _
  clear h
  go_enter Tryz.func65,Tryz.ntmps65
  go_wp2_with fail
  refine (zA9 ts en p s s1 nm0 HV HS1 _ o.s).mono ?_
  rintro e w1 ⟨rfl,hg,hp⟩
  replace o:=o.acc hg hp
  replace b:=b.gr hg (by omega)
  clear hg hp
  have z1:=b.cell 1
  have y1:=b.free 1
  go_wp2_with fail
  clear z1 y1
  replace o:=o.far (a:=⟨w.heap.size+1,1,none⟩) (by show w.heap.size < w.heap.size+1;omega) (.string ⟨nm0.toArray⟩)
  replace b:Blk _ (w.heap.size+1) 40 #[.int .i64 0,.string ⟨nm0.toArray⟩,.string ⟨#[]⟩,.int .i64 0,.int .i64 0,.int .i64 0,.string ⟨#[]⟩,.int .i64 0,.slice none 0 0,.int .i64 0,.int .i64 0,.string ⟨#[]⟩,.int .i64 0,.slice none 0 0,.slice none 0 0,.slice none 0 0,.slice none 0 0]:=b.set 1 (.string ⟨nm0.toArray⟩)
  refine (zAe ts en p s1 0 (by decide) cLb false HX _ o.s).mono ?_
  rintro e w2 ⟨rfl,hb⟩
  have hg:=zAa hb (some p)
  have hp:=o.s.keep hb
  clear hb
  replace o:=o.acc hg hp
  replace b:=b.gr hg (by omega)
  clear hg hp
  go_wp2_with fail
  refine (zAc ts en p s1 s2 cEq HS2 _ o.s).mono ?_
  rintro e w3 ⟨rfl,hg,hp⟩
  replace o:=o.acc hg hp
  replace b:=b.gr hg (by omega)
  clear hg hp
  go_wp2_with fail
  refine (rnm_any ts en p s2 0 (by decide) false HN _ o.s).mono ?_
  rintro e w4 ⟨rfl,hb⟩
  have hg:=zAa hb (some p)
  have hp:=o.s.keep hb
  clear hb
  replace o:=o.acc hg hp
  replace b:=b.gr hg (by omega)
  clear hg hp
  have z0:=b.cell 0
  have y0:=b.free 0
  go_wp2_with fail
  clear z0 y0
  replace o:=o.far (a:=⟨w.heap.size+1,0,none⟩) (by show w.heap.size < w.heap.size+1;omega) (.int .i64 1)
  replace b:Blk _ (w.heap.size+1) 40 #[.int .i64 1,.string ⟨nm0.toArray⟩,.string ⟨#[]⟩,.int .i64 0,.int .i64 0,.int .i64 0,.string ⟨#[]⟩,.int .i64 0,.slice none 0 0,.int .i64 0,.int .i64 0,.string ⟨#[]⟩,.int .i64 0,.slice none 0 0,.slice none 0 0,.slice none 0 0,.slice none 0 0]:=b.set 0 (.int .i64 1)
  refine (zBg ts en p n s2 _ _ HA hf0 o.s).mono ?_
  rintro e w5 ⟨k2,n2,x2,o2,A2,L2,c2,rfl,r2,hg,hp⟩
  replace r2:=r2.mono (lo':=w.heap.size+2) (by have:=b.lt;omega) (Lr _)
  replace o:=o.acc hg hp
  replace b:=b.gr hg (by omega)
  clear hg hp
  have z9:=b.cell 9
  have y9:=b.free 9
  have z10:=b.cell 10
  have y10:=b.free 10
  have z11:=b.cell 11
  have y11:=b.free 11
  have z12:=b.cell 12
  have y12:=b.free 12
  have z13:=b.cell 13
  have y13:=b.free 13
  go_upto_region 24 with fail
  clear z9 y9 z10 y10 z11 y11 z12 y12 z13 y13
  replace o:=o.far (a:=⟨w.heap.size+1,9,none⟩) (by show w.heap.size < w.heap.size+1;omega) (.int .i64 k2)
  replace b:Blk _ (w.heap.size+1) 40 #[.int .i64 1,.string ⟨nm0.toArray⟩,.string ⟨#[]⟩,.int .i64 0,.int .i64 0,.int .i64 0,.string ⟨#[]⟩,.int .i64 0,.slice none 0 0,.int .i64 k2,.int .i64 0,.string ⟨#[]⟩,.int .i64 0,.slice none 0 0,.slice none 0 0,.slice none 0 0,.slice none 0 0]:=b.set 9 (.int .i64 k2)
  replace r2:=r2.fs (a:=⟨w.heap.size+1,9,none⟩) (by show w.heap.size+1 < w.heap.size+2;omega) (.int .i64 k2)
  replace o:=o.far (a:=⟨w.heap.size+1,10,none⟩) (by show w.heap.size < w.heap.size+1;omega) (.int .i64 n2)
  replace b:Blk _ (w.heap.size+1) 40 #[.int .i64 1,.string ⟨nm0.toArray⟩,.string ⟨#[]⟩,.int .i64 0,.int .i64 0,.int .i64 0,.string ⟨#[]⟩,.int .i64 0,.slice none 0 0,.int .i64 k2,.int .i64 n2,.string ⟨#[]⟩,.int .i64 0,.slice none 0 0,.slice none 0 0,.slice none 0 0,.slice none 0 0]:=b.set 10 (.int .i64 n2)
  replace r2:=r2.fs (a:=⟨w.heap.size+1,10,none⟩) (by show w.heap.size+1 < w.heap.size+2;omega) (.int .i64 n2)
  replace o:=o.far (a:=⟨w.heap.size+1,11,none⟩) (by show w.heap.size < w.heap.size+1;omega) (.string ⟨x2.toArray⟩)
  replace b:Blk _ (w.heap.size+1) 40 #[.int .i64 1,.string ⟨nm0.toArray⟩,.string ⟨#[]⟩,.int .i64 0,.int .i64 0,.int .i64 0,.string ⟨#[]⟩,.int .i64 0,.slice none 0 0,.int .i64 k2,.int .i64 n2,.string ⟨x2.toArray⟩,.int .i64 0,.slice none 0 0,.slice none 0 0,.slice none 0 0,.slice none 0 0]:=b.set 11 (.string ⟨x2.toArray⟩)
  replace r2:=r2.fs (a:=⟨w.heap.size+1,11,none⟩) (by show w.heap.size+1 < w.heap.size+2;omega) (.string ⟨x2.toArray⟩)
  replace o:=o.far (a:=⟨w.heap.size+1,12,none⟩) (by show w.heap.size < w.heap.size+1;omega) (.int .i64 o2)
  replace b:Blk _ (w.heap.size+1) 40 #[.int .i64 1,.string ⟨nm0.toArray⟩,.string ⟨#[]⟩,.int .i64 0,.int .i64 0,.int .i64 0,.string ⟨#[]⟩,.int .i64 0,.slice none 0 0,.int .i64 k2,.int .i64 n2,.string ⟨x2.toArray⟩,.int .i64 o2,.slice none 0 0,.slice none 0 0,.slice none 0 0,.slice none 0 0]:=b.set 12 (.int .i64 o2)
  replace r2:=r2.fs (a:=⟨w.heap.size+1,12,none⟩) (by show w.heap.size+1 < w.heap.size+2;omega) (.int .i64 o2)
  replace o:=o.far (a:=⟨w.heap.size+1,13,none⟩) (by show w.heap.size < w.heap.size+1;omega) (.slice A2 L2 c2)
  replace b:Blk _ (w.heap.size+1) 40 #[.int .i64 1,.string ⟨nm0.toArray⟩,.string ⟨#[]⟩,.int .i64 0,.int .i64 0,.int .i64 0,.string ⟨#[]⟩,.int .i64 0,.slice none 0 0,.int .i64 k2,.int .i64 n2,.string ⟨x2.toArray⟩,.int .i64 o2,.slice A2 L2 c2,.slice none 0 0,.slice none 0 0,.slice none 0 0]:=b.set 13 (.slice A2 L2 c2)
  replace r2:=r2.fs (a:=⟨w.heap.size+1,13,none⟩) (by show w.heap.size+1 < w.heap.size+2;omega) (.slice A2 L2 c2)
  go_wp2_with (first | (refine wpList_load_row rfl _ _ rfl (w.heap.size+1) rfl _ _ _ _ b Tryz.underlying40 rfl zAf ?_) | (refine wpList_store_row rfl _ _ _ rfl w.heap.size #[.int .i64 1,.string ⟨nm0.toArray⟩,.string ⟨#[]⟩,.int .i64 0,.int .i64 0,.int .i64 0,.string ⟨#[]⟩,.int .i64 0,.slice none 0 0,.int .i64 k2,.int .i64 n2,.string ⟨x2.toArray⟩,.int .i64 o2,.slice A2 L2 c2,.slice none 0 0,.slice none 0 0,.slice none 0 0] rfl rfl _ _ o.r zAf rfl (by simp[Value.oneCell']) ?_))
  obtain⟨hk,hx⟩:=o.fin17 (kd:=1) (nm:=nm0) («to»:=[]) (num:=0) (repS_mk (repE_leaf _ _ 0 0 [] 0 none 0) (r2.mono (Nat.le_succ _) (Lr _)) (repL_nil _ _ _ _) (repL_nil _ _ _ _) (repL_nil _ _ _ _))
  exact bodyPost_ret (results_cell_row rfl _ _ _ _ _ _ _ rfl hk Tryz.underlying40 rfl zAf) rfl hx
 ·have HY:Hid (rAt ts s2 1 cLp=false):=Hd (by simpa using hy)
  clear hy
  have hpw:=h.lt
  have o:=(ROwn.start h 40 st0).al (.cells st0 40)
  have b:Blk ((w.alloc (.cells st0 40)).alloc (.cells st0 40)) (w.heap.size+1) 40 st0:=blk_at (by simp) _ _
  clear h
  go_enter Tryz.func65,Tryz.ntmps65
  go_wp2_with fail
  refine (zA9 ts en p s s1 nm0 HV HS1 _ o.s).mono ?_
  rintro e w1 ⟨rfl,hg,hp⟩
  replace o:=o.acc hg hp
  replace b:=b.gr hg (by omega)
  clear hg hp
  have z1:=b.cell 1
  have y1:=b.free 1
  go_wp2_with fail
  clear z1 y1
  replace o:=o.far (a:=⟨w.heap.size+1,1,none⟩) (by show w.heap.size < w.heap.size+1;omega) (.string ⟨nm0.toArray⟩)
  replace b:Blk _ (w.heap.size+1) 40 #[.int .i64 0,.string ⟨nm0.toArray⟩,.string ⟨#[]⟩,.int .i64 0,.int .i64 0,.int .i64 0,.string ⟨#[]⟩,.int .i64 0,.slice none 0 0,.int .i64 0,.int .i64 0,.string ⟨#[]⟩,.int .i64 0,.slice none 0 0,.slice none 0 0,.slice none 0 0,.slice none 0 0]:=b.set 1 (.string ⟨nm0.toArray⟩)
  refine (zAe ts en p s1 0 (by decide) cLb false HX _ o.s).mono ?_
  rintro e w2 ⟨rfl,hb⟩
  have hg:=zAa hb (some p)
  have hp:=o.s.keep hb
  clear hb
  replace o:=o.acc hg hp
  replace b:=b.gr hg (by omega)
  clear hg hp
  go_wp2_with fail
  refine (zAc ts en p s1 s2 cEq HS2 _ o.s).mono ?_
  rintro e w3 ⟨rfl,hg,hp⟩
  replace o:=o.acc hg hp
  replace b:=b.gr hg (by omega)
  clear hg hp
  go_wp2_with fail
  refine (rnm_any ts en p s2 0 (by decide) true HN _ o.s).mono ?_
  rintro e w4 ⟨rfl,hb⟩
  have hg:=zAa hb (some p)
  have hp:=o.s.keep hb
  clear hb
  replace o:=o.acc hg hp
  replace b:=b.gr hg (by omega)
  clear hg hp
  go_wp2_with fail
  refine (zAe ts en p s2 1 (by decide) cLp false HY _ o.s).mono ?_
  rintro e w5 ⟨rfl,hb⟩
  have hg:=zAa hb (some p)
  have hp:=o.s.keep hb
  clear hb
  replace o:=o.acc hg hp
  replace b:=b.gr hg (by omega)
  clear hg hp
  have z0:=b.cell 0
  have y0:=b.free 0
  go_wp2_with fail
  clear z0 y0
  replace o:=o.far (a:=⟨w.heap.size+1,0,none⟩) (by show w.heap.size < w.heap.size+1;omega) (.int .i64 1)
  replace b:Blk _ (w.heap.size+1) 40 #[.int .i64 1,.string ⟨nm0.toArray⟩,.string ⟨#[]⟩,.int .i64 0,.int .i64 0,.int .i64 0,.string ⟨#[]⟩,.int .i64 0,.slice none 0 0,.int .i64 0,.int .i64 0,.string ⟨#[]⟩,.int .i64 0,.slice none 0 0,.slice none 0 0,.slice none 0 0,.slice none 0 0]:=b.set 0 (.int .i64 1)
  refine (zBg ts en p n s2 _ _ HA hf0 o.s).mono ?_
  rintro e w6 ⟨k2,n2,x2,o2,A2,L2,c2,rfl,r2,hg,hp⟩
  replace r2:=r2.mono (lo':=w.heap.size+2) (by have:=b.lt;omega) (Lr _)
  replace o:=o.acc hg hp
  replace b:=b.gr hg (by omega)
  clear hg hp
  have z9:=b.cell 9
  have y9:=b.free 9
  have z10:=b.cell 10
  have y10:=b.free 10
  have z11:=b.cell 11
  have y11:=b.free 11
  have z12:=b.cell 12
  have y12:=b.free 12
  have z13:=b.cell 13
  have y13:=b.free 13
  go_upto_region 24 with fail
  clear z9 y9 z10 y10 z11 y11 z12 y12 z13 y13
  replace o:=o.far (a:=⟨w.heap.size+1,9,none⟩) (by show w.heap.size < w.heap.size+1;omega) (.int .i64 k2)
  replace b:Blk _ (w.heap.size+1) 40 #[.int .i64 1,.string ⟨nm0.toArray⟩,.string ⟨#[]⟩,.int .i64 0,.int .i64 0,.int .i64 0,.string ⟨#[]⟩,.int .i64 0,.slice none 0 0,.int .i64 k2,.int .i64 0,.string ⟨#[]⟩,.int .i64 0,.slice none 0 0,.slice none 0 0,.slice none 0 0,.slice none 0 0]:=b.set 9 (.int .i64 k2)
  replace r2:=r2.fs (a:=⟨w.heap.size+1,9,none⟩) (by show w.heap.size+1 < w.heap.size+2;omega) (.int .i64 k2)
  replace o:=o.far (a:=⟨w.heap.size+1,10,none⟩) (by show w.heap.size < w.heap.size+1;omega) (.int .i64 n2)
  replace b:Blk _ (w.heap.size+1) 40 #[.int .i64 1,.string ⟨nm0.toArray⟩,.string ⟨#[]⟩,.int .i64 0,.int .i64 0,.int .i64 0,.string ⟨#[]⟩,.int .i64 0,.slice none 0 0,.int .i64 k2,.int .i64 n2,.string ⟨#[]⟩,.int .i64 0,.slice none 0 0,.slice none 0 0,.slice none 0 0,.slice none 0 0]:=b.set 10 (.int .i64 n2)
  replace r2:=r2.fs (a:=⟨w.heap.size+1,10,none⟩) (by show w.heap.size+1 < w.heap.size+2;omega) (.int .i64 n2)
  replace o:=o.far (a:=⟨w.heap.size+1,11,none⟩) (by show w.heap.size < w.heap.size+1;omega) (.string ⟨x2.toArray⟩)
  replace b:Blk _ (w.heap.size+1) 40 #[.int .i64 1,.string ⟨nm0.toArray⟩,.string ⟨#[]⟩,.int .i64 0,.int .i64 0,.int .i64 0,.string ⟨#[]⟩,.int .i64 0,.slice none 0 0,.int .i64 k2,.int .i64 n2,.string ⟨x2.toArray⟩,.int .i64 0,.slice none 0 0,.slice none 0 0,.slice none 0 0,.slice none 0 0]:=b.set 11 (.string ⟨x2.toArray⟩)
  replace r2:=r2.fs (a:=⟨w.heap.size+1,11,none⟩) (by show w.heap.size+1 < w.heap.size+2;omega) (.string ⟨x2.toArray⟩)
  replace o:=o.far (a:=⟨w.heap.size+1,12,none⟩) (by show w.heap.size < w.heap.size+1;omega) (.int .i64 o2)
  replace b:Blk _ (w.heap.size+1) 40 #[.int .i64 1,.string ⟨nm0.toArray⟩,.string ⟨#[]⟩,.int .i64 0,.int .i64 0,.int .i64 0,.string ⟨#[]⟩,.int .i64 0,.slice none 0 0,.int .i64 k2,.int .i64 n2,.string ⟨x2.toArray⟩,.int .i64 o2,.slice none 0 0,.slice none 0 0,.slice none 0 0,.slice none 0 0]:=b.set 12 (.int .i64 o2)
  replace r2:=r2.fs (a:=⟨w.heap.size+1,12,none⟩) (by show w.heap.size+1 < w.heap.size+2;omega) (.int .i64 o2)
  replace o:=o.far (a:=⟨w.heap.size+1,13,none⟩) (by show w.heap.size < w.heap.size+1;omega) (.slice A2 L2 c2)
  replace b:Blk _ (w.heap.size+1) 40 #[.int .i64 1,.string ⟨nm0.toArray⟩,.string ⟨#[]⟩,.int .i64 0,.int .i64 0,.int .i64 0,.string ⟨#[]⟩,.int .i64 0,.slice none 0 0,.int .i64 k2,.int .i64 n2,.string ⟨x2.toArray⟩,.int .i64 o2,.slice A2 L2 c2,.slice none 0 0,.slice none 0 0,.slice none 0 0]:=b.set 13 (.slice A2 L2 c2)
  replace r2:=r2.fs (a:=⟨w.heap.size+1,13,none⟩) (by show w.heap.size+1 < w.heap.size+2;omega) (.slice A2 L2 c2)
  go_wp2_with (first | (refine wpList_load_row rfl _ _ rfl (w.heap.size+1) rfl _ _ _ _ b Tryz.underlying40 rfl zAf ?_) | (refine wpList_store_row rfl _ _ _ rfl w.heap.size #[.int .i64 1,.string ⟨nm0.toArray⟩,.string ⟨#[]⟩,.int .i64 0,.int .i64 0,.int .i64 0,.string ⟨#[]⟩,.int .i64 0,.slice none 0 0,.int .i64 k2,.int .i64 n2,.string ⟨x2.toArray⟩,.int .i64 o2,.slice A2 L2 c2,.slice none 0 0,.slice none 0 0,.slice none 0 0] rfl rfl _ _ o.r zAf rfl (by simp[Value.oneCell']) ?_))
  obtain⟨hk,hx⟩:=o.fin17 (kd:=1) (nm:=nm0) («to»:=[]) (num:=0) (repS_mk (repE_leaf _ _ 0 0 [] 0 none 0) (r2.mono (Nat.le_succ _) (Lr _)) (repL_nil _ _ _ _) (repL_nil _ _ _ _) (repL_nil _ _ _ _))
  exact bodyPost_ret (results_cell_row rfl _ _ _ _ _ _ _ rfl hk Tryz.underlying40 rfl zAf) rfl hx
end Go.Proofs.YtpgnlfdindmopaaGreatDoor
namespace Go.Proofs.YtpgnlfdindmopaaGreatDoor
open Go.RowKit (wrap64 intOf)
open Go Go.RowKit WM LX PX
set_option maxRecDepth 100000
set_option maxHeartbeats 4000000
theorem rst_if (ts:List Tk)(en p n:Nat)(hbl:RWBl ts en p n)(s:PS)(q:ST × PS)(w:World)(hq:Hid (rstF ts (n+1) s=q))(hm:20 * ms ts s+16≤n+1)(h:RSt ts en p s w)(hx:rAt ts s 0 wIf=true) :
 Calls Tryz.prog 41 #[.pointer (some ⟨p,0,none⟩)] w (RStP ts en p q w):=by
 have hq:=hq.out
 rw[rstF_eq] at hq
 rw[if_pos hx] at hq
 have HI:=Hd hx
 have hlen:=zAo (zBd hx)
 have hmv:=zBa hx
 obtain⟨⟨cpe,s3⟩,hc⟩:∃ x,rcdF ts n (adv s)=x:=⟨_,rfl⟩
 have hmc:=ms_rcd (ts:=ts) n (adv s)
 rw[hc] at hq hmc
 dsimp only at hq hmc
 unfold rcdF at hc
 obtain⟨s1,hs1⟩:∃ x,rEx ts (adv s) cLp=x:=⟨_,rfl⟩
 have HS1:=Hd hs1
 have hm1:=zAt (ts:=ts) (adv s) cLp
 rw[hs1] at hc hm1
 obtain⟨⟨cpe',s2⟩,hc2⟩:∃ x,rexF ts n s1=x:=⟨_,rfl⟩
 have HC:=Hd hc2
 rw[hc2] at hc
 dsimp only at hc
 injection hc with e1 e2
 subst e1
 have HS3:=Hd e2
 have hf1:20 * ms ts s1+14≤n:=by omega
 obtain⟨⟨tl,s4⟩,ht⟩:∃ x,rblF ts n s3=x:=⟨_,rfl⟩
 have HT:=Hd ht
 have hmt:=(rms_st (ts:=ts) n).2.2.2 s3
 rw[ht] at hq hmt
 dsimp only at hq hmt
 have hf2:20 * ms ts s3+18≤n:=by omega
 have HBL:=Hd hbl
 obtain⟨b,hb0⟩:∃ b,rAt ts s4 0 wElse=b:=⟨_,rfl⟩
 have HE:=Hd hb0
 cases b
 ·rw[hb0,if_neg (by decide)] at hq
  subst hq
  clear hbl hx hc2 hs1 e2 ht hmv hmc hm1 hmt hm hb0
  have hpw:=h.lt
  have o:=(ROwn.start h 40 st0).al (.cells st0 40)
  have b:Blk ((w.alloc (.cells st0 40)).alloc (.cells st0 40)) (w.heap.size+1) 40 st0:=blk_at (by simp) _ _
  clear h
  go_enter Tryz.func41,Tryz.ntmps41
  go_wp2_with fail
  refine (zAe ts en p s 0 (by decide) wIf true HI _ o.s).mono ?_
  rintro e w1 ⟨rfl,hb⟩
  have hg:=zAa hb (some p)
  have hp:=o.s.keep hb
  clear hb
  replace o:=o.acc hg hp
  replace b:=b.gr hg (by omega)
  clear hg hp
  have z0:=b.cell 0
  have y0:=b.free 0
  obtain⟨_,_,_,c1,_,_,_,f1,_,_,_,hi,hl,_⟩:=o.s.cells
  go_wp2_with fail
  clear z0 y0 c1 f1 hi hl
  replace o:=o.far (a:=⟨w.heap.size+1,0,none⟩) (by show w.heap.size < w.heap.size+1;omega) (.int .i64 3)
  replace b:Blk _ (w.heap.size+1) 40 #[.int .i64 3,.string ⟨#[]⟩,.string ⟨#[]⟩,.int .i64 0,.int .i64 0,.int .i64 0,.string ⟨#[]⟩,.int .i64 0,.slice none 0 0,.int .i64 0,.int .i64 0,.string ⟨#[]⟩,.int .i64 0,.slice none 0 0,.slice none 0 0,.slice none 0 0,.slice none 0 0]:=b.set 0 (.int .i64 3)
  obtain⟨hg,hp⟩:=radv o.s hlen
  replace o:=o.acc hg hp
  replace b:=b.gr hg (by omega)
  clear hg hp
  refine (zAc ts en p (adv s) s1 cLp HS1 _ o.s).mono ?_
  rintro e w2 ⟨rfl,hg,hp⟩
  replace o:=o.acc hg hp
  replace b:=b.gr hg (by omega)
  clear hg hp
  go_wp2_with fail
  refine (zBg ts en p n s1 _ _ HC hf1 o.s).mono ?_
  rintro e w3 ⟨k2,n2,x2,o2,A2,L2,c2,rfl,r2,hg,hp⟩
  replace r2:=r2.mono (lo':=w.heap.size+2) (by have:=b.lt;omega) (Lr _)
  replace o:=o.acc hg hp
  replace b:=b.gr hg (by omega)
  clear hg hp
  have z9:=b.cell 9
  have y9:=b.free 9
  have z10:=b.cell 10
  have y10:=b.free 10
  have z11:=b.cell 11
  have y11:=b.free 11
  have z12:=b.cell 12
  have y12:=b.free 12
  have z13:=b.cell 13
  have y13:=b.free 13
  go_wp2_with fail
  clear z9 y9 z10 y10 z11 y11 z12 y12 z13 y13
  replace o:=o.far (a:=⟨w.heap.size+1,9,none⟩) (by show w.heap.size < w.heap.size+1;omega) (.int .i64 k2)
  replace b:Blk _ (w.heap.size+1) 40 #[.int .i64 3,.string ⟨#[]⟩,.string ⟨#[]⟩,.int .i64 0,.int .i64 0,.int .i64 0,.string ⟨#[]⟩,.int .i64 0,.slice none 0 0,.int .i64 k2,.int .i64 0,.string ⟨#[]⟩,.int .i64 0,.slice none 0 0,.slice none 0 0,.slice none 0 0,.slice none 0 0]:=b.set 9 (.int .i64 k2)
  replace r2:=r2.fs (a:=⟨w.heap.size+1,9,none⟩) (by show w.heap.size+1 < w.heap.size+2;omega) (.int .i64 k2)
  replace o:=o.far (a:=⟨w.heap.size+1,10,none⟩) (by show w.heap.size < w.heap.size+1;omega) (.int .i64 n2)
  replace b:Blk _ (w.heap.size+1) 40 #[.int .i64 3,.string ⟨#[]⟩,.string ⟨#[]⟩,.int .i64 0,.int .i64 0,.int .i64 0,.string ⟨#[]⟩,.int .i64 0,.slice none 0 0,.int .i64 k2,.int .i64 n2,.string ⟨#[]⟩,.int .i64 0,.slice none 0 0,.slice none 0 0,.slice none 0 0,.slice none 0 0]:=b.set 10 (.int .i64 n2)
  replace r2:=r2.fs (a:=⟨w.heap.size+1,10,none⟩) (by show w.heap.size+1 < w.heap.size+2;omega) (.int .i64 n2)
  replace o:=o.far (a:=⟨w.heap.size+1,11,none⟩) (by show w.heap.size < w.heap.size+1;omega) (.string ⟨x2.toArray⟩)
  replace b:Blk _ (w.heap.size+1) 40 #[.int .i64 3,.string ⟨#[]⟩,.string ⟨#[]⟩,.int .i64 0,.int .i64 0,.int .i64 0,.string ⟨#[]⟩,.int .i64 0,.slice none 0 0,.int .i64 k2,.int .i64 n2,.string ⟨x2.toArray⟩,.int .i64 0,.slice none 0 0,.slice none 0 0,.slice none 0 0,.slice none 0 0]:=b.set 11 (.string ⟨x2.toArray⟩)
  replace r2:=r2.fs (a:=⟨w.heap.size+1,11,none⟩) (by show w.heap.size+1 < w.heap.size+2;omega) (.string ⟨x2.toArray⟩)
  replace o:=o.far (a:=⟨w.heap.size+1,12,none⟩) (by show w.heap.size < w.heap.size+1;omega) (.int .i64 o2)
  replace b:Blk _ (w.heap.size+1) 40 #[.int .i64 3,.string ⟨#[]⟩,.string ⟨#[]⟩,.int .i64 0,.int .i64 0,.int .i64 0,.string ⟨#[]⟩,.int .i64 0,.slice none 0 0,.int .i64 k2,.int .i64 n2,.string ⟨x2.toArray⟩,.int .i64 o2,.slice none 0 0,.slice none 0 0,.slice none 0 0,.slice none 0 0]:=b.set 12 (.int .i64 o2)
  replace r2:=r2.fs (a:=⟨w.heap.size+1,12,none⟩) (by show w.heap.size+1 < w.heap.size+2;omega) (.int .i64 o2)
  replace o:=o.far (a:=⟨w.heap.size+1,13,none⟩) (by show w.heap.size < w.heap.size+1;omega) (.slice A2 L2 c2)
  replace b:Blk _ (w.heap.size+1) 40 #[.int .i64 3,.string ⟨#[]⟩,.string ⟨#[]⟩,.int .i64 0,.int .i64 0,.int .i64 0,.string ⟨#[]⟩,.int .i64 0,.slice none 0 0,.int .i64 k2,.int .i64 n2,.string ⟨x2.toArray⟩,.int .i64 o2,.slice A2 L2 c2,.slice none 0 0,.slice none 0 0,.slice none 0 0]:=b.set 13 (.slice A2 L2 c2)
  replace r2:=r2.fs (a:=⟨w.heap.size+1,13,none⟩) (by show w.heap.size+1 < w.heap.size+2;omega) (.slice A2 L2 c2)
  refine (zAc ts en p s2 s3 cRp HS3 _ o.s).mono ?_
  rintro e w4 ⟨rfl,hg,hp⟩
  replace o:=o.acc hg hp
  replace b:=b.gr hg (by omega)
  replace r2:=r2.go hg (by omega)
  clear hg hp
  go_wp2_with fail
  refine (HBL.out s3 _ _ HT hf2 o.s).mono ?_
  rintro e w5 ⟨A4,L4,c4,rfl,r4,hg,hp⟩
  replace r4:=r4.mono keepsS (lo':=w.heap.size+2) (by have:=b.lt;omega) (Lr _)
  replace o:=o.acc hg hp
  replace b:=b.gr hg (by omega)
  replace r2:=r2.go hg (by omega)
  clear hg hp
  have z15:=b.cell 15
  have y15:=b.free 15
  go_wp2_with fail
  clear z15 y15
  replace o:=o.far (a:=⟨w.heap.size+1,15,none⟩) (by show w.heap.size < w.heap.size+1;omega) (.slice A4 L4 c4)
  replace b:Blk _ (w.heap.size+1) 40 #[.int .i64 3,.string ⟨#[]⟩,.string ⟨#[]⟩,.int .i64 0,.int .i64 0,.int .i64 0,.string ⟨#[]⟩,.int .i64 0,.slice none 0 0,.int .i64 k2,.int .i64 n2,.string ⟨x2.toArray⟩,.int .i64 o2,.slice A2 L2 c2,.slice none 0 0,.slice A4 L4 c4,.slice none 0 0]:=b.set 15 (.slice A4 L4 c4)
  replace r2:=r2.fs (a:=⟨w.heap.size+1,15,none⟩) (by show w.heap.size+1 < w.heap.size+2;omega) (.slice A4 L4 c4)
  replace r4:=r4.fs keepsS (a:=⟨w.heap.size+1,15,none⟩) (by show w.heap.size+1 < w.heap.size+2;omega) (.slice A4 L4 c4)
  refine (zAe ts en p s4 0 (by decide) wElse false HE _ o.s).mono ?_
  rintro e w6 ⟨rfl,hb⟩
  have hg:=zAa hb (some p)
  have hp:=o.s.keep hb
  clear hb
  replace o:=o.acc hg hp
  replace b:=b.gr hg (by omega)
  replace r2:=r2.go hg (by omega)
  replace r4:=r4.go keepsS hg (by omega)
  clear hg hp
  go_wp2_with (first | (refine wpList_load_row rfl _ _ rfl (w.heap.size+1) rfl _ _ _ _ b Tryz.underlying40 rfl zAf ?_) | (refine wpList_store_row rfl _ _ _ rfl w.heap.size #[.int .i64 3,.string ⟨#[]⟩,.string ⟨#[]⟩,.int .i64 0,.int .i64 0,.int .i64 0,.string ⟨#[]⟩,.int .i64 0,.slice none 0 0,.int .i64 k2,.int .i64 n2,.string ⟨x2.toArray⟩,.int .i64 o2,.slice A2 L2 c2,.slice none 0 0,.slice A4 L4 c4,.slice none 0 0] rfl rfl _ _ o.r zAf rfl (by simp[Value.oneCell']) ?_))
  obtain⟨hk,hx⟩:=o.fin17 (kd:=3) (nm:=[]) («to»:=[]) (num:=0) (repS_mk (repE_leaf _ _ 0 0 [] 0 none 0) (r2.mono (Nat.le_succ _) (Lr _)) (repL_nil _ _ _ _) (r4.mono keepsS (Nat.le_succ _) (Lr _)) (repL_nil _ _ _ _))
  exact bodyPost_ret (results_cell_row rfl _ _ _ _ _ _ _ rfl hk Tryz.underlying40 rfl zAf) rfl hx
 ·have hlen4:=zAo (zBd hb0)
  have hmv4:=zBa hb0
  rw[hb0,if_pos rfl] at hq
  obtain⟨⟨el,s5⟩,he⟩:∃ x,rblF ts n (adv s4)=x:=⟨_,rfl⟩
  have HL:=Hd he
  rw[he] at hq
  dsimp only at hq
  subst hq
  have hf3:20 * ms ts (adv s4)+18≤n:=by omega
  clear hbl hx hc2 hs1 e2 ht hmv hmc hm1 hmt hm hb0 hmv4 he
  have hpw:=h.lt
  have o:=(ROwn.start h 40 st0).al (.cells st0 40)
  have b:Blk ((w.alloc (.cells st0 40)).alloc (.cells st0 40)) (w.heap.size+1) 40 st0:=blk_at (by simp) _ _
  clear h
  go_enter Tryz.func41,Tryz.ntmps41
  go_wp2_with fail
  refine (zAe ts en p s 0 (by decide) wIf true HI _ o.s).mono ?_
  rintro e w1 ⟨rfl,hb⟩
  have hg:=zAa hb (some p)
  have hp:=o.s.keep hb
  clear hb
  replace o:=o.acc hg hp
  replace b:=b.gr hg (by omega)
  clear hg hp
  have z0:=b.cell 0
  have y0:=b.free 0
  obtain⟨_,_,_,c1,_,_,_,f1,_,_,_,hi,hl,_⟩:=o.s.cells
  go_wp2_with fail
  clear z0 y0 c1 f1 hi hl
  replace o:=o.far (a:=⟨w.heap.size+1,0,none⟩) (by show w.heap.size < w.heap.size+1;omega) (.int .i64 3)
  replace b:Blk _ (w.heap.size+1) 40 #[.int .i64 3,.string ⟨#[]⟩,.string ⟨#[]⟩,.int .i64 0,.int .i64 0,.int .i64 0,.string ⟨#[]⟩,.int .i64 0,.slice none 0 0,.int .i64 0,.int .i64 0,.string ⟨#[]⟩,.int .i64 0,.slice none 0 0,.slice none 0 0,.slice none 0 0,.slice none 0 0]:=b.set 0 (.int .i64 3)
  obtain⟨hg,hp⟩:=radv o.s hlen
  replace o:=o.acc hg hp
  replace b:=b.gr hg (by omega)
  clear hg hp
  refine (zAc ts en p (adv s) s1 cLp HS1 _ o.s).mono ?_
  rintro e w2 ⟨rfl,hg,hp⟩
  replace o:=o.acc hg hp
  replace b:=b.gr hg (by omega)
  clear hg hp
  go_wp2_with fail
  refine (zBg ts en p n s1 _ _ HC hf1 o.s).mono ?_
  rintro e w3 ⟨k2,n2,x2,o2,A2,L2,c2,rfl,r2,hg,hp⟩
  replace r2:=r2.mono (lo':=w.heap.size+2) (by have:=b.lt;omega) (Lr _)
  replace o:=o.acc hg hp
  replace b:=b.gr hg (by omega)
  clear hg hp
  have z9:=b.cell 9
  have y9:=b.free 9
  have z10:=b.cell 10
  have y10:=b.free 10
  have z11:=b.cell 11
  have y11:=b.free 11
  have z12:=b.cell 12
  have y12:=b.free 12
  have z13:=b.cell 13
  have y13:=b.free 13
  go_wp2_with fail
  clear z9 y9 z10 y10 z11 y11 z12 y12 z13 y13
  replace o:=o.far (a:=⟨w.heap.size+1,9,none⟩) (by show w.heap.size < w.heap.size+1;omega) (.int .i64 k2)
  replace b:Blk _ (w.heap.size+1) 40 #[.int .i64 3,.string ⟨#[]⟩,.string ⟨#[]⟩,.int .i64 0,.int .i64 0,.int .i64 0,.string ⟨#[]⟩,.int .i64 0,.slice none 0 0,.int .i64 k2,.int .i64 0,.string ⟨#[]⟩,.int .i64 0,.slice none 0 0,.slice none 0 0,.slice none 0 0,.slice none 0 0]:=b.set 9 (.int .i64 k2)
  replace r2:=r2.fs (a:=⟨w.heap.size+1,9,none⟩) (by show w.heap.size+1 < w.heap.size+2;omega) (.int .i64 k2)
  replace o:=o.far (a:=⟨w.heap.size+1,10,none⟩) (by show w.heap.size < w.heap.size+1;omega) (.int .i64 n2)
  replace b:Blk _ (w.heap.size+1) 40 #[.int .i64 3,.string ⟨#[]⟩,.string ⟨#[]⟩,.int .i64 0,.int .i64 0,.int .i64 0,.string ⟨#[]⟩,.int .i64 0,.slice none 0 0,.int .i64 k2,.int .i64 n2,.string ⟨#[]⟩,.int .i64 0,.slice none 0 0,.slice none 0 0,.slice none 0 0,.slice none 0 0]:=b.set 10 (.int .i64 n2)
  replace r2:=r2.fs (a:=⟨w.heap.size+1,10,none⟩) (by show w.heap.size+1 < w.heap.size+2;omega) (.int .i64 n2)
  replace o:=o.far (a:=⟨w.heap.size+1,11,none⟩) (by show w.heap.size < w.heap.size+1;omega) (.string ⟨x2.toArray⟩)
  replace b:Blk _ (w.heap.size+1) 40 #[.int .i64 3,.string ⟨#[]⟩,.string ⟨#[]⟩,.int .i64 0,.int .i64 0,.int .i64 0,.string ⟨#[]⟩,.int .i64 0,.slice none 0 0,.int .i64 k2,.int .i64 n2,.string ⟨x2.toArray⟩,.int .i64 0,.slice none 0 0,.slice none 0 0,.slice none 0 0,.slice none 0 0]:=b.set 11 (.string ⟨x2.toArray⟩)
  replace r2:=r2.fs (a:=⟨w.heap.size+1,11,none⟩) (by show w.heap.size+1 < w.heap.size+2;omega) (.string ⟨x2.toArray⟩)
  replace o:=o.far (a:=⟨w.heap.size+1,12,none⟩) (by show w.heap.size < w.heap.size+1;omega) (.int .i64 o2)
  replace b:Blk _ (w.heap.size+1) 40 #[.int .i64 3,.string ⟨#[]⟩,.string ⟨#[]⟩,.int .i64 0,.int .i64 0,.int .i64 0,.string ⟨#[]⟩,.int .i64 0,.slice none 0 0,.int .i64 k2,.int .i64 n2,.string ⟨x2.toArray⟩,.int .i64 o2,.slice none 0 0,.slice none 0 0,.slice none 0 0,.slice none 0 0]:=b.set 12 (.int .i64 o2)
  replace r2:=r2.fs (a:=⟨w.heap.size+1,12,none⟩) (by show w.heap.size+1 < w.heap.size+2;omega) (.int .i64 o2)
  replace o:=o.far (a:=⟨w.heap.size+1,13,none⟩) (by show w.heap.size < w.heap.size+1;omega) (.slice A2 L2 c2)
  replace b:Blk _ (w.heap.size+1) 40 #[.int .i64 3,.string ⟨#[]⟩,.string ⟨#[]⟩,.int .i64 0,.int .i64 0,.int .i64 0,.string ⟨#[]⟩,.int .i64 0,.slice none 0 0,.int .i64 k2,.int .i64 n2,.string ⟨x2.toArray⟩,.int .i64 o2,.slice A2 L2 c2,.slice none 0 0,.slice none 0 0,.slice none 0 0]:=b.set 13 (.slice A2 L2 c2)
  replace r2:=r2.fs (a:=⟨w.heap.size+1,13,none⟩) (by show w.heap.size+1 < w.heap.size+2;omega) (.slice A2 L2 c2)
  refine (zAc ts en p s2 s3 cRp HS3 _ o.s).mono ?_
  rintro e w4 ⟨rfl,hg,hp⟩
  replace o:=o.acc hg hp
  replace b:=b.gr hg (by omega)
  replace r2:=r2.go hg (by omega)
  clear hg hp
  go_wp2_with fail
  refine (HBL.out s3 _ _ HT hf2 o.s).mono ?_
  rintro e w5 ⟨A4,L4,c4,rfl,r4,hg,hp⟩
  replace r4:=r4.mono keepsS (lo':=w.heap.size+2) (by have:=b.lt;omega) (Lr _)
  replace o:=o.acc hg hp
  replace b:=b.gr hg (by omega)
  replace r2:=r2.go hg (by omega)
  clear hg hp
  have z15:=b.cell 15
  have y15:=b.free 15
  go_wp2_with fail
  clear z15 y15
  replace o:=o.far (a:=⟨w.heap.size+1,15,none⟩) (by show w.heap.size < w.heap.size+1;omega) (.slice A4 L4 c4)
  replace b:Blk _ (w.heap.size+1) 40 #[.int .i64 3,.string ⟨#[]⟩,.string ⟨#[]⟩,.int .i64 0,.int .i64 0,.int .i64 0,.string ⟨#[]⟩,.int .i64 0,.slice none 0 0,.int .i64 k2,.int .i64 n2,.string ⟨x2.toArray⟩,.int .i64 o2,.slice A2 L2 c2,.slice none 0 0,.slice A4 L4 c4,.slice none 0 0]:=b.set 15 (.slice A4 L4 c4)
  replace r2:=r2.fs (a:=⟨w.heap.size+1,15,none⟩) (by show w.heap.size+1 < w.heap.size+2;omega) (.slice A4 L4 c4)
  replace r4:=r4.fs keepsS (a:=⟨w.heap.size+1,15,none⟩) (by show w.heap.size+1 < w.heap.size+2;omega) (.slice A4 L4 c4)
  refine (zAe ts en p s4 0 (by decide) wElse true HE _ o.s).mono ?_
  rintro e w6 ⟨rfl,hb⟩
  have hg:=zAa hb (some p)
  have hp:=o.s.keep hb
  clear hb
  replace o:=o.acc hg hp
  replace b:=b.gr hg (by omega)
  replace r2:=r2.go hg (by omega)
  replace r4:=r4.go keepsS hg (by omega)
  clear hg hp
  obtain⟨_,_,_,c1,_,_,_,f1,_,_,_,hi,hl,_⟩:=o.s.cells
  go_wp2_with fail
  clear c1 f1 hi hl
  obtain⟨hg,hp⟩:=radv o.s hlen4
  replace o:=o.acc hg hp
  replace b:=b.gr hg (by omega)
  replace r2:=r2.go hg (by omega)
  replace r4:=r4.go keepsS hg (by omega)
  clear hg hp
  refine (HBL.out (adv s4) _ _ HL hf3 o.s).mono ?_
  rintro e w7 ⟨A5,L5,c5,rfl,r5,hg,hp⟩
  replace r5:=r5.mono keepsS (lo':=w.heap.size+2) (by have:=b.lt;omega) (Lr _)
  replace o:=o.acc hg hp
  replace b:=b.gr hg (by omega)
  replace r2:=r2.go hg (by omega)
  replace r4:=r4.go keepsS hg (by omega)
  clear hg hp
  have z16:=b.cell 16
  have y16:=b.free 16
  go_upto_region 13 with fail
  clear z16 y16
  replace o:=o.far (a:=⟨w.heap.size+1,16,none⟩) (by show w.heap.size < w.heap.size+1;omega) (.slice A5 L5 c5)
  replace b:Blk _ (w.heap.size+1) 40 #[.int .i64 3,.string ⟨#[]⟩,.string ⟨#[]⟩,.int .i64 0,.int .i64 0,.int .i64 0,.string ⟨#[]⟩,.int .i64 0,.slice none 0 0,.int .i64 k2,.int .i64 n2,.string ⟨x2.toArray⟩,.int .i64 o2,.slice A2 L2 c2,.slice none 0 0,.slice A4 L4 c4,.slice A5 L5 c5]:=b.set 16 (.slice A5 L5 c5)
  replace r2:=r2.fs (a:=⟨w.heap.size+1,16,none⟩) (by show w.heap.size+1 < w.heap.size+2;omega) (.slice A5 L5 c5)
  replace r4:=r4.fs keepsS (a:=⟨w.heap.size+1,16,none⟩) (by show w.heap.size+1 < w.heap.size+2;omega) (.slice A5 L5 c5)
  replace r5:=r5.fs keepsS (a:=⟨w.heap.size+1,16,none⟩) (by show w.heap.size+1 < w.heap.size+2;omega) (.slice A5 L5 c5)
  go_wp2_with (first | (refine wpList_load_row rfl _ _ rfl (w.heap.size+1) rfl _ _ _ _ b Tryz.underlying40 rfl zAf ?_) | (refine wpList_store_row rfl _ _ _ rfl w.heap.size #[.int .i64 3,.string ⟨#[]⟩,.string ⟨#[]⟩,.int .i64 0,.int .i64 0,.int .i64 0,.string ⟨#[]⟩,.int .i64 0,.slice none 0 0,.int .i64 k2,.int .i64 n2,.string ⟨x2.toArray⟩,.int .i64 o2,.slice A2 L2 c2,.slice none 0 0,.slice A4 L4 c4,.slice A5 L5 c5] rfl rfl _ _ o.r zAf rfl (by simp[Value.oneCell']) ?_))
  obtain⟨hk,hx⟩:=o.fin17 (kd:=3) (nm:=[]) («to»:=[]) (num:=0) (repS_mk (repE_leaf _ _ 0 0 [] 0 none 0) (r2.mono (Nat.le_succ _) (Lr _)) (repL_nil _ _ _ _) (r4.mono keepsS (Nat.le_succ _) (Lr _)) (r5.mono keepsS (Nat.le_succ _) (Lr _)))
  exact bodyPost_ret (results_cell_row rfl _ _ _ _ _ _ _ rfl hk Tryz.underlying40 rfl zAf) rfl hx
theorem rst_while (ts:List Tk)(en p n:Nat)(hbl:RWBl ts en p n)(s:PS)(q:ST × PS)(w:World)(hq:Hid (rstF ts (n+1) s=q))(hm:20 * ms ts s+16≤n+1)(h:RSt ts en p s w)(h0:rAt ts s 0 wIf=false)(hx:rAt ts s 0 zBn=true) :
 Calls Tryz.prog 41 #[.pointer (some ⟨p,0,none⟩)] w (RStP ts en p q w):=by
 have hq:=hq.out
 rw[rstF_eq] at hq
 rw[if_neg (by rw[h0];decide),if_pos hx] at hq
 have HI0:=Hd h0
 have HI:=Hd hx
 have hlen:=zAo (zBd hx)
 have hmv:=zBa hx
 obtain⟨⟨cpe,s3⟩,hc⟩:∃ x,rcdF ts n (adv s)=x:=⟨_,rfl⟩
 have hmc:=ms_rcd (ts:=ts) n (adv s)
 rw[hc] at hq hmc
 dsimp only at hq hmc
 unfold rcdF at hc
 obtain⟨s1,hs1⟩:∃ x,rEx ts (adv s) cLp=x:=⟨_,rfl⟩
 have HS1:=Hd hs1
 have hm1:=zAt (ts:=ts) (adv s) cLp
 rw[hs1] at hc hm1
 obtain⟨⟨cpe',s2⟩,hc2⟩:∃ x,rexF ts n s1=x:=⟨_,rfl⟩
 have HC:=Hd hc2
 rw[hc2] at hc
 dsimp only at hc
 injection hc with e1 e2
 subst e1
 have HS3:=Hd e2
 have hf1:20 * ms ts s1+14≤n:=by omega
 obtain⟨⟨tl,s4⟩,ht⟩:∃ x,rblF ts n s3=x:=⟨_,rfl⟩
 have HT:=Hd ht
 have hmt:=(rms_st (ts:=ts) n).2.2.2 s3
 rw[ht] at hq hmt
 dsimp only at hq hmt
 have hf2:20 * ms ts s3+18≤n:=by omega
 have HBL:=Hd hbl
 subst hq
 clear hbl hx hc2 hs1 e2 ht hmv hmc hm1 hmt hm h0
 have hpw:=h.lt
 have o:=(ROwn.start h 40 st0).al (.cells st0 40)
 have b:Blk ((w.alloc (.cells st0 40)).alloc (.cells st0 40)) (w.heap.size+1) 40 st0:=blk_at (by simp) _ _
 clear h
 go_enter Tryz.func41,Tryz.ntmps41
 go_wp2_with fail
 refine (zAe ts en p s 0 (by decide) wIf false HI0 _ o.s).mono ?_
 rintro e w1 ⟨rfl,hb⟩
 have hg:=zAa hb (some p)
 have hp:=o.s.keep hb
 clear hb
 replace o:=o.acc hg hp
 replace b:=b.gr hg (by omega)
 clear hg hp
 go_wp2_with fail
 refine (zAe ts en p s 0 (by decide) zBn true HI _ o.s).mono ?_
 rintro e w2 ⟨rfl,hb⟩
 have hg:=zAa hb (some p)
 have hp:=o.s.keep hb
 clear hb
 replace o:=o.acc hg hp
 replace b:=b.gr hg (by omega)
 clear hg hp
 have z0:=b.cell 0
 have y0:=b.free 0
 obtain⟨_,_,_,c1,_,_,_,f1,_,_,_,hi,hl,_⟩:=o.s.cells
 go_wp2_with fail
 clear z0 y0 c1 f1 hi hl
 replace o:=o.far (a:=⟨w.heap.size+1,0,none⟩) (by show w.heap.size < w.heap.size+1;omega) (.int .i64 4)
 replace b:Blk _ (w.heap.size+1) 40 #[.int .i64 4,.string ⟨#[]⟩,.string ⟨#[]⟩,.int .i64 0,.int .i64 0,.int .i64 0,.string ⟨#[]⟩,.int .i64 0,.slice none 0 0,.int .i64 0,.int .i64 0,.string ⟨#[]⟩,.int .i64 0,.slice none 0 0,.slice none 0 0,.slice none 0 0,.slice none 0 0]:=b.set 0 (.int .i64 4)
 obtain⟨hg,hp⟩:=radv o.s hlen
 replace o:=o.acc hg hp
 replace b:=b.gr hg (by omega)
 clear hg hp
 refine (zAc ts en p (adv s) s1 cLp HS1 _ o.s).mono ?_
 rintro e w3 ⟨rfl,hg,hp⟩
 replace o:=o.acc hg hp
 replace b:=b.gr hg (by omega)
 clear hg hp
 go_wp2_with fail
 refine (zBg ts en p n s1 _ _ HC hf1 o.s).mono ?_
 rintro e w4 ⟨k2,n2,x2,o2,A2,L2,c2,rfl,r2,hg,hp⟩
 replace r2:=r2.mono (lo':=w.heap.size+2) (by have:=b.lt;omega) (Lr _)
 replace o:=o.acc hg hp
 replace b:=b.gr hg (by omega)
 clear hg hp
 have z9:=b.cell 9
 have y9:=b.free 9
 have z10:=b.cell 10
 have y10:=b.free 10
 have z11:=b.cell 11
 have y11:=b.free 11
 have z12:=b.cell 12
 have y12:=b.free 12
 have z13:=b.cell 13
 have y13:=b.free 13
 go_wp2_with fail
 clear z9 y9 z10 y10 z11 y11 z12 y12 z13 y13
 replace o:=o.far (a:=⟨w.heap.size+1,9,none⟩) (by show w.heap.size < w.heap.size+1;omega) (.int .i64 k2)
 replace b:Blk _ (w.heap.size+1) 40 #[.int .i64 4,.string ⟨#[]⟩,.string ⟨#[]⟩,.int .i64 0,.int .i64 0,.int .i64 0,.string ⟨#[]⟩,.int .i64 0,.slice none 0 0,.int .i64 k2,.int .i64 0,.string ⟨#[]⟩,.int .i64 0,.slice none 0 0,.slice none 0 0,.slice none 0 0,.slice none 0 0]:=b.set 9 (.int .i64 k2)
 replace r2:=r2.fs (a:=⟨w.heap.size+1,9,none⟩) (by show w.heap.size+1 < w.heap.size+2;omega) (.int .i64 k2)
 replace o:=o.far (a:=⟨w.heap.size+1,10,none⟩) (by show w.heap.size < w.heap.size+1;omega) (.int .i64 n2)
 replace b:Blk _ (w.heap.size+1) 40 #[.int .i64 4,.string ⟨#[]⟩,.string ⟨#[]⟩,.int .i64 0,.int .i64 0,.int .i64 0,.string ⟨#[]⟩,.int .i64 0,.slice none 0 0,.int .i64 k2,.int .i64 n2,.string ⟨#[]⟩,.int .i64 0,.slice none 0 0,.slice none 0 0,.slice none 0 0,.slice none 0 0]:=b.set 10 (.int .i64 n2)
 replace r2:=r2.fs (a:=⟨w.heap.size+1,10,none⟩) (by show w.heap.size+1 < w.heap.size+2;omega) (.int .i64 n2)
 replace o:=o.far (a:=⟨w.heap.size+1,11,none⟩) (by show w.heap.size < w.heap.size+1;omega) (.string ⟨x2.toArray⟩)
 replace b:Blk _ (w.heap.size+1) 40 #[.int .i64 4,.string ⟨#[]⟩,.string ⟨#[]⟩,.int .i64 0,.int .i64 0,.int .i64 0,.string ⟨#[]⟩,.int .i64 0,.slice none 0 0,.int .i64 k2,.int .i64 n2,.string ⟨x2.toArray⟩,.int .i64 0,.slice none 0 0,.slice none 0 0,.slice none 0 0,.slice none 0 0]:=b.set 11 (.string ⟨x2.toArray⟩)
 replace r2:=r2.fs (a:=⟨w.heap.size+1,11,none⟩) (by show w.heap.size+1 < w.heap.size+2;omega) (.string ⟨x2.toArray⟩)
 replace o:=o.far (a:=⟨w.heap.size+1,12,none⟩) (by show w.heap.size < w.heap.size+1;omega) (.int .i64 o2)
 replace b:Blk _ (w.heap.size+1) 40 #[.int .i64 4,.string ⟨#[]⟩,.string ⟨#[]⟩,.int .i64 0,.int .i64 0,.int .i64 0,.string ⟨#[]⟩,.int .i64 0,.slice none 0 0,.int .i64 k2,.int .i64 n2,.string ⟨x2.toArray⟩,.int .i64 o2,.slice none 0 0,.slice none 0 0,.slice none 0 0,.slice none 0 0]:=b.set 12 (.int .i64 o2)
 replace r2:=r2.fs (a:=⟨w.heap.size+1,12,none⟩) (by show w.heap.size+1 < w.heap.size+2;omega) (.int .i64 o2)
 replace o:=o.far (a:=⟨w.heap.size+1,13,none⟩) (by show w.heap.size < w.heap.size+1;omega) (.slice A2 L2 c2)
 replace b:Blk _ (w.heap.size+1) 40 #[.int .i64 4,.string ⟨#[]⟩,.string ⟨#[]⟩,.int .i64 0,.int .i64 0,.int .i64 0,.string ⟨#[]⟩,.int .i64 0,.slice none 0 0,.int .i64 k2,.int .i64 n2,.string ⟨x2.toArray⟩,.int .i64 o2,.slice A2 L2 c2,.slice none 0 0,.slice none 0 0,.slice none 0 0]:=b.set 13 (.slice A2 L2 c2)
 replace r2:=r2.fs (a:=⟨w.heap.size+1,13,none⟩) (by show w.heap.size+1 < w.heap.size+2;omega) (.slice A2 L2 c2)
 refine (zAc ts en p s2 s3 cRp HS3 _ o.s).mono ?_
 rintro e w5 ⟨rfl,hg,hp⟩
 replace o:=o.acc hg hp
 replace b:=b.gr hg (by omega)
 replace r2:=r2.go hg (by omega)
 clear hg hp
 go_wp2_with fail
 refine (HBL.out s3 _ _ HT hf2 o.s).mono ?_
 rintro e w6 ⟨A4,L4,c4,rfl,r4,hg,hp⟩
 replace r4:=r4.mono keepsS (lo':=w.heap.size+2) (by have:=b.lt;omega) (Lr _)
 replace o:=o.acc hg hp
 replace b:=b.gr hg (by omega)
 replace r2:=r2.go hg (by omega)
 clear hg hp
 have z15:=b.cell 15
 have y15:=b.free 15
 go_upto_region 21 with fail
 clear z15 y15
 replace o:=o.far (a:=⟨w.heap.size+1,15,none⟩) (by show w.heap.size < w.heap.size+1;omega) (.slice A4 L4 c4)
 replace b:Blk _ (w.heap.size+1) 40 #[.int .i64 4,.string ⟨#[]⟩,.string ⟨#[]⟩,.int .i64 0,.int .i64 0,.int .i64 0,.string ⟨#[]⟩,.int .i64 0,.slice none 0 0,.int .i64 k2,.int .i64 n2,.string ⟨x2.toArray⟩,.int .i64 o2,.slice A2 L2 c2,.slice none 0 0,.slice A4 L4 c4,.slice none 0 0]:=b.set 15 (.slice A4 L4 c4)
 replace r2:=r2.fs (a:=⟨w.heap.size+1,15,none⟩) (by show w.heap.size+1 < w.heap.size+2;omega) (.slice A4 L4 c4)
 replace r4:=r4.fs keepsS (a:=⟨w.heap.size+1,15,none⟩) (by show w.heap.size+1 < w.heap.size+2;omega) (.slice A4 L4 c4)
 go_wp2_with (first | (refine wpList_load_row rfl _ _ rfl (w.heap.size+1) rfl _ _ _ _ b Tryz.underlying40 rfl zAf ?_) | (refine wpList_store_row rfl _ _ _ rfl w.heap.size #[.int .i64 4,.string ⟨#[]⟩,.string ⟨#[]⟩,.int .i64 0,.int .i64 0,.int .i64 0,.string ⟨#[]⟩,.int .i64 0,.slice none 0 0,.int .i64 k2,.int .i64 n2,.string ⟨x2.toArray⟩,.int .i64 o2,.slice A2 L2 c2,.slice none 0 0,.slice A4 L4 c4,.slice none 0 0] rfl rfl _ _ o.r zAf rfl (by simp[Value.oneCell']) ?_))
 obtain⟨hk,hx⟩:=o.fin17 (kd:=4) (nm:=[]) («to»:=[]) (num:=0) (repS_mk (repE_leaf _ _ 0 0 [] 0 none 0) (r2.mono (Nat.le_succ _) (Lr _)) (repL_nil _ _ _ _) (r4.mono keepsS (Nat.le_succ _) (Lr _)) (repL_nil _ _ _ _))
 exact bodyPost_ret (results_cell_row rfl _ _ _ _ _ _ _ rfl hk Tryz.underlying40 rfl zAf) rfl hx
theorem rst_out (ts:List Tk)(en p n:Nat)  (s:PS)(q:ST × PS)(w:World)(hq:Hid (rstF ts (n+1) s=q))(hm:20 * ms ts s+16≤n+1)(h:RSt ts en p s w)(h0:rAt ts s 0 wIf=false)(h1:rAt ts s 0 zBn=false)(hx:rAt ts s 0 wOut=true) :
 Calls Tryz.prog 41 #[.pointer (some ⟨p,0,none⟩)] w (RStP ts en p q w):=by
 have hq:=hq.out
 rw[rstF_eq] at hq
 rw[if_neg (by rw[h0];decide),if_neg (by rw[h1];decide),if_pos hx] at hq
 have HI0:=Hd h0
 have HI1:=Hd h1
 have HI:=Hd hx
 have hlen:=zAo (zBd hx)
 have hmv:=zBa hx
 obtain⟨⟨cpe,s1⟩,hc⟩:∃ x,rexF ts n (adv s)=x:=⟨_,rfl⟩
 have HC:=Hd hc
 rw[hc] at hq
 dsimp only at hq
 obtain⟨s2,hs2⟩:∃ x,rEx ts s1 zA1=x:=⟨_,rfl⟩
 have HS2:=Hd hs2
 rw[hs2] at hq
 subst hq
 have hf1:20 * ms ts (adv s)+14≤n:=by omega
 clear h0 h1 hx hc hs2 hmv hm
 have hpw:=h.lt
 have o:=(ROwn.start h 40 st0).al (.cells st0 40)
 have b:Blk ((w.alloc (.cells st0 40)).alloc (.cells st0 40)) (w.heap.size+1) 40 st0:=blk_at (by simp) _ _
 clear h
 go_enter Tryz.func41,Tryz.ntmps41
 go_wp2_with fail
 refine (zAe ts en p s 0 (by decide) wIf false HI0 _ o.s).mono ?_
 rintro e w1 ⟨rfl,hb⟩
 have hg:=zAa hb (some p)
 have hp:=o.s.keep hb
 clear hb
 replace o:=o.acc hg hp
 replace b:=b.gr hg (by omega)
 clear hg hp
 go_wp2_with fail
 refine (zAe ts en p s 0 (by decide) zBn false HI1 _ o.s).mono ?_
 rintro e w2 ⟨rfl,hb⟩
 have hg:=zAa hb (some p)
 have hp:=o.s.keep hb
 clear hb
 replace o:=o.acc hg hp
 replace b:=b.gr hg (by omega)
 clear hg hp
 go_wp2_with fail
 refine (zAe ts en p s 0 (by decide) wOut true HI _ o.s).mono ?_
 rintro e w3 ⟨rfl,hb⟩
 have hg:=zAa hb (some p)
 have hp:=o.s.keep hb
 clear hb
 replace o:=o.acc hg hp
 replace b:=b.gr hg (by omega)
 clear hg hp
 have z0:=b.cell 0
 have y0:=b.free 0
 obtain⟨_,_,_,c1,_,_,_,f1,_,_,_,hi,hl,_⟩:=o.s.cells
 go_wp2_with fail
 clear z0 y0 c1 f1 hi hl
 replace o:=o.far (a:=⟨w.heap.size+1,0,none⟩) (by show w.heap.size < w.heap.size+1;omega) (.int .i64 5)
 replace b:Blk _ (w.heap.size+1) 40 #[.int .i64 5,.string ⟨#[]⟩,.string ⟨#[]⟩,.int .i64 0,.int .i64 0,.int .i64 0,.string ⟨#[]⟩,.int .i64 0,.slice none 0 0,.int .i64 0,.int .i64 0,.string ⟨#[]⟩,.int .i64 0,.slice none 0 0,.slice none 0 0,.slice none 0 0,.slice none 0 0]:=b.set 0 (.int .i64 5)
 obtain⟨hg,hp⟩:=radv o.s hlen
 replace o:=o.acc hg hp
 replace b:=b.gr hg (by omega)
 clear hg hp
 refine (zBg ts en p n (adv s) _ _ HC hf1 o.s).mono ?_
 rintro e w4 ⟨k2,n2,x2,o2,A2,L2,c2,rfl,r2,hg,hp⟩
 replace r2:=r2.mono (lo':=w.heap.size+2) (by have:=b.lt;omega) (Lr _)
 replace o:=o.acc hg hp
 replace b:=b.gr hg (by omega)
 clear hg hp
 have z9:=b.cell 9
 have y9:=b.free 9
 have z10:=b.cell 10
 have y10:=b.free 10
 have z11:=b.cell 11
 have y11:=b.free 11
 have z12:=b.cell 12
 have y12:=b.free 12
 have z13:=b.cell 13
 have y13:=b.free 13
 go_wp2_with fail
 clear z9 y9 z10 y10 z11 y11 z12 y12 z13 y13
 replace o:=o.far (a:=⟨w.heap.size+1,9,none⟩) (by show w.heap.size < w.heap.size+1;omega) (.int .i64 k2)
 replace b:Blk _ (w.heap.size+1) 40 #[.int .i64 5,.string ⟨#[]⟩,.string ⟨#[]⟩,.int .i64 0,.int .i64 0,.int .i64 0,.string ⟨#[]⟩,.int .i64 0,.slice none 0 0,.int .i64 k2,.int .i64 0,.string ⟨#[]⟩,.int .i64 0,.slice none 0 0,.slice none 0 0,.slice none 0 0,.slice none 0 0]:=b.set 9 (.int .i64 k2)
 replace r2:=r2.fs (a:=⟨w.heap.size+1,9,none⟩) (by show w.heap.size+1 < w.heap.size+2;omega) (.int .i64 k2)
 replace o:=o.far (a:=⟨w.heap.size+1,10,none⟩) (by show w.heap.size < w.heap.size+1;omega) (.int .i64 n2)
 replace b:Blk _ (w.heap.size+1) 40 #[.int .i64 5,.string ⟨#[]⟩,.string ⟨#[]⟩,.int .i64 0,.int .i64 0,.int .i64 0,.string ⟨#[]⟩,.int .i64 0,.slice none 0 0,.int .i64 k2,.int .i64 n2,.string ⟨#[]⟩,.int .i64 0,.slice none 0 0,.slice none 0 0,.slice none 0 0,.slice none 0 0]:=b.set 10 (.int .i64 n2)
 replace r2:=r2.fs (a:=⟨w.heap.size+1,10,none⟩) (by show w.heap.size+1 < w.heap.size+2;omega) (.int .i64 n2)
 replace o:=o.far (a:=⟨w.heap.size+1,11,none⟩) (by show w.heap.size < w.heap.size+1;omega) (.string ⟨x2.toArray⟩)
 replace b:Blk _ (w.heap.size+1) 40 #[.int .i64 5,.string ⟨#[]⟩,.string ⟨#[]⟩,.int .i64 0,.int .i64 0,.int .i64 0,.string ⟨#[]⟩,.int .i64 0,.slice none 0 0,.int .i64 k2,.int .i64 n2,.string ⟨x2.toArray⟩,.int .i64 0,.slice none 0 0,.slice none 0 0,.slice none 0 0,.slice none 0 0]:=b.set 11 (.string ⟨x2.toArray⟩)
 replace r2:=r2.fs (a:=⟨w.heap.size+1,11,none⟩) (by show w.heap.size+1 < w.heap.size+2;omega) (.string ⟨x2.toArray⟩)
 replace o:=o.far (a:=⟨w.heap.size+1,12,none⟩) (by show w.heap.size < w.heap.size+1;omega) (.int .i64 o2)
 replace b:Blk _ (w.heap.size+1) 40 #[.int .i64 5,.string ⟨#[]⟩,.string ⟨#[]⟩,.int .i64 0,.int .i64 0,.int .i64 0,.string ⟨#[]⟩,.int .i64 0,.slice none 0 0,.int .i64 k2,.int .i64 n2,.string ⟨x2.toArray⟩,.int .i64 o2,.slice none 0 0,.slice none 0 0,.slice none 0 0,.slice none 0 0]:=b.set 12 (.int .i64 o2)
 replace r2:=r2.fs (a:=⟨w.heap.size+1,12,none⟩) (by show w.heap.size+1 < w.heap.size+2;omega) (.int .i64 o2)
 replace o:=o.far (a:=⟨w.heap.size+1,13,none⟩) (by show w.heap.size < w.heap.size+1;omega) (.slice A2 L2 c2)
 replace b:Blk _ (w.heap.size+1) 40 #[.int .i64 5,.string ⟨#[]⟩,.string ⟨#[]⟩,.int .i64 0,.int .i64 0,.int .i64 0,.string ⟨#[]⟩,.int .i64 0,.slice none 0 0,.int .i64 k2,.int .i64 n2,.string ⟨x2.toArray⟩,.int .i64 o2,.slice A2 L2 c2,.slice none 0 0,.slice none 0 0,.slice none 0 0]:=b.set 13 (.slice A2 L2 c2)
 replace r2:=r2.fs (a:=⟨w.heap.size+1,13,none⟩) (by show w.heap.size+1 < w.heap.size+2;omega) (.slice A2 L2 c2)
 refine (zAc ts en p s1 s2 zA1 HS2 _ o.s).mono ?_
 rintro e w5 ⟨rfl,hg,hp⟩
 replace o:=o.acc hg hp
 replace b:=b.gr hg (by omega)
 replace r2:=r2.go hg (by omega)
 clear hg hp
 go_wp2_with (first | (refine wpList_load_row rfl _ _ rfl (w.heap.size+1) rfl _ _ _ _ b Tryz.underlying40 rfl zAf ?_) | (refine wpList_store_row rfl _ _ _ rfl w.heap.size #[.int .i64 5,.string ⟨#[]⟩,.string ⟨#[]⟩,.int .i64 0,.int .i64 0,.int .i64 0,.string ⟨#[]⟩,.int .i64 0,.slice none 0 0,.int .i64 k2,.int .i64 n2,.string ⟨x2.toArray⟩,.int .i64 o2,.slice A2 L2 c2,.slice none 0 0,.slice none 0 0,.slice none 0 0] rfl rfl _ _ o.r zAf rfl (by simp[Value.oneCell']) ?_))
 obtain⟨hk,hx⟩:=o.fin17 (kd:=5) (nm:=[]) («to»:=[]) (num:=0) (repS_mk (repE_leaf _ _ 0 0 [] 0 none 0) (r2.mono (Nat.le_succ _) (Lr _)) (repL_nil _ _ _ _) (repL_nil _ _ _ _) (repL_nil _ _ _ _))
 exact bodyPost_ret (results_cell_row rfl _ _ _ _ _ _ _ rfl hk Tryz.underlying40 rfl zAf) rfl hx
theorem rst_trap (ts:List Tk)(en p n:Nat)  (s:PS)(q:ST × PS)(w:World)(hq:Hid (rstF ts (n+1) s=q))(hm:20 * ms ts s+16≤n+1)(h:RSt ts en p s w)(h0:rAt ts s 0 wIf=false)(h1:rAt ts s 0 zBn=false)(h2:rAt ts s 0 wOut=false)(hx:rAt ts s 0 wTrap=true) :
 Calls Tryz.prog 41 #[.pointer (some ⟨p,0,none⟩)] w (RStP ts en p q w):=by
 have hq:=hq.out
 rw[rstF_eq] at hq
 rw[if_neg (by rw[h0];decide),if_neg (by rw[h1];decide),if_neg (by rw[h2];decide),if_pos hx] at hq
 have HI0:=Hd h0
 have HI1:=Hd h1
 have HI2:=Hd h2
 have HI:=Hd hx
 have hlen:=zAo (zBd hx)
 obtain⟨num,hv⟩:∃ x,rSmV ts (adv s)=x:=⟨_,rfl⟩
 obtain⟨s1,hs1⟩:∃ x,rSmS ts (adv s)=x:=⟨_,rfl⟩
 have HV:=Hd hv
 have HS1:=Hd hs1
 rw[hv,hs1] at hq
 obtain⟨s2,hs2⟩:∃ x,rEx ts s1 zA1=x:=⟨_,rfl⟩
 have HS2:=Hd hs2
 rw[hs2] at hq
 subst hq
 have _:=hm
 clear h0 h1 h2 hx hv hs1 hs2
 have hpw:=h.lt
 have o:=(ROwn.start h 40 st0).al (.cells st0 40)
 have b:Blk ((w.alloc (.cells st0 40)).alloc (.cells st0 40)) (w.heap.size+1) 40 st0:=blk_at (by simp) _ _
 clear h
 go_enter Tryz.func41,Tryz.ntmps41
 go_wp2_with fail
 refine (zAe ts en p s 0 (by decide) wIf false HI0 _ o.s).mono ?_
 rintro e w1 ⟨rfl,hb⟩
 have hg:=zAa hb (some p)
 have hp:=o.s.keep hb
 clear hb
 replace o:=o.acc hg hp
 replace b:=b.gr hg (by omega)
 clear hg hp
 go_wp2_with fail
 refine (zAe ts en p s 0 (by decide) zBn false HI1 _ o.s).mono ?_
 rintro e w2 ⟨rfl,hb⟩
 have hg:=zAa hb (some p)
 have hp:=o.s.keep hb
 clear hb
 replace o:=o.acc hg hp
 replace b:=b.gr hg (by omega)
 clear hg hp
 go_wp2_with fail
 refine (zAe ts en p s 0 (by decide) wOut false HI2 _ o.s).mono ?_
 rintro e w3 ⟨rfl,hb⟩
 have hg:=zAa hb (some p)
 have hp:=o.s.keep hb
 clear hb
 replace o:=o.acc hg hp
 replace b:=b.gr hg (by omega)
 clear hg hp
 go_wp2_with fail
 refine (zAe ts en p s 0 (by decide) wTrap true HI _ o.s).mono ?_
 rintro e w4 ⟨rfl,hb⟩
 have hg:=zAa hb (some p)
 have hp:=o.s.keep hb
 clear hb
 replace o:=o.acc hg hp
 replace b:=b.gr hg (by omega)
 clear hg hp
 have z0:=b.cell 0
 have y0:=b.free 0
 obtain⟨_,_,_,c1,_,_,_,f1,_,_,_,hi,hl,_⟩:=o.s.cells
 go_wp2_with fail
 clear z0 y0 c1 f1 hi hl
 replace o:=o.far (a:=⟨w.heap.size+1,0,none⟩) (by show w.heap.size < w.heap.size+1;omega) (.int .i64 7)
 replace b:Blk _ (w.heap.size+1) 40 #[.int .i64 7,.string ⟨#[]⟩,.string ⟨#[]⟩,.int .i64 0,.int .i64 0,.int .i64 0,.string ⟨#[]⟩,.int .i64 0,.slice none 0 0,.int .i64 0,.int .i64 0,.string ⟨#[]⟩,.int .i64 0,.slice none 0 0,.slice none 0 0,.slice none 0 0,.slice none 0 0]:=b.set 0 (.int .i64 7)
 obtain⟨hg,hp⟩:=radv o.s hlen
 replace o:=o.acc hg hp
 replace b:=b.gr hg (by omega)
 clear hg hp
 refine (rsmall_any ts en p (adv s) s1 num HV HS1 _ o.s).mono ?_
 rintro e w5 ⟨rfl,hg,hp⟩
 replace o:=o.acc hg hp
 replace b:=b.gr hg (by omega)
 clear hg hp
 have z3:=b.cell 3
 have y3:=b.free 3
 go_wp2_with fail
 clear z3 y3
 replace o:=o.far (a:=⟨w.heap.size+1,3,none⟩) (by show w.heap.size < w.heap.size+1;omega) (.int .i64 num)
 replace b:Blk _ (w.heap.size+1) 40 #[.int .i64 7,.string ⟨#[]⟩,.string ⟨#[]⟩,.int .i64 num,.int .i64 0,.int .i64 0,.string ⟨#[]⟩,.int .i64 0,.slice none 0 0,.int .i64 0,.int .i64 0,.string ⟨#[]⟩,.int .i64 0,.slice none 0 0,.slice none 0 0,.slice none 0 0,.slice none 0 0]:=b.set 3 (.int .i64 num)
 refine (zAc ts en p s1 s2 zA1 HS2 _ o.s).mono ?_
 rintro e w6 ⟨rfl,hg,hp⟩
 replace o:=o.acc hg hp
 replace b:=b.gr hg (by omega)
 clear hg hp
 go_wp2_with (first | (refine wpList_load_row rfl _ _ rfl (w.heap.size+1) rfl _ _ _ _ b Tryz.underlying40 rfl zAf ?_) | (refine wpList_store_row rfl _ _ _ rfl w.heap.size #[.int .i64 7,.string ⟨#[]⟩,.string ⟨#[]⟩,.int .i64 num,.int .i64 0,.int .i64 0,.string ⟨#[]⟩,.int .i64 0,.slice none 0 0,.int .i64 0,.int .i64 0,.string ⟨#[]⟩,.int .i64 0,.slice none 0 0,.slice none 0 0,.slice none 0 0,.slice none 0 0] rfl rfl _ _ o.r zAf rfl (by simp[Value.oneCell']) ?_))
 obtain⟨hk,hx⟩:=o.fin17 (kd:=7) (nm:=[]) («to»:=[]) (num:=num) (repS_mk (repE_leaf _ _ 0 0 [] 0 none 0) (repE_leaf _ _ 0 0 [] 0 none 0) (repL_nil _ _ _ _) (repL_nil _ _ _ _) (repL_nil _ _ _ _))
 exact bodyPost_ret (results_cell_row rfl _ _ _ _ _ _ _ rfl hk Tryz.underlying40 rfl zAf) rfl hx
theorem rst_other (ts:List Tk)(en p n:Nat)(hag:RWAg ts en p n)(s:PS)(q:ST × PS)(w:World)(hq:Hid (rstF ts (n+1) s=q))(hm:20 * ms ts s+16≤n+1)(h:RSt ts en p s w)(h0:rAt ts s 0 wIf=false)(h1:rAt ts s 0 zBn=false)(h2:rAt ts s 0 wOut=false)(h3:rAt ts s 0 wTrap=false) :
 Calls Tryz.prog 41 #[.pointer (some ⟨p,0,none⟩)] w (RStP ts en p q w):=by
 have hq:=hq.out
 rw[rstF_eq] at hq
 rw[if_neg (by rw[h0];decide),if_neg (by rw[h1];decide),if_neg (by rw[h2];decide),if_neg (by rw[h3];decide)] at hq
 have HI0:=Hd h0
 have HI1:=Hd h1
 have HI2:=Hd h2
 have HI3:=Hd h3
 have HAG:=Hd hag
 obtain⟨⟨st,s1⟩,hc⟩:∃ x,ragF ts n s=x:=⟨_,rfl⟩
 have HC:=Hd hc
 rw[hc] at hq
 dsimp only at hq
 obtain⟨s2,hs2⟩:∃ x,rEx ts s1 zA1=x:=⟨_,rfl⟩
 have HS2:=Hd hs2
 rw[hs2] at hq
 subst hq
 have hf1:20 * ms ts s+15≤n:=by omega
 clear h0 h1 h2 h3 hc hs2 hm hag
 have hpw:=h.lt
 have o:=(ROwn.start h 40 st0).al (.cells st0 40)
 have b:Blk ((w.alloc (.cells st0 40)).alloc (.cells st0 40)) (w.heap.size+1) 40 st0:=blk_at (by simp) _ _
 clear h
 go_enter Tryz.func41,Tryz.ntmps41
 go_wp2_with fail
 refine (zAe ts en p s 0 (by decide) wIf false HI0 _ o.s).mono ?_
 rintro e w1 ⟨rfl,hb⟩
 have hg:=zAa hb (some p)
 have hp:=o.s.keep hb
 clear hb
 replace o:=o.acc hg hp
 replace b:=b.gr hg (by omega)
 clear hg hp
 go_wp2_with fail
 refine (zAe ts en p s 0 (by decide) zBn false HI1 _ o.s).mono ?_
 rintro e w2 ⟨rfl,hb⟩
 have hg:=zAa hb (some p)
 have hp:=o.s.keep hb
 clear hb
 replace o:=o.acc hg hp
 replace b:=b.gr hg (by omega)
 clear hg hp
 go_wp2_with fail
 refine (zAe ts en p s 0 (by decide) wOut false HI2 _ o.s).mono ?_
 rintro e w3 ⟨rfl,hb⟩
 have hg:=zAa hb (some p)
 have hp:=o.s.keep hb
 clear hb
 replace o:=o.acc hg hp
 replace b:=b.gr hg (by omega)
 clear hg hp
 go_wp2_with fail
 refine (zAe ts en p s 0 (by decide) wTrap false HI3 _ o.s).mono ?_
 rintro e w4 ⟨rfl,hb⟩
 have hg:=zAa hb (some p)
 have hp:=o.s.keep hb
 clear hb
 replace o:=o.acc hg hp
 replace b:=b.gr hg (by omega)
 clear hg hp
 go_wp2_with fail
 refine (HAG.out s _ _ HC hf1 o.s).mono ?_
 rintro e w9 ⟨kd,nm,«to»,num,k1,n1,x1,o1,A1,L1,c1,k2,n2,x2,o2,A2,L2,c2,A3,L3,c3,A4,L4,c4,A5,L5,c5,rfl,hr,hg,hp⟩
 have HR0:=hr.mono (lo':=w.heap.size+2) (by have:=b.lt;omega) (Lr _)
 clear hr
 replace o:=o.acc hg hp
 replace b:=b.gr hg (by omega)
 clear hg hp
 go_wp2_with (refine wpList_store_row rfl _ _ _ rfl (w.heap.size+1) #[.int .i64 kd,.string ⟨nm.toArray⟩,.string ⟨«to».toArray⟩,.int .i64 num,.int .i64 k1,.int .i64 n1,.string ⟨x1.toArray⟩,.int .i64 o1,.slice A1 L1 c1,.int .i64 k2,.int .i64 n2,.string ⟨x2.toArray⟩,.int .i64 o2,.slice A2 L2 c2,.slice A3 L3 c3,.slice A4 L4 c4,.slice A5 L5 c5] rfl rfl _ _ b zAf rfl (by simp[Value.oneCell']) ?_)
 have hb2:Blk (w9.setRow (w.heap.size+1) #[.int .i64 kd,.string ⟨nm.toArray⟩,.string ⟨«to».toArray⟩,.int .i64 num,.int .i64 k1,.int .i64 n1,.string ⟨x1.toArray⟩,.int .i64 o1,.slice A1 L1 c1,.int .i64 k2,.int .i64 n2,.string ⟨x2.toArray⟩,.int .i64 o2,.slice A2 L2 c2,.slice A3 L3 c3,.slice A4 L4 c4,.slice A5 L5 c5]) (w.heap.size+1) 40 #[.int .i64 kd,.string ⟨nm.toArray⟩,.string ⟨«to».toArray⟩,.int .i64 num,.int .i64 k1,.int .i64 n1,.string ⟨x1.toArray⟩,.int .i64 o1,.slice A1 L1 c1,.int .i64 k2,.int .i64 n2,.string ⟨x2.toArray⟩,.int .i64 o2,.slice A2 L2 c2,.slice A3 L3 c3,.slice A4 L4 c4,.slice A5 L5 c5]:=zBc b _
 have hg:w9.grownBy (w9.setRow (w.heap.size+1) #[.int .i64 kd,.string ⟨nm.toArray⟩,.string ⟨«to».toArray⟩,.int .i64 num,.int .i64 k1,.int .i64 n1,.string ⟨x1.toArray⟩,.int .i64 o1,.slice A1 L1 c1,.int .i64 k2,.int .i64 n2,.string ⟨x2.toArray⟩,.int .i64 o2,.slice A2 L2 c2,.slice A3 L3 c3,.slice A4 L4 c4,.slice A5 L5 c5]) (some (w.heap.size+1)):=⟨rfl,rfl,rfl,by rw[zBm];exact Lr _,fun i _ hne=>zBi _ _ _ i (fun e=>hne (by rw[e]))⟩
 have o2':ROwn ts en p s1 40 st0 w (w9.setRow (w.heap.size+1) #[.int .i64 kd,.string ⟨nm.toArray⟩,.string ⟨«to».toArray⟩,.int .i64 num,.int .i64 k1,.int .i64 n1,.string ⟨x1.toArray⟩,.int .i64 o1,.slice A1 L1 c1,.int .i64 k2,.int .i64 n2,.string ⟨x2.toArray⟩,.int .i64 o2,.slice A2 L2 c2,.slice A3 L3 c3,.slice A4 L4 c4,.slice A5 L5 c5]):=⟨zBf o.g (Nat.le_succ _) _,row_rst o.s (by omega) _,(zBi _ _ _ _ (by omega)).trans o.r,o.p⟩
 have hr2:=HR0.keep (w':=w9.setRow (w.heap.size+1) #[.int .i64 kd,.string ⟨nm.toArray⟩,.string ⟨«to».toArray⟩,.int .i64 num,.int .i64 k1,.int .i64 n1,.string ⟨x1.toArray⟩,.int .i64 o1,.slice A1 L1 c1,.int .i64 k2,.int .i64 n2,.string ⟨x2.toArray⟩,.int .i64 o2,.slice A2 L2 c2,.slice A3 L3 c3,.slice A4 L4 c4,.slice A5 L5 c5]) (fun g h=>(⟨h.1,by rw[zBm];exact h.2⟩:Rg (w.heap.size+2) (w9.setRow (w.heap.size+1) #[.int .i64 kd,.string ⟨nm.toArray⟩,.string ⟨«to».toArray⟩,.int .i64 num,.int .i64 k1,.int .i64 n1,.string ⟨x1.toArray⟩,.int .i64 o1,.slice A1 L1 c1,.int .i64 k2,.int .i64 n2,.string ⟨x2.toArray⟩,.int .i64 o2,.slice A2 L2 c2,.slice A3 L3 c3,.slice A4 L4 c4,.slice A5 L5 c5]).heap.size g)) (fun g h=>zBi _ _ _ _ (by have:=h.1;omega))
 generalize w9.setRow (w.heap.size+1) #[.int .i64 kd,.string ⟨nm.toArray⟩,.string ⟨«to».toArray⟩,.int .i64 num,.int .i64 k1,.int .i64 n1,.string ⟨x1.toArray⟩,.int .i64 o1,.slice A1 L1 c1,.int .i64 k2,.int .i64 n2,.string ⟨x2.toArray⟩,.int .i64 o2,.slice A2 L2 c2,.slice A3 L3 c3,.slice A4 L4 c4,.slice A5 L5 c5]=wz at *
 clear o b HR0 hg
 refine (zAc ts en p s1 s2 zA1 HS2 _ o2'.s).mono ?_
 rintro e wf ⟨rfl,hg,hp⟩
 have o:=o2'.acc hg hp
 have b:=hb2.gr hg (by omega)
 have hr3:=hr2.keep (w':=wf) (fun g h=>(⟨Nat.le_trans (Nat.le_succ _) h.1,Ll h.2 hg.size⟩:Rg (w.heap.size+1) wf.heap.size g)) (fun g h=>hg.block g h.2 (by intro e;injection e with e;have:=h.1;omega))
 clear hg hp
 go_wp2_with (first | (refine wpList_load_row rfl _ _ rfl (w.heap.size+1) rfl _ _ _ _ b Tryz.underlying40 rfl zAf ?_) | (refine wpList_store_row rfl _ _ _ rfl w.heap.size #[.int .i64 kd,.string ⟨nm.toArray⟩,.string ⟨«to».toArray⟩,.int .i64 num,.int .i64 k1,.int .i64 n1,.string ⟨x1.toArray⟩,.int .i64 o1,.slice A1 L1 c1,.int .i64 k2,.int .i64 n2,.string ⟨x2.toArray⟩,.int .i64 o2,.slice A2 L2 c2,.slice A3 L3 c3,.slice A4 L4 c4,.slice A5 L5 c5] rfl rfl _ _ o.r zAf rfl (by simp[Value.oneCell']) ?_))
 obtain⟨hk,hx⟩:=o.fin17 hr3
 exact bodyPost_ret (results_cell_row rfl _ _ _ _ _ _ _ rfl hk Tryz.underlying40 rfl zAf) rfl hx
theorem rstmt_step (ts:List Tk)(en p n:Nat)(hbl:RWBl ts en p n)(hag:RWAg ts en p n):RWSt ts en p (n+1):=by
 intro s q w hq hm h
 cases h0:rAt ts s 0 wIf with
 | true=>exact rst_if ts en p n hbl s q w hq hm h h0
 | false =>
  cases h1:rAt ts s 0 zBn with
  | true=>exact rst_while ts en p n hbl s q w hq hm h h0 h1
  | false =>
   cases h2:rAt ts s 0 wOut with
   | true=>exact rst_out ts en p n s q w hq hm h h0 h1 h2
   | false =>
    cases h3:rAt ts s 0 wTrap with
    | true=>exact rst_trap ts en p n s q w hq hm h h0 h1 h2 h3
    | false=>exact rst_other ts en p n hag s q w hq hm h h0 h1 h2 h3
end Go.Proofs.YtpgnlfdindmopaaGreatDoor
