/- Words and walks for the laws of the interpreter. -/
import Derived.Test.YtpgnlfdindmopaaGreatDoorI3
namespace Go.Proofs.YtpgnlfdindmopaaGreatDoor
open Go.RowKit (wrap64 intOf)
open Go Go.RowKit WM LX PX CX IX
set_option maxRecDepth 100000
set_option maxHeartbeats 4000000
def unR (op:Int):Rs→Rs
 | .trap c=>.trap c
 | .val x=>.val (unF op x)
theorem iv_op_1 (g:Nat)(ih:EvC g){K:Cf}(hK:CfOK K){o:Option Nat}{m:MS}{Vs:IX.Vs}{V c:Nat}{n:Int}{nm:List UInt8}{op:Int}{kids:List PE}{cs:List Value}{w:World}
 {a:PE} {ra:Rs} (hl1:kids.length=1) (ha:kids[0]?=some a) (hra:evE g Vs m.C a=some ra) (hE:RepE w K.ok (.mk 4 n nm op kids) cs) (hM:MSt K o m w) (hV:VMp K o V c Vs w) :
 Calls Tryz.prog 89 #[acV K.R V,.agg cs.toArray] w (EvP K m.out (unR op ra) w):=by
 obtain⟨A,cc,rfl,hkid⟩:=zCo hE
 obtain⟨gb0,k0,n0,x0,o0,A0,L0,c0,hA0,hok0,hrep0,q00,q01,q02,q03,q04⟩:=hkid 0 a ha
 obtain rfl:=hA0
 have hsz:=hM.size hK
 have hgb:gb0 < w.heap.size:=Ll (hK.ok gb0 hok0) hsz
 have hRlt:K.R < w.heap.size:=hM.lt _ (Or.inl rfl)
 have hgR:gb0≠K.R:=fun e=>by have h1:=hK.ok _ hok0;have h2:=hK.r;omega
 have hlen0:0 < kids.length:=(Gs.1 ha).1
 obtain⟨W2,hW2⟩:∃ W2,(w.alloc (.cells #[.pointer (some ⟨K.R,0,none⟩),.map (some V)] 114)).alloc (.cells #[.int .i64 4,.int .i64 n,.string ⟨nm.toArray⟩,.int .i64 op,.slice (some ⟨gb0,0,none⟩) kids.length cc] 36)=W2:=⟨_,rfl⟩
 have hb2:Below w.heap.size w W2:=by rw[←hW2];exact ((Below.refl _ _).alloc (Lr _) _).alloc (by simp) _
 have j1:Blk W2 w.heap.size 114 #[.pointer (some ⟨K.R,0,none⟩),.map (some V)]:=by rw[←hW2];exact (Blk.new _ _ _).alloc _
 have j2:Blk W2 (w.heap.size+1) 36 #[.int .i64 4,.int .i64 n,.string ⟨nm.toArray⟩,.int .i64 op,.slice (some ⟨gb0,0,none⟩) kids.length cc]:=by rw[←hW2];exact blk_at (by simp) _ _
 have hc0:∀ W,Below W2.heap.size W2 W→Calls Tryz.prog 50 #[acV K.R V,.agg #[.int .i64 k0,.int .i64 n0,.string ⟨x0.toArray⟩,.int .i64 o0,.slice A0 L0 c0]] W (EvP K m.out ra W):=fun W hW=>by
  have hbW:Below w.heap.size w W:=hb2.trans (below_down hW hb2.size)
  exact ih K o m Vs V c a ra _ W hK hra (hrep0.keep (fun _ h=>h) (fun i hi=>hbW.block i (Ll (hK.ok i hi) hsz))) (hM.low hK hbW) (hV.low hbW)
 have z00:W2.cell? ⟨gb0,0,none⟩=some (.int .i64 k0):=(hb2.cell (p:=⟨gb0,0,none⟩) hgb).trans q00
 have z01:W2.cell? ⟨gb0,1,none⟩=some (.int .i64 n0):=(hb2.cell (p:=⟨gb0,1,none⟩) hgb).trans q01
 have z02:W2.cell? ⟨gb0,2,none⟩=some (.string ⟨x0.toArray⟩):=(hb2.cell (p:=⟨gb0,2,none⟩) hgb).trans q02
 have z03:W2.cell? ⟨gb0,3,none⟩=some (.int .i64 o0):=(hb2.cell (p:=⟨gb0,3,none⟩) hgb).trans q03
 have z04:W2.cell? ⟨gb0,4,none⟩=some (.slice A0 L0 c0):=(hb2.cell (p:=⟨gb0,4,none⟩) hgb).trans q04
 have hMW:∀ W,Below w.heap.size w W→MSt K o m W:=fun W hW=>hM.low hK hW
 have htr:∀ W,Below w.heap.size w W→∀ c,Calls Tryz.prog 133 #[.pointer (some ⟨K.R,0,none⟩),.int .i64 c] W (fun e w'=>e=.returned (.bool false)∧EndW K 2 c m.out W w'∧W.grownBy w' (some K.R)):=fun W hW c=>zCx hK (hM.low hK hW) c
 obtain⟨L,hL⟩:∃ L,kids.length=L:=⟨_,rfl⟩
 obtain⟨sx,hsx⟩:∃ sx:ByteArray,(⟨nm.toArray⟩:ByteArray)=sx:=⟨_,rfl⟩
 obtain⟨s0,hs0⟩:∃ sx:ByteArray,(⟨x0.toArray⟩:ByteArray)=sx:=⟨_,rfl⟩
 rw[hs0] at hc0 z02
 obtain⟨R,hRR⟩:∃ R,K.R=R:=⟨_,rfl⟩
 show Calls Tryz.prog 89 #[acV K.R V,.agg #[.int .i64 4,.int .i64 n,.string ⟨nm.toArray⟩,.int .i64 op,.slice (some ⟨gb0,0,none⟩) kids.length cc]] w _
 rw[hL] at hlen0 hW2 j2 hl1 ⊢
 rw[hsx] at hW2 j2 ⊢
 rw[hRR] at hW2 j1 hc0 htr hRlt hgR ⊢
 obtain⟨u0,u1,_,_⟩:=j1.cells2
 have v2:W2.cell? ⟨w.heap.size+1,2,none⟩=some (.string sx):=j2.cell 2
 have v3:W2.cell? ⟨w.heap.size+1,3,none⟩=some (.int .i64 op):=j2.cell 3
 have v4:W2.cell? ⟨w.heap.size+1,4,none⟩=some (.slice (some ⟨gb0,0,none⟩) L cc):=j2.cell 4
 subst hl1
 have HC0:=Hd hc0
 have HW:=Hd (Ai hW2 (Ai hb2 (Ai hsz (Ai htr (Ai j1.lt (Ai j2.lt (Ai hMW (Ai hsx hRR))))))))
 clear hc0 hrep0 hok0 hs0 q00 q01 q02 q03 q04 ha hra hW2 hb2 hsz htr hMW j1 j2 hM hV hE hkid hL hsx hRR
 go_enter Tryz.func89,Tryz.ntmps89
 go_wp2_with fail
 rw[HW.out.1]
 go_region_held3 (fun w'=>w'.cell? ⟨gb0,0,none⟩=some (.int .i64 k0)∧w'.cell? ⟨gb0,1,none⟩=some (.int .i64 n0)∧w'.cell? ⟨gb0,2,none⟩=some (.string s0)∧w'.cell? ⟨gb0,3,none⟩=some (.int .i64 o0)∧w'.cell? ⟨gb0,4,none⟩=some (.slice A0 L0 c0)∧w'.cell? ⟨w.heap.size,0,none⟩=some (.pointer (some ⟨R,0,none⟩))∧w'.cell? ⟨w.heap.size,1,none⟩=some (.map (some V))∧w'.cell? ⟨w.heap.size+1,4,none⟩=some (.slice (some ⟨gb0,0,none⟩) 1 cc)) (first | exact⟨z00,z01,z02,z03,z04,u0,u1,v4⟩ | exact⟨e0,e1,e2,e3,e4,e5,e6,e7⟩)
  ((go_at_call 50;((with_reducible refine (HC0.out _ ?_).mono ?_));rotate_left;(rintro e w3 h3;obtain⟨n3,b3,rfl,h3⟩:=zA3 h3;have h3:EvP K m.out ra W2 (.returned (.tuple #[.int .i64 n3,.bool b3])) w3:=h3.world id id id rfl;have e0:=(h3.at (b:=gb0) (i:=0) (Ll hgb HW.out.2.1.size) (HW.out.2.2.2.2.2.2.2.2 ▸ hgR)).trans z00;have e1:=(h3.at (b:=gb0) (i:=1) (Ll hgb HW.out.2.1.size) (HW.out.2.2.2.2.2.2.2.2 ▸ hgR)).trans z01;have e2:=(h3.at (b:=gb0) (i:=2) (Ll hgb HW.out.2.1.size) (HW.out.2.2.2.2.2.2.2.2 ▸ hgR)).trans z02;have e3:=(h3.at (b:=gb0) (i:=3) (Ll hgb HW.out.2.1.size) (HW.out.2.2.2.2.2.2.2.2 ▸ hgR)).trans z03;have e4:=(h3.at (b:=gb0) (i:=4) (Ll hgb HW.out.2.1.size) (HW.out.2.2.2.2.2.2.2.2 ▸ hgR)).trans z04;have e5:=(h3.at (b:=w.heap.size) (i:=0) HW.out.2.2.2.2.1 (HW.out.2.2.2.2.2.2.2.2 ▸ (Nat.ne_of_gt hRlt))).trans u0;have e6:=(h3.at (b:=w.heap.size) (i:=1) HW.out.2.2.2.2.1 (HW.out.2.2.2.2.2.2.2.2 ▸ (Nat.ne_of_gt hRlt))).trans u1;have e7:=(h3.at (b:=w.heap.size+1) (i:=4) HW.out.2.2.2.2.2.1 (HW.out.2.2.2.2.2.2.2.2 ▸ (Nat.ne_of_gt (Nat.lt_succ_of_lt hRlt)))).trans v4);rotate_left;(first | exact Below.refl _ _ | exact below_drewN (Below.refl _ _) _)))
 have HA:=Hd h3
 clear h3
 cases ra with
 | trap ct =>
  obtain⟨hx,hend,hgr⟩:=HA.out
  obtain⟨rfl,rfl⟩:n3=0∧b3=false:=by injection hx with hx;injection hx with hx;simp at hx;exact hx
  have HE:=Hd (Ai hend hgr)
  clear hx hend hgr HA
  go_wp2_with fail
  go_ret2
  exact evT HE.out.1 HE.out.2 HW.out.2.1 HW.out.2.2.1
 | val x =>
  obtain⟨hx,hbw⟩:=HA.out
  obtain⟨rfl,rfl⟩:n3=x∧b3=true:=by injection hx with hx;injection hx with hx;simp at hx;exact hx
  have HB:=Hd hbw
  clear hx hbw HA
  have p3:w3.cell? ⟨w.heap.size+1,3,none⟩=some (.int .i64 op):=(HB.out.cell (p:=⟨w.heap.size+1,3,none⟩) HW.out.2.2.2.2.2.1).trans v3
  have hb3:Below w.heap.size w w3:=HW.out.2.1.trans (below_down HB.out HW.out.2.1.size)
  have H3:=Hd hb3
  clear hb3
  have HU:=Hd (wun_any op n3 w3)
  go_wp2_with fail
  refine HU.out.mono ?_
  rintro e w4 ⟨rfl,rfl⟩
  go_wp2_with fail
  go_ret2
  exact evV rfl H3.out
theorem iv_op_2 (g:Nat)(ih:EvC g){K:Cf}(hK:CfOK K){o:Option Nat}{m:MS}{Vs:IX.Vs}{V c:Nat}{n:Int}{nm:List UInt8}{op:Int}{kids:List PE}{cs:List Value}{w:World}
 {a b:PE} {x:Int} {rb:Rs} (ha:kids[0]?=some a) (hra:evE g Vs m.C a=some (.val x)) (hb:kids[1]?=some b) (hrb:evE g Vs m.C b=some rb) (hE:RepE w K.ok (.mk 4 n nm op kids) cs) (hM:MSt K o m w) (hV:VMp K o V c Vs w) :
 Calls Tryz.prog 89 #[acV K.R V,.agg cs.toArray] w (EvP K m.out (opR op x rb) w):=by
 obtain⟨A,cc,rfl,hkid⟩:=zCo hE
 obtain⟨gb0,k0,n0,x0,o0,A0,L0,c0,hA0,hok0,hrep0,q00,q01,q02,q03,q04⟩:=hkid 0 a ha
 obtain⟨gb1,k1,n1,x1,o1,A1,L1,c1,hA1,hok1,hrep1,q10,q11,q12,q13,q14⟩:=hkid 1 b hb
 obtain rfl:=hA0
 obtain rfl:gb0=gb1:=by injection hA1 with e;injection e
 have hsz:=hM.size hK
 have hgb:gb0 < w.heap.size:=Ll (hK.ok gb0 hok0) hsz
 have hRlt:K.R < w.heap.size:=hM.lt _ (Or.inl rfl)
 have hgR:gb0≠K.R:=fun e=>by have h1:=hK.ok _ hok0;have h2:=hK.r;omega
 have hlen0:0 < kids.length:=(Gs.1 ha).1
 have hlen1:1 < kids.length:=(Gs.1 hb).1
 obtain⟨W2,hW2⟩:∃ W2,(w.alloc (.cells #[.pointer (some ⟨K.R,0,none⟩),.map (some V)] 114)).alloc (.cells #[.int .i64 4,.int .i64 n,.string ⟨nm.toArray⟩,.int .i64 op,.slice (some ⟨gb0,0,none⟩) kids.length cc] 36)=W2:=⟨_,rfl⟩
 have hb2:Below w.heap.size w W2:=by rw[←hW2];exact ((Below.refl _ _).alloc (Lr _) _).alloc (by simp) _
 have j1:Blk W2 w.heap.size 114 #[.pointer (some ⟨K.R,0,none⟩),.map (some V)]:=by rw[←hW2];exact (Blk.new _ _ _).alloc _
 have j2:Blk W2 (w.heap.size+1) 36 #[.int .i64 4,.int .i64 n,.string ⟨nm.toArray⟩,.int .i64 op,.slice (some ⟨gb0,0,none⟩) kids.length cc]:=by rw[←hW2];exact blk_at (by simp) _ _
 have hc0:∀ W,Below W2.heap.size W2 W→Calls Tryz.prog 50 #[acV K.R V,.agg #[.int .i64 k0,.int .i64 n0,.string ⟨x0.toArray⟩,.int .i64 o0,.slice A0 L0 c0]] W (EvP K m.out (.val x) W):=fun W hW=>by
  have hbW:Below w.heap.size w W:=hb2.trans (below_down hW hb2.size)
  exact ih K o m Vs V c a (.val x) _ W hK hra (hrep0.keep (fun _ h=>h) (fun i hi=>hbW.block i (Ll (hK.ok i hi) hsz))) (hM.low hK hbW) (hV.low hbW)
 have z00:W2.cell? ⟨gb0,0,none⟩=some (.int .i64 k0):=(hb2.cell (p:=⟨gb0,0,none⟩) hgb).trans q00
 have z01:W2.cell? ⟨gb0,1,none⟩=some (.int .i64 n0):=(hb2.cell (p:=⟨gb0,1,none⟩) hgb).trans q01
 have z02:W2.cell? ⟨gb0,2,none⟩=some (.string ⟨x0.toArray⟩):=(hb2.cell (p:=⟨gb0,2,none⟩) hgb).trans q02
 have z03:W2.cell? ⟨gb0,3,none⟩=some (.int .i64 o0):=(hb2.cell (p:=⟨gb0,3,none⟩) hgb).trans q03
 have z04:W2.cell? ⟨gb0,4,none⟩=some (.slice A0 L0 c0):=(hb2.cell (p:=⟨gb0,4,none⟩) hgb).trans q04
 have hc1:∀ W,Below W2.heap.size W2 W→Calls Tryz.prog 50 #[acV K.R V,.agg #[.int .i64 k1,.int .i64 n1,.string ⟨x1.toArray⟩,.int .i64 o1,.slice A1 L1 c1]] W (EvP K m.out rb W):=fun W hW=>by
  have hbW:Below w.heap.size w W:=hb2.trans (below_down hW hb2.size)
  exact ih K o m Vs V c b rb _ W hK hrb (hrep1.keep (fun _ h=>h) (fun i hi=>hbW.block i (Ll (hK.ok i hi) hsz))) (hM.low hK hbW) (hV.low hbW)
 have z10:W2.cell? ⟨gb0,5,none⟩=some (.int .i64 k1):=(hb2.cell (p:=⟨gb0,5,none⟩) hgb).trans q10
 have z11:W2.cell? ⟨gb0,6,none⟩=some (.int .i64 n1):=(hb2.cell (p:=⟨gb0,6,none⟩) hgb).trans q11
 have z12:W2.cell? ⟨gb0,7,none⟩=some (.string ⟨x1.toArray⟩):=(hb2.cell (p:=⟨gb0,7,none⟩) hgb).trans q12
 have z13:W2.cell? ⟨gb0,8,none⟩=some (.int .i64 o1):=(hb2.cell (p:=⟨gb0,8,none⟩) hgb).trans q13
 have z14:W2.cell? ⟨gb0,9,none⟩=some (.slice A1 L1 c1):=(hb2.cell (p:=⟨gb0,9,none⟩) hgb).trans q14
 have hMW:∀ W,Below w.heap.size w W→MSt K o m W:=fun W hW=>hM.low hK hW
 have htr:∀ W,Below w.heap.size w W→∀ c,Calls Tryz.prog 133 #[.pointer (some ⟨K.R,0,none⟩),.int .i64 c] W (fun e w'=>e=.returned (.bool false)∧EndW K 2 c m.out W w'∧W.grownBy w' (some K.R)):=fun W hW c=>zCx hK (hM.low hK hW) c
 obtain⟨L,hL⟩:∃ L,kids.length=L:=⟨_,rfl⟩
 obtain⟨sx,hsx⟩:∃ sx:ByteArray,(⟨nm.toArray⟩:ByteArray)=sx:=⟨_,rfl⟩
 obtain⟨s0,hs0⟩:∃ sx:ByteArray,(⟨x0.toArray⟩:ByteArray)=sx:=⟨_,rfl⟩
 rw[hs0] at hc0 z02
 obtain⟨s1,hs1⟩:∃ sx:ByteArray,(⟨x1.toArray⟩:ByteArray)=sx:=⟨_,rfl⟩
 rw[hs1] at hc1 z12
 obtain⟨R,hRR⟩:∃ R,K.R=R:=⟨_,rfl⟩
 show Calls Tryz.prog 89 #[acV K.R V,.agg #[.int .i64 4,.int .i64 n,.string ⟨nm.toArray⟩,.int .i64 op,.slice (some ⟨gb0,0,none⟩) kids.length cc]] w _
 rw[hL] at hlen0 hlen1 hW2 j2  ⊢
 rw[hsx] at hW2 j2 ⊢
 rw[hRR] at hW2 j1 hc0 hc1 htr hRlt hgR ⊢
 obtain⟨u0,u1,_,_⟩:=j1.cells2
 have v2:W2.cell? ⟨w.heap.size+1,2,none⟩=some (.string sx):=j2.cell 2
 have v3:W2.cell? ⟨w.heap.size+1,3,none⟩=some (.int .i64 op):=j2.cell 3
 have v4:W2.cell? ⟨w.heap.size+1,4,none⟩=some (.slice (some ⟨gb0,0,none⟩) L cc):=j2.cell 4
 have hl2:((L:Int)==1)=false:=by rw[beq_eq_false_iff_ne];omega
 have hI1:(1:Int) < (L:Int):=by omega
 have HC0:=Hd hc0
 have HC1:=Hd hc1
 have HW:=Hd (Ai hW2 (Ai hb2 (Ai hsz (Ai htr (Ai j1.lt (Ai j2.lt (Ai hMW (Ai hsx hRR))))))))
 clear hc0 hrep0 hok0 hs0 hc1 hrep1 hok1 hs1 hA1 q00 q01 q02 q03 q04 q10 q11 q12 q13 q14 ha hra hb hrb hW2 hb2 hsz htr hMW j1 j2 hM hV hE hkid hL hsx hRR
 go_enter Tryz.func89,Tryz.ntmps89
 go_wp2_with fail
 rw[HW.out.1]
 go_region_held3 (fun w'=>w'.cell? ⟨gb0,0,none⟩=some (.int .i64 k0)∧w'.cell? ⟨gb0,1,none⟩=some (.int .i64 n0)∧w'.cell? ⟨gb0,2,none⟩=some (.string s0)∧w'.cell? ⟨gb0,3,none⟩=some (.int .i64 o0)∧w'.cell? ⟨gb0,4,none⟩=some (.slice A0 L0 c0)∧w'.cell? ⟨w.heap.size,0,none⟩=some (.pointer (some ⟨R,0,none⟩))∧w'.cell? ⟨w.heap.size,1,none⟩=some (.map (some V))∧w'.cell? ⟨w.heap.size+1,4,none⟩=some (.slice (some ⟨gb0,0,none⟩) L cc)) (first | exact⟨z00,z01,z02,z03,z04,u0,u1,v4⟩ | exact⟨e0,e1,e2,e3,e4,e5,e6,e7⟩)
  ((go_at_call 50;((with_reducible refine (HC0.out _ ?_).mono ?_));rotate_left;(rintro e w3 h3;obtain⟨n3,b3,rfl,h3⟩:=zA3 h3;have h3:EvP K m.out (.val x) W2 (.returned (.tuple #[.int .i64 n3,.bool b3])) w3:=h3.world id id id rfl;have e0:=(h3.at (b:=gb0) (i:=0) (Ll hgb HW.out.2.1.size) (HW.out.2.2.2.2.2.2.2.2 ▸ hgR)).trans z00;have e1:=(h3.at (b:=gb0) (i:=1) (Ll hgb HW.out.2.1.size) (HW.out.2.2.2.2.2.2.2.2 ▸ hgR)).trans z01;have e2:=(h3.at (b:=gb0) (i:=2) (Ll hgb HW.out.2.1.size) (HW.out.2.2.2.2.2.2.2.2 ▸ hgR)).trans z02;have e3:=(h3.at (b:=gb0) (i:=3) (Ll hgb HW.out.2.1.size) (HW.out.2.2.2.2.2.2.2.2 ▸ hgR)).trans z03;have e4:=(h3.at (b:=gb0) (i:=4) (Ll hgb HW.out.2.1.size) (HW.out.2.2.2.2.2.2.2.2 ▸ hgR)).trans z04;have e5:=(h3.at (b:=w.heap.size) (i:=0) HW.out.2.2.2.2.1 (HW.out.2.2.2.2.2.2.2.2 ▸ (Nat.ne_of_gt hRlt))).trans u0;have e6:=(h3.at (b:=w.heap.size) (i:=1) HW.out.2.2.2.2.1 (HW.out.2.2.2.2.2.2.2.2 ▸ (Nat.ne_of_gt hRlt))).trans u1;have e7:=(h3.at (b:=w.heap.size+1) (i:=4) HW.out.2.2.2.2.2.1 (HW.out.2.2.2.2.2.2.2.2 ▸ (Nat.ne_of_gt (Nat.lt_succ_of_lt hRlt)))).trans v4);rotate_left;(first | exact Below.refl _ _ | exact below_drewN (Below.refl _ _) _)))
 obtain⟨hx,hbw⟩:=h3
 obtain⟨rfl,rfl⟩:n3=x∧b3=true:=by injection hx with hx;injection hx with hx;simp at hx;exact hx
 have HB:=Hd hbw
 clear hx hbw
 have p3:w3.cell? ⟨w.heap.size+1,3,none⟩=some (.int .i64 op):=(HB.out.cell (p:=⟨w.heap.size+1,3,none⟩) HW.out.2.2.2.2.2.1).trans v3
 have hb3:Below w.heap.size w w3:=HW.out.2.1.trans (below_down HB.out HW.out.2.1.size)
 have H3:=Hd hb3
 clear hb3
 go_wp2_with fail
 have y0:=(HB.out.cell (p:=⟨gb0,5,none⟩) (Ll hgb HW.out.2.1.size)).trans z10
 have y1:=(HB.out.cell (p:=⟨gb0,6,none⟩) (Ll hgb HW.out.2.1.size)).trans z11
 have y2:=(HB.out.cell (p:=⟨gb0,7,none⟩) (Ll hgb HW.out.2.1.size)).trans z12
 have y3:=(HB.out.cell (p:=⟨gb0,8,none⟩) (Ll hgb HW.out.2.1.size)).trans z13
 have y4:=(HB.out.cell (p:=⟨gb0,9,none⟩) (Ll hgb HW.out.2.1.size)).trans z14
 go_region_held3 (fun w'=>w'.cell? ⟨gb0,5,none⟩=some (.int .i64 k1)∧w'.cell? ⟨gb0,6,none⟩=some (.int .i64 n1)∧w'.cell? ⟨gb0,7,none⟩=some (.string s1)∧w'.cell? ⟨gb0,8,none⟩=some (.int .i64 o1)∧w'.cell? ⟨gb0,9,none⟩=some (.slice A1 L1 c1)∧w'.cell? ⟨w.heap.size,0,none⟩=some (.pointer (some ⟨R,0,none⟩))∧w'.cell? ⟨w.heap.size,1,none⟩=some (.map (some V))∧w'.cell? ⟨w.heap.size+1,4,none⟩=some (.slice (some ⟨gb0,0,none⟩) L cc)) (first | exact⟨y0,y1,y2,y3,y4,e5,e6,e7⟩ | exact⟨d0,d1,d2,d3,d4,d5,d6,d7⟩)
 ((go_at_call 50;((with_reducible refine (HC1.out _ ?_).mono ?_));rotate_left;(rintro e w4 h4;obtain⟨n4,b4,rfl,h4⟩:=zA3 h4;have h4:EvP K m.out rb w3 (.returned (.tuple #[.int .i64 n4,.bool b4])) w4:=h4.world id id id rfl;have d0:=(h4.at (b:=gb0) (i:=5) (Ll hgb (Nat.le_trans HW.out.2.1.size HB.out.size)) (HW.out.2.2.2.2.2.2.2.2 ▸ hgR)).trans y0;have d1:=(h4.at (b:=gb0) (i:=6) (Ll hgb (Nat.le_trans HW.out.2.1.size HB.out.size)) (HW.out.2.2.2.2.2.2.2.2 ▸ hgR)).trans y1;have d2:=(h4.at (b:=gb0) (i:=7) (Ll hgb (Nat.le_trans HW.out.2.1.size HB.out.size)) (HW.out.2.2.2.2.2.2.2.2 ▸ hgR)).trans y2;have d3:=(h4.at (b:=gb0) (i:=8) (Ll hgb (Nat.le_trans HW.out.2.1.size HB.out.size)) (HW.out.2.2.2.2.2.2.2.2 ▸ hgR)).trans y3;have d4:=(h4.at (b:=gb0) (i:=9) (Ll hgb (Nat.le_trans HW.out.2.1.size HB.out.size)) (HW.out.2.2.2.2.2.2.2.2 ▸ hgR)).trans y4;have d5:=(h4.at (b:=w.heap.size) (i:=0) (Ll HW.out.2.2.2.2.1 HB.out.size) (HW.out.2.2.2.2.2.2.2.2 ▸ (Nat.ne_of_gt hRlt))).trans e5;have d6:=(h4.at (b:=w.heap.size) (i:=1) (Ll HW.out.2.2.2.2.1 HB.out.size) (HW.out.2.2.2.2.2.2.2.2 ▸ (Nat.ne_of_gt hRlt))).trans e6;have d7:=(h4.at (b:=w.heap.size+1) (i:=4) (Ll HW.out.2.2.2.2.2.1 HB.out.size) (HW.out.2.2.2.2.2.2.2.2 ▸ (Nat.ne_of_gt (Nat.lt_succ_of_lt hRlt)))).trans e7);rotate_left;(first | exact HB.out | exact below_drewN HB.out _)))
 have HA:=Hd h4
 clear h4
 cases rb with
 | trap ct =>
  obtain⟨hx,hend,hgr⟩:=HA.out
  obtain⟨rfl,rfl⟩:n4=0∧b4=false:=by injection hx with hx;injection hx with hx;simp at hx;exact hx
  have HE:=Hd (Ai hend hgr)
  clear hx hend hgr HA
  go_wp2_with fail
  go_ret2
  exact evT HE.out.1 HE.out.2 H3.out HW.out.2.2.1
 | val y =>
  obtain⟨hx,hbw⟩:=HA.out
  obtain⟨rfl,rfl⟩:n4=y∧b4=true:=by injection hx with hx;injection hx with hx;simp at hx;exact hx
  have s3:w4.cell? ⟨w.heap.size+1,3,none⟩=some (.int .i64 op):=(hbw.cell (p:=⟨w.heap.size+1,3,none⟩) (Ll HW.out.2.2.2.2.2.1 HB.out.size)).trans p3
  have hb5:Below w.heap.size w w4:=H3.out.trans (below_down hbw H3.out.size)
  have H4:=Hd hb5
  clear hx hbw HA hb5
  by_cases hy:n4=0
  ·subst hy
   by_cases h7:op=7
   ·subst h7
    have HT:=Hd (HW.out.2.2.2.1 _ H4.out 1)
    go_wp2_with fail
    refine HT.out.mono ?_
    rintro e w5 ⟨rfl,hb5⟩
    have H5:=Hd hb5
    clear hb5
    go_wp2_with fail
    go_ret2
    exact evT H5.out.1 (by rw[HW.out.2.2.2.2.2.2.2.2];exact H5.out.2) H4.out HW.out.2.2.1
   ·have e7:=neI h7
    by_cases h8:op=8
    ·subst h8
     have HT:=Hd (HW.out.2.2.2.1 _ H4.out 1)
     go_wp2_with fail
     refine HT.out.mono ?_
     rintro e w5 ⟨rfl,hb5⟩
     have H5:=Hd hb5
     clear hb5
     go_wp2_with fail
     go_ret2
     exact evT H5.out.1 (by rw[HW.out.2.2.2.2.2.2.2.2];exact H5.out.2) H4.out HW.out.2.2.1
    ·have e8:=neI h8
     have HI:Hid (opR op n3 (.val 0)=.val (binF op n3 0)):=Hd (by unfold opR dvB;dsimp only;rw[decide_eq_false h7,decide_eq_false h8];rfl)
     clear h7 h8
     have HU:=Hd (wbin_any op n3 0 w4)
     go_wp2_with fail
     refine HU.out.mono ?_
     rintro e w5 ⟨rfl,rfl⟩
     go_wp2_with fail
     go_ret2
     rw[HI.out]
     exact evV rfl H4.out
  ·have ey:=neI hy
   have HI:Hid (opR op n3 (.val n4)=.val (binF op n3 n4)):=Hd (by unfold opR dvB;dsimp only;rw[decide_eq_false hy,Bool.and_false];rfl)
   have HU:=Hd (wbin_any op n3 n4 w4)
   clear hy
   go_wp2_with fail
   refine HU.out.mono ?_
   rintro e w5 ⟨rfl,rfl⟩
   go_wp2_with fail
   go_ret2
   rw[HI.out]
   exact evV rfl H4.out
theorem iv_op_t (g:Nat)(ih:EvC g){K:Cf}(hK:CfOK K){o:Option Nat}{m:MS}{Vs:IX.Vs}{V c:Nat}{n:Int}{nm:List UInt8}{op:Int}{kids:List PE}{cs:List Value}{w:World}
 {a:PE} {ct:Int} (ha:kids[0]?=some a) (hra:evE g Vs m.C a=some (.trap ct)) (hE:RepE w K.ok (.mk 4 n nm op kids) cs) (hM:MSt K o m w) (hV:VMp K o V c Vs w) :
 Calls Tryz.prog 89 #[acV K.R V,.agg cs.toArray] w (EvP K m.out (.trap ct) w):=by
 obtain⟨A,cc,rfl,hkid⟩:=zCo hE
 obtain⟨gb0,k0,n0,x0,o0,A0,L0,c0,hA0,hok0,hrep0,q00,q01,q02,q03,q04⟩:=hkid 0 a ha
 obtain rfl:=hA0
 have hsz:=hM.size hK
 have hgb:gb0 < w.heap.size:=Ll (hK.ok gb0 hok0) hsz
 have hRlt:K.R < w.heap.size:=hM.lt _ (Or.inl rfl)
 have hgR:gb0≠K.R:=fun e=>by have h1:=hK.ok _ hok0;have h2:=hK.r;omega
 have hlen0:0 < kids.length:=(Gs.1 ha).1
 obtain⟨W2,hW2⟩:∃ W2,(w.alloc (.cells #[.pointer (some ⟨K.R,0,none⟩),.map (some V)] 114)).alloc (.cells #[.int .i64 4,.int .i64 n,.string ⟨nm.toArray⟩,.int .i64 op,.slice (some ⟨gb0,0,none⟩) kids.length cc] 36)=W2:=⟨_,rfl⟩
 have hb2:Below w.heap.size w W2:=by rw[←hW2];exact ((Below.refl _ _).alloc (Lr _) _).alloc (by simp) _
 have j1:Blk W2 w.heap.size 114 #[.pointer (some ⟨K.R,0,none⟩),.map (some V)]:=by rw[←hW2];exact (Blk.new _ _ _).alloc _
 have j2:Blk W2 (w.heap.size+1) 36 #[.int .i64 4,.int .i64 n,.string ⟨nm.toArray⟩,.int .i64 op,.slice (some ⟨gb0,0,none⟩) kids.length cc]:=by rw[←hW2];exact blk_at (by simp) _ _
 have hc0:∀ W,Below W2.heap.size W2 W→Calls Tryz.prog 50 #[acV K.R V,.agg #[.int .i64 k0,.int .i64 n0,.string ⟨x0.toArray⟩,.int .i64 o0,.slice A0 L0 c0]] W (EvP K m.out (.trap ct) W):=fun W hW=>by
  have hbW:Below w.heap.size w W:=hb2.trans (below_down hW hb2.size)
  exact ih K o m Vs V c a (.trap ct) _ W hK hra (hrep0.keep (fun _ h=>h) (fun i hi=>hbW.block i (Ll (hK.ok i hi) hsz))) (hM.low hK hbW) (hV.low hbW)
 have z00:W2.cell? ⟨gb0,0,none⟩=some (.int .i64 k0):=(hb2.cell (p:=⟨gb0,0,none⟩) hgb).trans q00
 have z01:W2.cell? ⟨gb0,1,none⟩=some (.int .i64 n0):=(hb2.cell (p:=⟨gb0,1,none⟩) hgb).trans q01
 have z02:W2.cell? ⟨gb0,2,none⟩=some (.string ⟨x0.toArray⟩):=(hb2.cell (p:=⟨gb0,2,none⟩) hgb).trans q02
 have z03:W2.cell? ⟨gb0,3,none⟩=some (.int .i64 o0):=(hb2.cell (p:=⟨gb0,3,none⟩) hgb).trans q03
 have z04:W2.cell? ⟨gb0,4,none⟩=some (.slice A0 L0 c0):=(hb2.cell (p:=⟨gb0,4,none⟩) hgb).trans q04
 have hMW:∀ W,Below w.heap.size w W→MSt K o m W:=fun W hW=>hM.low hK hW
 have htr:∀ W,Below w.heap.size w W→∀ c,Calls Tryz.prog 133 #[.pointer (some ⟨K.R,0,none⟩),.int .i64 c] W (fun e w'=>e=.returned (.bool false)∧EndW K 2 c m.out W w'∧W.grownBy w' (some K.R)):=fun W hW c=>zCx hK (hM.low hK hW) c
 obtain⟨L,hL⟩:∃ L,kids.length=L:=⟨_,rfl⟩
 obtain⟨sx,hsx⟩:∃ sx:ByteArray,(⟨nm.toArray⟩:ByteArray)=sx:=⟨_,rfl⟩
 obtain⟨s0,hs0⟩:∃ sx:ByteArray,(⟨x0.toArray⟩:ByteArray)=sx:=⟨_,rfl⟩
 rw[hs0] at hc0 z02
 obtain⟨R,hRR⟩:∃ R,K.R=R:=⟨_,rfl⟩
 show Calls Tryz.prog 89 #[acV K.R V,.agg #[.int .i64 4,.int .i64 n,.string ⟨nm.toArray⟩,.int .i64 op,.slice (some ⟨gb0,0,none⟩) kids.length cc]] w _
 rw[hL] at hlen0 hW2 j2  ⊢
 rw[hsx] at hW2 j2 ⊢
 rw[hRR] at hW2 j1 hc0 htr hRlt hgR ⊢
 obtain⟨u0,u1,_,_⟩:=j1.cells2
 have v2:W2.cell? ⟨w.heap.size+1,2,none⟩=some (.string sx):=j2.cell 2
 have v3:W2.cell? ⟨w.heap.size+1,3,none⟩=some (.int .i64 op):=j2.cell 3
 have v4:W2.cell? ⟨w.heap.size+1,4,none⟩=some (.slice (some ⟨gb0,0,none⟩) L cc):=j2.cell 4
 have HC0:=Hd hc0
 have HW:=Hd (Ai hW2 (Ai hb2 (Ai hsz (Ai htr (Ai j1.lt (Ai j2.lt (Ai hMW (Ai hsx hRR))))))))
 clear hc0 hrep0 hok0 hs0 q00 q01 q02 q03 q04 ha hra hW2 hb2 hsz htr hMW j1 j2 hM hV hE hkid hL hsx hRR
 go_enter Tryz.func89,Tryz.ntmps89
 go_wp2_with fail
 rw[HW.out.1]
 go_region_held3 (fun w'=>w'.cell? ⟨gb0,0,none⟩=some (.int .i64 k0)∧w'.cell? ⟨gb0,1,none⟩=some (.int .i64 n0)∧w'.cell? ⟨gb0,2,none⟩=some (.string s0)∧w'.cell? ⟨gb0,3,none⟩=some (.int .i64 o0)∧w'.cell? ⟨gb0,4,none⟩=some (.slice A0 L0 c0)∧w'.cell? ⟨w.heap.size,0,none⟩=some (.pointer (some ⟨R,0,none⟩))∧w'.cell? ⟨w.heap.size,1,none⟩=some (.map (some V))∧w'.cell? ⟨w.heap.size+1,4,none⟩=some (.slice (some ⟨gb0,0,none⟩) L cc)) (first | exact⟨z00,z01,z02,z03,z04,u0,u1,v4⟩ | exact⟨e0,e1,e2,e3,e4,e5,e6,e7⟩)
  ((go_at_call 50;((with_reducible refine (HC0.out _ ?_).mono ?_));rotate_left;(rintro e w3 h3;obtain⟨n3,b3,rfl,h3⟩:=zA3 h3;have h3:EvP K m.out (.trap ct) W2 (.returned (.tuple #[.int .i64 n3,.bool b3])) w3:=h3.world id id id rfl;have e0:=(h3.at (b:=gb0) (i:=0) (Ll hgb HW.out.2.1.size) (HW.out.2.2.2.2.2.2.2.2 ▸ hgR)).trans z00;have e1:=(h3.at (b:=gb0) (i:=1) (Ll hgb HW.out.2.1.size) (HW.out.2.2.2.2.2.2.2.2 ▸ hgR)).trans z01;have e2:=(h3.at (b:=gb0) (i:=2) (Ll hgb HW.out.2.1.size) (HW.out.2.2.2.2.2.2.2.2 ▸ hgR)).trans z02;have e3:=(h3.at (b:=gb0) (i:=3) (Ll hgb HW.out.2.1.size) (HW.out.2.2.2.2.2.2.2.2 ▸ hgR)).trans z03;have e4:=(h3.at (b:=gb0) (i:=4) (Ll hgb HW.out.2.1.size) (HW.out.2.2.2.2.2.2.2.2 ▸ hgR)).trans z04;have e5:=(h3.at (b:=w.heap.size) (i:=0) HW.out.2.2.2.2.1 (HW.out.2.2.2.2.2.2.2.2 ▸ (Nat.ne_of_gt hRlt))).trans u0;have e6:=(h3.at (b:=w.heap.size) (i:=1) HW.out.2.2.2.2.1 (HW.out.2.2.2.2.2.2.2.2 ▸ (Nat.ne_of_gt hRlt))).trans u1;have e7:=(h3.at (b:=w.heap.size+1) (i:=4) HW.out.2.2.2.2.2.1 (HW.out.2.2.2.2.2.2.2.2 ▸ (Nat.ne_of_gt (Nat.lt_succ_of_lt hRlt)))).trans v4);rotate_left;(first | exact Below.refl _ _ | exact below_drewN (Below.refl _ _) _)))
 obtain⟨hx,hend,hgr⟩:=h3
 obtain⟨rfl,rfl⟩:n3=0∧b3=false:=by injection hx with hx;injection hx with hx;simp at hx;exact hx
 have HE:=Hd (Ai hend hgr)
 clear hx hend hgr
 go_wp2_with fail
 go_ret2
 exact evT HE.out.1 HE.out.2 HW.out.2.1 HW.out.2.2.1
theorem iv_op (g:Nat)(ih:EvC g){K:Cf}(hK:CfOK K){o:Option Nat}{m:MS}{Vs:IX.Vs}{V c:Nat}{n:Int}{nm:List UInt8}{op:Int}{kids:List PE}{r:Rs}{cs:List Value}{w:World}
 (hr:evE (g+1) Vs m.C (.mk 4 n nm op kids)=some r) (hE:RepE w K.ok (.mk 4 n nm op kids) cs) (hM:MSt K o m w) (hV:VMp K o V c Vs w) :
 Calls Tryz.prog 89 #[acV K.R V,.agg cs.toArray] w (EvP K m.out r w):=by
 obtain⟨a,ra,ha,hra,⟨ct,rfl,rfl⟩ | ⟨x,rfl,⟨hl,rfl⟩ | ⟨_,b,rb,hb,hrb,rfl⟩⟩⟩:=ev4 hr
 ·exact iv_op_t g ih hK ha hra hE hM hV
 ·exact iv_op_1 g ih hK hl ha hra hE hM hV
 ·exact iv_op_2 g ih hK ha hra hb hrb hE hM hV
set_option maxRecDepth 100000
set_option maxHeartbeats 4000000
theorem iv_ch_t (g:Nat)(ih:EvC g){K:Cf}(hK:CfOK K){o:Option Nat}{m:MS}{Vs:IX.Vs}{V c:Nat}{kd n:Int}{nm:List UInt8}{op:Int}{kids:List PE}{cs:List Value}{w:World}
 {a:PE} {ct:Int} (ha:kids[0]?=some a) (hra:evE g Vs m.C a=some (.trap ct)) (hE:RepE w K.ok (.mk kd n nm op kids) cs) (hM:MSt K o m w) (hV:VMp K o V c Vs w) :
 Calls Tryz.prog 90 #[acV K.R V,.agg cs.toArray] w (EvP K m.out (.trap ct) w):=by
 obtain⟨A,cc,rfl,hkid⟩:=zCo hE
 obtain⟨gb0,k0,n0,x0,o0,A0,L0,c0,hA0,hok0,hrep0,q00,q01,q02,q03,q04⟩:=hkid 0 a ha
 obtain rfl:=hA0
 have hsz:=hM.size hK
 have hgb:gb0 < w.heap.size:=Ll (hK.ok gb0 hok0) hsz
 have hRlt:K.R < w.heap.size:=hM.lt _ (Or.inl rfl)
 have hgR:gb0≠K.R:=fun e=>by have h1:=hK.ok _ hok0;have h2:=hK.r;omega
 have hlen0:0 < kids.length:=(Gs.1 ha).1
 obtain⟨W2,hW2⟩:∃ W2,(w.alloc (.cells #[.pointer (some ⟨K.R,0,none⟩),.map (some V)] 114)).alloc (.cells #[.int .i64 kd,.int .i64 n,.string ⟨nm.toArray⟩,.int .i64 op,.slice (some ⟨gb0,0,none⟩) kids.length cc] 36)=W2:=⟨_,rfl⟩
 have hb2:Below w.heap.size w W2:=by rw[←hW2];exact ((Below.refl _ _).alloc (Lr _) _).alloc (by simp) _
 have j1:Blk W2 w.heap.size 114 #[.pointer (some ⟨K.R,0,none⟩),.map (some V)]:=by rw[←hW2];exact (Blk.new _ _ _).alloc _
 have j2:Blk W2 (w.heap.size+1) 36 #[.int .i64 kd,.int .i64 n,.string ⟨nm.toArray⟩,.int .i64 op,.slice (some ⟨gb0,0,none⟩) kids.length cc]:=by rw[←hW2];exact blk_at (by simp) _ _
 have hc0:∀ W,Below W2.heap.size W2 W→Calls Tryz.prog 50 #[acV K.R V,.agg #[.int .i64 k0,.int .i64 n0,.string ⟨x0.toArray⟩,.int .i64 o0,.slice A0 L0 c0]] W (EvP K m.out (.trap ct) W):=fun W hW=>by
  have hbW:Below w.heap.size w W:=hb2.trans (below_down hW hb2.size)
  exact ih K o m Vs V c a (.trap ct) _ W hK hra (hrep0.keep (fun _ h=>h) (fun i hi=>hbW.block i (Ll (hK.ok i hi) hsz))) (hM.low hK hbW) (hV.low hbW)
 have z00:W2.cell? ⟨gb0,0,none⟩=some (.int .i64 k0):=(hb2.cell (p:=⟨gb0,0,none⟩) hgb).trans q00
 have z01:W2.cell? ⟨gb0,1,none⟩=some (.int .i64 n0):=(hb2.cell (p:=⟨gb0,1,none⟩) hgb).trans q01
 have z02:W2.cell? ⟨gb0,2,none⟩=some (.string ⟨x0.toArray⟩):=(hb2.cell (p:=⟨gb0,2,none⟩) hgb).trans q02
 have z03:W2.cell? ⟨gb0,3,none⟩=some (.int .i64 o0):=(hb2.cell (p:=⟨gb0,3,none⟩) hgb).trans q03
 have z04:W2.cell? ⟨gb0,4,none⟩=some (.slice A0 L0 c0):=(hb2.cell (p:=⟨gb0,4,none⟩) hgb).trans q04
 have hMW:∀ W,Below w.heap.size w W→MSt K o m W:=fun W hW=>hM.low hK hW
 have htr:∀ W,Below w.heap.size w W→∀ c,Calls Tryz.prog 133 #[.pointer (some ⟨K.R,0,none⟩),.int .i64 c] W (fun e w'=>e=.returned (.bool false)∧EndW K 2 c m.out W w'∧W.grownBy w' (some K.R)):=fun W hW c=>zCx hK (hM.low hK hW) c
 obtain⟨L,hL⟩:∃ L,kids.length=L:=⟨_,rfl⟩
 obtain⟨sx,hsx⟩:∃ sx:ByteArray,(⟨nm.toArray⟩:ByteArray)=sx:=⟨_,rfl⟩
 obtain⟨s0,hs0⟩:∃ sx:ByteArray,(⟨x0.toArray⟩:ByteArray)=sx:=⟨_,rfl⟩
 rw[hs0] at hc0 z02
 obtain⟨R,hRR⟩:∃ R,K.R=R:=⟨_,rfl⟩
 show Calls Tryz.prog 90 #[acV K.R V,.agg #[.int .i64 kd,.int .i64 n,.string ⟨nm.toArray⟩,.int .i64 op,.slice (some ⟨gb0,0,none⟩) kids.length cc]] w _
 rw[hL] at hlen0 hW2 j2  ⊢
 rw[hsx] at hW2 j2 ⊢
 rw[hRR] at hW2 j1 hc0 htr hRlt hgR ⊢
 obtain⟨u0,u1,_,_⟩:=j1.cells2
 have v2:W2.cell? ⟨w.heap.size+1,2,none⟩=some (.string sx):=j2.cell 2
 have v3:W2.cell? ⟨w.heap.size+1,3,none⟩=some (.int .i64 op):=j2.cell 3
 have v4:W2.cell? ⟨w.heap.size+1,4,none⟩=some (.slice (some ⟨gb0,0,none⟩) L cc):=j2.cell 4
 have HC0:=Hd hc0
 have HW:=Hd (Ai hW2 (Ai hb2 (Ai hsz (Ai htr (Ai j1.lt (Ai j2.lt (Ai hMW (Ai hsx hRR))))))))
 clear hc0 hrep0 hok0 hs0 q00 q01 q02 q03 q04 ha hra hW2 hb2 hsz htr hMW j1 j2 hM hV hE hkid hL hsx hRR
 go_enter Tryz.func90,Tryz.ntmps90
 go_wp2_with fail
 rw[HW.out.1]
 go_region_held3 (fun w'=>w'.cell? ⟨gb0,0,none⟩=some (.int .i64 k0)∧w'.cell? ⟨gb0,1,none⟩=some (.int .i64 n0)∧w'.cell? ⟨gb0,2,none⟩=some (.string s0)∧w'.cell? ⟨gb0,3,none⟩=some (.int .i64 o0)∧w'.cell? ⟨gb0,4,none⟩=some (.slice A0 L0 c0)∧w'.cell? ⟨w.heap.size,0,none⟩=some (.pointer (some ⟨R,0,none⟩))∧w'.cell? ⟨w.heap.size,1,none⟩=some (.map (some V))∧w'.cell? ⟨w.heap.size+1,4,none⟩=some (.slice (some ⟨gb0,0,none⟩) L cc)) (first | exact⟨z00,z01,z02,z03,z04,u0,u1,v4⟩ | exact⟨e0,e1,e2,e3,e4,e5,e6,e7⟩)
  ((go_at_call 50;((with_reducible refine (HC0.out _ ?_).mono ?_));rotate_left;(rintro e w3 h3;obtain⟨n3,b3,rfl,h3⟩:=zA3 h3;have h3:EvP K m.out (.trap ct) W2 (.returned (.tuple #[.int .i64 n3,.bool b3])) w3:=h3.world id id id rfl;have e0:=(h3.at (b:=gb0) (i:=0) (Ll hgb HW.out.2.1.size) (HW.out.2.2.2.2.2.2.2.2 ▸ hgR)).trans z00;have e1:=(h3.at (b:=gb0) (i:=1) (Ll hgb HW.out.2.1.size) (HW.out.2.2.2.2.2.2.2.2 ▸ hgR)).trans z01;have e2:=(h3.at (b:=gb0) (i:=2) (Ll hgb HW.out.2.1.size) (HW.out.2.2.2.2.2.2.2.2 ▸ hgR)).trans z02;have e3:=(h3.at (b:=gb0) (i:=3) (Ll hgb HW.out.2.1.size) (HW.out.2.2.2.2.2.2.2.2 ▸ hgR)).trans z03;have e4:=(h3.at (b:=gb0) (i:=4) (Ll hgb HW.out.2.1.size) (HW.out.2.2.2.2.2.2.2.2 ▸ hgR)).trans z04;have e5:=(h3.at (b:=w.heap.size) (i:=0) HW.out.2.2.2.2.1 (HW.out.2.2.2.2.2.2.2.2 ▸ (Nat.ne_of_gt hRlt))).trans u0;have e6:=(h3.at (b:=w.heap.size) (i:=1) HW.out.2.2.2.2.1 (HW.out.2.2.2.2.2.2.2.2 ▸ (Nat.ne_of_gt hRlt))).trans u1;have e7:=(h3.at (b:=w.heap.size+1) (i:=4) HW.out.2.2.2.2.2.1 (HW.out.2.2.2.2.2.2.2.2 ▸ (Nat.ne_of_gt (Nat.lt_succ_of_lt hRlt)))).trans v4);rotate_left;(first | exact Below.refl _ _ | exact below_drewN (Below.refl _ _) _)))
 obtain⟨hx,hend,hgr⟩:=h3
 obtain⟨rfl,rfl⟩:n3=0∧b3=false:=by injection hx with hx;injection hx with hx;simp at hx;exact hx
 have HE:=Hd (Ai hend hgr)
 clear hx hend hgr
 go_wp2_with fail
 go_ret2
 exact evT HE.out.1 HE.out.2 HW.out.2.1 HW.out.2.2.1
theorem iv_ch_1 (g:Nat)(ih:EvC g){K:Cf}(hK:CfOK K){o:Option Nat}{m:MS}{Vs:IX.Vs}{V c:Nat}{kd n:Int}{nm:List UInt8}{op:Int}{kids:List PE}{cs:List Value}{w:World}
 {a b:PE} {x:Int} (hx:x≠0) {rb:Rs} (ha:kids[0]?=some a) (hra:evE g Vs m.C a=some (.val x)) (hb:kids[1]?=some b) (hrb:evE g Vs m.C b=some rb) (hE:RepE w K.ok (.mk kd n nm op kids) cs) (hM:MSt K o m w) (hV:VMp K o V c Vs w) :
 Calls Tryz.prog 90 #[acV K.R V,.agg cs.toArray] w (EvP K m.out rb w):=by
 obtain⟨A,cc,rfl,hkid⟩:=zCo hE
 obtain⟨gb0,k0,n0,x0,o0,A0,L0,c0,hA0,hok0,hrep0,q00,q01,q02,q03,q04⟩:=hkid 0 a ha
 obtain⟨gb1,k1,n1,x1,o1,A1,L1,c1,hA1,hok1,hrep1,q10,q11,q12,q13,q14⟩:=hkid 1 b hb
 obtain rfl:=hA0
 obtain rfl:gb0=gb1:=by injection hA1 with e;injection e
 have hsz:=hM.size hK
 have hgb:gb0 < w.heap.size:=Ll (hK.ok gb0 hok0) hsz
 have hRlt:K.R < w.heap.size:=hM.lt _ (Or.inl rfl)
 have hgR:gb0≠K.R:=fun e=>by have h1:=hK.ok _ hok0;have h2:=hK.r;omega
 have hlen0:0 < kids.length:=(Gs.1 ha).1
 have hlen1:1 < kids.length:=(Gs.1 hb).1
 obtain⟨W2,hW2⟩:∃ W2,(w.alloc (.cells #[.pointer (some ⟨K.R,0,none⟩),.map (some V)] 114)).alloc (.cells #[.int .i64 kd,.int .i64 n,.string ⟨nm.toArray⟩,.int .i64 op,.slice (some ⟨gb0,0,none⟩) kids.length cc] 36)=W2:=⟨_,rfl⟩
 have hb2:Below w.heap.size w W2:=by rw[←hW2];exact ((Below.refl _ _).alloc (Lr _) _).alloc (by simp) _
 have j1:Blk W2 w.heap.size 114 #[.pointer (some ⟨K.R,0,none⟩),.map (some V)]:=by rw[←hW2];exact (Blk.new _ _ _).alloc _
 have j2:Blk W2 (w.heap.size+1) 36 #[.int .i64 kd,.int .i64 n,.string ⟨nm.toArray⟩,.int .i64 op,.slice (some ⟨gb0,0,none⟩) kids.length cc]:=by rw[←hW2];exact blk_at (by simp) _ _
 have hc0:∀ W,Below W2.heap.size W2 W→Calls Tryz.prog 50 #[acV K.R V,.agg #[.int .i64 k0,.int .i64 n0,.string ⟨x0.toArray⟩,.int .i64 o0,.slice A0 L0 c0]] W (EvP K m.out (.val x) W):=fun W hW=>by
  have hbW:Below w.heap.size w W:=hb2.trans (below_down hW hb2.size)
  exact ih K o m Vs V c a (.val x) _ W hK hra (hrep0.keep (fun _ h=>h) (fun i hi=>hbW.block i (Ll (hK.ok i hi) hsz))) (hM.low hK hbW) (hV.low hbW)
 have z00:W2.cell? ⟨gb0,0,none⟩=some (.int .i64 k0):=(hb2.cell (p:=⟨gb0,0,none⟩) hgb).trans q00
 have z01:W2.cell? ⟨gb0,1,none⟩=some (.int .i64 n0):=(hb2.cell (p:=⟨gb0,1,none⟩) hgb).trans q01
 have z02:W2.cell? ⟨gb0,2,none⟩=some (.string ⟨x0.toArray⟩):=(hb2.cell (p:=⟨gb0,2,none⟩) hgb).trans q02
 have z03:W2.cell? ⟨gb0,3,none⟩=some (.int .i64 o0):=(hb2.cell (p:=⟨gb0,3,none⟩) hgb).trans q03
 have z04:W2.cell? ⟨gb0,4,none⟩=some (.slice A0 L0 c0):=(hb2.cell (p:=⟨gb0,4,none⟩) hgb).trans q04
 have hc1:∀ W,Below W2.heap.size W2 W→Calls Tryz.prog 50 #[acV K.R V,.agg #[.int .i64 k1,.int .i64 n1,.string ⟨x1.toArray⟩,.int .i64 o1,.slice A1 L1 c1]] W (EvP K m.out rb W):=fun W hW=>by
  have hbW:Below w.heap.size w W:=hb2.trans (below_down hW hb2.size)
  exact ih K o m Vs V c b rb _ W hK hrb (hrep1.keep (fun _ h=>h) (fun i hi=>hbW.block i (Ll (hK.ok i hi) hsz))) (hM.low hK hbW) (hV.low hbW)
 have z10:W2.cell? ⟨gb0,5,none⟩=some (.int .i64 k1):=(hb2.cell (p:=⟨gb0,5,none⟩) hgb).trans q10
 have z11:W2.cell? ⟨gb0,6,none⟩=some (.int .i64 n1):=(hb2.cell (p:=⟨gb0,6,none⟩) hgb).trans q11
 have z12:W2.cell? ⟨gb0,7,none⟩=some (.string ⟨x1.toArray⟩):=(hb2.cell (p:=⟨gb0,7,none⟩) hgb).trans q12
 have z13:W2.cell? ⟨gb0,8,none⟩=some (.int .i64 o1):=(hb2.cell (p:=⟨gb0,8,none⟩) hgb).trans q13
 have z14:W2.cell? ⟨gb0,9,none⟩=some (.slice A1 L1 c1):=(hb2.cell (p:=⟨gb0,9,none⟩) hgb).trans q14
 have hMW:∀ W,Below w.heap.size w W→MSt K o m W:=fun W hW=>hM.low hK hW
 have htr:∀ W,Below w.heap.size w W→∀ c,Calls Tryz.prog 133 #[.pointer (some ⟨K.R,0,none⟩),.int .i64 c] W (fun e w'=>e=.returned (.bool false)∧EndW K 2 c m.out W w'∧W.grownBy w' (some K.R)):=fun W hW c=>zCx hK (hM.low hK hW) c
 obtain⟨L,hL⟩:∃ L,kids.length=L:=⟨_,rfl⟩
 obtain⟨sx,hsx⟩:∃ sx:ByteArray,(⟨nm.toArray⟩:ByteArray)=sx:=⟨_,rfl⟩
 obtain⟨s0,hs0⟩:∃ sx:ByteArray,(⟨x0.toArray⟩:ByteArray)=sx:=⟨_,rfl⟩
 rw[hs0] at hc0 z02
 obtain⟨s1,hs1⟩:∃ sx:ByteArray,(⟨x1.toArray⟩:ByteArray)=sx:=⟨_,rfl⟩
 rw[hs1] at hc1 z12
 obtain⟨R,hRR⟩:∃ R,K.R=R:=⟨_,rfl⟩
 show Calls Tryz.prog 90 #[acV K.R V,.agg #[.int .i64 kd,.int .i64 n,.string ⟨nm.toArray⟩,.int .i64 op,.slice (some ⟨gb0,0,none⟩) kids.length cc]] w _
 rw[hL] at hlen0 hlen1 hW2 j2  ⊢
 rw[hsx] at hW2 j2 ⊢
 rw[hRR] at hW2 j1 hc0 hc1 htr hRlt hgR ⊢
 obtain⟨u0,u1,_,_⟩:=j1.cells2
 have v2:W2.cell? ⟨w.heap.size+1,2,none⟩=some (.string sx):=j2.cell 2
 have v3:W2.cell? ⟨w.heap.size+1,3,none⟩=some (.int .i64 op):=j2.cell 3
 have v4:W2.cell? ⟨w.heap.size+1,4,none⟩=some (.slice (some ⟨gb0,0,none⟩) L cc):=j2.cell 4
 have e1:(x==0)=false:=neI hx
 clear hx
 have hI1:(1:Int) < (L:Int):=by omega
 have HC0:=Hd hc0
 have HC1:=Hd hc1
 have HW:=Hd (Ai hW2 (Ai hb2 (Ai hsz (Ai htr (Ai j1.lt (Ai j2.lt (Ai hMW (Ai hsx hRR))))))))
 clear hc0 hrep0 hok0 hs0 hc1 hrep1 hok1 hs1 hA1 q00 q01 q02 q03 q04 q10 q11 q12 q13 q14 ha hra hb hrb hW2 hb2 hsz htr hMW j1 j2 hM hV hE hkid hL hsx hRR
 go_enter Tryz.func90,Tryz.ntmps90
 go_wp2_with fail
 rw[HW.out.1]
 go_region_held3 (fun w'=>w'.cell? ⟨gb0,0,none⟩=some (.int .i64 k0)∧w'.cell? ⟨gb0,1,none⟩=some (.int .i64 n0)∧w'.cell? ⟨gb0,2,none⟩=some (.string s0)∧w'.cell? ⟨gb0,3,none⟩=some (.int .i64 o0)∧w'.cell? ⟨gb0,4,none⟩=some (.slice A0 L0 c0)∧w'.cell? ⟨w.heap.size,0,none⟩=some (.pointer (some ⟨R,0,none⟩))∧w'.cell? ⟨w.heap.size,1,none⟩=some (.map (some V))∧w'.cell? ⟨w.heap.size+1,4,none⟩=some (.slice (some ⟨gb0,0,none⟩) L cc)) (first | exact⟨z00,z01,z02,z03,z04,u0,u1,v4⟩ | exact⟨e0,e1,e2,e3,e4,e5,e6,e7⟩)
  ((go_at_call 50;((with_reducible refine (HC0.out _ ?_).mono ?_));rotate_left;(rintro e w3 h3;obtain⟨n3,b3,rfl,h3⟩:=zA3 h3;have h3:EvP K m.out (.val x) W2 (.returned (.tuple #[.int .i64 n3,.bool b3])) w3:=h3.world id id id rfl;have e0:=(h3.at (b:=gb0) (i:=0) (Ll hgb HW.out.2.1.size) (HW.out.2.2.2.2.2.2.2.2 ▸ hgR)).trans z00;have e1:=(h3.at (b:=gb0) (i:=1) (Ll hgb HW.out.2.1.size) (HW.out.2.2.2.2.2.2.2.2 ▸ hgR)).trans z01;have e2:=(h3.at (b:=gb0) (i:=2) (Ll hgb HW.out.2.1.size) (HW.out.2.2.2.2.2.2.2.2 ▸ hgR)).trans z02;have e3:=(h3.at (b:=gb0) (i:=3) (Ll hgb HW.out.2.1.size) (HW.out.2.2.2.2.2.2.2.2 ▸ hgR)).trans z03;have e4:=(h3.at (b:=gb0) (i:=4) (Ll hgb HW.out.2.1.size) (HW.out.2.2.2.2.2.2.2.2 ▸ hgR)).trans z04;have e5:=(h3.at (b:=w.heap.size) (i:=0) HW.out.2.2.2.2.1 (HW.out.2.2.2.2.2.2.2.2 ▸ (Nat.ne_of_gt hRlt))).trans u0;have e6:=(h3.at (b:=w.heap.size) (i:=1) HW.out.2.2.2.2.1 (HW.out.2.2.2.2.2.2.2.2 ▸ (Nat.ne_of_gt hRlt))).trans u1;have e7:=(h3.at (b:=w.heap.size+1) (i:=4) HW.out.2.2.2.2.2.1 (HW.out.2.2.2.2.2.2.2.2 ▸ (Nat.ne_of_gt (Nat.lt_succ_of_lt hRlt)))).trans v4);rotate_left;(first | exact Below.refl _ _ | exact below_drewN (Below.refl _ _) _)))
 obtain⟨hx,hbw⟩:=h3
 obtain⟨rfl,rfl⟩:n3=x∧b3=true:=by injection hx with hx;injection hx with hx;simp at hx;exact hx
 have HB:=Hd hbw
 clear hx hbw
 have hb3:Below w.heap.size w w3:=HW.out.2.1.trans (below_down HB.out HW.out.2.1.size)
 have H3:=Hd hb3
 clear hb3
 go_wp2_with fail
 have y0:=(HB.out.cell (p:=⟨gb0,5,none⟩) (Ll hgb HW.out.2.1.size)).trans z10
 have y1:=(HB.out.cell (p:=⟨gb0,6,none⟩) (Ll hgb HW.out.2.1.size)).trans z11
 have y2:=(HB.out.cell (p:=⟨gb0,7,none⟩) (Ll hgb HW.out.2.1.size)).trans z12
 have y3:=(HB.out.cell (p:=⟨gb0,8,none⟩) (Ll hgb HW.out.2.1.size)).trans z13
 have y4:=(HB.out.cell (p:=⟨gb0,9,none⟩) (Ll hgb HW.out.2.1.size)).trans z14
 go_region_held3 (fun w'=>w'.cell? ⟨gb0,5,none⟩=some (.int .i64 k1)∧w'.cell? ⟨gb0,6,none⟩=some (.int .i64 n1)∧w'.cell? ⟨gb0,7,none⟩=some (.string s1)∧w'.cell? ⟨gb0,8,none⟩=some (.int .i64 o1)∧w'.cell? ⟨gb0,9,none⟩=some (.slice A1 L1 c1)∧w'.cell? ⟨w.heap.size,0,none⟩=some (.pointer (some ⟨R,0,none⟩))∧w'.cell? ⟨w.heap.size,1,none⟩=some (.map (some V))∧w'.cell? ⟨w.heap.size+1,4,none⟩=some (.slice (some ⟨gb0,0,none⟩) L cc)) (first | exact⟨y0,y1,y2,y3,y4,e5,e6,e7⟩ | exact⟨d0,d1,d2,d3,d4,d5,d6,d7⟩)
 ((go_at_call 50;((with_reducible refine (HC1.out _ ?_).mono ?_));rotate_left;(rintro e w4 h4;obtain⟨n4,b4,rfl,h4⟩:=zA3 h4;have h4:EvP K m.out rb w3 (.returned (.tuple #[.int .i64 n4,.bool b4])) w4:=h4.world id id id rfl;have d0:=(h4.at (b:=gb0) (i:=5) (Ll hgb (Nat.le_trans HW.out.2.1.size HB.out.size)) (HW.out.2.2.2.2.2.2.2.2 ▸ hgR)).trans y0;have d1:=(h4.at (b:=gb0) (i:=6) (Ll hgb (Nat.le_trans HW.out.2.1.size HB.out.size)) (HW.out.2.2.2.2.2.2.2.2 ▸ hgR)).trans y1;have d2:=(h4.at (b:=gb0) (i:=7) (Ll hgb (Nat.le_trans HW.out.2.1.size HB.out.size)) (HW.out.2.2.2.2.2.2.2.2 ▸ hgR)).trans y2;have d3:=(h4.at (b:=gb0) (i:=8) (Ll hgb (Nat.le_trans HW.out.2.1.size HB.out.size)) (HW.out.2.2.2.2.2.2.2.2 ▸ hgR)).trans y3;have d4:=(h4.at (b:=gb0) (i:=9) (Ll hgb (Nat.le_trans HW.out.2.1.size HB.out.size)) (HW.out.2.2.2.2.2.2.2.2 ▸ hgR)).trans y4;have d5:=(h4.at (b:=w.heap.size) (i:=0) (Ll HW.out.2.2.2.2.1 HB.out.size) (HW.out.2.2.2.2.2.2.2.2 ▸ (Nat.ne_of_gt hRlt))).trans e5;have d6:=(h4.at (b:=w.heap.size) (i:=1) (Ll HW.out.2.2.2.2.1 HB.out.size) (HW.out.2.2.2.2.2.2.2.2 ▸ (Nat.ne_of_gt hRlt))).trans e6;have d7:=(h4.at (b:=w.heap.size+1) (i:=4) (Ll HW.out.2.2.2.2.2.1 HB.out.size) (HW.out.2.2.2.2.2.2.2.2 ▸ (Nat.ne_of_gt (Nat.lt_succ_of_lt hRlt)))).trans e7);rotate_left;(first | exact HB.out | exact below_drewN HB.out _)))
 have HA:=Hd h4
 clear h4
 go_wp2_with fail
 go_ret2
 exact HA.out.back H3.out HW.out.2.2.1
theorem iv_ch_2 (g:Nat)(ih:EvC g){K:Cf}(hK:CfOK K){o:Option Nat}{m:MS}{Vs:IX.Vs}{V c:Nat}{kd n:Int}{nm:List UInt8}{op:Int}{kids:List PE}{cs:List Value}{w:World}
 {a b:PE} {rb:Rs} (ha:kids[0]?=some a) (hra:evE g Vs m.C a=some (.val 0)) (hb:kids[2]?=some b) (hrb:evE g Vs m.C b=some rb) (hE:RepE w K.ok (.mk kd n nm op kids) cs) (hM:MSt K o m w) (hV:VMp K o V c Vs w) :
 Calls Tryz.prog 90 #[acV K.R V,.agg cs.toArray] w (EvP K m.out rb w):=by
 obtain⟨A,cc,rfl,hkid⟩:=zCo hE
 obtain⟨gb0,k0,n0,x0,o0,A0,L0,c0,hA0,hok0,hrep0,q00,q01,q02,q03,q04⟩:=hkid 0 a ha
 obtain⟨gb2,k2,n2,x2,o2,A2,L2,c2,hA2,hok2,hrep2,q20,q21,q22,q23,q24⟩:=hkid 2 b hb
 obtain rfl:=hA0
 obtain rfl:gb0=gb2:=by injection hA2 with e;injection e
 have hsz:=hM.size hK
 have hgb:gb0 < w.heap.size:=Ll (hK.ok gb0 hok0) hsz
 have hRlt:K.R < w.heap.size:=hM.lt _ (Or.inl rfl)
 have hgR:gb0≠K.R:=fun e=>by have h1:=hK.ok _ hok0;have h2:=hK.r;omega
 have hlen0:0 < kids.length:=(Gs.1 ha).1
 have hlen2:2 < kids.length:=(Gs.1 hb).1
 obtain⟨W2,hW2⟩:∃ W2,(w.alloc (.cells #[.pointer (some ⟨K.R,0,none⟩),.map (some V)] 114)).alloc (.cells #[.int .i64 kd,.int .i64 n,.string ⟨nm.toArray⟩,.int .i64 op,.slice (some ⟨gb0,0,none⟩) kids.length cc] 36)=W2:=⟨_,rfl⟩
 have hb2:Below w.heap.size w W2:=by rw[←hW2];exact ((Below.refl _ _).alloc (Lr _) _).alloc (by simp) _
 have j1:Blk W2 w.heap.size 114 #[.pointer (some ⟨K.R,0,none⟩),.map (some V)]:=by rw[←hW2];exact (Blk.new _ _ _).alloc _
 have j2:Blk W2 (w.heap.size+1) 36 #[.int .i64 kd,.int .i64 n,.string ⟨nm.toArray⟩,.int .i64 op,.slice (some ⟨gb0,0,none⟩) kids.length cc]:=by rw[←hW2];exact blk_at (by simp) _ _
 have hc0:∀ W,Below W2.heap.size W2 W→Calls Tryz.prog 50 #[acV K.R V,.agg #[.int .i64 k0,.int .i64 n0,.string ⟨x0.toArray⟩,.int .i64 o0,.slice A0 L0 c0]] W (EvP K m.out (.val 0) W):=fun W hW=>by
  have hbW:Below w.heap.size w W:=hb2.trans (below_down hW hb2.size)
  exact ih K o m Vs V c a (.val 0) _ W hK hra (hrep0.keep (fun _ h=>h) (fun i hi=>hbW.block i (Ll (hK.ok i hi) hsz))) (hM.low hK hbW) (hV.low hbW)
 have z00:W2.cell? ⟨gb0,0,none⟩=some (.int .i64 k0):=(hb2.cell (p:=⟨gb0,0,none⟩) hgb).trans q00
 have z01:W2.cell? ⟨gb0,1,none⟩=some (.int .i64 n0):=(hb2.cell (p:=⟨gb0,1,none⟩) hgb).trans q01
 have z02:W2.cell? ⟨gb0,2,none⟩=some (.string ⟨x0.toArray⟩):=(hb2.cell (p:=⟨gb0,2,none⟩) hgb).trans q02
 have z03:W2.cell? ⟨gb0,3,none⟩=some (.int .i64 o0):=(hb2.cell (p:=⟨gb0,3,none⟩) hgb).trans q03
 have z04:W2.cell? ⟨gb0,4,none⟩=some (.slice A0 L0 c0):=(hb2.cell (p:=⟨gb0,4,none⟩) hgb).trans q04
 have hc2:∀ W,Below W2.heap.size W2 W→Calls Tryz.prog 50 #[acV K.R V,.agg #[.int .i64 k2,.int .i64 n2,.string ⟨x2.toArray⟩,.int .i64 o2,.slice A2 L2 c2]] W (EvP K m.out rb W):=fun W hW=>by
  have hbW:Below w.heap.size w W:=hb2.trans (below_down hW hb2.size)
  exact ih K o m Vs V c b rb _ W hK hrb (hrep2.keep (fun _ h=>h) (fun i hi=>hbW.block i (Ll (hK.ok i hi) hsz))) (hM.low hK hbW) (hV.low hbW)
 have z20:W2.cell? ⟨gb0,10,none⟩=some (.int .i64 k2):=(hb2.cell (p:=⟨gb0,10,none⟩) hgb).trans q20
 have z21:W2.cell? ⟨gb0,11,none⟩=some (.int .i64 n2):=(hb2.cell (p:=⟨gb0,11,none⟩) hgb).trans q21
 have z22:W2.cell? ⟨gb0,12,none⟩=some (.string ⟨x2.toArray⟩):=(hb2.cell (p:=⟨gb0,12,none⟩) hgb).trans q22
 have z23:W2.cell? ⟨gb0,13,none⟩=some (.int .i64 o2):=(hb2.cell (p:=⟨gb0,13,none⟩) hgb).trans q23
 have z24:W2.cell? ⟨gb0,14,none⟩=some (.slice A2 L2 c2):=(hb2.cell (p:=⟨gb0,14,none⟩) hgb).trans q24
 have hMW:∀ W,Below w.heap.size w W→MSt K o m W:=fun W hW=>hM.low hK hW
 have htr:∀ W,Below w.heap.size w W→∀ c,Calls Tryz.prog 133 #[.pointer (some ⟨K.R,0,none⟩),.int .i64 c] W (fun e w'=>e=.returned (.bool false)∧EndW K 2 c m.out W w'∧W.grownBy w' (some K.R)):=fun W hW c=>zCx hK (hM.low hK hW) c
 obtain⟨L,hL⟩:∃ L,kids.length=L:=⟨_,rfl⟩
 obtain⟨sx,hsx⟩:∃ sx:ByteArray,(⟨nm.toArray⟩:ByteArray)=sx:=⟨_,rfl⟩
 obtain⟨s0,hs0⟩:∃ sx:ByteArray,(⟨x0.toArray⟩:ByteArray)=sx:=⟨_,rfl⟩
 rw[hs0] at hc0 z02
 obtain⟨s2,hs2⟩:∃ sx:ByteArray,(⟨x2.toArray⟩:ByteArray)=sx:=⟨_,rfl⟩
 rw[hs2] at hc2 z22
 obtain⟨R,hRR⟩:∃ R,K.R=R:=⟨_,rfl⟩
 show Calls Tryz.prog 90 #[acV K.R V,.agg #[.int .i64 kd,.int .i64 n,.string ⟨nm.toArray⟩,.int .i64 op,.slice (some ⟨gb0,0,none⟩) kids.length cc]] w _
 rw[hL] at hlen0 hlen2 hW2 j2  ⊢
 rw[hsx] at hW2 j2 ⊢
 rw[hRR] at hW2 j1 hc0 hc2 htr hRlt hgR ⊢
 obtain⟨u0,u1,_,_⟩:=j1.cells2
 have v2:W2.cell? ⟨w.heap.size+1,2,none⟩=some (.string sx):=j2.cell 2
 have v3:W2.cell? ⟨w.heap.size+1,3,none⟩=some (.int .i64 op):=j2.cell 3
 have v4:W2.cell? ⟨w.heap.size+1,4,none⟩=some (.slice (some ⟨gb0,0,none⟩) L cc):=j2.cell 4
 have hI2:(2:Int) < (L:Int):=by omega
 have HC0:=Hd hc0
 have HC2:=Hd hc2
 have HW:=Hd (Ai hW2 (Ai hb2 (Ai hsz (Ai htr (Ai j1.lt (Ai j2.lt (Ai hMW (Ai hsx hRR))))))))
 clear hc0 hrep0 hok0 hs0 hc2 hrep2 hok2 hs2 hA2 q00 q01 q02 q03 q04 q20 q21 q22 q23 q24 ha hra hb hrb hW2 hb2 hsz htr hMW j1 j2 hM hV hE hkid hL hsx hRR
 go_enter Tryz.func90,Tryz.ntmps90
 go_wp2_with fail
 rw[HW.out.1]
 go_region_held3 (fun w'=>w'.cell? ⟨gb0,0,none⟩=some (.int .i64 k0)∧w'.cell? ⟨gb0,1,none⟩=some (.int .i64 n0)∧w'.cell? ⟨gb0,2,none⟩=some (.string s0)∧w'.cell? ⟨gb0,3,none⟩=some (.int .i64 o0)∧w'.cell? ⟨gb0,4,none⟩=some (.slice A0 L0 c0)∧w'.cell? ⟨w.heap.size,0,none⟩=some (.pointer (some ⟨R,0,none⟩))∧w'.cell? ⟨w.heap.size,1,none⟩=some (.map (some V))∧w'.cell? ⟨w.heap.size+1,4,none⟩=some (.slice (some ⟨gb0,0,none⟩) L cc)) (first | exact⟨z00,z01,z02,z03,z04,u0,u1,v4⟩ | exact⟨e0,e1,e2,e3,e4,e5,e6,e7⟩)
  ((go_at_call 50;((with_reducible refine (HC0.out _ ?_).mono ?_));rotate_left;(rintro e w3 h3;obtain⟨n3,b3,rfl,h3⟩:=zA3 h3;have h3:EvP K m.out (.val 0) W2 (.returned (.tuple #[.int .i64 n3,.bool b3])) w3:=h3.world id id id rfl;have e0:=(h3.at (b:=gb0) (i:=0) (Ll hgb HW.out.2.1.size) (HW.out.2.2.2.2.2.2.2.2 ▸ hgR)).trans z00;have e1:=(h3.at (b:=gb0) (i:=1) (Ll hgb HW.out.2.1.size) (HW.out.2.2.2.2.2.2.2.2 ▸ hgR)).trans z01;have e2:=(h3.at (b:=gb0) (i:=2) (Ll hgb HW.out.2.1.size) (HW.out.2.2.2.2.2.2.2.2 ▸ hgR)).trans z02;have e3:=(h3.at (b:=gb0) (i:=3) (Ll hgb HW.out.2.1.size) (HW.out.2.2.2.2.2.2.2.2 ▸ hgR)).trans z03;have e4:=(h3.at (b:=gb0) (i:=4) (Ll hgb HW.out.2.1.size) (HW.out.2.2.2.2.2.2.2.2 ▸ hgR)).trans z04;have e5:=(h3.at (b:=w.heap.size) (i:=0) HW.out.2.2.2.2.1 (HW.out.2.2.2.2.2.2.2.2 ▸ (Nat.ne_of_gt hRlt))).trans u0;have e6:=(h3.at (b:=w.heap.size) (i:=1) HW.out.2.2.2.2.1 (HW.out.2.2.2.2.2.2.2.2 ▸ (Nat.ne_of_gt hRlt))).trans u1;have e7:=(h3.at (b:=w.heap.size+1) (i:=4) HW.out.2.2.2.2.2.1 (HW.out.2.2.2.2.2.2.2.2 ▸ (Nat.ne_of_gt (Nat.lt_succ_of_lt hRlt)))).trans v4);rotate_left;(first | exact Below.refl _ _ | exact below_drewN (Below.refl _ _) _)))
 obtain⟨hx,hbw⟩:=h3
 obtain⟨rfl,rfl⟩:n3=0∧b3=true:=by injection hx with hx;injection hx with hx;simp at hx;exact hx
 have HB:=Hd hbw
 clear hx hbw
 have hb3:Below w.heap.size w w3:=HW.out.2.1.trans (below_down HB.out HW.out.2.1.size)
 have H3:=Hd hb3
 clear hb3
 go_wp2_with fail
 have y0:=(HB.out.cell (p:=⟨gb0,10,none⟩) (Ll hgb HW.out.2.1.size)).trans z20
 have y1:=(HB.out.cell (p:=⟨gb0,11,none⟩) (Ll hgb HW.out.2.1.size)).trans z21
 have y2:=(HB.out.cell (p:=⟨gb0,12,none⟩) (Ll hgb HW.out.2.1.size)).trans z22
 have y3:=(HB.out.cell (p:=⟨gb0,13,none⟩) (Ll hgb HW.out.2.1.size)).trans z23
 have y4:=(HB.out.cell (p:=⟨gb0,14,none⟩) (Ll hgb HW.out.2.1.size)).trans z24
 go_region_held3 (fun w'=>w'.cell? ⟨gb0,10,none⟩=some (.int .i64 k2)∧w'.cell? ⟨gb0,11,none⟩=some (.int .i64 n2)∧w'.cell? ⟨gb0,12,none⟩=some (.string s2)∧w'.cell? ⟨gb0,13,none⟩=some (.int .i64 o2)∧w'.cell? ⟨gb0,14,none⟩=some (.slice A2 L2 c2)∧w'.cell? ⟨w.heap.size,0,none⟩=some (.pointer (some ⟨R,0,none⟩))∧w'.cell? ⟨w.heap.size,1,none⟩=some (.map (some V))∧w'.cell? ⟨w.heap.size+1,4,none⟩=some (.slice (some ⟨gb0,0,none⟩) L cc)) (first | exact⟨y0,y1,y2,y3,y4,e5,e6,e7⟩ | exact⟨d0,d1,d2,d3,d4,d5,d6,d7⟩)
 ((go_at_call 50;((with_reducible refine (HC2.out _ ?_).mono ?_));rotate_left;(rintro e w4 h4;obtain⟨n4,b4,rfl,h4⟩:=zA3 h4;have h4:EvP K m.out rb w3 (.returned (.tuple #[.int .i64 n4,.bool b4])) w4:=h4.world id id id rfl;have d0:=(h4.at (b:=gb0) (i:=10) (Ll hgb (Nat.le_trans HW.out.2.1.size HB.out.size)) (HW.out.2.2.2.2.2.2.2.2 ▸ hgR)).trans y0;have d1:=(h4.at (b:=gb0) (i:=11) (Ll hgb (Nat.le_trans HW.out.2.1.size HB.out.size)) (HW.out.2.2.2.2.2.2.2.2 ▸ hgR)).trans y1;have d2:=(h4.at (b:=gb0) (i:=12) (Ll hgb (Nat.le_trans HW.out.2.1.size HB.out.size)) (HW.out.2.2.2.2.2.2.2.2 ▸ hgR)).trans y2;have d3:=(h4.at (b:=gb0) (i:=13) (Ll hgb (Nat.le_trans HW.out.2.1.size HB.out.size)) (HW.out.2.2.2.2.2.2.2.2 ▸ hgR)).trans y3;have d4:=(h4.at (b:=gb0) (i:=14) (Ll hgb (Nat.le_trans HW.out.2.1.size HB.out.size)) (HW.out.2.2.2.2.2.2.2.2 ▸ hgR)).trans y4;have d5:=(h4.at (b:=w.heap.size) (i:=0) (Ll HW.out.2.2.2.2.1 HB.out.size) (HW.out.2.2.2.2.2.2.2.2 ▸ (Nat.ne_of_gt hRlt))).trans e5;have d6:=(h4.at (b:=w.heap.size) (i:=1) (Ll HW.out.2.2.2.2.1 HB.out.size) (HW.out.2.2.2.2.2.2.2.2 ▸ (Nat.ne_of_gt hRlt))).trans e6;have d7:=(h4.at (b:=w.heap.size+1) (i:=4) (Ll HW.out.2.2.2.2.2.1 HB.out.size) (HW.out.2.2.2.2.2.2.2.2 ▸ (Nat.ne_of_gt (Nat.lt_succ_of_lt hRlt)))).trans e7);rotate_left;(first | exact HB.out | exact below_drewN HB.out _)))
 have HA:=Hd h4
 clear h4
 go_wp2_with fail
 go_ret2
 exact HA.out.back H3.out HW.out.2.2.1
theorem iv_ch (g:Nat)(ih:EvC g){K:Cf}(hK:CfOK K){o:Option Nat}{m:MS}{Vs:IX.Vs}{V c:Nat}{kd n:Int}{nm:List UInt8}{op:Int}{kids:List PE}{r:Rs}{cs:List Value}{w:World}(h1:kd≠1)(h2:kd≠2)(h3:kd≠3)(h4:kd≠4)
 (hr:evE (g+1) Vs m.C (.mk kd n nm op kids)=some r) (hE:RepE w K.ok (.mk kd n nm op kids) cs) (hM:MSt K o m w) (hV:VMp K o V c Vs w) :
 Calls Tryz.prog 90 #[acV K.R V,.agg cs.toArray] w (EvP K m.out r w):=by
 obtain⟨a,ra,ha,hra,⟨ct,rfl,rfl⟩ | ⟨x,rfl,⟨rfl,b,hb,hrb⟩ | ⟨hx,b,hb,hrb⟩⟩⟩:=ev5 h1 h2 h3 h4 hr
 ·exact iv_ch_t g ih hK ha hra hE hM hV
 ·exact iv_ch_2 g ih hK ha hra hb hrb hE hM hV
 ·exact iv_ch_1 g ih hK hx ha hra hb hrb hE hM hV
set_option maxRecDepth 100000
set_option maxHeartbeats 4000000
theorem ev_zero:EvC 0:=fun _ _ _ _ _ _ _ _ _ _ _ hr=>by
 unfold evE at hr
 cases hr
theorem ev_1 {K:Cf}{m:MS}{V:Nat}{kd n:Int}{nm:List UInt8}{op:Int}{kids:List PE}{A:Option Addr}{c:Nat}{w:World}(h1:kd=1) :
 Calls Tryz.prog 50 #[acV K.R V,.agg (exC kd n nm op A kids.length c).toArray] w (EvP K m.out (.val n) w):=by
 subst h1
 obtain⟨L,hL⟩:∃ L,kids.length=L:=⟨_,rfl⟩
 obtain⟨sx,hsx⟩:∃ sx:ByteArray,(⟨nm.toArray⟩:ByteArray)=sx:=⟨_,rfl⟩
 obtain⟨R,hRR⟩:∃ R,K.R=R:=⟨_,rfl⟩
 show Calls Tryz.prog 50 #[acV K.R V,.agg #[.int .i64 1,.int .i64 n,.string ⟨nm.toArray⟩,.int .i64 op,.slice A kids.length c]] w _
 rw[hL,hsx,hRR]
 clear hL hsx hRR
 go_enter Tryz.func50,Tryz.ntmps50
 go_wp2_with fail
 go_ret2
 exact evV rfl (((Below.refl _ _).alloc (Lr _) _).alloc (by simp) _)
theorem ev_2 {K:Cf}{o:Option Nat}{m:MS}{Vs:IX.Vs}{V cv:Nat}{kd n:Int}{nm:List UInt8}{op:Int}{kids:List PE}{A:Option Addr}{c:Nat}{w:World}(h1:kd=2)(hnm:nmOK nm=true)(hV:VMp K o V cv Vs w) :
 Calls Tryz.prog 50 #[acV K.R V,.agg (exC kd n nm op A kids.length c).toArray] w (EvP K m.out (.val (Vs nm)) w):=by
 subst h1
 obtain⟨L,hL⟩:∃ L,kids.length=L:=⟨_,rfl⟩
 obtain⟨sx,hsx⟩:∃ sx:ByteArray,(⟨nm.toArray⟩:ByteArray)=sx:=⟨_,rfl⟩
 obtain⟨R,hRR⟩:∃ R,K.R=R:=⟨_,rfl⟩
 obtain⟨W2,hW2⟩:∃ W2,(w.alloc (.cells #[.pointer (some ⟨K.R,0,none⟩),.map (some V)] 114)).alloc (.cells #[.int .i64 2,.int .i64 n,.string ⟨nm.toArray⟩,.int .i64 op,.slice A kids.length c] 36)=W2:=⟨_,rfl⟩
 have hb2:Below w.heap.size w W2:=by rw[←hW2];exact ((Below.refl _ _).alloc (Lr _) _).alloc (by simp) _
 obtain⟨g,hg,hgx⟩:=(hV.low hb2).m
 have hrun:=hg.look mapV (z:=.int .i64 0) (by kernel_rfl) nm (of_decide_eq_true hnm)
 rw[hgx nm] at hrun
 obtain⟨v,hv⟩:∃ v,Vs nm=v:=⟨_,rfl⟩
 rw[hv] at hrun ⊢
 show Calls Tryz.prog 50 #[acV K.R V,.agg #[.int .i64 2,.int .i64 n,.string ⟨nm.toArray⟩,.int .i64 op,.slice A kids.length c]] w _
 rw[hL,hsx,hRR] at hW2
 rw[hL,hsx,hRR]
 rw[hsx,←hW2] at hrun
 have HW:=Hd (Ai hW2 hb2)
 clear hL hsx hRR hV hg hgx hW2 hb2 hv hnm
 go_enter Tryz.func50,Tryz.ntmps50
 go_wp2_with fail
 go_ret2
 exact evV rfl (HW.out.1 ▸ HW.out.2)
theorem ev_k {K:Cf}(hK:CfOK K){o:Option Nat}{m:MS}{Vs:IX.Vs}{V cv:Nat}{kd n:Int}{nm:List UInt8}{op:Int}{kids:List PE}{r:Rs}{cs:List Value}{w:World}(h1:kd≠1)(h2:kd≠2)
 (hE:RepE w K.ok (.mk kd n nm op kids) cs) (hM:MSt K o m w) (hV:VMp K o V cv Vs w)
 (F:Nat) (hF:F=if kd=3 then 88 else if kd=4 then 89 else 90)
 (hc:∀ W,RepE W K.ok (.mk kd n nm op kids) cs→MSt K o m W→VMp K o V cv Vs W→Calls Tryz.prog F #[acV K.R V,.agg cs.toArray] W (EvP K m.out r W)) :
 Calls Tryz.prog 50 #[acV K.R V,.agg cs.toArray] w (EvP K m.out r w):=by
 have hsz:=hM.size hK
 obtain⟨A,cc,rfl,_⟩:=zCo hE
 obtain⟨W2,hW2⟩:∃ W2,(w.alloc (.cells #[.pointer (some ⟨K.R,0,none⟩),.map (some V)] 114)).alloc (.cells #[.int .i64 kd,.int .i64 n,.string ⟨nm.toArray⟩,.int .i64 op,.slice A kids.length cc] 36)=W2:=⟨_,rfl⟩
 have hb2:Below w.heap.size w W2:=by rw[←hW2];exact ((Below.refl _ _).alloc (Lr _) _).alloc (by simp) _
 have hc2:=hc W2 (hE.keep (fun _ h=>h) (fun i hi=>hb2.block i (Ll (hK.ok i hi) hsz))) (hM.low hK hb2) (hV.low hb2)
 have hc2:Calls Tryz.prog F #[acV K.R V,.agg #[.int .i64 kd,.int .i64 n,.string ⟨nm.toArray⟩,.int .i64 op,.slice A kids.length cc]] W2 (EvP K m.out r W2):=hc2
 show Calls Tryz.prog 50 #[acV K.R V,.agg #[.int .i64 kd,.int .i64 n,.string ⟨nm.toArray⟩,.int .i64 op,.slice A kids.length cc]] w _
 obtain⟨L,hL⟩:∃ L,kids.length=L:=⟨_,rfl⟩
 obtain⟨sx,hsx⟩:∃ sx:ByteArray,(⟨nm.toArray⟩:ByteArray)=sx:=⟨_,rfl⟩
 obtain⟨R,hRR⟩:∃ R,K.R=R:=⟨_,rfl⟩
 rw[hL,hsx,hRR] at hW2 hc2
 rw[hL,hsx,hRR]
 have HC:=Hd hc2
 have HW:=Hd (Ai hW2 (Ai hb2 hsz))
 have e1:=neI h1
 have e2:=neI h2
 clear hL hsx hRR hW2 hb2 hc2 hc hE hM hV hsz h1 h2
 by_cases h3:kd=3
 ·subst h3
  obtain rfl:F=88:=hF
  go_enter Tryz.func50,Tryz.ntmps50
  go_wp2_with fail
  rw[HW.out.1]
  refine HC.out.mono ?_
  rintro e w3 h3
  obtain⟨n3,b3,rfl,h3⟩:=zA3 h3
  have HA:=Hd h3
  clear h3
  go_wp2_with fail
  go_ret2
  exact HA.out.back HW.out.2.1 HW.out.2.2
 ·rw[if_neg h3] at hF
  have e3:=neI h3
  by_cases h4:kd=4
  ·subst h4
   obtain rfl:F=89:=hF
   clear h3
   go_enter Tryz.func50,Tryz.ntmps50
   go_wp2_with fail
   rw[HW.out.1]
   refine HC.out.mono ?_
   rintro e w3 h3
   obtain⟨n3,b3,rfl,h3⟩:=zA3 h3
   have HA:=Hd h3
   clear h3
   go_wp2_with fail
   go_ret2
   exact HA.out.back HW.out.2.1 HW.out.2.2
  ·rw[if_neg h4] at hF
   have e4:=neI h4
   subst hF
   clear h3 h4
   go_enter Tryz.func50,Tryz.ntmps50
   go_wp2_with fail
   rw[HW.out.1]
   refine HC.out.mono ?_
   rintro e w3 h3
   obtain⟨n3,b3,rfl,h3⟩:=zA3 h3
   have HA:=Hd h3
   clear h3
   go_wp2_with fail
   go_ret2
   exact HA.out.back HW.out.2.1 HW.out.2.2
theorem ev_succ (g:Nat)(ih:EvC g):EvC (g+1):=fun K o m Vs V c e r cs w hK hr hE hM hV=>by
 cases e with
 | mk kd n nm op kids =>
  by_cases h1:kd=1
  ·subst h1
   obtain rfl:=ev1 hr
   obtain⟨A,cc,rfl,_⟩:=zCo hE
   exact ev_1 rfl
  ·by_cases h2:kd=2
   ·subst h2
    have hnm:=ev_nm hr
    obtain rfl:=ev2 hr
    obtain⟨A,cc,rfl,_⟩:=zCo hE
    exact ev_2 rfl hnm hV
   ·by_cases h3:kd=3
    ·subst h3
     obtain⟨a,ra,ha,hra,rfl⟩:=ev3 hr
     exact ev_k hK h1 h2 hE hM hV _ rfl (fun W hE hM hV=>iv_load g ih hK (ev_nm hr) ha hra hE hM hV)
    ·by_cases h4:kd=4
     ·subst h4
      exact ev_k hK h1 h2 hE hM hV _ rfl (fun W hE hM hV=>iv_op g ih hK hr hE hM hV)
     ·exact ev_k hK h1 h2 hE hM hV _ (by rw[if_neg h3,if_neg h4]) (fun W hE hM hV=>iv_ch g ih hK h1 h2 h3 h4 hr hE hM hV)
theorem ev_any (g:Nat):EvC g:=by
 induction g with
 | zero=>exact ev_zero
 | succ g ih=>exact ev_succ g ih
end Go.Proofs.YtpgnlfdindmopaaGreatDoor
