/- Words and walks for the laws of the interpreter. -/
import Derived.Test.YtpgnlfdindmopaaGreatDoorI4
import Derived.Test.YtpgnlfdindmopaaGreatDoorI1
import Derived.Deep.LoopGhost
namespace Go.Proofs.YtpgnlfdindmopaaGreatDoor
open Go.RowKit (wrap64 intOf)
open Go Go.RowKit WM LX PX CX IX
set_option maxRecDepth 100000
set_option maxHeartbeats 4000000
section
variable {K:Cf} {o o':Option Nat} {m m':MS} {Vs Vs':IX.Vs} {V c:Nat} {w w1 w2 w3 w':World}
theorem MSt.bump (h:MSt K o m w)(k:Nat)(hk:m.k≤k):MSt K o ⟨m.fuel,m.C,m.out,k⟩ w:=⟨h.F,h.A,h.R,h.fu,Nat.le_trans h.k hk,h.lt,h.o⟩
theorem xrE {k cd:Int}{out:List Int}(h:EndW K k cd out w1 w')(hb:Below w.heap.size w w1)(hs:K.b≤w.heap.size):XrP K V o (.ended k cd out) w (.returned (.bool false)) w':=⟨rfl,h.from (bk hb hs)⟩
theorem VMp.low2 (h:VMp K o V c Vs w):K.b≤V∧V≠K.F∧V≠K.Cm∧¬ SS K o V:=⟨h.b,h.n.1,h.n.2,h.s⟩
theorem VMp.put (h:VMp K o V c Vs w)(hc:c < most)(x:List UInt8)(hx:nmOK x=true)(a:Int) :
 ∃ w',(Instr.mapUpdate 112 (.map (some V)) (.string ⟨x.toArray⟩) (.int .i64 a)).run Tryz.prog w=.ok () w'∧VMp K o V (c+1) (upd Vs x a) w'∧w.grownBy w' (some V):=by
 obtain⟨⟨g,h1,h2⟩,hb,hn,hs⟩:=h
 obtain⟨w',r1,r2,r3⟩:=h1.put mapV (by unfold maxLen;unfold most at hc;omega) x (of_decide_eq_true hx) (.int .i64 a)
 refine⟨w',r1,⟨⟨_,r2,fun y=>?_⟩,hb,hn,hs⟩,r3⟩
 unfold upd
 by_cases hxy:x=y
 ·rw[if_pos hxy,if_pos hxy];rfl
 ·rw[if_neg hxy,if_neg hxy];exact h2 y
theorem step_V (h:w.grownBy w' (some V)):Step K (some V) o w o w':=⟨(zCc h).weak (fun _ _ e=>Or.inr (by rw[e])),OO.refl _ _⟩
theorem Step.after {v:Option Nat}(hb:Below w.heap.size w w1)(h:Step K v o w1 o' w2):Step K v o w o' w2:=(Step.low hb).to h
theorem put_fin (hK:CfOK K)(hM:MSt K o m w3)(hV:VMp K o V m.k Vs w3)(hk:m.k < most)(x:List UInt8)(hx:nmOK x=true)(a:Int){o0:Option Nat}{w:World}(hs:Step K (some V) o0 w o w3) :
 ∃ w',(Instr.mapUpdate 112 (.map (some V)) (.string ⟨x.toArray⟩) (.int .i64 a)).run Tryz.prog w3=.ok () w'∧XrP K V o0 (.ok ⟨m.fuel,m.C,m.out,m.k+1⟩ (upd Vs x a)) w (.returned (.bool true)) w':=by
 obtain⟨w',r1,r2,r3⟩:=hV.put hk x hx a
 have h2:=hV.low2
 exact⟨w',r1,rfl,o,hs.to (step_V r3),(hM.keep hK (zCc r3) (fun i e=>by rw[e];exact h2)).bump _ (Nat.le_succ _),r2⟩
theorem MSt.setG (h:MSt K o m w)(hK:CfOK K){x:List UInt8}{i:Int}(hi:oob i (m.C x).length=false)(v:Int) :
 MSt K o ⟨m.fuel,upd m.C x ((m.C x).set i.toNat v),m.out,m.k⟩ (w.setCell ⟨K.G x,i.toNat,none⟩ (.int .i64 v)):=by
 have hsz:=h.size hK
 have ho:=h.o
 obtain⟨⟨cf,gf,hF1,hF2⟩,⟨ca,ga,hA1,hA2⟩,⟨ov,hR,hO,rfl⟩,h1,h2,h3,h4⟩:=h
 have hx0:0 < K.len x:=by
  obtain⟨e1,_⟩:=hA2 x
  unfold oob at hi
  simp only[Bool.or_eq_false_iff,decide_eq_false_iff_not] at hi
  omega
 obtain⟨g1,g2,g3⟩:=hK.gr x hx0
 have hg:∀ j,j≠K.G x→(w.setCell ⟨K.G x,i.toNat,none⟩ (.int .i64 v)).heap[j]?=w.heap[j]?:=fun j hj=>Below.heap_setCell w _ _ j hj
 refine⟨⟨cf,gf,hF1.same (hg _ (Ne.symm g2)),fun y=>?_⟩,⟨ca,ga,hA1.same (hg _ (Ne.symm g3)),fun y=>?_⟩,⟨ov,?_,?_,rfl⟩,h1,h2,fun j hj=>by simpa[World.setCell] using h3 j hj,h4⟩
 ·have:=hF2 y
  cases hy:fnOf K.fs y with
  | none=>rw[hy] at this;exact this
  | some f =>
   rw[hy] at this
   obtain⟨cs,e1,e2⟩:=this
   exact⟨cs,e1,keepsF.k e2 (fun _ h=>h) (fun j hj=>hg j (fun e=>by have:=hK.ok j hj;have:=hK.g x hx0;omega))⟩
 ·obtain⟨e1,A,cp,e2,e3⟩:=hA2 y
  unfold upd
  by_cases hxy:x=y
  ·subst hxy
   dsimp only
   rw[if_pos rfl]
   refine⟨by rw[List.length_set];exact e1,A,cp,e2,fun h0=>⟨(e3 h0).1,?_⟩⟩
   have:=(e3 h0).2.set i.toNat (.int .i64 v)
   have e:ints ((m.C x).set i.toNat v)=(ints (m.C x)).setIfInBounds i.toNat (.int .i64 v):=by
    unfold ints
    rw[List.setIfInBounds_toArray,List.map_set]
   rw[e]
   exact this
  ·dsimp only
   rw[if_neg hxy]
   exact⟨e1,A,cp,e2,fun h0=>⟨(e3 h0).1,(hg _ (hK.gg y x (Ne.symm hxy) h0 hx0)).trans (e3 h0).2⟩⟩
 ·exact (hg _ (Ne.symm g1)).trans hR
 ·exact own_setne hO (fun e=>(ho _ e).2.2.2.2 x hx0 rfl) _
theorem step_G {v:Option Nat}{x:List UInt8}(hx:0 < K.len x)(i:Nat)(u:Value):Step K v o w o (w.setCell ⟨K.G x,i,none⟩ u) :=
 ⟨(zCc (zAz (i:=i) (World.grownBy.refl w (some (K.G x))) u)).weak (fun _ _ e=>Or.inl (Or.inr (Or.inr ⟨x,hx,e⟩))),OO.refl _ _⟩
theorem lenAt (h:MSt K o m w){x:List UInt8}{i:Int}(hi:oob i (m.C x).length=false):0 < K.len x∧i.toNat < (m.C x).length:=by
 obtain⟨ca,ga,hA1,hA2⟩:=h.A
 obtain⟨e1,_⟩:=hA2 x
 unfold oob at hi
 simp only[Bool.or_eq_false_iff,decide_eq_false_iff_not] at hi
 omega
theorem set_fin (hK:CfOK K)(hM:MSt K o m w3)(hV:VMp K o V m.k Vs w3){x:List UInt8}{i:Int}(hi:oob i (m.C x).length=false)(v:Int){w:World}(hb:Below w.heap.size w w3) :
 XrP K V o (.ok ⟨m.fuel,upd m.C x ((m.C x).set i.toNat v),m.out,m.k⟩ Vs) w (.returned (.bool true)) (w3.setCell ⟨K.G x,i.toNat,none⟩ (.int .i64 v)):=by
 obtain⟨hx0,hl⟩:=lenAt hM hi
 have hs:Step K (some V) o w3 o (w3.setCell ⟨K.G x,i.toNat,none⟩ (.int .i64 v)):=step_G hx0 _ _
 refine⟨rfl,o,Step.after hb hs,hM.setG hK hi v,hV.keep (zCc (zAz (i:=i.toNat) (World.grownBy.refl w3 (some (K.G x))) (.int .i64 v))) (fun e=>hV.s (Or.inr (Or.inr ⟨x,hx0,e⟩)))⟩
theorem frozenAt (h:MSt K o m w){x:List UInt8}{i:Int}(hi:oob i (m.C x).length=false):w.frozen? ⟨K.G x,i.toNat,none⟩=false:=by
 obtain⟨hx0,hl⟩:=lenAt h hi
 obtain⟨ca,ga,hA1,hA2⟩:=h.A
 obtain⟨e1,A,cp,e2,e3⟩:=hA2 x
 exact (e3 hx0).2.free _
end
set_option maxRecDepth 100000
set_option maxHeartbeats 4000000
theorem is_assign (g:Nat){K:Cf}(hK:CfOK K){o:Option Nat}{m:MS}{Vs:IX.Vs}{V:Nat}{nm tn:List UInt8}{n:Int}{pos value:PE}{args:List PE}{thn els:List ST}{r:XR}{cs:List Value}{w:World}
 {r2:Rs} (hnm:nmOK nm=true) (he2:evE g Vs m.C value=some r2) (hr:(∃ c,r2=.trap c∧r=.ended 2 c m.out)∨∃ x,r2=.val x∧m.k < most∧r=.ok ⟨m.fuel,m.C,m.out,m.k+1⟩ (upd Vs nm x)) (hS:RepS w K.ok (.mk 1 nm tn n pos value args thn els) cs) (hM:MSt K o m w) (hV:VMp K o V m.k Vs w) :
 Calls Tryz.prog 127 #[acV K.R V,.agg cs.toArray] w (XrP K V o r w):=by
 obtain⟨k1,n1,x1,o1,A1,L1,c1,k2,n2,x2,o2,A2,L2,c2,A3,c3,A4,c4,A5,c5,hcs,rp,rv,ra,rt,re⟩:=zBo hS
 obtain⟨h17,_⟩:=zCn _ _ _ _ hS
 have hsz:=hM.size hK
 have hRlt:K.R < w.heap.size:=hM.lt _ (Or.inl rfl)
 have d1:cs[1]?=some (.string ⟨nm.toArray⟩):=by rw[hcs];rfl
 have d9:cs[9]?=some (.int .i64 k2):=by rw[hcs];rfl
 have d10:cs[10]?=some (.int .i64 n2):=by rw[hcs];rfl
 have d11:cs[11]?=some (.string ⟨x2.toArray⟩):=by rw[hcs];rfl
 have d12:cs[12]?=some (.int .i64 o2):=by rw[hcs];rfl
 have d13:cs[13]?=some (.slice A2 L2 c2):=by rw[hcs];rfl
 obtain⟨W2,hW2⟩:∃ W2,(w.alloc (.cells #[.pointer (some ⟨K.R,0,none⟩),.map (some V)] 114)).alloc (.cells cs.toArray 40)=W2:=⟨_,rfl⟩
 have hb2:Below w.heap.size w W2:=by rw[←hW2];exact ((Below.refl _ _).alloc (Lr _) _).alloc (by simp) _
 have j1:Blk W2 w.heap.size 114 #[.pointer (some ⟨K.R,0,none⟩),.map (some V)]:=by rw[←hW2];exact (Blk.new _ _ _).alloc _
 have j2:Blk W2 (w.heap.size+1) 40 cs.toArray:=by rw[←hW2];exact blk_at (by simp) _ _
 have v1:W2.cell? ⟨w.heap.size+1,1,none⟩=some (.string ⟨nm.toArray⟩):=by rw[j2.cell 1];simpa using d1
 have v9:W2.cell? ⟨w.heap.size+1,9,none⟩=some (.int .i64 k2):=by rw[j2.cell 9];simpa using d9
 have v10:W2.cell? ⟨w.heap.size+1,10,none⟩=some (.int .i64 n2):=by rw[j2.cell 10];simpa using d10
 have v11:W2.cell? ⟨w.heap.size+1,11,none⟩=some (.string ⟨x2.toArray⟩):=by rw[j2.cell 11];simpa using d11
 have v12:W2.cell? ⟨w.heap.size+1,12,none⟩=some (.int .i64 o2):=by rw[j2.cell 12];simpa using d12
 have v13:W2.cell? ⟨w.heap.size+1,13,none⟩=some (.slice A2 L2 c2):=by rw[j2.cell 13];simpa using d13
 have hc2:∀ W,Below W2.heap.size W2 W→Calls Tryz.prog 50 #[acV K.R V,.agg #[.int .i64 k2,.int .i64 n2,.string ⟨x2.toArray⟩,.int .i64 o2,.slice A2 L2 c2]] W (EvP K m.out r2 W):=fun W hW=>by
  have hbW:Below w.heap.size w W:=hb2.trans (below_down hW hb2.size)
  exact ev_any g K o m Vs V m.k value r2 _ W hK he2 (rv.keep (fun _ h=>h) (fun i hi=>hbW.block i (Ll (hK.ok i hi) hsz))) (hM.low hK hbW) (hV.low hbW)
 have hput:∀ W,Below w.heap.size w W→m.k < most→∀ a:Int,∃ w',(Instr.mapUpdate 112 (.map (some V)) (.string ⟨nm.toArray⟩) (.int .i64 a)).run Tryz.prog W=.ok () w'∧XrP K V o (.ok ⟨m.fuel,m.C,m.out,m.k+1⟩ (upd Vs nm a)) w (.returned (.bool true)) w' :=
  fun W hW hk a=>put_fin hK (hM.low hK hW) (hV.low hW) hk nm hnm a (Step.low hW)
 obtain⟨R,hRR⟩:∃ R,K.R=R:=⟨_,rfl⟩
 obtain⟨s2,hs2⟩:∃ sx:ByteArray,(⟨x2.toArray⟩:ByteArray)=sx:=⟨_,rfl⟩
 rw[hs2] at hc2 d11 v11
 obtain⟨sx,hsx⟩:∃ sx:ByteArray,(⟨nm.toArray⟩:ByteArray)=sx:=⟨_,rfl⟩
 rw[hsx] at d1 v1 hput
 rw[hRR] at hW2 j1 hRlt hc2 ⊢
 obtain⟨u0,u1,_,_⟩:=j1.cells2
 have HW:=Hd (Ai hW2 (Ai hb2 (Ai hsz (Ai j1.lt (Ai j2.lt hRR)))))
 have HC2:=Hd hc2
 have HP:=Hd hput
 have HQ:=Hd hr
 clear hc2 he2 hs2 hsx rp rv ra rt re hcs h17 hW2 hb2 hsz j1 j2 hM hV hS hRR hput hr hnm
 go_enter Tryz.func127,Tryz.ntmps127
 go_wp2_with fail
 rw[HW.out.1]
 refine (HC2.out _ (Below.refl _ _)).mono ?_
 rintro e w3 h3
 obtain⟨n3,b3,rfl,h3⟩:=zA3 h3
 have p1:=(h3.at (b:=w.heap.size+1) (i:=1) HW.out.2.2.2.2.1 (HW.out.2.2.2.2.2 ▸ (Nat.ne_of_gt (Nat.lt_succ_of_lt hRlt)))).trans v1
 have q1:=(h3.at (b:=w.heap.size) (i:=1) HW.out.2.2.2.1 (HW.out.2.2.2.2.2 ▸ (Nat.ne_of_gt hRlt))).trans u1
 have HA:=Hd h3
 clear h3
 rcases HQ.out with ⟨c,rfl,rfl⟩ | ⟨x,rfl,hk,rfl⟩
 ·clear HQ
  obtain⟨hx,hend,_⟩:=HA.out
  obtain⟨rfl,rfl⟩:n3=0∧b3=false:=by injection hx with hx;injection hx with hx;simp at hx;exact hx
  have HE:=Hd hend
  clear hx hend HA
  go_wp2_with fail
  go_ret
  exact xrE HE.out HW.out.2.1 HW.out.2.2.1
 ·obtain⟨hx,hbw⟩:=HA.out
  obtain⟨rfl,rfl⟩:n3=x∧b3=true:=by injection hx with hx;injection hx with hx;simp at hx;exact hx
  clear hx HA
  obtain⟨w4,hrun,hfin⟩:=HP.out w3 (HW.out.2.1.trans (below_down hbw HW.out.2.1.size)) hk n3
  have HF:=Hd hfin
  clear hfin hbw hk HQ
  go_wp2_with fail
  go_ret
  exact HF.out
def XlC (g:Nat):Prop:=∀ (K:Cf)(o:Option Nat)(m:MS)(Vs:IX.Vs)(V:Nat)(l:List ST)(r:XR)(v:Value)(w:World),CfOK K→xL K.fs g Vs m l=some r→RepL RepS 17 w K.ok l v→MSt K o m w→VMp K o V m.k Vs w →
 Calls Tryz.prog 49 #[acV K.R V,v] w (XrP K V o r w)
theorem zCl {K:Cf}{V:Nat}{o:Option Nat}{r:XR}{w:World}{e:Ending}{w':World}(h:XrP K V o r w e w'):∃ b,e=.returned (.bool b)∧XrP K V o r w (.returned (.bool b)) w':=by
 cases r with
 | ok m Vs=>obtain⟨rfl,h⟩:=h;exact⟨true,rfl,rfl,h⟩
 | ended k c out=>obtain⟨rfl,h⟩:=h;exact⟨false,rfl,rfl,h⟩
theorem XrP.back {K:Cf}{V:Nat}{o:Option Nat}{r:XR}{w0 w:World}{e:Ending}{w':World}(h:XrP K V o r w e w')(hb:Below w0.heap.size w0 w)(hs:K.b≤w0.heap.size):XrP K V o r w0 e w':=by
 cases r with
 | ok m Vs=>obtain⟨h1,o',h2,h3⟩:=h;exact⟨h1,o',Step.after hb h2,h3⟩
 | ended k c out=>exact⟨h.1,h.2.from (bk hb hs)⟩
theorem xrOk {K:Cf}{V:Nat}{o o':Option Nat}{m:MS}{Vs:IX.Vs}{w w':World}(h1:Step K (some V) o w o' w')(h2:MSt K o' m w')(h3:VMp K o' V m.k Vs w'):XrP K V o (.ok m Vs) w (.returned (.bool true)) w':=⟨rfl,o',h1,h2,h3⟩
theorem XrP.world {K:Cf}{V:Nat}{o:Option Nat}{r:XR}{w0 w:World}{e:Ending}{w':World}(h:XrP K V o r w e w')(hb:Below w0.heap.size w0 w)(hs:K.b≤w0.heap.size):XrP K V o r w0 e w':=h.back hb hs
theorem is_if (g:Nat){K:Cf}(hK:CfOK K){o:Option Nat}{m:MS}{Vs:IX.Vs}{V:Nat}{nm tn:List UInt8}{n:Int}{pos value:PE}{args:List PE}{thn els:List ST}{r:XR}{cs:List Value}{w:World}
 {r2:Rs} (ihl:XlC g) (he2:evE g Vs m.C value=some r2) (hr:(∃ c,r2=.trap c∧r=.ended 2 c m.out)∨∃ x,r2=.val x∧((x=0∧xL K.fs g Vs m els=some r)∨(x≠0∧xL K.fs g Vs m thn=some r))) (hS:RepS w K.ok (.mk 3 nm tn n pos value args thn els) cs) (hM:MSt K o m w) (hV:VMp K o V m.k Vs w) :
 Calls Tryz.prog 129 #[acV K.R V,.agg cs.toArray] w (XrP K V o r w):=by
 obtain⟨k1,n1,x1,o1,A1,L1,c1,k2,n2,x2,o2,A2,L2,c2,A3,c3,A4,c4,A5,c5,hcs,rp,rv,ra,rt,re⟩:=zBo hS
 obtain⟨h17,_⟩:=zCn _ _ _ _ hS
 have hsz:=hM.size hK
 have hRlt:K.R < w.heap.size:=hM.lt _ (Or.inl rfl)
 have d9:cs[9]?=some (.int .i64 k2):=by rw[hcs];rfl
 have d10:cs[10]?=some (.int .i64 n2):=by rw[hcs];rfl
 have d11:cs[11]?=some (.string ⟨x2.toArray⟩):=by rw[hcs];rfl
 have d12:cs[12]?=some (.int .i64 o2):=by rw[hcs];rfl
 have d13:cs[13]?=some (.slice A2 L2 c2):=by rw[hcs];rfl
 have d15:cs[15]?=some (.slice A4 thn.length c4):=by rw[hcs];rfl
 have d16:cs[16]?=some (.slice A5 els.length c5):=by rw[hcs];rfl
 obtain⟨W2,hW2⟩:∃ W2,(w.alloc (.cells #[.pointer (some ⟨K.R,0,none⟩),.map (some V)] 114)).alloc (.cells cs.toArray 40)=W2:=⟨_,rfl⟩
 have hb2:Below w.heap.size w W2:=by rw[←hW2];exact ((Below.refl _ _).alloc (Lr _) _).alloc (by simp) _
 have j1:Blk W2 w.heap.size 114 #[.pointer (some ⟨K.R,0,none⟩),.map (some V)]:=by rw[←hW2];exact (Blk.new _ _ _).alloc _
 have j2:Blk W2 (w.heap.size+1) 40 cs.toArray:=by rw[←hW2];exact blk_at (by simp) _ _
 have v9:W2.cell? ⟨w.heap.size+1,9,none⟩=some (.int .i64 k2):=by rw[j2.cell 9];simpa using d9
 have v10:W2.cell? ⟨w.heap.size+1,10,none⟩=some (.int .i64 n2):=by rw[j2.cell 10];simpa using d10
 have v11:W2.cell? ⟨w.heap.size+1,11,none⟩=some (.string ⟨x2.toArray⟩):=by rw[j2.cell 11];simpa using d11
 have v12:W2.cell? ⟨w.heap.size+1,12,none⟩=some (.int .i64 o2):=by rw[j2.cell 12];simpa using d12
 have v13:W2.cell? ⟨w.heap.size+1,13,none⟩=some (.slice A2 L2 c2):=by rw[j2.cell 13];simpa using d13
 have v15:W2.cell? ⟨w.heap.size+1,15,none⟩=some (.slice A4 thn.length c4):=by rw[j2.cell 15];simpa using d15
 have v16:W2.cell? ⟨w.heap.size+1,16,none⟩=some (.slice A5 els.length c5):=by rw[j2.cell 16];simpa using d16
 have hc2:∀ W,Below W2.heap.size W2 W→Calls Tryz.prog 50 #[acV K.R V,.agg #[.int .i64 k2,.int .i64 n2,.string ⟨x2.toArray⟩,.int .i64 o2,.slice A2 L2 c2]] W (EvP K m.out r2 W):=fun W hW=>by
  have hbW:Below w.heap.size w W:=hb2.trans (below_down hW hb2.size)
  exact ev_any g K o m Vs V m.k value r2 _ W hK he2 (rv.keep (fun _ h=>h) (fun i hi=>hbW.block i (Ll (hK.ok i hi) hsz))) (hM.low hK hbW) (hV.low hbW)
 have hlt:∀ W,Below w.heap.size w W→xL K.fs g Vs m thn=some r→Calls Tryz.prog 49 #[acV K.R V,.slice A4 thn.length c4] W (XrP K V o r W):=fun W hW hx =>
  ihl K o m Vs V thn r _ W hK hx (rt.keep keepsS (fun _ h=>h) (fun i hi=>hW.block i (Ll (hK.ok i hi) hsz))) (hM.low hK hW) (hV.low hW)
 have hle:∀ W,Below w.heap.size w W→xL K.fs g Vs m els=some r→Calls Tryz.prog 49 #[acV K.R V,.slice A5 els.length c5] W (XrP K V o r W):=fun W hW hx =>
  ihl K o m Vs V els r _ W hK hx (re.keep keepsS (fun _ h=>h) (fun i hi=>hW.block i (Ll (hK.ok i hi) hsz))) (hM.low hK hW) (hV.low hW)
 obtain⟨R,hRR⟩:∃ R,K.R=R:=⟨_,rfl⟩
 obtain⟨s2,hs2⟩:∃ sx:ByteArray,(⟨x2.toArray⟩:ByteArray)=sx:=⟨_,rfl⟩
 rw[hs2] at hc2 d11 v11
 obtain⟨lt,hlth⟩:∃ n,thn.length=n:=⟨_,rfl⟩
 rw[hlth] at d15 v15 hlt
 obtain⟨le,hlel⟩:∃ n,els.length=n:=⟨_,rfl⟩
 rw[hlel] at d16 v16 hle
 rw[hRR] at hW2 j1 hRlt hc2 hlt hle ⊢
 obtain⟨u0,u1,_,_⟩:=j1.cells2
 have HW:=Hd (Ai hW2 (Ai hb2 (Ai hsz (Ai j1.lt (Ai j2.lt hRR)))))
 have HC2:=Hd hc2
 have HT:=Hd hlt
 have HL:=Hd hle
 have HQ:=Hd hr
 clear hc2 he2 hs2 hlt hle hlth hlel rp rv ra rt re hcs h17 hW2 hb2 hsz j1 j2 hM hV hS hRR hr
 go_enter Tryz.func129,Tryz.ntmps129
 go_wp2_with fail
 rw[HW.out.1]
 refine (HC2.out _ (Below.refl _ _)).mono ?_
 rintro e w3 h3
 obtain⟨n3,b3,rfl,h3⟩:=zA3 h3
 have p1:=(h3.at (b:=w.heap.size+1) (i:=15) HW.out.2.2.2.2.1 (HW.out.2.2.2.2.2 ▸ (Nat.ne_of_gt (Nat.lt_succ_of_lt hRlt)))).trans v15
 have p2:=(h3.at (b:=w.heap.size+1) (i:=16) HW.out.2.2.2.2.1 (HW.out.2.2.2.2.2 ▸ (Nat.ne_of_gt (Nat.lt_succ_of_lt hRlt)))).trans v16
 have q0:=(h3.at (b:=w.heap.size) (i:=0) HW.out.2.2.2.1 (HW.out.2.2.2.2.2 ▸ (Nat.ne_of_gt hRlt))).trans u0
 have q1:=(h3.at (b:=w.heap.size) (i:=1) HW.out.2.2.2.1 (HW.out.2.2.2.2.2 ▸ (Nat.ne_of_gt hRlt))).trans u1
 have HA:=Hd h3
 clear h3
 rcases HQ.out with ⟨c,rfl,rfl⟩ | ⟨x,rfl,⟨hx0,hl⟩ | ⟨hx0,hl⟩⟩
 ·clear HQ
  obtain⟨hx,hend,_⟩:=HA.out
  obtain⟨rfl,rfl⟩:n3=0∧b3=false:=by injection hx with hx;injection hx with hx;simp at hx;exact hx
  have HE:=Hd hend
  clear hx hend HA
  go_wp2_with fail
  go_ret
  exact xrE HE.out HW.out.2.1 HW.out.2.2.1
 ·obtain⟨hx,hbw⟩:=HA.out
  obtain⟨rfl,rfl⟩:n3=x∧b3=true:=by injection hx with hx;injection hx with hx;simp at hx;exact hx
  clear hx HA
  subst hx0
  have hb3:Below w.heap.size w w3:=HW.out.2.1.trans (below_down hbw HW.out.2.1.size)
  have HX:=Hd (HL.out w3 hb3 hl)
  have HB:=Hd hb3
  clear hbw hl hb3 HQ
  go_wp2_with fail
  refine HX.out.mono ?_
  rintro e w4 h4
  obtain⟨b4,rfl,h4⟩:=zCl h4
  have H4:=Hd h4
  clear h4
  go_wp2_with fail
  go_ret
  exact H4.out.back HB.out HW.out.2.2.1
 ·obtain⟨hx,hbw⟩:=HA.out
  obtain⟨rfl,rfl⟩:n3=x∧b3=true:=by injection hx with hx;injection hx with hx;simp at hx;exact hx
  clear hx HA
  have e1:(n3==0)=false:=neI hx0
  have hb3:Below w.heap.size w w3:=HW.out.2.1.trans (below_down hbw HW.out.2.1.size)
  have HX:=Hd (HT.out w3 hb3 hl)
  have HB:=Hd hb3
  clear hbw hl hb3 HQ hx0
  go_wp2_with fail
  refine HX.out.mono ?_
  rintro e w4 h4
  obtain⟨b4,rfl,h4⟩:=zCl h4
  have H4:=Hd h4
  clear h4
  go_wp2_with fail
  go_ret
  exact H4.out.back HB.out HW.out.2.2.1
set_option maxRecDepth 100000
set_option maxHeartbeats 4000000
theorem is_store_t (g:Nat){K:Cf}(hK:CfOK K){o:Option Nat}{m:MS}{Vs:IX.Vs}{V:Nat}{nm tn:List UInt8}{n:Int}{pos value:PE}{args:List PE}{thn els:List ST}{r:XR}{cs:List Value}{w:World}
 {ct:Int} (he1:evE g Vs m.C pos=some (.trap ct)) (hr:r=.ended 2 ct m.out) (hS:RepS w K.ok (.mk 2 nm tn n pos value args thn els) cs) (hM:MSt K o m w) (hV:VMp K o V m.k Vs w) :
 Calls Tryz.prog 128 #[acV K.R V,.agg cs.toArray] w (XrP K V o r w):=by
 subst hr
 obtain⟨k1,n1,x1,o1,A1,L1,c1,k2,n2,x2,o2,A2,L2,c2,A3,c3,A4,c4,A5,c5,hcs,rp,rv,ra,rt,re⟩:=zBo hS
 obtain⟨h17,_⟩:=zCn _ _ _ _ hS
 have hsz:=hM.size hK
 have hRlt:K.R < w.heap.size:=hM.lt _ (Or.inl rfl)
 have d4:cs[4]?=some (.int .i64 k1):=by rw[hcs];rfl
 have d5:cs[5]?=some (.int .i64 n1):=by rw[hcs];rfl
 have d6:cs[6]?=some (.string ⟨x1.toArray⟩):=by rw[hcs];rfl
 have d7:cs[7]?=some (.int .i64 o1):=by rw[hcs];rfl
 have d8:cs[8]?=some (.slice A1 L1 c1):=by rw[hcs];rfl
 obtain⟨W2,hW2⟩:∃ W2,(w.alloc (.cells #[.pointer (some ⟨K.R,0,none⟩),.map (some V)] 114)).alloc (.cells cs.toArray 40)=W2:=⟨_,rfl⟩
 have hb2:Below w.heap.size w W2:=by rw[←hW2];exact ((Below.refl _ _).alloc (Lr _) _).alloc (by simp) _
 have j1:Blk W2 w.heap.size 114 #[.pointer (some ⟨K.R,0,none⟩),.map (some V)]:=by rw[←hW2];exact (Blk.new _ _ _).alloc _
 have j2:Blk W2 (w.heap.size+1) 40 cs.toArray:=by rw[←hW2];exact blk_at (by simp) _ _
 have v4:W2.cell? ⟨w.heap.size+1,4,none⟩=some (.int .i64 k1):=by rw[j2.cell 4];simpa using d4
 have v5:W2.cell? ⟨w.heap.size+1,5,none⟩=some (.int .i64 n1):=by rw[j2.cell 5];simpa using d5
 have v6:W2.cell? ⟨w.heap.size+1,6,none⟩=some (.string ⟨x1.toArray⟩):=by rw[j2.cell 6];simpa using d6
 have v7:W2.cell? ⟨w.heap.size+1,7,none⟩=some (.int .i64 o1):=by rw[j2.cell 7];simpa using d7
 have v8:W2.cell? ⟨w.heap.size+1,8,none⟩=some (.slice A1 L1 c1):=by rw[j2.cell 8];simpa using d8
 have hc1:∀ W,Below W2.heap.size W2 W→Calls Tryz.prog 50 #[acV K.R V,.agg #[.int .i64 k1,.int .i64 n1,.string ⟨x1.toArray⟩,.int .i64 o1,.slice A1 L1 c1]] W (EvP K m.out (.trap ct) W):=fun W hW=>by
  have hbW:Below w.heap.size w W:=hb2.trans (below_down hW hb2.size)
  exact ev_any g K o m Vs V m.k pos (.trap ct) _ W hK he1 (rp.keep (fun _ h=>h) (fun i hi=>hbW.block i (Ll (hK.ok i hi) hsz))) (hM.low hK hbW) (hV.low hbW)
 obtain⟨R,hRR⟩:∃ R,K.R=R:=⟨_,rfl⟩
 obtain⟨s1,hs1⟩:∃ sx:ByteArray,(⟨x1.toArray⟩:ByteArray)=sx:=⟨_,rfl⟩
 rw[hs1] at hc1 d6 v6
 rw[hRR] at hW2 j1 hRlt hc1 ⊢
 obtain⟨u0,u1,_,_⟩:=j1.cells2
 have HW:=Hd (Ai hW2 (Ai hb2 (Ai hsz (Ai j1.lt (Ai j2.lt hRR)))))
 have HC1:=Hd hc1
 clear hc1 he1 hs1 rp rv ra rt re hcs h17 hW2 hb2 hsz j1 j2 hM hV hS hRR
 go_enter Tryz.func128,Tryz.ntmps128
 go_wp2_with fail
 rw[HW.out.1]
 refine (HC1.out _ (Below.refl _ _)).mono ?_
 rintro e w3 h3
 obtain⟨n3,b3,rfl,h3⟩:=zA3 h3
 have HA:=Hd h3
 clear h3
 obtain⟨hx,hend,_⟩:=HA.out
 obtain⟨rfl,rfl⟩:n3=0∧b3=false:=by injection hx with hx;injection hx with hx;simp at hx;exact hx
 have HE:=Hd hend
 clear hx hend HA
 go_wp2_with fail
 go_ret
 exact xrE HE.out HW.out.2.1 HW.out.2.2.1
theorem is_store_v (g:Nat){K:Cf}(hK:CfOK K){o:Option Nat}{m:MS}{Vs:IX.Vs}{V:Nat}{nm tn:List UInt8}{n:Int}{pos value:PE}{args:List PE}{thn els:List ST}{r:XR}{cs:List Value}{w:World}
 {i:Int} {r2:Rs} (hnm:nmOK nm=true) (he1:evE g Vs m.C pos=some (.val i)) (he2:evE g Vs m.C value=some r2) (hr:(∃ c,r2=.trap c∧r=.ended 2 c m.out)∨∃ x,r2=.val x∧((oob i (m.C nm).length=true∧r=.ended 2 2 m.out)∨(oob i (m.C nm).length=false∧r=.ok ⟨m.fuel,upd m.C nm ((m.C nm).set i.toNat x),m.out,m.k⟩ Vs))) (hS:RepS w K.ok (.mk 2 nm tn n pos value args thn els) cs) (hM:MSt K o m w) (hV:VMp K o V m.k Vs w) :
 Calls Tryz.prog 128 #[acV K.R V,.agg cs.toArray] w (XrP K V o r w):=by
 obtain⟨k1,n1,x1,o1,A1,L1,c1,k2,n2,x2,o2,A2,L2,c2,A3,c3,A4,c4,A5,c5,hcs,rp,rv,ra,rt,re⟩:=zBo hS
 obtain⟨h17,_⟩:=zCn _ _ _ _ hS
 have hsz:=hM.size hK
 have hRlt:K.R < w.heap.size:=hM.lt _ (Or.inl rfl)
 have d1:cs[1]?=some (.string ⟨nm.toArray⟩):=by rw[hcs];rfl
 have d4:cs[4]?=some (.int .i64 k1):=by rw[hcs];rfl
 have d5:cs[5]?=some (.int .i64 n1):=by rw[hcs];rfl
 have d6:cs[6]?=some (.string ⟨x1.toArray⟩):=by rw[hcs];rfl
 have d7:cs[7]?=some (.int .i64 o1):=by rw[hcs];rfl
 have d8:cs[8]?=some (.slice A1 L1 c1):=by rw[hcs];rfl
 have d9:cs[9]?=some (.int .i64 k2):=by rw[hcs];rfl
 have d10:cs[10]?=some (.int .i64 n2):=by rw[hcs];rfl
 have d11:cs[11]?=some (.string ⟨x2.toArray⟩):=by rw[hcs];rfl
 have d12:cs[12]?=some (.int .i64 o2):=by rw[hcs];rfl
 have d13:cs[13]?=some (.slice A2 L2 c2):=by rw[hcs];rfl
 obtain⟨W2,hW2⟩:∃ W2,(w.alloc (.cells #[.pointer (some ⟨K.R,0,none⟩),.map (some V)] 114)).alloc (.cells cs.toArray 40)=W2:=⟨_,rfl⟩
 have hb2:Below w.heap.size w W2:=by rw[←hW2];exact ((Below.refl _ _).alloc (Lr _) _).alloc (by simp) _
 have j1:Blk W2 w.heap.size 114 #[.pointer (some ⟨K.R,0,none⟩),.map (some V)]:=by rw[←hW2];exact (Blk.new _ _ _).alloc _
 have j2:Blk W2 (w.heap.size+1) 40 cs.toArray:=by rw[←hW2];exact blk_at (by simp) _ _
 have v1:W2.cell? ⟨w.heap.size+1,1,none⟩=some (.string ⟨nm.toArray⟩):=by rw[j2.cell 1];simpa using d1
 have v4:W2.cell? ⟨w.heap.size+1,4,none⟩=some (.int .i64 k1):=by rw[j2.cell 4];simpa using d4
 have v5:W2.cell? ⟨w.heap.size+1,5,none⟩=some (.int .i64 n1):=by rw[j2.cell 5];simpa using d5
 have v6:W2.cell? ⟨w.heap.size+1,6,none⟩=some (.string ⟨x1.toArray⟩):=by rw[j2.cell 6];simpa using d6
 have v7:W2.cell? ⟨w.heap.size+1,7,none⟩=some (.int .i64 o1):=by rw[j2.cell 7];simpa using d7
 have v8:W2.cell? ⟨w.heap.size+1,8,none⟩=some (.slice A1 L1 c1):=by rw[j2.cell 8];simpa using d8
 have v9:W2.cell? ⟨w.heap.size+1,9,none⟩=some (.int .i64 k2):=by rw[j2.cell 9];simpa using d9
 have v10:W2.cell? ⟨w.heap.size+1,10,none⟩=some (.int .i64 n2):=by rw[j2.cell 10];simpa using d10
 have v11:W2.cell? ⟨w.heap.size+1,11,none⟩=some (.string ⟨x2.toArray⟩):=by rw[j2.cell 11];simpa using d11
 have v12:W2.cell? ⟨w.heap.size+1,12,none⟩=some (.int .i64 o2):=by rw[j2.cell 12];simpa using d12
 have v13:W2.cell? ⟨w.heap.size+1,13,none⟩=some (.slice A2 L2 c2):=by rw[j2.cell 13];simpa using d13
 have hc1:∀ W,Below W2.heap.size W2 W→Calls Tryz.prog 50 #[acV K.R V,.agg #[.int .i64 k1,.int .i64 n1,.string ⟨x1.toArray⟩,.int .i64 o1,.slice A1 L1 c1]] W (EvP K m.out (.val i) W):=fun W hW=>by
  have hbW:Below w.heap.size w W:=hb2.trans (below_down hW hb2.size)
  exact ev_any g K o m Vs V m.k pos (.val i) _ W hK he1 (rp.keep (fun _ h=>h) (fun i hi=>hbW.block i (Ll (hK.ok i hi) hsz))) (hM.low hK hbW) (hV.low hbW)
 have hc2:∀ W,Below W2.heap.size W2 W→Calls Tryz.prog 50 #[acV K.R V,.agg #[.int .i64 k2,.int .i64 n2,.string ⟨x2.toArray⟩,.int .i64 o2,.slice A2 L2 c2]] W (EvP K m.out r2 W):=fun W hW=>by
  have hbW:Below w.heap.size w W:=hb2.trans (below_down hW hb2.size)
  exact ev_any g K o m Vs V m.k value r2 _ W hK he2 (rv.keep (fun _ h=>h) (fun i hi=>hbW.block i (Ll (hK.ok i hi) hsz))) (hM.low hK hbW) (hV.low hbW)
 have hcl:∀ W,Below w.heap.size w W→∀ b,oob i (m.C nm).length=b→Calls Tryz.prog 134 #[.pointer (some ⟨K.R,0,none⟩),.string ⟨nm.toArray⟩,.int .i64 i] W (ClQ K m nm i b W):=fun W hW b hb=>ir_cellQ hK (hM.low hK hW) nm hnm i b hb
 have hfin:∀ W,Below w.heap.size w W→oob i (m.C nm).length=false→W.frozen? ⟨K.G nm,i.toNat,none⟩=false∧∀ v,XrP K V o (.ok ⟨m.fuel,upd m.C nm ((m.C nm).set i.toNat v),m.out,m.k⟩ Vs) w (.returned (.bool true)) (W.setCell ⟨K.G nm,i.toNat,none⟩ (.int .i64 v)):=fun W hW hb=>⟨frozenAt (hM.low hK hW) hb,fun v=>set_fin hK (hM.low hK hW) (hV.low hW) hb v hW⟩
 obtain⟨R,hRR⟩:∃ R,K.R=R:=⟨_,rfl⟩
 obtain⟨s1,hs1⟩:∃ sx:ByteArray,(⟨x1.toArray⟩:ByteArray)=sx:=⟨_,rfl⟩
 rw[hs1] at hc1 d6 v6
 obtain⟨s2,hs2⟩:∃ sx:ByteArray,(⟨x2.toArray⟩:ByteArray)=sx:=⟨_,rfl⟩
 rw[hs2] at hc2 d11 v11
 obtain⟨sx,hsx⟩:∃ sx:ByteArray,(⟨nm.toArray⟩:ByteArray)=sx:=⟨_,rfl⟩
 rw[hsx] at d1 v1 hcl
 rw[hRR] at hW2 j1 hRlt hc1 hc2 hcl ⊢
 obtain⟨u0,u1,_,_⟩:=j1.cells2
 have HW:=Hd (Ai hW2 (Ai hb2 (Ai hsz (Ai j1.lt (Ai j2.lt hRR)))))
 have HC1:=Hd hc1
 have HC2:=Hd hc2
 have HL:=Hd hcl
 have HF:=Hd hfin
 have HQ:=Hd hr
 clear hc1 he1 hc2 he2 hs1 hs2 hsx rp rv ra rt re hcs h17 hW2 hb2 hsz j1 j2 hM hV hS hRR hcl hfin hr hnm
 go_enter Tryz.func128,Tryz.ntmps128
 go_wp2_with fail
 rw[HW.out.1]
 refine (HC1.out _ (Below.refl _ _)).mono ?_
 rintro e w3 h3
 obtain⟨n3,b3,rfl,h3⟩:=zA3 h3
 have e0:=(h3.at (b:=w.heap.size+1) (i:=9) HW.out.2.2.2.2.1 (HW.out.2.2.2.2.2 ▸ (Nat.ne_of_gt (Nat.lt_succ_of_lt hRlt)))).trans v9
 have e1:=(h3.at (b:=w.heap.size+1) (i:=10) HW.out.2.2.2.2.1 (HW.out.2.2.2.2.2 ▸ (Nat.ne_of_gt (Nat.lt_succ_of_lt hRlt)))).trans v10
 have e2:=(h3.at (b:=w.heap.size+1) (i:=11) HW.out.2.2.2.2.1 (HW.out.2.2.2.2.2 ▸ (Nat.ne_of_gt (Nat.lt_succ_of_lt hRlt)))).trans v11
 have e3:=(h3.at (b:=w.heap.size+1) (i:=12) HW.out.2.2.2.2.1 (HW.out.2.2.2.2.2 ▸ (Nat.ne_of_gt (Nat.lt_succ_of_lt hRlt)))).trans v12
 have e4:=(h3.at (b:=w.heap.size+1) (i:=13) HW.out.2.2.2.2.1 (HW.out.2.2.2.2.2 ▸ (Nat.ne_of_gt (Nat.lt_succ_of_lt hRlt)))).trans v13
 have p1:=(h3.at (b:=w.heap.size+1) (i:=1) HW.out.2.2.2.2.1 (HW.out.2.2.2.2.2 ▸ (Nat.ne_of_gt (Nat.lt_succ_of_lt hRlt)))).trans v1
 have q0:=(h3.at (b:=w.heap.size) (i:=0) HW.out.2.2.2.1 (HW.out.2.2.2.2.2 ▸ (Nat.ne_of_gt hRlt))).trans u0
 have q1:=(h3.at (b:=w.heap.size) (i:=1) HW.out.2.2.2.1 (HW.out.2.2.2.2.2 ▸ (Nat.ne_of_gt hRlt))).trans u1
 have HA:=Hd h3
 clear h3
 obtain⟨hx,hbw⟩:=HA.out
 obtain⟨rfl,rfl⟩:n3=i∧b3=true:=by injection hx with hx;injection hx with hx;simp at hx;exact hx
 clear hx HA
 have HB:=Hd hbw
 clear hbw
 have hb3:Below w.heap.size w w3:=HW.out.2.1.trans (below_down HB.out HW.out.2.1.size)
 have H3:=Hd hb3
 clear hb3
 go_wp2_with fail
 refine (HC2.out _ HB.out).mono ?_
 rintro e w4 h4
 obtain⟨n4,b4,rfl,h4⟩:=zA3 h4
 have HG:=Hd h4
 clear h4
 rcases HQ.out with ⟨c,rfl,rfl⟩ | ⟨x,rfl,⟨hob,rfl⟩ | ⟨hob,rfl⟩⟩
 ·clear HQ
  obtain⟨hx,hend,_⟩:=HG.out
  obtain⟨rfl,rfl⟩:n4=0∧b4=false:=by injection hx with hx;injection hx with hx;simp at hx;exact hx
  have HE:=Hd hend
  clear hx hend HG
  go_wp2_with fail
  go_ret
  exact xrE HE.out H3.out HW.out.2.2.1
 ·obtain⟨hx,hbw⟩:=HG.out
  obtain⟨rfl,rfl⟩:n4=x∧b4=true:=by injection hx with hx;injection hx with hx;simp at hx;exact hx
  have g1:=(hbw.cell (p:=⟨w.heap.size+1,1,none⟩) (Ll HW.out.2.2.2.2.1 HB.out.size)).trans p1
  have g0:=(hbw.cell (p:=⟨w.heap.size,0,none⟩) (Ll HW.out.2.2.2.1 HB.out.size)).trans q0
  have hb4:Below w.heap.size w w4:=H3.out.trans (below_down hbw H3.out.size)
  have HX:=Hd (HL.out w4 hb4 true hob)
  have H4:=Hd hb4
  clear hx hbw HG hb4 HQ hob
  go_wp2_with fail
  refine HX.out.mono ?_
  rintro e w5 ⟨rfl,hend,_⟩
  have HE:=Hd hend
  clear hend
  go_wp2_with fail
  go_ret
  exact xrE HE.out H4.out HW.out.2.2.1
 ·obtain⟨hx,hbw⟩:=HG.out
  obtain⟨rfl,rfl⟩:n4=x∧b4=true:=by injection hx with hx;injection hx with hx;simp at hx;exact hx
  have g1:=(hbw.cell (p:=⟨w.heap.size+1,1,none⟩) (Ll HW.out.2.2.2.2.1 HB.out.size)).trans p1
  have g0:=(hbw.cell (p:=⟨w.heap.size,0,none⟩) (Ll HW.out.2.2.2.1 HB.out.size)).trans q0
  have hb4:Below w.heap.size w w4:=H3.out.trans (below_down hbw H3.out.size)
  obtain⟨hfz,hfv⟩:=HF.out w4 hb4 hob
  have HX:=Hd (HL.out w4 hb4 false hob)
  have H4:=Hd hb4
  have HV:=Hd (hfv n4)
  clear hx hbw HG hb4 HQ hob hfv
  obtain⟨G,hG⟩:∃ G,K.G nm=G:=⟨_,rfl⟩
  obtain⟨it,hit⟩:∃ n,n3.toNat=n:=⟨_,rfl⟩
  rw[hG,hit] at hfz
  have HN:=Hd (Ai hG hit)
  clear hG hit
  go_wp2_with fail
  refine HX.out.mono ?_
  rintro e w5 ⟨rfl,rfl,y9⟩
  rw[HN.out.1,HN.out.2] at y9
  rw[HN.out.1,HN.out.2]
  go_wp2_with fail
  go_ret
  have:=HV.out
  rw[HN.out.1,HN.out.2] at this
  rw[HN.out.2]
  exact this
set_option maxRecDepth 100000
set_option maxHeartbeats 4000000
def WhR (K:Cf)(V:Nat)(o:Option Nat)(value:PE)(thn:List ST)(r:XR)(W2:World)(k:Nat)(wr:World):Prop :=
 ∃ (m:MS) (Vs:IX.Vs) (o':Option Nat),xW K.fs k Vs m value thn=some r∧Step K (some V) o W2 o' wr∧MSt K o' m wr∧VMp K o' V m.k Vs wr
theorem ir_tick0 {K:Cf}(hK:CfOK K){o:Option Nat}{m:MS}{w:World}(h:MSt K o m w)(h0:m.fuel=0):Calls Tryz.prog 171 #[.pointer (some ⟨K.R,0,none⟩)] w (fun e w'=>e=.returned (.bool false)∧EndW K 3 0 m.out w w') :=
 (ir_tick hK h).mono fun e w' h=>by unfold TkP at h;rw[if_pos h0] at h;exact h
theorem ir_tick1 {K:Cf}(hK:CfOK K){o:Option Nat}{m:MS}{w:World}(h:MSt K o m w)(h0:m.fuel≠0):Calls Tryz.prog 171 #[.pointer (some ⟨K.R,0,none⟩)] w (fun e w'=>e=.returned (.bool true)∧Step K none o w o w'∧MSt K o ⟨m.fuel - 1,m.C,m.out,m.k⟩ w') :=
 (ir_tick hK h).mono fun e w' h=>by unfold TkP at h;rw[if_neg h0] at h;exact h
theorem Step.wide {K:Cf}{o o':Option Nat}{w w':World}(h:Step K none o w o' w')(v:Option Nat):Step K v o w o' w':=⟨h.g.weak (fun i _ e=>by rcases e with e | e;exact Or.inl e;cases e),h.oo⟩
theorem Step.vmp {K:Cf}{o o':Option Nat}{V c:Nat}{Vs:IX.Vs}{w w':World}(h:Step K none o w o' w')(hV:VMp K o V c Vs w):VMp K o' V c Vs w':=by
 have hl:=hV.lt
 obtain⟨⟨f,h1,h2⟩,hb,hn,hs⟩:=hV
 exact⟨⟨f,h1.same (h.g.block V hl (fun e=>by rcases e with e | e;exact hs e;cases e)),h2⟩,hb,hn,SS.not hs h hl⟩
theorem is_while (g:Nat)(ihl:∀ g',g' < g→XlC g'){K:Cf}(hK:CfOK K){o:Option Nat}{m:MS}{Vs:IX.Vs}{V:Nat}{nm tn:List UInt8}{n:Int}{pos value:PE}{args:List PE}{thn els:List ST}{r:XR}{cs:List Value}{w:World}
 (hr:xW K.fs g Vs m value thn=some r) (hS:RepS w K.ok (.mk 4 nm tn n pos value args thn els) cs) (hM:MSt K o m w) (hV:VMp K o V m.k Vs w) :
 Calls Tryz.prog 130 #[acV K.R V,.agg cs.toArray] w (XrP K V o r w):=by
 obtain⟨k1,n1,x1,o1,A1,L1,c1,k2,n2,x2,o2,A2,L2,c2,A3,c3,A4,c4,A5,c5,hcs,rp,rv,ra,rt,re⟩:=zBo hS
 obtain⟨h17,_⟩:=zCn _ _ _ _ hS
 have hsz:=hM.size hK
 have hRlt:K.R < w.heap.size:=hM.lt _ (Or.inl rfl)
 have d9:cs[9]?=some (.int .i64 k2):=by rw[hcs];rfl
 have d10:cs[10]?=some (.int .i64 n2):=by rw[hcs];rfl
 have d11:cs[11]?=some (.string ⟨x2.toArray⟩):=by rw[hcs];rfl
 have d12:cs[12]?=some (.int .i64 o2):=by rw[hcs];rfl
 have d13:cs[13]?=some (.slice A2 L2 c2):=by rw[hcs];rfl
 have d15:cs[15]?=some (.slice A4 thn.length c4):=by rw[hcs];rfl
 obtain⟨W2,hW2⟩:∃ W2,(w.alloc (.cells #[.pointer (some ⟨K.R,0,none⟩),.map (some V)] 114)).alloc (.cells cs.toArray 40)=W2:=⟨_,rfl⟩
 have hb2:Below w.heap.size w W2:=by rw[←hW2];exact ((Below.refl _ _).alloc (Lr _) _).alloc (by simp) _
 have j1:Blk W2 w.heap.size 114 #[.pointer (some ⟨K.R,0,none⟩),.map (some V)]:=by rw[←hW2];exact (Blk.new _ _ _).alloc _
 have j2:Blk W2 (w.heap.size+1) 40 cs.toArray:=by rw[←hW2];exact blk_at (by simp) _ _
 have v9:W2.cell? ⟨w.heap.size+1,9,none⟩=some (.int .i64 k2):=by rw[j2.cell 9];simpa using d9
 have v10:W2.cell? ⟨w.heap.size+1,10,none⟩=some (.int .i64 n2):=by rw[j2.cell 10];simpa using d10
 have v11:W2.cell? ⟨w.heap.size+1,11,none⟩=some (.string ⟨x2.toArray⟩):=by rw[j2.cell 11];simpa using d11
 have v12:W2.cell? ⟨w.heap.size+1,12,none⟩=some (.int .i64 o2):=by rw[j2.cell 12];simpa using d12
 have v13:W2.cell? ⟨w.heap.size+1,13,none⟩=some (.slice A2 L2 c2):=by rw[j2.cell 13];simpa using d13
 have v15:W2.cell? ⟨w.heap.size+1,15,none⟩=some (.slice A4 thn.length c4):=by rw[j2.cell 15];simpa using d15
 have hVb:=hV.b
 have hSS:∀ i,SS K o i→i < w.heap.size:=hM.lt
 have hVl:=hV.lt
 have hstart:WhR K V o value thn r W2 g W2:=⟨m,Vs,o,hr,Step.low (Below.refl _ _),hM.low hK hb2,hV.low hb2⟩
 obtain⟨R,hRR⟩:∃ R,K.R=R:=⟨_,rfl⟩
 obtain⟨lt,hlt⟩:∃ n,thn.length=n:=⟨_,rfl⟩
 rw[hlt] at d15 v15
 rw[hRR] at hW2 j1 hRlt  ⊢
 obtain⟨u0,u1,_,_⟩:=j1.cells2
 have HW:=Hd (Ai hW2 (Ai hb2 (Ai hsz (Ai j1.lt (Ai j2.lt hRR)))))
 have h2E:=rv.keep (w':=W2) (ok':=K.ok) (fun _ h=>h) (fun i hi=>HW.out.2.1.block i (Ll (hK.ok i hi) HW.out.2.2.1))
 have h2T:=rt.keep keepsS (w':=W2) (ok':=K.ok) (fun _ h=>h) (fun i hi=>HW.out.2.1.block i (Ll (hK.ok i hi) HW.out.2.2.1))
 have hM2:=hM.low hK hb2
 have HS:=Hd (Ai h2E (Ai h2T (Ai j1 (Ai j2 (Ai hSS (Ai hVb (Ai hVl (Ai hlt (Ai hstart (Ai hK (Ai ihl hM2)))))))))))
 clear hM2 h2E h2T rv rt hSS hVb hVl hstart ihl j1 j2 hlt rp ra re hcs h17 hW2 hb2 hsz hM hV hS hRR hr hK v9 v10 v11 v12 v13 v15 u0 u1
 go_enter Tryz.func130,Tryz.ntmps130
 go_wp2_with fail
 rw[HW.out.1]
 go_loopg [] g (fun k wr=>k≤g∧WhR K V o value thn r W2 k wr)
 case atStart=>exact⟨Lr _,HS.out.2.2.2.2.2.2.2.2.1⟩
 case round =>
  obtain⟨hgk,m',Vs',o',hx,hstep,hM',hV'⟩:=hrel
  cases gk with
  | zero=>exact (xw_zero hx).elim
  | succ gk =>
   obtain⟨h2E,h2T,j1,j2,hSS,hVb,hVl,hlt,_,hK,ihl,hM2⟩:=HS.out
   have hRR:=HW.out.2.2.2.2.2
   have hbK:Below K.b W2 wr:=hstep.below hK hM2 (fun i e=>by injection e with e;omega)
   have i1:=hstep.blk j1 (fun e=>by have:=hSS _ e;omega) (fun e=>by injection e with e;omega)
   have i2:=hstep.blk j2 (fun e=>by have:=hSS _ e;omega) (fun e=>by injection e with e;omega)
   obtain⟨re,he,hre⟩:=xw_step hx
   have hev:=ev_any gk K o' m' Vs' V m'.k value re _ wr hK he (h2E.keep (fun _ h=>h) (fun i hi=>hbK.block i (hK.ok i hi))) hM' hV'
   have hl2:=fun (W:World) (o2:Option Nat) (m2:MS) (Vs2:IX.Vs) (rb:XR) (hW:Below K.b W2 W) (hb:xL K.fs gk Vs2 m2 thn=some rb) (hm:MSt K o2 m2 W) (hv:VMp K o2 V m2.k Vs2 W) =>
    ihl gk hgk K o2 m2 Vs2 V thn rb _ W hK hb (h2T.keep keepsS (fun _ h=>h) (fun i hi=>hW.block i (hK.ok i hi))) hm hv
   rw[hRR] at hev hl2
   rw[hlt] at hl2
   have x0:wr.cell? ⟨w.heap.size,0,none⟩=some (.pointer (some ⟨R,0,none⟩)):=i1.cell 0
   have x1:wr.cell? ⟨w.heap.size,1,none⟩=some (.map (some V)):=i1.cell 1
   have y9:wr.cell? ⟨w.heap.size+1,9,none⟩=some (.int .i64 k2):=by rw[i2.cell 9];simpa using d9
   have y10:wr.cell? ⟨w.heap.size+1,10,none⟩=some (.int .i64 n2):=by rw[i2.cell 10];simpa using d10
   have y11:wr.cell? ⟨w.heap.size+1,11,none⟩=some (.string ⟨x2.toArray⟩):=by rw[i2.cell 11];simpa using d11
   have y12:wr.cell? ⟨w.heap.size+1,12,none⟩=some (.int .i64 o2):=by rw[i2.cell 12];simpa using d12
   have y13:wr.cell? ⟨w.heap.size+1,13,none⟩=some (.slice A2 L2 c2):=by rw[i2.cell 13];simpa using d13
   obtain⟨s2,hs2⟩:∃ sx:ByteArray,(⟨x2.toArray⟩:ByteArray)=sx:=⟨_,rfl⟩
   have hev:Calls Tryz.prog 50 #[acV R V,.agg #[.int .i64 k2,.int .i64 n2,.string ⟨x2.toArray⟩,.int .i64 o2,.slice A2 L2 c2]] wr (EvP K m'.out re wr):=hev
   rw[hs2] at hev y11
   have hwr:w.heap.size+1 < wr.heap.size:=i2.lt
   have hRw:R < wr.heap.size:=by omega
   have HE:=Hd hev
   have HL:=Hd hl2
   have HC:=Hd (Ai hbK (Ai i1 (Ai i2 (Ai hre (Ai hstep (Ai hM' (Ai hV' (Ai hRR (Ai hVl hSS)))))))))
   have HKK:=Hd hK
   clear hev hl2 hbK i1 i2 hre hstep hM' hV' hRR h2E h2T j1 j2 hSS hVb hVl hlt ihl hM2 hx he hs2 hK
   go_wp2_with fail
   refine HE.out.mono ?_
   rintro e w3 h3
   obtain⟨n3,b3,rfl,h3⟩:=zA3 h3
   have z0:=(h3.at (b:=w.heap.size) (i:=0) (by omega) (by rw[HC.out.2.2.2.2.2.2.2.1];omega)).trans x0
   have z1:=(h3.at (b:=w.heap.size) (i:=1) (by omega) (by rw[HC.out.2.2.2.2.2.2.2.1];omega)).trans x1
   have HA:=Hd h3
   clear h3
   rcases HC.out.2.2.2.1 with ⟨c,rfl,rfl⟩ | ⟨x,rfl,⟨hx0,rfl⟩ | ⟨hx0,hh⟩⟩
   ·obtain⟨hx,hend,_⟩:=HA.out
    obtain⟨rfl,rfl⟩:n3=0∧b3=false:=by injection hx with hx;injection hx with hx;simp at hx;exact hx
    have HF:=Hd (hend.from ((bk HW.out.2.1 HW.out.2.2.1).trans HC.out.1))
    clear hx hend HA HC
    go_wp2_with fail
    go_ret
    exact⟨rfl,HF.out⟩
   ·obtain⟨hx,hbw⟩:=HA.out
    obtain⟨rfl,rfl⟩:n3=x∧b3=true:=by injection hx with hx;injection hx with hx;simp at hx;exact hx
    subst hx0
    have HF:=Hd (xrOk (Step.after HW.out.2.1 (HC.out.2.2.2.2.1.to (Step.low hbw))) (HC.out.2.2.2.2.2.1.low HKK.out hbw) (HC.out.2.2.2.2.2.2.1.low hbw))
    clear hx hbw HA HC
    go_wp2_with fail
    go_ret
    exact HF.out
   ·obtain⟨hx,hbw⟩:=HA.out
    obtain⟨rfl,rfl⟩:n3=x∧b3=true:=by injection hx with hx;injection hx with hx;simp at hx;exact hx
    have e1:(n3==0)=false:=neI hx0
    have hM3:=HC.out.2.2.2.2.2.1.low HKK.out hbw
    have hV3:=HC.out.2.2.2.2.2.2.1.low hbw
    have hs3:=HC.out.2.2.2.2.1.to (Step.low hbw)
    have k1:=HC.out.2.1.on hbw HC.out.2.1.lt
    have k2':=HC.out.2.2.1.on hbw HC.out.2.2.1.lt
    have hRR:=HC.out.2.2.2.2.2.2.2.1
    have hVl:=HC.out.2.2.2.2.2.2.2.2.1
    have hSS:=HC.out.2.2.2.2.2.2.2.2.2
    have hb3:Below K.b W2 w3:=HC.out.1.trans (bk hbw (HC.out.2.2.2.2.2.1.size HKK.out))
    rcases hh with ⟨h0,rfl⟩ | ⟨h0,rb,hrb,hcase⟩
    ·have htk:=ir_tick0 HKK.out hM3 h0
     rw[hRR] at htk
     have HT:=Hd htk
     have HF:=Hd ((bk HW.out.2.1 HW.out.2.2.1).trans hb3)
     clear htk hx hbw HA HC hM3 hV3 hs3 k1 k2' hRR hVl hSS hb3 hx0 h0
     go_wp2_with fail
     refine HT.out.mono ?_
     rintro e w4 ⟨rfl,hend⟩
     have HD:=Hd (hend.from HF.out)
     clear hend
     go_wp2_with fail
     go_ret
     exact⟨rfl,HD.out⟩
    ·have htk:=ir_tick1 HKK.out hM3 h0
     rw[hRR] at htk
     have HT:=Hd htk
     have HD:=Hd (Ai hs3 (Ai k1 (Ai k2' (Ai hSS (Ai hVl (Ai hV3 (Ai hb3 (Ai hM3 (Ai hrb hcase)))))))))
     clear htk hx hbw HA HC hM3 hV3 hs3 k1 k2' hRR hVl hSS hb3 hx0 h0 hrb hcase
     go_wp2_with fail
     refine HT.out.mono ?_
     rintro e w4 ⟨rfl,hst,hM4⟩
     obtain⟨hs3,k1,k2',hSS,hVl,hV3,hb3,hM3,hrb,hcase⟩:=HD.out
     have hV4:=hst.vmp hV3
     have hs4:=hs3.to (hst.wide (some V))
     have q1:=(hst.wide (some V)).blk k1 (SS.not (fun e=>by have:=hSS _ e;omega) hs3 (by have:=HW.out.2.2.2.1;omega)) (fun e=>by injection e with e;omega)
     have q2:=(hst.wide (some V)).blk k2' (SS.not (fun e=>by have:=hSS _ e;omega) hs3 (by have:=HW.out.2.2.2.2.1;omega)) (fun e=>by injection e with e;omega)
     have hb4:Below K.b W2 w4:=hb3.trans ((hst.wide (some V)).below HKK.out hM3 (fun i e=>by injection e with e;rw[←e];exact hV3.b))
     have hcl:=HL.out w4 _ _ _ rb hb4 hrb hM4 hV4
     have x0:w4.cell? ⟨w.heap.size,0,none⟩=some (.pointer (some ⟨R,0,none⟩)):=q1.cell 0
     have x1:w4.cell? ⟨w.heap.size,1,none⟩=some (.map (some V)):=q1.cell 1
     have y15:w4.cell? ⟨w.heap.size+1,15,none⟩=some (.slice A4 lt c4):=by rw[q2.cell 15];simpa using d15
     have HX:=Hd hcl
     have HY:=Hd (Ai hs4 (Ai hb4 (Ai hM4 (Ai hV4 hcase))))
     clear hcl hs4 hb4 hM4 hV4 hcase q1 q2 hs3 k1 k2' hSS hVl hV3 hb3 hM3 hrb hst HD HT
     cases rb with
     | ended kk cc oo =>
      go_wp2_with fail
      refine HX.out.mono ?_
      rintro e w5 ⟨rfl,hend⟩
      have HZ:=Hd hend
      clear hend
      go_wp2_with fail
      go_ret
      rcases HY.out.2.2.2.2 with ⟨k',c',o',h1,rfl⟩ | ⟨m'',V'',h1,_⟩
      ·injection h1 with a1 a2 a3
       subst a1 a2 a3
       exact⟨rfl,HZ.out.from ((bk HW.out.2.1 HW.out.2.2.1).trans HY.out.2.1)⟩
      ·cases h1
     | ok m2 V2 =>
      go_wp2_with fail
      refine HX.out.mono ?_
      rintro e w5 ⟨rfl,o5,hs5,hM5,hV5⟩
      have HZ:=Hd (Ai hs5 (Ai hM5 hV5))
      clear hs5 hM5 hV5
      go_wp2_with fail
      go_roundg gk
      case measure=>omega
      case rel =>
       rcases HY.out.2.2.2.2 with ⟨k',c',o',h1,rfl⟩ | ⟨m'',V'',h1,hh⟩
       ·cases h1
       ·injection h1 with a1 a2
        subst a1 a2
        exact⟨by omega,m2,V2,o5,hh,HY.out.1.to HZ.out.1,HZ.out.2.1,HZ.out.2.2⟩
end Go.Proofs.YtpgnlfdindmopaaGreatDoor
