/- Words and walks for the laws of the interpreter. -/
import Derived.Test.YtpgnlfdindmopaaGreatDoorK3
import Derived.Test.YtpgnlfdindmopaaGreatDoorK2
import Derived.Test.YtpgnlfdindmopaaGreatDoorJ8
import Derived.Maps.OwnOps
import Derived.Maps.Views
import Derived.Maps.OwnSet
import Derived.Deep.RegionWith
import Derived.Carry
namespace Go.Proofs.YtpgnlfdindmopaaGreatDoor
open Go.RowKit (wrap64 intOf)
open Go Go.RowKit WM LX PX CX
set_option maxRecDepth 100000
set_option maxHeartbeats 4000000
def En (b:Nat)(w:World):Prop:=Tab b w∧Env b w
theorem En.on {b:Nat}{w w':World}(h:En b w)(hb:Below b w w'):En b w':=⟨h.1.on hb,h.2.on hb⟩
theorem En.pe {b:Nat}{w:World}(h:En b w)(hb:b≤w.heap.size):PEnv w:=⟨h.1.up hb,⟨h.2.1.up hb,h.2.2.1.up hb,fun w2 h2=>h.2.2.2 w2 (below_down h2 hb)⟩⟩
theorem kp_under {m:Option Nat}{w w':World}{b:Nat}(h:Kp m w w')(hm:∀ x,m=some x→b≤x)(hb:b≤w.heap.size):Below b w w' :=
 ⟨h.os,h.tape,h.output,h.size,fun i hi=>h.block i (Ll hi hb) (fun e=>by have:=hm i e.symm;omega)⟩
def NMp (B c:Nat)(w:World):Prop :=
 ∃ (n:Nat) (D:DataW Unit),n≤c∧w.ownsMap Tryz.prog 9 (plainElem Tryz.prog 4) B n D∧Maps.IsMap D∧∀ x:List UInt8,D.atKey (.string x) (.lit (.bool false))=.lit (.bool true)→zBx x=true
theorem NMp.lt {B c:Nat}{w:World}(h:NMp B c w):B < w.heap.size:=by
 obtain⟨n,D,_,h,_⟩:=h
 exact h.lt
theorem NMp.on {B c c':Nat}{w w':World}(h:NMp B c w)(hb:Below w.heap.size w w')(hc:c≤c'):NMp B c' w':=by
 obtain⟨n,D,hn,h,hm,hx⟩:=h
 exact⟨n,D,Nat.le_trans hn hc,h.kept (grown_below hb none) (by simp),hm,hx⟩
theorem boolElem (x:Bool):plainElem (H:=Unit) Tryz.prog 4 (.bool x)=some (.lit (.bool x),[]):=plainElem_bool Tryz.underlying4 x
theorem boolElem_inv {v:Value}{z:DataW Unit × List MemPlace}(h:plainElem Tryz.prog 4 v=some z):∃ x,v=.bool x∧z=(.lit (.bool x),[]):=by
 unfold plainElem at h
 rw[Tryz.underlying4] at h
 cases v <;> simp at h
 exact⟨_,rfl,h.symm⟩
theorem keyS (x:List UInt8)(hx:x.length≤1000000000):keyOf Tryz.prog 9 (.string ⟨x.toArray⟩)=some (.string x) :=
 WideMaps.keyOf_string_mk (s:=⟨x.toArray⟩) Tryz.underlying9 (by show x.toArray.size≤maxLen;unfold maxLen;simp;omega)
theorem lawS:Maps.Keyed Tryz.prog 9:=Maps.string_keyed Tryz.underlying9
theorem mapT:Tryz.prog.underlying 147=some (.map 9 4):=Tryz.underlying147
theorem look_nm {B n:Nat}{w:World}{D:DataW Unit}(h:w.ownsMap Tryz.prog 9 (plainElem Tryz.prog 4) B n D)(x:List UInt8)(hx:x.length≤1000000000) :
 ∃ b:Bool,(Instr.lookup 147 (.map (some B)) (.string ⟨x.toArray⟩) false).run Tryz.prog w=.ok (.bool b) w∧D.atKey (.string x) (.lit (.bool false))=.lit (.bool b):=by
 obtain⟨v,ps,hrun,hv⟩:=h.lookup lawS mapT (z:=.bool false) (by kernel_rfl) (boolElem false) (keyS x hx)
 obtain⟨b,rfl,hb⟩:=boolElem_inv hv
 simp only[Prod.mk.injEq] at hb
 exact⟨b,hrun,hb.1⟩
theorem put_nm {B n:Nat}{w:World}{D:DataW Unit}(h:w.ownsMap Tryz.prog 9 (plainElem Tryz.prog 4) B n D)(hn:n < maxLen)(x:List UInt8)(hx:x.length≤1000000000)(b:Bool) :
 ∃ w',(Instr.mapUpdate 147 (.map (some B)) (.string ⟨x.toArray⟩) (.bool b)).run Tryz.prog w=.ok () w'∧w'.ownsMap Tryz.prog 9 (plainElem Tryz.prog 4) B (n+1) (D.put (.string x) (.lit (.bool b)))∧w.grownBy w' (some B) :=
 h.update lawS mapT hn (keyS x hx) (boolElem b)
theorem parsed_any (x:List UInt8)(hx:x.length≤1000000000)(w:World)(h:PEnv w):Calls Tryz.prog 115 #[.string ⟨x.toArray⟩] w (RetN (.bool (zBx x)) w):=by
 obtain⟨sx,hsx⟩:∃ sx:ByteArray,(⟨x.toArray⟩:ByteArray)=sx:=⟨_,rfl⟩
 have l1:sx.size≤1000000000:=by rw[←hsx];show x.toArray.size≤_;simpa using hx
 have ht:sx.data.toList=x:=by rw[←hsx]
 obtain⟨r,hr⟩:∃ r,parseF (nmA++x++nmZ)=r:=⟨_,rfl⟩
 have hpar:=parse_any (⟨#[97,114,114,97,121,32]⟩++sx++⟨#[32,49,59]⟩) r (Hd (by rw[←hr];congr 1;simp[nmA,nmZ,ByteArray.data_append,ht])) w h
 have hnm:zBx x=(decide (r.2.1=0)&&(decide (r.1.arrays.length=1)&&decide ((r.1.arrays.getD 0 ([],0)).1=x))):=by unfold zBx;rw[hr]
 rw[hsx,hnm]
 have hal:∀ (q:PG × Nat × Nat),r=q→True:=fun _ _=>trivial
 clear hal
 obtain⟨⟨ars,fs⟩,y,a⟩:=r
 dsimp only at hpar ⊢
 obtain⟨b3,hb3⟩:∃ b3,decide ((ars.getD 0 ([],0)).1=x)=b3:=⟨_,rfl⟩
 rw[hb3]
 have H3:=Hd (Ai hb3 ht)
 have HP:=Hd hpar
 clear hpar hr hnm hx h hsx ht hb3
 go_enter Tryz.func115,Tryz.ntmps115
 go_wp2_with fail
 refine HP.out.mono ?_
 rintro e w1 ⟨A,L,c,A',L',c',rfl,ra,_,hb⟩
 dsimp only at ra
 obtain rfl:=zCw ra
 obtain⟨A0,c0,hv,hat⟩:=ra.at
 injection hv with hv1 hv2 hv3
 subst hv1 hv3
 obtain⟨la,hla⟩:∃ la,ars.length=la:=⟨_,rfl⟩
 have HA:=Hd (Ai hat hla)
 have HB:=Hd hb
 rw[hla]
 clear hat hla hb ra HP
 have hb2:Below w.heap.size w ((w1.alloc (.cells #[.slice A la c,.slice A' L' c'] 26)).alloc (.cells #[.int .i64 (y:Int),.int .i64 (a:Int)] 29)):=(HB.out.alloc HB.out.size _).alloc (Nat.le_trans HB.out.size (by simp)) _
 have HB2:=Hd hb2
 clear hb2
 by_cases h0:y=0
 ·subst h0
  have HB2:Hid (Below w.heap.size w ((w1.alloc (.cells #[.slice A la c,.slice A' L' c'] 26)).alloc (.cells #[.int .i64 0,.int .i64 (a:Int)] 29))):=HB2
  by_cases h1:la=1
  ·subst h1
   obtain⟨a0,ha0⟩:∃ a0,ars[0]?=some a0:=⟨_,Ge (by rw[HA.out.2];decide)⟩
   obtain⟨g,cs,rfl,hg,hcs,hcell⟩:=HA.out.1 0 a0 ha0
   obtain⟨s0,hs0⟩:∃ s0:ByteArray,(⟨a0.1.toArray⟩:ByteArray)=s0:=⟨_,rfl⟩
   have hc:=hcell 0 (.string s0) (by rw[show cs=_ from hcs,←hs0];rfl)
   have hc2:w1.cell? ⟨g,0,none⟩=some (.string s0):=by rwa [Nat.zero_mul,Nat.add_zero] at hc
   have hg2:=hg.2
   have hfin:(s0.data.toList==sx.data.toList)=b3:=by
    rw[←H3.out.1,H3.out.2,←hs0,beq_dec]
    show decide (a0.1=x)=_
    rw[List.getD_eq_getElem?_getD,ha0]
    rfl
   have HF:=Hd hfin
   have e1:decide ((1:Int)=1)=true:=rfl
   have HA2:=Hd HA.out.2
   clear hcell hc hcs hg ha0 hs0 hfin HA HB H3
   go_wp2_with fail
   go_ret
   exact retN (by show Value.bool _=Value.bool _;congr 1;rw[show ars.length=1 from HA2.out,ByteArray.toList_eq,ByteArray.toList_eq,HF.out];simp) HB2.out
  ·have h2:((la:Int)==1)=false:=by rw[beq_eq_false_iff_ne];omega
   go_wp2_with fail
   go_ret
   exact retN (by show Value.bool false=Value.bool _;congr 1;rw[show ars.length=la from HA.out.2];simp[h1]) HB2.out
 ·have h2:((y:Int)==0)=false:=by rw[beq_eq_false_iff_ne];omega
  go_wp2_with fail
  go_ret
  exact retN (by show Value.bool false=Value.bool _;congr 1;simp[h0]) HB2.out
def ShI (b B:Nat)(w0:World)(c:Nat)(w:World):Prop:=NMp B c w∧En b w∧Kp (some B) w0 w
theorem nm_any (b B:Nat)(hbB:b≤B)(x:List UInt8)(hx:x.length≤1000000000)(c:Nat)(hc:c≤1000000000000)(w:World)(hN:NMp B c w)(hE:En b w) :
 Calls Tryz.prog 73 #[.agg #[.map (some B)],.string ⟨x.toArray⟩] w (RetK (.bool (zBx x)) (some B) w (fun w'=>NMp B (c+1) w'∧En b w')):=by
 have hBw:=hN.lt
 obtain⟨n,D,hn,hown,hm,hD⟩:=hN
 obtain⟨W1,hW1⟩:∃ W1,w.alloc (.cells #[.map (some B)] 149)=W1:=⟨_,rfl⟩
 have k1:Blk W1 w.heap.size 149 #[.map (some B)]:=by rw[←hW1];exact Blk.new _ _ _
 have hb1:Below w.heap.size w W1:=by rw[←hW1];exact (Below.refl _ _).alloc (Lr _) _
 have hown1:=hown.kept (grown_below hb1 none) (by simp)
 obtain⟨v,hrun,hat⟩:=look_nm hown1 x hx
 have hne:B≠w.heap.size:=Nat.ne_of_lt hBw
 obtain⟨sx,hsx⟩:∃ sx:ByteArray,(⟨x.toArray⟩:ByteArray)=sx:=⟨_,rfl⟩
 cases v with
 | true =>
  rw[hD x hat]
  rw[hsx] at hrun ⊢
  rw[←hW1] at hrun
  have HH:=Hd (Ai hW1 (Ai hb1 (Ai hown1 (Ai hm (Ai hD hE)))))
  clear hW1 hb1 hown1 hown hm hD hE k1 hat hsx
  go_enter Tryz.func73,Tryz.ntmps73
  go_wp2_with fail
  go_ret
  obtain⟨h1,h2,h3,h4,h5,h6⟩:=HH.out
  rw[h1]
  exact retK rfl ⟨⟨n,D,by omega,h3,h4,h5⟩,h6.on (below_down h2 (by omega))⟩ (kp_below h2 _)
 | false =>
  have hpar:=fun W (h:PEnv W)=>parsed_any x hx W h
  obtain⟨nb,hnb⟩:∃ nb,zBx x=nb:=⟨_,rfl⟩
  rw[hnb] at hpar ⊢
  have HW1:=Hd hW1
  have hrun0:=hrun
  rw[hsx] at hrun hpar ⊢
  rw[←hW1] at hrun
  have HP:=Hd hpar
  have HH:=Hd (Ai hb1 (Ai hown1 (Ai hm (Ai hD (Ai hE (Ai k1 (Ai hnb hsx)))))))
  clear hW1 hb1 hown1 hown hm hD hE k1 hat hsx hpar hnb hrun0
  go_enter Tryz.func73,Tryz.ntmps73
  go_wp2_with fail
  rw[HW1.out]
  have y0:W1.cell? ⟨w.heap.size,0,none⟩=some (.map (some B)):=HH.out.2.2.2.2.2.1.cell 0
  clear hrun
  have hE1:∀ W,Below W1.heap.size W1 W→PEnv W:=fun W hW=>(HH.out.2.2.2.2.1.on (below_down (HH.out.1.trans (below_down hW HH.out.1.size)) (by omega))).pe (Nat.le_trans (by omega) (Nat.le_trans HH.out.1.size hW.size))
  have HE1:=Hd hE1
  clear hE1
  have hput:∀ W3,Below W1.heap.size W1 W3→∃ w4,(Instr.mapUpdate 147 (.map (some B)) (.string sx) (.bool nb)).run Tryz.prog W3=.ok () w4∧NMp B (c+1) w4∧W3.grownBy w4 (some B) ∧
   (Instr.lookup 147 (.map (some B)) (.string sx) false).run Tryz.prog w4=.ok (.bool nb) w4∧W3.cell? ⟨w.heap.size,0,none⟩=some (.map (some B))∧w4.cell? ⟨w.heap.size,0,none⟩=some (.map (some B)):=fun W3 hW3=>by
   obtain⟨h1,h2,h3,h4,h5,h6,h7,h8⟩:=HH.out
   have hown3:=h2.kept (grown_below hW3 none) (by simp)
   obtain⟨w4,r1,r2,r3⟩:=put_nm hown3 (by unfold maxLen;omega) x hx nb
   rw[h8] at r1
   obtain⟨v,s1,s2⟩:=look_nm r2 x hx
   rw[h8] at s1
   rw[Maps.atKey_put_same h3 (lawS.key (keyS x hx))] at s2
   obtain rfl:nb=v:=by injection s2 with s2;injection s2
   refine⟨w4,r1,⟨n+1,_,by omega,r2,h3.put _ _,fun y hy=>?_⟩,r3,s1,(Cb (hW3.block _ h6.lt)).trans (h6.cell 0),(Cb ((r3.block _ (Ll h6.lt hW3.size) (fun e=>by injection e with e;omega)).trans (hW3.block _ h6.lt))).trans (h6.cell 0)⟩
   by_cases hxy:y=x
   ·subst hxy
    rw[Maps.atKey_put_same h3 (lawS.key (keyS y hx))] at hy
    injection hy with hy
    injection hy with hy
    rw[h7,hy]
   ·rw[Maps.atKey_put_other (fun e=>hxy (by injection e))] at hy
    exact h4 y hy
  have HPUT:=Hd hput
  clear hput
  go_region_with (go_at_call 115;((with_reducible refine (HP.out _ (HE1.out _ ?_)).mono ?_));rotate_left;(rintro e w3 ⟨rfl,hb3⟩;obtain⟨w4,q1,q2,q3,q4,q5,q6⟩:=HPUT.out w3 ⟨hb3.os,hb3.tape,hb3.output,hb3.size,hb3.block⟩);rotate_left;(first | exact Below.refl _ _ | exact below_drewN (Below.refl _ _) _))
  all_goals
   have HQ:=Hd (Ai q2 q3)
   have HB3:=Hd hb3
   clear q2 q3 hb3
   clear q1 q5
   go_wp2_with fail
   go_ret
   have hk:Kp (some B) w w4:=kp_to (kp_below (HH.out.1.trans (below_down (⟨HB3.out.os,HB3.out.tape,HB3.out.output,HB3.out.size,HB3.out.block⟩:Below W1.heap.size W1 w3) HH.out.1.size)) _) HQ.out.2
   exact retK rfl ⟨HQ.out.1,HH.out.2.2.2.2.1.on (kp_under hk (fun y hy=>by injection hy with hy;omega) (by omega))⟩ hk
theorem inv_sh (b B:Nat)(w0:World)(hbB:b≤B)(ok:Nat→Prop)(hok:∀ x,ok x→x < w0.heap.size∧x≠B):Inv (ShI b B w0) ok (some B) w0 :=
 ⟨fun _ _ h y hy=>by injection hy with hy;rw[←hy];exact h.1.lt,
  fun _ _ _ h hb=>⟨h.1.on hb (Lr _),h.2.1.on (below_down hb (Nat.le_trans hbB (Nat.le_of_lt h.1.lt))),kp_to h.2.2 (kp_below hb _)⟩,
  fun _ _ w h hc=>⟨h.1.on (Below.refl _ w) hc,h.2⟩,
  fun _ _ h x hx=>⟨Ll (hok x hx).1 h.2.2.size,h.2.2.block x (hok x hx).1 (fun e=>by injection e with e;exact (hok x hx).2 e)⟩⟩
theorem ret_sh {v:Value}{b B:Nat}{w0 w:World}{c:Nat}{e:Ending}{w':World}(h:RetK v (some B) w (fun w'=>NMp B c w'∧En b w') e w')(hk:Kp (some B) w0 w):RetK v (some B) w (ShI b B w0 c) e w' :=
 ⟨h.1,⟨h.2.1.1,h.2.1.2,kp_to hk h.2.2⟩,h.2.2⟩
theorem tst_nm (b B:Nat)(hbB:b≤B)(w0:World)(x:List UInt8)(hx:x.length≤1000000000)(c:Nat)(hc:c≤1000000000000)(w:World)(h:ShI b B w0 c w) :
 Calls Tryz.prog 73 #[.agg #[.map (some B)],.string ⟨x.toArray⟩] w (RetK (.bool (zBx x)) (some B) w (ShI b B w0 (c+1))) :=
 (nm_any b B hbB x hx c hc w h.1 h.2.1).mono fun _ _ k=>ret_sh k h.2.2
end Go.Proofs.YtpgnlfdindmopaaGreatDoor
namespace Go.Proofs.YtpgnlfdindmopaaGreatDoor
open Go.RowKit (wrap64 intOf)
open Go Go.RowKit WM LX PX CX
set_option maxRecDepth 100000
set_option maxHeartbeats 4000000
theorem beqI (a b:Int):(a==b)=decide (a=b):=by rw[Bool.eq_iff_iff];simp
theorem neI {a b:Int}(h:a≠b):(a==b)=false:=by rw[beq_eq_false_iff_ne];exact h
theorem un_any (op:Int)(w:World):Calls Tryz.prog 222 #[.int .i64 op] w (RetN (.bool (unB op)) w):=by
 unfold unB
 by_cases h1:op=20
 ·subst h1
  go_enter Tryz.func222,Tryz.ntmps222
  go_wp2_with fail
  go_ret
  exact retN rfl (Below.refl _ _)
 ·have e1:=neI h1
  rw[decide_eq_false h1,Bool.false_or]
  go_enter Tryz.func222,Tryz.ntmps222
  go_wp2_with fail
  go_ret
  exact retN (congrArg Value.bool (beqI _ _)) (Below.refl _ _)
theorem oc_any (op:Int)(w:World):Calls Tryz.prog 221 #[.int .i64 op] w (RetN (.int .i64 (opN op)) w):=by
 have hu:=un_any op w
 unfold opN
 cases hq:unB op
 all_goals
  rw[hq] at hu
  have HU:=Hd hu
  clear hu hq
  go_enter Tryz.func221,Tryz.ntmps221
  go_wp2_with fail
  refine HU.out.mono ?_
  rintro e w2 ⟨rfl,hb⟩
  go_wp2_with fail
  go_ret
  exact retN rfl hb
theorem of_any (op:Int)(used:Bool)(w:World):Calls Tryz.prog 205 #[.int .i64 op,.bool used] w (RetN (.bool (opFB op used)) w):=by
 unfold opFB
 cases used with
 | false =>
  rw[if_neg (by decide)]
  go_enter Tryz.func205,Tryz.ntmps205
  go_wp2_with fail
  go_ret
  exact retN (congrArg Value.bool (beqI _ _)) (Below.refl _ _)
 | true =>
  rw[if_pos rfl]
  by_cases h1:4≤op
  ·rw[decide_eq_true h1,Bool.true_and]
   by_cases h2:op≤18
   ·rw[decide_eq_true h2,Bool.true_or]
    go_enter Tryz.func205,Tryz.ntmps205
    go_wp2_with fail
    go_ret
    exact retN rfl (Below.refl _ _)
   ·rw[decide_eq_false h2,Bool.false_or]
    go_enter Tryz.func205,Tryz.ntmps205
    go_wp2_with fail
    refine (un_any op w).mono ?_
    rintro e w2 ⟨rfl,hb⟩
    go_wp2_with fail
    go_ret
    exact retN rfl hb
  ·rw[decide_eq_false h1,Bool.false_and,Bool.false_or]
   go_enter Tryz.func205,Tryz.ntmps205
   go_wp2_with fail
   refine (un_any op w).mono ?_
   rintro e w2 ⟨rfl,hb⟩
   go_wp2_with fail
   go_ret
   exact retN rfl hb
theorem tf_any (n:Int)(used:Bool)(w:World):Calls Tryz.prog 166 #[.int .i64 n,.bool used] w (RetN (.bool (trFB n used)) w):=by
 unfold trFB
 cases used with
 | false =>
  rw[if_neg (by decide)]
  go_enter Tryz.func166,Tryz.ntmps166
  go_wp2_with fail
  go_ret
  exact retN (congrArg Value.bool (beqI _ _)) (Below.refl _ _)
 | true =>
  rw[if_pos rfl]
  by_cases h1:0≤n
  ·by_cases h2:n≤1000000
   ·rw[decide_eq_true h1,decide_eq_true h2]
    go_enter Tryz.func166,Tryz.ntmps166
    go_wp2_with fail
    go_ret
    exact retN rfl (Below.refl _ _)
   ·rw[decide_eq_true h1,decide_eq_false h2]
    go_enter Tryz.func166,Tryz.ntmps166
    go_wp2_with fail
    go_ret
    exact retN rfl (Below.refl _ _)
  ·rw[decide_eq_false h1,Bool.false_and]
   go_enter Tryz.func166,Tryz.ntmps166
   go_wp2_with fail
   go_ret
   exact retN rfl (Below.refl _ _)
def exUV:Option (Bool × Bool × Bool × Int)→Value
 | none=>.tuple #[.agg #[.bool false,.bool false,.bool false,.int .i64 0],.bool false]
 | some u=>.tuple #[.agg #[.bool u.1,.bool u.2.1,.bool u.2.2.1,.int .i64 u.2.2.2],.bool true]
theorem fe_any (kd n:Int)(nm:List UInt8)(op:Int)(A:Option Addr)(L c:Nat)(w:World) :
 Calls Tryz.prog 204 #[exV kd n nm op A L c] w (RetN (exUV (exU kd op)) w):=by
 unfold exU
 by_cases h1:kd=1
 ·subst h1
  rw[if_pos rfl]
  go_enter Tryz.func204,Tryz.ntmps204
  go_wp2_with fail
  exact bodyPost_ret (v:=.tuple #[.agg #[.bool true,.bool false,.bool false,.int .i64 0],.bool true]) (by simp[results,Tryz.results204,go_sem]) rfl (retN rfl (((Below.refl _ _).alloc (Lr _) _).alloc (by simp) _))
 ·have e1:=neI h1
  rw[if_neg h1]
  by_cases h2:kd=2
  ·subst h2
   rw[if_pos rfl]
   go_enter Tryz.func204,Tryz.ntmps204
   go_wp2_with fail
   exact bodyPost_ret (v:=.tuple #[.agg #[.bool false,.bool true,.bool false,.int .i64 0],.bool true]) (by simp[results,Tryz.results204,go_sem]) rfl (retN rfl (((Below.refl _ _).alloc (Lr _) _).alloc (by simp) _))
  ·have e2:=neI h2
   rw[if_neg h2]
   by_cases h3:kd=3
   ·subst h3
    rw[if_pos rfl]
    go_enter Tryz.func204,Tryz.ntmps204
    go_wp2_with fail
    exact bodyPost_ret (v:=.tuple #[.agg #[.bool false,.bool true,.bool false,.int .i64 1],.bool true]) (by simp[results,Tryz.results204,go_sem]) rfl (retN rfl (((Below.refl _ _).alloc (Lr _) _).alloc (by simp) _))
   ·have e3:=neI h3
    rw[if_neg h3]
    by_cases h4:kd=4
    ·subst h4
     rw[if_pos rfl]
     obtain⟨k,hk⟩:∃ k,opN op=k:=⟨_,rfl⟩
     have ho:=fun W=>oc_any op W
     rw[hk] at ho ⊢
     have HO:=Hd ho
     clear ho hk
     go_enter Tryz.func204,Tryz.ntmps204
     go_wp2_with fail
     refine (HO.out _).mono ?_
     rintro e w2 ⟨rfl,hb⟩
     have hz:w.heap.size+1 < w2.heap.size:=by have:=hb.size;simp at this;omega
     have k2:=(blk_at (W:=w.alloc (.cells #[.int .i64 4,.int .i64 n,.string ⟨nm.toArray⟩,.int .i64 op,.slice A L c] 36)) (n:=w.heap.size+1) (by simp) 246 #[.bool false,.bool false,.bool false,.int .i64 0]).on hb (by simp)
     obtain⟨z0,z1,z2,z3,f0,f1,f2,f3⟩:=k2.cells4
     have hb2:Below w.heap.size w w2:=(((Below.refl _ _).alloc (Lr _) _).alloc (by simp) _).trans (below_down hb (by simp;omega))
     have HB:=Hd hb2
     clear hb hb2 k2
     go_wp2_with fail
     exact bodyPost_ret (v:=.tuple #[.agg #[.bool false,.bool false,.bool true,.int .i64 k],.bool true]) (by simp[results,Tryz.results204,go_sem,z0,z1,z2,z3]) rfl (retN rfl ((((HB.out.setCell (by simp) _).setCell (by simp) _).setCell (by simp) _).setCell (by simp) _))
    ·have e4:=neI h4
     rw[if_neg h4]
     by_cases h5:kd=5
     ·subst h5
      rw[if_pos rfl]
      go_enter Tryz.func204,Tryz.ntmps204
      go_wp2_with fail
      exact bodyPost_ret (v:=.tuple #[.agg #[.bool false,.bool false,.bool false,.int .i64 3],.bool true]) (by simp[results,Tryz.results204,go_sem]) rfl (retN rfl (((Below.refl _ _).alloc (Lr _) _).alloc (by simp) _))
     ·have e5:=neI h5
      rw[if_neg h5]
      go_enter Tryz.func204,Tryz.ntmps204
      go_wp2_with fail
      exact bodyPost_ret (v:=.tuple #[.agg #[.bool false,.bool false,.bool false,.int .i64 0],.bool false]) (by simp[results,Tryz.results204,go_sem]) rfl (retN rfl (((Below.refl _ _).alloc (Lr _) _).alloc (by simp) _))
theorem nf_any (b B:Nat)(hbB:b≤B)(w0:World)(x:List UInt8)(hx:x.length≤1000000000)(used:Bool)(c:Nat)(hc:c≤1000000000000)(w:World)(h:ShI b B w0 c w) :
 Calls Tryz.prog 165 #[.agg #[.map (some B)],.string ⟨x.toArray⟩,.bool used] w (RetK (.bool (nmFB x used)) (some B) w (ShI b B w0 (c+1))):=by
 have hI:=inv_sh b B w0 hbB (fun _=>False) (fun _ h=>h.elim)
 obtain⟨W1,hW1⟩:∃ W1,w.alloc (.cells #[.map (some B)] 149)=W1:=⟨_,rfl⟩
 have hb1:Below w.heap.size w W1:=by rw[←hW1];exact (Below.refl _ _).alloc (Lr _) _
 have h1:=hI.easy c w W1 h hb1
 have ht:=tst_nm b B hbB w0 x hx c hc W1 h1
 unfold nmFB
 cases used with
 | false =>
  rw[if_neg (by decide)]
  have HH:=Hd (Ai (hI.mono c (c+1) W1 h1 (Nat.le_succ _)) (Ai hb1 hW1))
  obtain⟨d,hd⟩:∃ d,decide (x=[])=d:=⟨_,rfl⟩
  obtain⟨sx,hsx⟩:∃ sx:ByteArray,(⟨x.toArray⟩:ByteArray)=sx:=⟨_,rfl⟩
  have hfin:(sx.data.toList==[])=d:=by rw[←hsx,←hd,beq_dec]
  rw[hd,hsx]
  have HF:=Hd hfin
  clear ht h1 hb1 hW1 h hI hd hsx hfin
  go_enter Tryz.func165,Tryz.ntmps165
  go_wp2_with fail
  go_ret
  rw[HH.out.2.2]
  refine retK ?_ HH.out.1 (kp_below HH.out.2.1 _)
  show Value.bool _=Value.bool d
  rw[←HF.out]
  congr 1
  first | rfl | (rw[ByteArray.toList_eq];rfl) | (rw[ByteArray.toList_eq];simp)
 | true =>
  rw[if_pos rfl]
  have HH:=Hd (Ai ht (Ai hb1 hW1))
  clear ht h1 hb1 hW1 h hI
  go_enter Tryz.func165,Tryz.ntmps165
  go_wp2_with fail
  rw[HH.out.2.2]
  refine HH.out.1.mono ?_
  rintro e w2 ⟨rfl,hi,hk⟩
  have HK:=Hd (Ai hi hk)
  clear hi hk
  go_wp2_with fail
  go_ret
  exact retK rfl HK.out.1 (kp_to (kp_below HH.out.2.1 _) HK.out.2)
end Go.Proofs.YtpgnlfdindmopaaGreatDoor
namespace Go.Proofs.YtpgnlfdindmopaaGreatDoor
open Go.RowKit (wrap64 intOf)
open Go Go.RowKit WM LX PX CX
set_option maxRecDepth 100000
set_option maxHeartbeats 4000000
theorem sumL_two {α:Type}(f:α→Nat)(l:List α):sumL (fun x=>2 * f x) l≤2 * sumL f l:=by
 induction l with
 | nil=>exact Lr _
 | cons a r ih=>rw[sumL,sumL];omega
theorem cost_kids (l:List PE):sumL (fun x=>2 * szE x) l≤2 * sumL szE l:=sumL_two szE l
abbrev EvN (m:Option Nat)(g:Nat)(pre lb:Array Value)(I:Nat→World→Prop)(ok:Nat→Prop)(p:PE→Bool)(N:Nat):Prop:=∀ (e:PE)(cs:List Value)(w:World)(c:Nat),szE e≤N→c+2 * szE e≤1000000000000→I c w→RepE w ok e cs →
 Calls Tryz.prog 125 #[.agg cs.toArray,.func (.func g) pre lb] w (RetK (.bool (allE p e)) m w (I (c+2 * szE e)))
theorem evN_cl (m:Option Nat)(g:Nat)(pre lb:Array Value)(I:Nat→World→Prop)(ok:Nat→Prop)(w0:World)(hI:Inv I ok m w0)(p:PE→Bool)(N:Nat)(ih:EvN m g pre lb I ok p N)(B:Nat)(e:PE)(cs:List Value)(w:World)(c:Nat)(hs:szE e≤N)
 (hc:c+2 * szE e≤1000000000000) (hw:I c w) (hr:RepE w ok e cs) (hB:B < w.heap.size) (hf:w.cell? ⟨B,0,none⟩=some (.func (.func g) pre lb)) :
 Calls Tryz.prog 170 #[.agg cs.toArray,.pointer (some ⟨B,0,none⟩)] w (RetK (.bool (allE p e)) m w (I (c+2 * szE e))):=by
 obtain⟨W1,hW1⟩:∃ W1,w.alloc (.cells cs.toArray 36)=W1:=⟨_,rfl⟩
 have hb1:Below w.heap.size w W1:=by rw[←hW1];exact (Below.refl _ _).alloc (Lr _) _
 have h1:=hI.easy c w W1 hw hb1
 have hcall:=ih e cs W1 c hs hc h1 (hr.keep (fun _ h=>h) (fun b hb=>hb1.block b (hI.ok c w hw b hb).1))
 obtain⟨h5,_⟩:=onesE _ _ _ _ hr
 have HS:Hid ((Tryz.prog.info? 36).map (·.size)=some cs.toArray.size):=by
  have:cs.toArray.size=5:=by simpa using h5
  rw[this];exact sizeE
 have HC:=Hd (Ai hcall (Ai hb1 hW1))
 clear hcall ih h1 hr h5 hW1 hb1 hw hI hs hc
 go_enter Tryz.func170,Tryz.ntmps170
 go_wp2_with (refine wpList_load_row rfl _ _ rfl w.heap.size rfl 36 cs.toArray (0,0) _ (Blk.new w _ _) Tryz.underlying36 rfl HS.out ?_)
 rw[HC.out.2.2]
 refine HC.out.1.mono ?_
 rintro e w2 ⟨rfl,hi,hk⟩
 have HK:=Hd (Ai hi hk)
 clear hi hk
 go_wp2_with fail
 go_ret
 exact retK rfl HK.out.1 (kp_to (kp_below HC.out.2.1 _) HK.out.2)
theorem evN_any (m:Option Nat)(g:Nat)(pre lb:Array Value)(eg:∀ args w,(callFunc g args).run Tryz.prog w=.ok (.enter g args) w)(I:Nat→World→Prop)(ok:Nat→Prop)(w0:World)(hI:Inv I ok m w0)(p:PE→Bool)
 (hp:∀ x,szE x≤1000000000→Tst Tryz.prog RepE ok I m g pre lb p (fun _=>0) x) (N:Nat):N≤1000000000→EvN m g pre lb I ok p N:=by
 induction N with
 | zero =>
  intro _ e cs w c hs
  cases e with
  | mk kd n nm op kids=>rw[szE_eq] at hs;omega
 | succ N ih =>
  intro hN e cs w c hs hc hw hr
  have ih:=ih (by omega)
  have hr0:=hr.keep (w':=w0) (fun _ h=>h) (fun b hb=>(hI.ok c w hw b hb).2.symm)
  have hp1:=hp e (by omega)
  cases e with
  | mk kd n nm op kids =>
   obtain⟨A,cp,rfl,ra⟩:=exp_of hr0
   rw[szE_eq] at hs hc
   have hck:=cost_kids kids
   have hfew:=sumL_len szE kids
   obtain⟨W1,hW1⟩:∃ W1,(w.alloc (.cells #[.int .i64 kd,.int .i64 n,.string ⟨nm.toArray⟩,.int .i64 op,.slice A kids.length cp] 36)).alloc (.cells #[.func (.func g) pre lb] 157)=W1:=⟨_,rfl⟩
   have hb1:Below w.heap.size w W1:=by rw[←hW1];exact ((Below.refl _ _).alloc (Lr _) _).alloc (by simp) _
   have k1:Blk W1 w.heap.size 36 #[.int .i64 kd,.int .i64 n,.string ⟨nm.toArray⟩,.int .i64 op,.slice A kids.length cp]:=by rw[←hW1];exact (Blk.new _ _ _).alloc _
   have k2:Blk W1 (w.heap.size+1) 157 #[.func (.func g) pre lb]:=by rw[←hW1];exact blk_at (by simp) _ _
   have h1:=hI.easy c w W1 hw hb1
   have hm:∀ b,m=some b→b < w.heap.size:=hI.lo c w hw
   have hc1:=hp1 _ W1 c (by dsimp only;omega) h1 (hr.keep (fun _ h=>h) (fun b hb=>hb1.block b (hI.ok c w hw b hb).1))
   have hc2:=fun W2 (h:I (c+(1+0)) W2) (hk:Kp m W1 W2)=>every_E keepsE onesE kids _ w0 ok ra (by omega) (allE p) m 170 #[] #[.pointer (some ⟨w.heap.size+1,0,none⟩)] (enters_of Tryz.func170 (by kernel_rfl) rfl)
    (fun c W=>I c W∧Kp m W1 W) (hI.and W1) (fun x=>2 * szE x) (fun i x hx cs' W c' hc' hI' hr'=>by
     rw[app_l]
     have hsx:=zA6 szE kids i x hx
     have hc'':c'+(1+2 * szE x)≤1000000000000:=hc'
     have hk3:=k2.kp hI'.2 (fun b hb=>by have:=hm b hb;omega)
     exact (evN_cl m g pre lb I ok w0 hI p N ih (w.heap.size+1) x cs' W c' (by omega) (by omega) hI'.1 hr' hk3.lt (hk3.cell 0)).mono fun _ _ h=>⟨h.1,⟨hI.mono _ _ _ h.2.1 (by dsimp only;omega),kp_to hI'.2 h.2.2⟩,h.2.2⟩)
    (c+(1+0)) (by omega) W2 ⟨h,hk⟩
   have HI:=Hd (Ai hI (Ai hb1 (Ai k1 (Ai hm hW1))))
   have HC1:=Hd hc1
   have HC2:=Hd hc2
   have hcost:c+(1+0)+sumL (fun x=>2 * szE x) kids≤c+2 * szE (.mk kd n nm op kids):=by rw[szE_eq];omega
   obtain⟨tot,htot⟩:∃ tot,c+2 * szE (.mk kd n nm op kids)=tot:=⟨_,rfl⟩
   rw[htot] at hcost ⊢
   obtain⟨len,hlen⟩:∃ len,kids.length=len:=⟨_,rfl⟩
   rw[hlen] at HI HC2 HC1 hfew ⊢
   have HT:=Hd hcost
   have hlt:len≤1000000000:=by omega
   cases hq:p (.mk kd n nm op kids) with
   | false =>
    have hall:allE p (.mk kd n nm op kids)=false:=by rw[allE_eq,hq,Bool.false_and]
    rw[hall]
    rw[hq] at HC1
    clear hr hr0 hp1 ra hs hc hck hfew hW1 hb1 k1 k2 h1 hm hc1 hc2 hcost htot hlen hq hall hw hI hp ih HC2
    go_enter Tryz.func125,Tryz.ntmps125
    go_wp2_with fail
    rw[HI.out.2.2.2.2]
    refine HC1.out.mono ?_
    rintro e w2 ⟨rfl,hi,hk⟩
    have HK:=Hd (Ai hi hk)
    clear hi hk
    go_wp2_with fail
    go_ret
    exact retK rfl (HI.out.1.mono _ _ _ HK.out.1 (by have:=HT.out;omega)) (kp_to (kp_below HI.out.2.1 _) HK.out.2)
   | true =>
    obtain⟨r,hr'⟩:∃ r,kids.all (allE p)=r:=⟨_,rfl⟩
    have hall:allE p (.mk kd n nm op kids)=r:=by rw[allE_eq,hq,Bool.true_and,hr']
    rw[hall]
    rw[hq] at HC1
    rw[hr'] at HC2
    clear hr hr0 hp1 ra hs hc hck hfew hW1 hb1 k1 k2 h1 hm hc1 hc2 hcost htot hlen hq hall hw hI hp ih hr'
    go_enter Tryz.func125,Tryz.ntmps125
    go_wp2_with fail
    rw[HI.out.2.2.2.2]
    refine HC1.out.mono ?_
    rintro e w2 ⟨rfl,hi,hk⟩
    have y4:w2.cell? ⟨w.heap.size,4,none⟩=some (.slice A len cp):=(HI.out.2.2.1.kp hk (fun b hb=>by have:=HI.out.2.2.2.1 b hb;omega)).cell 4
    have HK:=Hd (Ai hi hk)
    clear hi hk
    go_wp2_with fail
    refine (HC2.out w2 HK.out.1 HK.out.2).mono ?_
    rintro e w3 ⟨rfl,hi,hk⟩
    have HK3:=Hd (Ai hi.1 hk)
    clear hi hk y4
    go_wp2_with fail
    go_ret
    exact retK rfl (HI.out.1.mono _ _ _ HK3.out.1 HT.out) (kp_to (kp_below HI.out.2.1 _) (kp_to HK.out.2 HK3.out.2))
end Go.Proofs.YtpgnlfdindmopaaGreatDoor
namespace Go.Proofs.YtpgnlfdindmopaaGreatDoor
open Go.RowKit (wrap64 intOf)
open Go Go.RowKit WM LX PX CX
set_option maxRecDepth 100000
set_option maxHeartbeats 4000000
theorem node_any (b B:Nat)(hbB:b≤B)(w0:World)(ok:Nat→Prop)(e:PE)(hs:szE e≤1000000000):Tst Tryz.prog RepE ok (ShI b B w0) (some B) 169 #[.agg #[.map (some B)]] #[] nodeB (fun _=>0) e:=by
 intro cs w c hc hw hr
 rw[app_r]
 cases e with
 | mk kd n nm op kids =>
  obtain⟨A,cp,rfl,_⟩:=exp_of hr
  have hI:=inv_sh b B w0 hbB (fun _=>False) (fun _ h=>h.elim)
  rw[szE_eq] at hs
  have hfew:=sumL_len szE kids
  have hc':c+(1+0)≤1000000000000:=hc
  obtain⟨len,hlen⟩:∃ len,kids.length=len:=⟨_,rfl⟩
  obtain⟨W1,hW1⟩:∃ W1,(w.alloc (.cells #[.map (some B)] 149)).alloc (.cells #[.int .i64 kd,.int .i64 n,.string ⟨nm.toArray⟩,.int .i64 op,.slice A len cp] 36)=W1:=⟨_,rfl⟩
  have hb1:Below w.heap.size w W1:=by rw[←hW1];exact ((Below.refl _ _).alloc (Lr _) _).alloc (by simp) _
  have k1:Blk W1 w.heap.size 149 #[.map (some B)]:=by rw[←hW1];exact (Blk.new _ _ _).alloc _
  have k2:Blk W1 (w.heap.size+1) 36 #[.int .i64 kd,.int .i64 n,.string ⟨nm.toArray⟩,.int .i64 op,.slice A len cp]:=by rw[←hW1];exact blk_at (by simp) _ _
  have hfe:=fe_any kd n nm op A len cp W1
  have hBw:B < w.heap.size:=hw.1.lt
  have hnode:nodeB (.mk kd n nm op kids)=(match exU kd op with | none=>false | some u=>(u.1||decide (n=0))&&(nmFB nm u.2.1&&(opFB op u.2.2.1&&decide ((len:Int)=u.2.2.2)))):=by rw[←hlen];rfl
  have HN:=Hd (fun w c h=>(hI.mono c (c+(1+0)) w h (Nat.le_add_right _ _)))
  have HB:=Hd (Ai hb1 (Ai hW1 (Ai k1 k2)))
  have HF:=Hd hfe
  have h1:=hI.easy c w W1 hw hb1
  have HI:=Hd hI
  have H1:=Hd h1
  have m1:len≤1000000000:=by omega
  have m2:nm.length≤1000000000:=by omega
  rw[hlen,hnode]
  clear hnode hlen hfew hs hr hb1 hW1 k1 k2 hfe hw h1 hI hc
  cases hu:exU kd op with
  | none =>
   rw[hu] at HF
   clear hu
   go_enter Tryz.func169,Tryz.ntmps169
   go_wp2_with fail
   rw[HB.out.2.1]
   refine HF.out.mono ?_
   rintro e w2 ⟨rfl,hb2⟩
   unfold exUV
   dsimp only
   have HB2:=Hd hb2
   clear hb2
   go_wp2_with fail
   go_ret
   exact retK rfl (HN.out _ _ (HI.out.easy _ _ _ (HI.out.easy _ _ _ H1.out HB2.out) ((Below.refl _ _).alloc (Lr _) _))) (kp_to (kp_below HB.out.1 _) (kp_to (kp_below HB2.out _) (kp_below ((Below.refl _ _).alloc (Lr _) _) _)))
  | some u =>
   obtain⟨u1,u2,u3,u4⟩:=u
   rw[hu] at HF
   clear hu
   dsimp only
   obtain⟨tot,htot⟩:∃ tot,((u1||decide (n=0))&&(nmFB nm u2&&(opFB op u3&&decide ((len:Int)=u4))))=tot:=⟨_,rfl⟩
   rw[htot]
   have HT:=Hd htot
   clear htot
   go_enter Tryz.func169,Tryz.ntmps169
   go_wp2_with fail
   rw[HB.out.2.1]
   refine HF.out.mono ?_
   rintro e w2 ⟨rfl,hb2⟩
   unfold exUV
   dsimp only
   obtain⟨W3,hW3⟩:∃ W3,w2.alloc (.cells #[.bool u1,.bool u2,.bool u3,.int .i64 u4] 246)=W3:=⟨_,rfl⟩
   have hb3:Below w2.heap.size w2 W3:=by rw[←hW3];exact (Below.refl _ _).alloc (Lr _) _
   have j1:=HB.out.2.2.1.on hb2 HB.out.2.2.1.lt
   have j2:=HB.out.2.2.2.on hb2 HB.out.2.2.2.lt
   have k3:Blk W3 w2.heap.size 246 #[.bool u1,.bool u2,.bool u3,.int .i64 u4]:=by rw[←hW3];exact Blk.new _ _ _
   have l1:=j1.lt
   have l2:=j2.lt
   have x0:w2.cell? ⟨w.heap.size,0,none⟩=some (.map (some B)):=j1.cell 0
   obtain⟨_,y1,y2,y3,y4,_⟩:=j2.cells5
   have h3:=HI.out.easy _ _ _ (HI.out.easy _ _ _ H1.out hb2) hb3
   have hk3:Kp (some B) w W3:=kp_to (kp_below HB.out.1 _) (kp_to (kp_below hb2 _) (kp_below hb3 _))
   have H3:=Hd (Ai h3 (Ai hk3 (Ai hW3 (Ai (j1.on hb3 l1) (Ai (j2.on hb3 l2) k3)))))
   clear hb2 hb3 j1 j2 k3 h3 hk3 hW3
   by_cases hg:(u1||decide (n=0))=false
   ·obtain⟨rfl,hn0⟩:=Bool.or_eq_false_iff.1 hg
    have hn1:=neI (of_decide_eq_false hn0)
    have HG:=Hd hg
    clear hg hn0
    go_wp2_with fail
    go_ret
    rw[H3.out.2.2.1]
    exact retK (by rw[←HT.out,HG.out];rfl) (HN.out _ _ H3.out.1) H3.out.2.1
   ·have hg:(u1||decide (n=0))=true:=by
     cases hx:(u1||decide (n=0))
     ·exact absurd hx hg
     ·rfl
    have hnf:=nf_any b B hbB w0 nm m2 u2 c (by omega) W3 H3.out.1
    have HNF:=Hd hnf
    have HG:=Hd hg
    have hn:u1=true∨(u1=false∧n=0):=by
     cases u1
     ·exact Or.inr ⟨rfl,of_decide_eq_true (by rw[Bool.false_or] at hg;exact hg)⟩
     ·exact Or.inl rfl
    clear hnf hg
    obtain⟨q,hq⟩:∃ q,nmFB nm u2=q:=⟨_,rfl⟩
    rw[hq] at HNF
    have HQ:=Hd hq
    clear hq
    have hof:=fun W=>of_any op u3 W
    obtain⟨o,ho⟩:∃ o,opFB op u3=o:=⟨_,rfl⟩
    rw[ho] at hof
    have HOF:=Hd hof
    have HO:=Hd ho
    clear hof ho
    rcases hn with rfl | ⟨rfl,rfl⟩
    all_goals
     go_wp2_with fail
     rw[H3.out.2.2.1]
     refine HNF.out.mono ?_
     rintro e w4 ⟨rfl,hi,hk⟩
     have j2:=H3.out.2.2.2.2.1.kp hk (fun y hy=>by injection hy with hy;omega)
     have j3:=H3.out.2.2.2.2.2.kp hk (fun y hy=>by injection hy with hy;omega)
     have z3:w4.cell? ⟨w.heap.size+1,3,none⟩=some (.int .i64 op):=j2.cell 3
     have z2:w4.cell? ⟨w2.heap.size,2,none⟩=some (.bool u3):=j3.cell 2
     have H4:=Hd (Ai hi (Ai (kp_to H3.out.2.1 hk) (Ai j2 j3)))
     clear hi hk j2 j3 x0 y1 y2 y3 y4
     cases q with
     | false =>
      go_wp2_with fail
      go_ret
      exact retK (by rw[←HT.out,HG.out,HQ.out];rfl) H4.out.1 H4.out.2.1
     | true =>
      go_wp2_with fail
      refine (HOF.out w4).mono ?_
      rintro e w5 ⟨rfl,hb5⟩
      have z4:w5.cell? ⟨w.heap.size+1,4,none⟩=some (.slice A len cp):=(H4.out.2.2.1.on hb5 H4.out.2.2.1.lt).cell 4
      have z5:w5.cell? ⟨w2.heap.size,3,none⟩=some (.int .i64 u4):=(H4.out.2.2.2.on hb5 H4.out.2.2.2.lt).cell 3
      have H5:=Hd (Ai (HI.out.easy _ _ _ H4.out.1 hb5) (kp_to H4.out.2.1 (kp_below hb5 _)))
      clear hb5 z3 z2
      cases o with
      | false =>
       go_wp2_with fail
       go_ret
       exact retK (by rw[←HT.out,HG.out,HQ.out,HO.out];rfl) H5.out.1 H5.out.2
      | true =>
       go_wp2_with fail
       go_ret
       exact retK (by rw[←HT.out,HG.out,HQ.out,HO.out,Bool.true_and,Bool.true_and,Bool.true_and];exact congrArg Value.bool (beqI _ _)) H5.out.1 H5.out.2
theorem expr_any (b B:Nat)(hbB:b≤B)(w0:World)(ok:Nat→Prop)(hok:∀ x,ok x→x < w0.heap.size∧x≠B)(e:PE)(hs:szE e≤1000000000)(cs:List Value)(w:World)(c:Nat)(hc:c+2 * szE e≤1000000000000)(hw:ShI b B w0 c w)(hr:RepE w ok e cs) :
 Calls Tryz.prog 118 #[.agg #[.map (some B)],.agg cs.toArray] w (RetK (.bool (allE nodeB e)) (some B) w (ShI b B w0 (c+2 * szE e))):=by
 have hI:=inv_sh b B w0 hbB ok hok
 obtain⟨W1,hW1⟩:∃ W1,(w.alloc (.cells #[.map (some B)] 149)).alloc (.cells cs.toArray 36)=W1:=⟨_,rfl⟩
 have hb1:Below w.heap.size w W1:=by rw[←hW1];exact ((Below.refl _ _).alloc (Lr _) _).alloc (by simp) _
 have h1:=hI.easy c w W1 hw hb1
 have hcall:=evN_any (some B) 169 #[.agg #[.map (some B)]] #[] (enters_of Tryz.func169 (by kernel_rfl) rfl) (ShI b B w0) ok w0 hI nodeB (fun x hx=>node_any b B hbB w0 ok x hx) 1000000000 (Lr _) e cs W1 c hs hc h1 (hr.keep (fun _ h=>h) (fun x hx=>hb1.block x (hI.ok c w hw x hx).1))
 obtain⟨h5,_⟩:=onesE _ _ _ _ hr
 have HS:Hid ((Tryz.prog.info? 36).map (·.size)=some cs.toArray.size):=by
  have:cs.toArray.size=5:=by simpa using h5
  rw[this];exact sizeE
 have HK2:Hid (Blk ((w.alloc (.cells #[.map (some B)] 149)).alloc (.cells cs.toArray 36)) (w.heap.size+1) 36 cs.toArray):=blk_at (by simp) _ _
 have HC:=Hd (Ai hcall (Ai hb1 hW1))
 clear hcall h1 hr h5 hW1 hb1 hw hI hs hc hok
 go_enter Tryz.func118,Tryz.ntmps118
 go_wp2_with (refine wpList_load_row rfl 36 _ rfl (w.heap.size+1) rfl 36 cs.toArray (0,0) _ HK2.out Tryz.underlying36 rfl HS.out ?_)
 rw[HC.out.2.2]
 refine HC.out.1.mono ?_
 rintro e w2 ⟨rfl,hi,hk⟩
 have HK:=Hd (Ai hi hk)
 clear hi hk
 go_wp2_with fail
 go_ret
 exact retK rfl HK.out.1 (kp_to (kp_below HC.out.2.1 _) HK.out.2)
end Go.Proofs.YtpgnlfdindmopaaGreatDoor
namespace Go.Proofs.YtpgnlfdindmopaaGreatDoor
open Go.RowKit (wrap64 intOf)
open Go Go.RowKit WM LX PX CX
set_option maxRecDepth 100000
set_option maxHeartbeats 4000000
theorem zero_any (kd n:Int)(nm:List UInt8)(op:Int)(kids:List PE)(A:Option Addr)(c:Nat)(w:World) :
 Calls Tryz.prog 203 #[exV kd n nm op A kids.length c] w (RetN (.bool (zeroB (.mk kd n nm op kids))) w):=by
 obtain⟨tot,htot⟩:∃ tot,zeroB (.mk kd n nm op kids)=tot:=⟨_,rfl⟩
 obtain⟨len,hlen⟩:∃ len,kids.length=len:=⟨_,rfl⟩
 rw[htot]
 unfold zeroB at htot
 dsimp only at htot
 rw[hlen] at htot ⊢
 obtain⟨sx,hsx⟩:∃ sx:ByteArray,(⟨nm.toArray⟩:ByteArray)=sx:=⟨_,rfl⟩
 have hsn:(sx.data.toList==[])=decide (nm=[]):=by rw[←hsx,beq_dec]
 show Calls Tryz.prog 203 #[.agg #[.int .i64 kd,.int .i64 n,.string ⟨nm.toArray⟩,.int .i64 op,.slice A len c]] w _
 rw[hsx]
 have HT:=Hd htot
 have HS:=Hd hsn
 clear htot hlen hsx hsn
 by_cases h1:kd=0
 ·subst h1
  by_cases h2:n=0
  ·subst h2
   by_cases h3:nm=[]
   ·have e4:sx=⟨#[]⟩:=by
     have:=HS.out
     rw[decide_eq_true h3] at this
     have h:sx.data.toList=[]:=by simpa using this
     cases sx with | mk d=>cases d with | mk l=>simp at h;rw[h]
    subst e4
    by_cases h4:op=0
    ·subst h4
     go_enter Tryz.func203,Tryz.ntmps203
     go_wp2_with fail
     go_ret
     refine retN ?_ ((Below.refl _ _).alloc (Lr _) _)
     rw[←HT.out,decide_eq_true h3]
     simp[beqI]
    ·have e5:=neI h4
     go_enter Tryz.func203,Tryz.ntmps203
     go_wp2_with fail
     go_ret
     exact retN (by rw[←HT.out];simp[h4]) ((Below.refl _ _).alloc (Lr _) _)
   ·have hne:sx.toList≠[]:=fun h=>by
     have:=HS.out
     rw[decide_eq_false h3] at this
     rw[ByteArray.toList_eq] at h
     rw[h] at this
     cases this
    have e3:(sx.toList==[])=false:=by
     cases hx:(sx.toList==[])
     ·rfl
     ·exact absurd (by simpa using hx) hne
    have e4:(sx.toList==(⟨#[]⟩:ByteArray).toList)=false:=by simpa[ByteArray.toList_eq] using e3
    go_enter Tryz.func203,Tryz.ntmps203
    go_wp2_with fail
    all_goals go_ret
    all_goals exact retN (by rw[←HT.out];simp[h3]) ((Below.refl _ _).alloc (Lr _) _)
  ·have e2:=neI h2
   go_enter Tryz.func203,Tryz.ntmps203
   go_wp2_with fail
   go_ret
   exact retN (by rw[←HT.out];simp[h2]) ((Below.refl _ _).alloc (Lr _) _)
 ·have e1:=neI h1
  go_enter Tryz.func203,Tryz.ntmps203
  go_wp2_with fail
  go_ret
  exact retN (by rw[←HT.out];simp[h1]) ((Below.refl _ _).alloc (Lr _) _)
def stUV:Option (Bool × Bool × Bool × Bool × Bool × Bool × Bool × Bool)→Value
 | none=>.tuple #[.agg #[.bool false,.bool false,.bool false,.bool false,.bool false,.bool false,.bool false,.bool false],.bool false]
 | some (a,b,c,d,e,f,g,h)=>.tuple #[.agg #[.bool a,.bool b,.bool c,.bool d,.bool e,.bool f,.bool g,.bool h],.bool true]
theorem fs_any (kd:Int)(w:World):Calls Tryz.prog 164 #[.int .i64 kd] w (RetN (stUV (stU kd)) w):=by
 unfold stU
 by_cases h1:kd=1
 ·subst h1
  rw[if_pos rfl]
  go_enter Tryz.func164,Tryz.ntmps164
  go_wp2_with fail
  exact bodyPost_ret (v:=.tuple #[.agg #[.bool true,.bool false,.bool false,.bool false,.bool true,.bool false,.bool false,.bool false],.bool true]) (by simp[results,Tryz.results164,go_sem]) rfl (retN rfl ((Below.refl _ _).alloc (Lr _) _))
 have e1:=neI h1
 rw[if_neg h1]
 by_cases h2:kd=2
 ·subst h2
  rw[if_pos rfl]
  go_enter Tryz.func164,Tryz.ntmps164
  go_wp2_with fail
  exact bodyPost_ret (v:=.tuple #[.agg #[.bool true,.bool false,.bool false,.bool true,.bool true,.bool false,.bool false,.bool false],.bool true]) (by simp[results,Tryz.results164,go_sem]) rfl (retN rfl ((Below.refl _ _).alloc (Lr _) _))
 have e2:=neI h2
 rw[if_neg h2]
 by_cases h3:kd=3
 ·subst h3
  rw[if_pos rfl]
  go_enter Tryz.func164,Tryz.ntmps164
  go_wp2_with fail
  exact bodyPost_ret (v:=.tuple #[.agg #[.bool false,.bool false,.bool false,.bool false,.bool true,.bool false,.bool true,.bool true],.bool true]) (by simp[results,Tryz.results164,go_sem]) rfl (retN rfl ((Below.refl _ _).alloc (Lr _) _))
 have e3:=neI h3
 rw[if_neg h3]
 by_cases h4:kd=4
 ·subst h4
  rw[if_pos rfl]
  go_enter Tryz.func164,Tryz.ntmps164
  go_wp2_with fail
  exact bodyPost_ret (v:=.tuple #[.agg #[.bool false,.bool false,.bool false,.bool false,.bool true,.bool false,.bool true,.bool false],.bool true]) (by simp[results,Tryz.results164,go_sem]) rfl (retN rfl ((Below.refl _ _).alloc (Lr _) _))
 have e4:=neI h4
 rw[if_neg h4]
 by_cases h5:kd=5
 ·subst h5
  rw[if_pos rfl]
  go_enter Tryz.func164,Tryz.ntmps164
  go_wp2_with fail
  exact bodyPost_ret (v:=.tuple #[.agg #[.bool false,.bool false,.bool false,.bool false,.bool true,.bool false,.bool false,.bool false],.bool true]) (by simp[results,Tryz.results164,go_sem]) rfl (retN rfl ((Below.refl _ _).alloc (Lr _) _))
 have e5:=neI h5
 rw[if_neg h5]
 by_cases h6:kd=6
 ·subst h6
  rw[if_pos rfl]
  go_enter Tryz.func164,Tryz.ntmps164
  go_wp2_with fail
  exact bodyPost_ret (v:=.tuple #[.agg #[.bool true,.bool true,.bool false,.bool false,.bool false,.bool true,.bool false,.bool false],.bool true]) (by simp[results,Tryz.results164,go_sem]) rfl (retN rfl ((Below.refl _ _).alloc (Lr _) _))
 have e6:=neI h6
 rw[if_neg h6]
 by_cases h7:kd=7
 ·subst h7
  rw[if_pos rfl]
  go_enter Tryz.func164,Tryz.ntmps164
  go_wp2_with fail
  exact bodyPost_ret (v:=.tuple #[.agg #[.bool false,.bool false,.bool true,.bool false,.bool false,.bool false,.bool false,.bool false],.bool true]) (by simp[results,Tryz.results164,go_sem]) rfl (retN rfl ((Below.refl _ _).alloc (Lr _) _))
 have e7:=neI h7
 rw[if_neg h7]
 go_enter Tryz.func164,Tryz.ntmps164
 go_wp2_with fail
 exact bodyPost_ret (v:=.tuple #[.agg #[.bool false,.bool false,.bool false,.bool false,.bool false,.bool false,.bool false,.bool false],.bool false]) (by simp[results,Tryz.results164,go_sem]) rfl (retN rfl ((Below.refl _ _).alloc (Lr _) _))
theorem ef_any (b B:Nat)(hbB:b≤B)(w0:World)(ok:Nat→Prop)(hok:∀ x,ok x→x < w0.heap.size∧x≠B)(e:PE)(used:Bool)(hs:szE e≤1000000000)(cs:List Value)(w:World)(c:Nat)(hc:c+2 * szE e≤1000000000000)(hw:ShI b B w0 c w)(hr:RepE w ok e cs) :
 Calls Tryz.prog 167 #[.agg #[.map (some B)],.agg cs.toArray,.bool used] w (RetK (.bool (exFB e used)) (some B) w (ShI b B w0 (c+2 * szE e))):=by
 have hI:=inv_sh b B w0 hbB ok hok
 cases e with
 | mk kd n nm op kids =>
  obtain⟨A,cp,rfl,_⟩:=exp_of hr
  obtain⟨W1,hW1⟩:∃ W1,(w.alloc (.cells #[.map (some B)] 149)).alloc (.cells #[.int .i64 kd,.int .i64 n,.string ⟨nm.toArray⟩,.int .i64 op,.slice A kids.length cp] 36)=W1:=⟨_,rfl⟩
  have hb1:Below w.heap.size w W1:=by rw[←hW1];exact ((Below.refl _ _).alloc (Lr _) _).alloc (by simp) _
  have h1:=hI.easy c w W1 hw hb1
  unfold exFB
  cases used with
  | false =>
   rw[if_neg (by decide)]
   have hz:=zero_any kd n nm op kids A cp W1
   have HH:=Hd (Ai hz (Ai hb1 (Ai (fun w2 hb2=>hI.mono _ (c+2 * szE (.mk kd n nm op kids)) _ (hI.easy c W1 w2 h1 hb2) (by omega)) hW1)))
   obtain⟨q,hq⟩:∃ q,zeroB (.mk kd n nm op kids)=q:=⟨_,rfl⟩
   obtain⟨tot,htot⟩:∃ tot,c+2 * szE (.mk kd n nm op kids)=tot:=⟨_,rfl⟩
   obtain⟨len,hlen⟩:∃ len,kids.length=len:=⟨_,rfl⟩
   rw[hq,htot,hlen] at HH
   rw[hq,htot,hlen]
   clear hz hb1 h1 hW1 hr hw hI hc hs hq htot hlen hok
   go_enter Tryz.func167,Tryz.ntmps167
   go_wp2_with fail
   rw[HH.out.2.2.2]
   refine HH.out.1.mono ?_
   rintro e w2 ⟨rfl,hb⟩
   have HK:=Hd (Ai (HH.out.2.2.1 _ hb) (kp_to (kp_below HH.out.2.1 (some B)) (kp_below hb _)))
   clear hb
   go_wp2_with fail
   go_ret
   exact retK rfl HK.out.1 HK.out.2
  | true =>
   rw[if_pos rfl]
   have he:=expr_any b B hbB w0 ok hok (.mk kd n nm op kids) hs _ W1 c hc h1 (hr.keep (fun _ h=>h) (fun x hx=>hb1.block x (hI.ok c w hw x hx).1))
   have HH:=Hd (Ai he (Ai hb1 hW1))
   obtain⟨q,hq⟩:∃ q,allE nodeB (.mk kd n nm op kids)=q:=⟨_,rfl⟩
   obtain⟨tot,htot⟩:∃ tot,c+2 * szE (.mk kd n nm op kids)=tot:=⟨_,rfl⟩
   obtain⟨len,hlen⟩:∃ len,kids.length=len:=⟨_,rfl⟩
   rw[hq,htot,hlen] at HH
   rw[hq,htot,hlen]
   clear he hb1 h1 hW1 hr hw hI hc hs hq htot hlen hok
   go_enter Tryz.func167,Tryz.ntmps167
   go_wp2_with fail
   rw[HH.out.2.2]
   refine HH.out.1.mono ?_
   rintro e w2 ⟨rfl,hi,hk⟩
   have HK:=Hd (Ai hi (kp_to (kp_below HH.out.2.1 (some B)) hk))
   clear hi hk
   go_wp2_with fail
   go_ret
   exact retK rfl HK.out.1 HK.out.2
end Go.Proofs.YtpgnlfdindmopaaGreatDoor
namespace Go.Proofs.YtpgnlfdindmopaaGreatDoor
open Go.RowKit (wrap64 intOf)
open Go Go.RowKit WM LX PX CX
set_option maxRecDepth 100000
set_option maxHeartbeats 4000000
abbrev EvL (m:Option Nat)(g:Nat)(pre lb:Array Value)(I:Nat→World→Prop)(w0:World)(ok:Nat→Prop)(p:ST→Bool)(l:List ST):Prop:=∀ (v:Value)(w:World)(c:Nat),RepL RepS 17 w0 ok l v→c+4 * sumL szS l≤1000000000000→I c w →
 Calls Tryz.prog 82 #[v,.func (.func g) pre lb] w (RetK (.bool (l.all (allS p))) m w (I (c+4 * sumL szS l)))
theorem evL_nil (m:Option Nat)(g:Nat)(pre lb:Array Value)(I:Nat→World→Prop)(w0:World)(ok:Nat→Prop)(hI:Inv I ok m w0)(p:ST→Bool):EvL m g pre lb I w0 ok p []:=by
 intro v w c hl hc hw
 obtain⟨W1,hW1⟩:∃ W1,w.alloc (.cells #[.func (.func g) pre lb] 156)=W1:=⟨_,rfl⟩
 have hb1:Below w.heap.size w W1:=by rw[←hW1];exact (Below.refl _ _).alloc (Lr _) _
 have hcall:=every_S (p:=allS p) keepsS zCn [] v w0 ok hl (by decide) m 122 #[] #[.pointer (some ⟨w.heap.size,0,none⟩)] (enters_of Tryz.func122 (by kernel_rfl) rfl) I hI (fun _=>0) (fun i x hx=>by simp at hx) c (by show c+0≤_;omega) W1 (hI.easy c w W1 hw hb1)
 have HC:=Hd (Ai hcall (Ai hb1 hW1))
 have HI:=Hd hI
 clear hcall hl hc hw hb1 hW1 hI
 go_enter Tryz.func82,Tryz.ntmps82
 go_wp2_with fail
 rw[HC.out.2.2]
 refine HC.out.1.mono ?_
 rintro e w2 ⟨rfl,hi,hk⟩
 have HK:=Hd (Ai hi hk)
 clear hi hk
 go_wp2_with fail
 go_ret
 exact retK rfl (HI.out.mono _ _ _ HK.out.1 (by show c+0≤_;omega)) (kp_to (kp_below HC.out.2.1 _) HK.out.2)
theorem func_any (b B:Nat)(hbB:b≤B)(w0:World)(ok:Nat→Prop)(hok:∀ x,ok x→x < w0.heap.size∧x≠B)(f:FN)(hs:szF f≤1000000000)
 (hst:EvL (some B) 117 #[.agg #[.map (some B)]] #[] (ShI b B w0) w0 ok stmB f.body) :
 Tst Tryz.prog RepF ok (ShI b B w0) (some B) 75 #[.agg #[.map (some B)]] #[] funB (fun f=>4 * szF f) f:=by
 intro cs w c hc hw hr
 rw[app_r]
 have hI:=inv_sh b B w0 hbB ok hok
 have hr0:=keepsF.k (w':=w0) (ok':=ok) hr (fun _ h=>h) (fun x hx=>(hI.ok c w hw x hx).2.symm)
 obtain⟨A1,c1,A2,c2,A3,c3,kd,nn,nm,op,A,L,cc,rfl,r1,r2,r3,r4⟩:=fun_of hr0
 have hc':c+(1+4 * szF f)≤1000000000000:=hc
 have hsz:=hs
 unfold szF at hsz hc'
 have f1:=sumL_len List.length f.params
 have f2:=sumL_len List.length f.locals
 have f3:=sumL_len szS f.body
 obtain⟨fin,hfin⟩:∃ fin,c+(1+(fun f=>4 * szF f) f)=fin:=⟨_,rfl⟩
 have htotal:∀ d,d≤c+1+sumL List.length f.params+sumL List.length f.locals+4 * sumL szS f.body+2 * szE f.value→d≤fin:=fun d hd=>by rw[←hfin];dsimp only;unfold szF;omega
 have hmono:=fun d w (h:ShI b B w0 d w) hd=>hI.mono d fin w h (htotal d hd)
 have hBw:B < w.heap.size:=hw.1.lt
 have en:∀ args w,(callFunc 73 args).run Tryz.prog w=.ok (.enter 73 args) w:=enters_of Tryz.func73 (by kernel_rfl) rfl
 have hN:=fun W (h:ShI b B w0 c W)=>tst_nm b B hbB w0 f.name (by omega) c (by omega) W h
 have hP:=fun W (h:ShI b B w0 (c+1) W)=>every_N f.params _ w0 ok r1 (by omega) zBx (some B) 73 #[.agg #[.map (some B)]] #[] en (ShI b B w0) hI (fun i x hx w' d hd h=>by
  rw[app_r]
  have:=zA6 List.length f.params i x hx
  exact (tst_nm b B hbB w0 x (by omega) d (by omega) w' h).mono fun _ _ k=>⟨k.1,hI.mono _ _ _ k.2.1 (by omega),k.2.2⟩) (c+1) (by omega) W h
 have hL:=fun W (h:ShI b B w0 (c+1+sumL List.length f.params) W)=>every_N f.locals _ w0 ok r2 (by omega) zBx (some B) 73 #[.agg #[.map (some B)]] #[] en (ShI b B w0) hI (fun i x hx w' d hd h=>by
  rw[app_r]
  have:=zA6 List.length f.locals i x hx
  exact (tst_nm b B hbB w0 x (by omega) d (by omega) w' h).mono fun _ _ k=>⟨k.1,hI.mono _ _ _ k.2.1 (by omega),k.2.2⟩) (c+1+sumL List.length f.params) (by omega) W h
 have hB:=fun W (h:ShI b B w0 (c+1+sumL List.length f.params+sumL List.length f.locals) W)=>hst _ W _ r3 (by omega) h
 have hV:=fun W (h:ShI b B w0 (c+1+sumL List.length f.params+sumL List.length f.locals+4 * sumL szS f.body) W)=>expr_any b B hbB w0 ok hok f.value (by omega) _ W _ (by omega) h (r4.keep (fun _ h=>h) (fun x hx=>(hI.ok _ W h x hx).2))
 obtain⟨tot,htot⟩:∃ tot,funB f=tot:=⟨_,rfl⟩
 rw[hfin,htot]
 unfold funB at htot
 obtain⟨q1,hq1⟩:∃ q,zBx f.name=q:=⟨_,rfl⟩
 obtain⟨q2,hq2⟩:∃ q,f.params.all zBx=q:=⟨_,rfl⟩
 obtain⟨q3,hq3⟩:∃ q,f.locals.all zBx=q:=⟨_,rfl⟩
 obtain⟨q4,hq4⟩:∃ q,f.body.all (allS stmB)=q:=⟨_,rfl⟩
 obtain⟨q5,hq5⟩:∃ q,allE nodeB f.value=q:=⟨_,rfl⟩
 obtain⟨p1,hp1⟩:∃ p,sumL List.length f.params=p:=⟨_,rfl⟩
 obtain⟨p2,hp2⟩:∃ p,sumL List.length f.locals=p:=⟨_,rfl⟩
 obtain⟨p3,hp3⟩:∃ p,4 * sumL szS f.body=p:=⟨_,rfl⟩
 obtain⟨p4,hp4⟩:∃ p,2 * szE f.value=p:=⟨_,rfl⟩
 obtain⟨n1,hn1⟩:∃ n,f.params.length=n:=⟨_,rfl⟩
 obtain⟨n2,hn2⟩:∃ n,f.locals.length=n:=⟨_,rfl⟩
 obtain⟨n3,hn3⟩:∃ n,f.body.length=n:=⟨_,rfl⟩
 obtain⟨fnm,hfn⟩:∃ x,f.name=x:=⟨_,rfl⟩
 rw[hq1,hq2,hq3,hq4,hq5] at htot
 rw[hq1] at hN
 rw[hfn] at hN
 rw[hq2,hp1,hn1] at hP
 rw[hq3,hp1,hp2,hn2] at hL
 rw[hq4,hp1,hp2,hp3,hn3] at hB
 rw[hq5,hp1,hp2,hp3,hp4] at hV
 rw[hp1,hp2,hp3,hp4] at hmono
 obtain⟨W1,hW1⟩:∃ W1,(w.alloc (.cells #[.map (some B)] 149)).alloc (.cells #[.string ⟨fnm.toArray⟩,.slice A1 n1 c1,.slice A2 n2 c2,.slice A3 n3 c3,.int .i64 kd,.int .i64 nn,.string ⟨nm.toArray⟩,.int .i64 op,.slice A L cc] 38)=W1:=⟨_,rfl⟩
 have hb1:Below w.heap.size w W1:=by rw[←hW1];exact ((Below.refl _ _).alloc (Lr _) _).alloc (by simp) _
 have j1:Blk W1 w.heap.size 149 #[.map (some B)]:=by rw[←hW1];exact (Blk.new _ _ _).alloc _
 have j2:Blk W1 (w.heap.size+1) 38 #[.string ⟨fnm.toArray⟩,.slice A1 n1 c1,.slice A2 n2 c2,.slice A3 n3 c3,.int .i64 kd,.int .i64 nn,.string ⟨nm.toArray⟩,.int .i64 op,.slice A L cc]:=by rw[←hW1];exact blk_at (by simp) _ _
 have h1:=hI.easy c w W1 hw hb1
 simp only[hn1,hn2,hn3,hfn]
 have HM:=Hd hmono
 have HN:=Hd (hN W1 h1)
 have HP:=Hd hP
 have HL:=Hd hL
 have HBo:=Hd hB
 have HV:=Hd hV
 have HT:=Hd htot
 have HB:=Hd (Ai hb1 (Ai hW1 (Ai j1 j2)))
 have n1':B≠w.heap.size:=Nat.ne_of_lt hBw
 have n2':B≠w.heap.size+1:=by omega
 clear hmono hN hP hL hB hV htot hb1 hW1 j1 j2 h1 hI hr hr0 r1 r2 r3 r4 hs hsz hc hc' f1 f2 f3 hfin htotal hw hok hst hq1 hq2 hq3 hq4 hq5 hp1 hp2 hp3 hp4 hn1 hn2 hn3 hfn en
 go_enter Tryz.func75,Tryz.ntmps75
 go_wp2_with fail
 rw[HB.out.2.1]
 refine HN.out.mono ?_
 rintro e w2 ⟨rfl,hi,hk⟩
 have s2:=HB.out.2.2.1.kp hk (fun b hb e=>by injection hb with hb;omega)
 have e2:=HB.out.2.2.2.kp hk (fun b hb e=>by injection hb with hb;omega)
 have x0:w2.cell? ⟨w.heap.size,0,none⟩=some (.map (some B)):=s2.cell 0
 have y1:w2.cell? ⟨w.heap.size+1,1,none⟩=some (.slice A1 n1 c1):=e2.cell 1
 have H2:=Hd (Ai hi (Ai (kp_to (kp_below HB.out.1 (some B)) hk) (Ai s2 e2)))
 clear hi hk s2 e2
 cases q1 with
 | false =>
  go_wp2_with fail
  go_ret
  exact retK (by rw[←HT.out];rfl) (HM.out _ _ H2.out.1 (by omega)) H2.out.2.1
 | true =>
  go_wp2_with fail
  refine (HP.out _ H2.out.1).mono ?_
  rintro e w3 ⟨rfl,hi,hk⟩
  have s2:=H2.out.2.2.1.kp hk (fun b hb e=>by injection hb with hb;omega)
  have e2:=H2.out.2.2.2.kp hk (fun b hb e=>by injection hb with hb;omega)
  have x3:w3.cell? ⟨w.heap.size,0,none⟩=some (.map (some B)):=s2.cell 0
  have y3:w3.cell? ⟨w.heap.size+1,2,none⟩=some (.slice A2 n2 c2):=e2.cell 2
  have H3:=Hd (Ai hi (Ai (kp_to H2.out.2.1 hk) (Ai s2 e2)))
  clear hi hk s2 e2 x0 y1
  cases q2 with
  | false =>
   go_wp2_with fail
   go_ret
   exact retK (by rw[←HT.out];rfl) (HM.out _ _ H3.out.1 (by omega)) H3.out.2.1
  | true =>
   go_wp2_with fail
   refine (HL.out _ H3.out.1).mono ?_
   rintro e w4 ⟨rfl,hi,hk⟩
   have s2:=H3.out.2.2.1.kp hk (fun b hb e=>by injection hb with hb;omega)
   have e2:=H3.out.2.2.2.kp hk (fun b hb e=>by injection hb with hb;omega)
   have x4:w4.cell? ⟨w.heap.size,0,none⟩=some (.map (some B)):=s2.cell 0
   have y4:w4.cell? ⟨w.heap.size+1,3,none⟩=some (.slice A3 n3 c3):=e2.cell 3
   have H4:=Hd (Ai hi (Ai (kp_to H3.out.2.1 hk) (Ai s2 e2)))
   clear hi hk s2 e2 x3 y3
   cases q3 with
   | false =>
    go_wp2_with fail
    go_ret
    exact retK (by rw[←HT.out];rfl) (HM.out _ _ H4.out.1 (by omega)) H4.out.2.1
   | true =>
    go_wp2_with fail
    refine (HBo.out _ H4.out.1).mono ?_
    rintro e w5 ⟨rfl,hi,hk⟩
    have s2:=H4.out.2.2.1.kp hk (fun b hb e=>by injection hb with hb;omega)
    have e2:=H4.out.2.2.2.kp hk (fun b hb e=>by injection hb with hb;omega)
    have x5:w5.cell? ⟨w.heap.size,0,none⟩=some (.map (some B)):=s2.cell 0
    obtain⟨v4,v5,v6,v7,v8⟩:w5.cell? ⟨w.heap.size+1,4,none⟩=some (.int .i64 kd)∧w5.cell? ⟨w.heap.size+1,5,none⟩=some (.int .i64 nn)∧w5.cell? ⟨w.heap.size+1,6,none⟩=some (.string ⟨nm.toArray⟩)∧w5.cell? ⟨w.heap.size+1,7,none⟩=some (.int .i64 op)∧w5.cell? ⟨w.heap.size+1,8,none⟩=some (.slice A L cc):=⟨e2.cell 4,e2.cell 5,e2.cell 6,e2.cell 7,e2.cell 8⟩
    have H5:=Hd (Ai hi (kp_to H4.out.2.1 hk))
    clear hi hk s2 e2 x4 y4
    cases q4 with
    | false =>
     go_wp2_with fail
     go_ret
     exact retK (by rw[←HT.out];rfl) (HM.out _ _ H5.out.1 (by omega)) H5.out.2
    | true =>
     go_wp2_with fail
     refine (HV.out _ H5.out.1).mono ?_
     rintro e w6 ⟨rfl,hi,hk⟩
     have H6:=Hd (Ai hi (kp_to H5.out.2 hk))
     clear hi hk x5 v4 v5 v6 v7 v8
     go_wp2_with fail
     go_ret
     exact retK (by rw[←HT.out];rfl) (HM.out _ _ H6.out.1 (by omega)) H6.out.2
end Go.Proofs.YtpgnlfdindmopaaGreatDoor
namespace Go.Proofs.YtpgnlfdindmopaaGreatDoor
open Go.RowKit (wrap64 intOf)
open Go Go.RowKit WM LX PX CX
set_option maxRecDepth 100000
set_option maxHeartbeats 4000000
theorem nm_made (w:World):NMp w.heap.size 0 (w.alloc (.map #[] 0)) :=
 ⟨0,.map [],Lr _,World.ownsMap_made w _ _ _,Maps.isMap_empty,fun x h=>by
  have h2:(DataW.lit (Lit.bool false):DataW Unit)=.lit (.bool true):=h
  injection h2 with h2
  injection h2 with h2
  cases h2⟩
theorem arr_cl (b B S:Nat)(hbB:b≤B)(w0:World)(x:List UInt8 × Int)(hx:x.1.length≤1000000000)(cs:List Value)(w:World)(c:Nat)(hc:c≤1000000000000)(hw:ShI b B w0 c w)(ok:Nat→Prop)(hr:RepA w ok x cs)(hk:Blk w S 149 #[.map (some B)]) :
 Calls Tryz.prog 72 #[.agg cs.toArray,.pointer (some ⟨S,0,none⟩)] w (RetK (.bool (zBx x.1)) (some B) w (ShI b B w0 (c+1))):=by
 have hI:=inv_sh b B w0 hbB (fun _=>False) (fun _ h=>h.elim)
 obtain⟨nm,n⟩:=x
 obtain rfl:cs=[.string ⟨nm.toArray⟩,.int .i64 n]:=hr
 obtain⟨W1,hW1⟩:∃ W1,w.alloc (.cells #[.string ⟨nm.toArray⟩,.int .i64 n] 75)=W1:=⟨_,rfl⟩
 have hb1:Below w.heap.size w W1:=by rw[←hW1];exact (Below.refl _ _).alloc (Lr _) _
 have ht:=tst_nm b B hbB w0 nm hx c hc W1 (hI.easy c w W1 hw hb1)
 have HC:=Hd (Ai ht (Ai hb1 hW1))
 have x0:w.cell? ⟨S,0,none⟩=some (.map (some B)):=hk.cell 0
 have hl:=hk.lt
 obtain⟨q,hq⟩:∃ q,zBx nm=q:=⟨_,rfl⟩
 dsimp only
 rw[hq] at HC ⊢
 clear ht hb1 hW1 hI hw hk hq
 go_enter Tryz.func72,Tryz.ntmps72
 go_wp2_with fail
 rw[HC.out.2.2]
 refine HC.out.1.mono ?_
 rintro e w2 ⟨rfl,hi,hk⟩
 have HK:=Hd (Ai hi hk)
 clear hi hk
 go_wp2_with fail
 go_ret
 exact retK rfl HK.out.1 (kp_to (kp_below HC.out.2.1 _) HK.out.2)
end Go.Proofs.YtpgnlfdindmopaaGreatDoor
