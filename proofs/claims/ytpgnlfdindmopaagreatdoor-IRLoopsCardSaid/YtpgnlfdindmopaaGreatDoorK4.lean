/- Words and walks for the laws of the interpreter. -/
import Derived.Test.YtpgnlfdindmopaaGreatDoorK3
import Derived.Maps.AppendAt
import Derived.Deep.AppendLies
import Derived.Lib.AppendZerosOnto
import Derived.Lib.Walk
import Derived.Lib.SliceRun
import Derived.Laws.AppendOwnNone
namespace Go.Proofs.YtpgnlfdindmopaaGreatDoor
open Go.RowKit (wrap64 intOf)
open Go Go.RowKit WM LX PX CX
set_option maxRecDepth 100000
set_option maxHeartbeats 4000000
def NsP (xs:List (List UInt8))(w:World)(e:Ending)(w':World):Prop :=
 ∃ A c,e=.returned (.slice A xs.length c)∧xs.length≤c∧RepL RepN 1 w' (Rg w.heap.size w'.heap.size) xs (.slice A xs.length c)∧Below w.heap.size w w'
theorem ns_nil (w w':World)(h:Below w.heap.size w w'):NsP [] w (.returned (.slice none 0 0)) w':=⟨none,0,rfl,Lr _,repL_nil _ _ _ _,h⟩
theorem coll_ns {w w':World}{E:TypeId}{xs:List (List UInt8)}{css:List (List Value)}{v:Value}(c:Coll RepN 1 E w.heap.size xs css v w')(hb:Below w.heap.size w w'):NsP xs w (.returned v) w':=by
 have hl:=c.len
 have ho:=c.out keepsN
 rcases c.own.2 with ⟨rfl,h0⟩ | ⟨g,cap,cur,rfl,_,_,h1,_⟩
 ·obtain rfl:xs=[]:=List.eq_nil_of_length_eq_zero (by omega)
  exact ns_nil w w' hb
 ·rw[←hl] at h1 ho ⊢
  exact⟨_,_,rfl,h1,ho,hb⟩
def NsR (ns:List (List UInt8))(len:Nat)(w W1:World)(k:Nat)(v i:Value)(wr:World):Prop :=
 ∃ (j:Nat) (css:List (List Value)),j+k=len∧i=.int .i64 (j:Int)∧Hid (Coll RepN 1 9 w.heap.size (ns.take j) css v wr)∧Hid (Below w.heap.size W1 wr)
theorem take_next {α:Type}{l:List α}{j:Nat}{x:α}(h:l[j]?=some x):l.take (j+1)=l.take j++[x]:=by
 obtain⟨hj,rfl⟩:=Gs.1 h
 exact List.take_succ_eq_append_getElem hj
theorem below_grow {B:Nat}{a w w':World}{row:Option Nat}(h:Below B a w)(hg:w.grownBy w' row)(hr:∀ k,row=some k→B≤k)(hB:B≤w.heap.size):Below B a w':=h.grown hg hB hr
theorem Coll.kept_low {α:Type}{Rep:World→(Nat→Prop)→α→List Value→Prop}{sz:Nat}{E:TypeId}{B:Nat}{xs:List α}{css:List (List Value)}{v:Value}{w w':World}(c:Coll Rep sz E B xs css v w)(hb:Below w.heap.size w w')(hk:Keeps Rep:=by exact keepsN):Coll Rep sz E B xs css v w' :=
 ⟨own_on c.own hb,c.len,c.szs,fun i x cs hx hc=>hk.k (c.rep i x cs hx hc) (fun _ h=>⟨h.1,Ll h.2.1 hb.size,h.2.2⟩) (fun _ h=>hb.block _ h.2.1)⟩
theorem fnN_any (p:PG)(va vf:Value)(w:World)(ok:Nat→Prop)(h:RepP w ok p va vf)(hok:∀ g,ok g→g < w.heap.size)(hs:p.funcs.length≤1000000) :
 Calls Tryz.prog 78 #[.agg #[va,vf]] w (NsP (fnN p) w):=by
 obtain⟨i0,hi,hz0,hz1,hz2⟩:=info_parts strInfo
 obtain⟨A,c,rfl,_⟩:=h.1.at
 obtain⟨A',c',rfl,hat⟩:=h.2.at
 obtain⟨len,hlen⟩:∃ len,p.funcs.length=len:=⟨_,rfl⟩
 obtain⟨na,hna⟩:∃ na,p.arrays.length=na:=⟨_,rfl⟩
 obtain⟨ns,hns⟩:∃ ns,fnN p=ns:=⟨_,rfl⟩
 have hnl:ns.length=len:=by rw[←hns,←hlen];simp[fnN]
 have hnx:∀ (j:Nat) (x:FN),p.funcs[j]?=some x→ns[j]?=some x.name:=fun j x hx=>by rw[←hns];simp[fnN,hx]
 have H:=Hd (Ai hat (Ai hok (Ai hlen (Ai hnl hnx))))
 obtain⟨W1,hW1⟩:∃ W1,w.alloc (.cells #[.slice A na c,.slice A' len c'] 26)=W1:=⟨_,rfl⟩
 have hb1:Below w.heap.size w W1:=by rw[←hW1];exact (Below.refl _ _).alloc (Lr _) _
 have HB:=Hd (Ai hb1 hW1)
 rw[hlen] at hs ⊢
 rw[hna,hns]
 clear hat h hok hb1 hlen hW1 hns hnl hnx hna
 go_enter Tryz.func78,Tryz.ntmps78
 go_wp2_with fail
 rw[HB.out.2]
 go_loopg [3,9] len (fun k v i wr=>NsR ns len w W1 k v i wr)
 case atStart=>exact⟨0,[],Nat.zero_add _,rfl,Hd (coll_nil _ _ _ _ _),Hd (Below.refl _ _)⟩
 case round =>
  obtain⟨j,css,hj,rfl,HC,HW⟩:=hrel
  have hsz:=HB.out.1.size
  have hBw:w.heap.size≤wr.heap.size:=Nat.le_trans hsz HW.out.size
  by_cases hlt:j < len
  ·obtain⟨x,hx⟩:∃ x,p.funcs[j]?=some x:=⟨_,Ge (by rw[H.out.2.2.1];exact hlt)⟩
   obtain⟨g,cs,rfl,hg,hrep,hcell⟩:=H.out.1 j x hx
   have hgw:=H.out.2.1 g hg
   have hwk:wr.heap[g]?=w.heap[g]?:=(HW.out.block g hgw).trans (HB.out.1.block g hgw)
   obtain⟨A1,c1,A2,c2,A3,c3,kd,nn,nm,op,A0,L0,c0,rfl,_⟩:=fun_of hrep
   obtain⟨l1,hl1⟩:∃ n,x.params.length=n:=⟨_,rfl⟩
   obtain⟨l2,hl2⟩:∃ n,x.locals.length=n:=⟨_,rfl⟩
   obtain⟨l3,hl3⟩:∃ n,x.body.length=n:=⟨_,rfl⟩
   obtain⟨xn,hxn⟩:∃ y,x.name=y:=⟨_,rfl⟩
   rw[hl1,hl2,hl3,hxn] at hcell
   have hc:=fun i u hu=>(Cb hwk).trans (hcell i u hu)
   have z0:wr.cell? ⟨g,j * 9,none⟩=some (.string ⟨xn.toArray⟩):=hc 0 _ rfl
   have z1:wr.cell? ⟨g,j * 9+1,none⟩=some (.slice A1 l1 c1):=hc 1 _ rfl
   have z2:wr.cell? ⟨g,j * 9+2,none⟩=some (.slice A2 l2 c2):=hc 2 _ rfl
   have z3:wr.cell? ⟨g,j * 9+3,none⟩=some (.slice A3 l3 c3):=hc 3 _ rfl
   have z4:wr.cell? ⟨g,j * 9+4,none⟩=some (.int .i64 kd):=hc 4 _ rfl
   have z5:wr.cell? ⟨g,j * 9+5,none⟩=some (.int .i64 nn):=hc 5 _ rfl
   have z6:wr.cell? ⟨g,j * 9+6,none⟩=some (.string ⟨nm.toArray⟩):=hc 6 _ rfl
   have z7:wr.cell? ⟨g,j * 9+7,none⟩=some (.int .i64 op):=hc 7 _ rfl
   have z8:wr.cell? ⟨g,j * 9+8,none⟩=some (.slice A0 L0 c0):=hc 8 _ rfl
   have hgr:g < wr.heap.size:=Ll hgw hBw
   have e1:(j:Int) < (len:Int):=by omega
   have hown:=HC.out.own
   have hnj:ns[j]?=some xn:=by rw[←hxn];exact H.out.2.2.2.2 j x hx
   have hcl:css.length≤1000000:=by
    have:=HC.out.len
    rw[List.length_take] at this
    omega
   have HX:=Hd hnj
   clear hx hcell hc hwk hg hrep hnj hl1 hl2 hl3 hxn
   go_wp2_with (at_builtin;refine wpList_append_own_at _ rfl (.tmp 13) (.tmp 16) 32 rfl w.heap.size 9 i0 _ 1 16 Tryz.underlying32 hi hz0 hz1 hz2 rfl (by decide) _ _ _ rfl ((hown.alloc _).alloc _) ⟨wr.heap.size+1,0,none⟩ 1 1 [.string ⟨xn.toArray⟩] rfl rfl (World.news_of_block (blk_at (by simp) _ _)) (by simp[Value.oneCell']) (by unfold maxLen;omega) (by omega) (by simp;omega) ?_;intro v2 w4 hown2 hgr2 _ hob)
   have hrow:∀ k,u3.ownBlock=some k→w.heap.size≤k:=fun k hk=>(HC.out.own.lt k hk).1
   have hrow2:∀ k,u3.ownBlock=some k→k < wr.heap.size:=HC.out.blk
   go_roundg (gk - 1)
   case measure=>omega
   case rel =>
    refine⟨j+1,css++[[.string ⟨xn.toArray⟩]],by omega,by go_num,Hd ?_,Hd ?_⟩
    ·rw[take_next HX.out]
     have hcl2:=HC.out.kept_low ((Below.refl wr.heap.size wr).alloc (Lr _) (.cells #[.string ⟨xn.toArray⟩,.slice A1 l1 c1,.slice A2 l2 c2,.slice A3 l3 c3,.int .i64 kd,.int .i64 nn,.string ⟨nm.toArray⟩,.int .i64 op,.slice A0 L0 c0] 38))
     exact hcl2.snoc (Rep:=RepN) (x:=xn) (cs:=[.string ⟨xn.toArray⟩]) keepsN (lo:=wr.heap.size) rfl hBw hrow2 rfl hown2 hgr2 hob
    ·exact below_grow (((HW.out.alloc hBw _).alloc (Nat.le_trans hBw (by simp)) _)) hgr2 hrow (Nat.le_trans hBw (by simp;omega))
  ·obtain rfl:j=len:=by omega
   have hall:ns.take j=ns:=List.take_of_length_le (by rw[H.out.2.2.2.1];exact Lr _)
   have hfin:=HC.out
   rw[hall] at hfin
   have HF:=Hd hfin
   clear hfin hall
   go_wp2_with fail
   go_ret
   exact coll_ns HF.out (HB.out.1.trans (below_down HW.out (Lr _)))
end Go.Proofs.YtpgnlfdindmopaaGreatDoor
namespace Go.Proofs.YtpgnlfdindmopaaGreatDoor
open Go.RowKit (wrap64 intOf)
open Go Go.RowKit WM LX PX CX
set_option maxRecDepth 100000
set_option maxHeartbeats 4000000
theorem contains_of (zs:List (List UInt8))(x:List UInt8):Lib.containsS (zs.map fun z=>(⟨z.toArray⟩:ByteArray)) ⟨x.toArray⟩=zs.contains x:=by
 rw[Bool.eq_iff_iff,Lib.containsS_iff,List.contains_iff_mem,List.mem_map]
 constructor
 ·rintro ⟨a,ha,h⟩
  injection h with h
  have:a=x:=by have:=congrArg Array.toList h;simpa using this
  exact this ▸ ha
 ·exact fun h=>⟨x,h,rfl⟩
theorem cont_any (ns:List (List UInt8))(x:List UInt8)(A:Option Addr)(c n:Nat)(hn:n≤ns.length)(hl:ns.length≤1000000)(w:World)(hA:0 < n→∃ g,A=some ⟨g,0,none⟩∧∀ (i:Nat)(y:List UInt8),ns[i]?=some y→w.cell? ⟨g,i,none⟩=some (.string ⟨y.toArray⟩)) :
 Calls Tryz.prog 119 #[.slice A n c,.string ⟨x.toArray⟩] w fun e w'=>e=.returned (.bool ((ns.take n).contains x))∧w=w':=by
 by_cases h0:n=0
 ·subst h0
  exact (Tryz.slices_Contains_string_empty A c ⟨x.toArray⟩ w).mono fun _ _ h=>⟨h.1,h.2.symm⟩
 ·obtain⟨g,rfl,hc⟩:=hA (by omega)
  refine (Tryz.slices_Contains_string g 0 n c (ns.map fun z=>(⟨z.toArray⟩:ByteArray)) ⟨x.toArray⟩ w (by simpa using hn) (by omega) (fun j hj=>?_)).mono fun _ _ h=>⟨?_,h.2.symm⟩
  ·have hj':j < ns.length:=by simpa using hj
   rw[Nat.zero_add,hc j _ (Ge hj'),List.getD_eq_getElem?_getD,List.getElem?_map,Ge hj']
   rfl
  ·rw[h.1,←List.map_take,contains_of]
theorem rep_any (ns:List (List UInt8))(hl:ns.length≤1000000)(A:Option Addr)(c:Nat)(hcap:ns.length≤c)(w:World)(ok:Nat→Prop)(h:RepL RepN 1 w ok ns (.slice A ns.length c)) :
 Calls Tryz.prog 77 #[.slice A ns.length c] w fun e w'=>e=.returned (.bool (repB ns))∧w=w':=by
 have hA:∀ (i:Nat) (y:List UInt8),ns[i]?=some y→∃ g,A=some ⟨g,0,none⟩∧∀ (i:Nat) (y:List UInt8),ns[i]?=some y→w.cell? ⟨g,i,none⟩=some (.string ⟨y.toArray⟩):=by
  intro i y hy
  obtain⟨A',c',hv,hat⟩:=h.at
  injection hv with h1 h2 h3
  subst h1 h3
  obtain⟨g,cs,rfl,_⟩:=hat i y hy
  refine⟨g,rfl,fun k z hz=>?_⟩
  obtain⟨g',cs',hg',_,hr,hc⟩:=hat k z hz
  injection hg' with hg'
  injection hg' with hg'
  subst hg'
  have:=hc 0 _ (by rw[show cs'=_ from hr];rfl)
  rwa [Nat.mul_one,Nat.add_zero] at this
 obtain⟨len,hlen⟩:∃ len,ns.length=len:=⟨_,rfl⟩
 obtain⟨r,hr⟩:∃ r,repB ns=r:=⟨_,rfl⟩
 have H:=Hd (Ai hA (Ai hlen hr))
 rw[hlen] at hl hcap ⊢
 rw[hr]
 clear hA hlen hr h
 go_enter Tryz.func77,Tryz.ntmps77
 go_wp2_with fail
 go_loopg [7] len (fun k i wr=>∃ j:Nat,j+k=len∧i=.int .i64 (j:Int)∧w=wr∧Hid (∀ m,m < j→(ns.take m).contains (ns.getD m [])=false))
 case atStart=>exact⟨0,Nat.zero_add _,rfl,rfl,Hd (fun m h=>absurd h (Nat.not_lt_zero _))⟩
 case round =>
  obtain⟨j,hj,rfl,rfl,HM⟩:=hrel
  by_cases hlt:j < len
  ·obtain⟨x,hx⟩:∃ x,ns[j]?=some x:=⟨_,Ge (by rw[H.out.2.1];exact hlt)⟩
   obtain⟨g,rfl,hc⟩:=H.out.1 j x hx
   have y0:=hc j x hx
   have hgd:ns.getD j []=x:=by rw[List.getD_eq_getElem?_getD,hx];rfl
   have e1:(j:Int) < (len:Int):=by omega
   have e2:(j:Int)≤(c:Int):=by omega
   have hcall:=fun cp=>cont_any ns x (some ⟨g,0,none⟩) cp j (by rw[H.out.2.1];omega) (by rw[H.out.2.1];exact hl) w (fun _=>⟨g,rfl,hc⟩)
   obtain⟨q,hq⟩:∃ q,(ns.take j).contains x=q:=⟨_,rfl⟩
   rw[hq] at hcall
   have HC:=Hd hcall
   have HQ:=Hd (Ai hq hgd)
   clear hcall hq hgd hc hx
   cases q with
   | true =>
    have hn:r=true:=by
     rw[←H.out.2.2]
     unfold repB
     rw[List.any_eq_true]
     exact⟨j,List.mem_range.2 (by rw[H.out.2.1];exact hlt),by rw[HQ.out.2];exact HQ.out.1⟩
    subst hn
    go_wp2_with fail
    refine (HC.out _).mono ?_
    rintro e w' ⟨rfl,rfl⟩
    go_wp2_with fail
    go_ret
    exact⟨rfl,rfl⟩
   | false =>
    go_wp2_with fail
    refine (HC.out _).mono ?_
    rintro e w' ⟨rfl,rfl⟩
    go_wp2_with fail
    go_roundg (gk - 1)
    case measure=>omega
    case rel=>exact⟨j+1,by omega,by go_num,rfl,Hd (fun m hm=>by
     by_cases e:m=j
     ·subst e;rw[HQ.out.2];exact HQ.out.1
     ·exact HM.out m (by omega))⟩
  ·have hn:r=false:=by
    rw[←H.out.2.2]
    unfold repB
    rw[List.any_eq_false]
    intro m hm
    have hml:=List.mem_range.1 hm
    rw[H.out.2.1] at hml
    rw[HM.out m (by omega)]
    decide
   subst hn
   obtain rfl:j=len:=by omega
   go_wp2_with fail
   go_ret
   exact⟨rfl,rfl⟩
theorem strI:∃ i0,Tryz.prog.info? 9=some i0∧i0.zero=some (.string ⟨#[]⟩)∧i0.size=1∧i0.bytes=16:=by
 obtain⟨i0,hi,hz0,hz1,hz2⟩:=info_parts strInfo
 exact⟨i0,hi,hz0,hz1,hz2⟩
def GrP (w:World)(e:Ending)(w':World):Prop:=∃ v,e=.returned v∧w'.ownsRow w.heap.size 9 1 v 0 []∧Below w.heap.size w w'
theorem grow_any (n:Nat)(hn:n≤1000000)(w:World):Calls Tryz.prog 120 #[.slice none 0 0,.int .i64 (n:Int)] w (GrP w):=by
 by_cases h0:n=0
 ·subst h0
  go_enter Tryz.func120,Tryz.ntmps120
  go_wp2_with fail
  go_ret
  exact⟨_,rfl,World.ownsRow_nil _ _ _ _,Below.refl _ _⟩
 ·obtain⟨i0,hi,hz0,hz1,hz2⟩:=strI
  have hrz:=fun ty=>Lib.run_append_grow_zeros (P:=Tryz.prog) w 32 3 ty 9 i0 (.string ⟨#[]⟩) .i64 .i64 Tryz.underlying32 Tryz.underlying3 hi hz0 none 0 0 [] (run_firstCells_none w.drew i0.size 0 0 0) n (by omega) (by omega) (by omega) (by omega)
   (by rw[hz2];omega) (by rw[hz2];exact growslice_fits (by omega) (by omega))
  have hG:0+n≤grownCap w (0+n) 0 9:=grownCap_ge w _ _ _
  have hn1:0 < (n:Int):=by omega
  obtain⟨G,hGe⟩:∃ G,grownCap w (0+n) 0 9=G:=⟨_,rfl⟩
  rw[hGe] at hG
  simp only[hGe] at hrz
  go_enter Tryz.func120,Tryz.ntmps120
  have hM:G≤maxLen:=by rw[←hGe];exact grownCap_le_maxLen w _ _ _ (by unfold maxLen;omega)
  clear hGe
  go_wp2_with (at_builtin;refine Lib.wpList_append_run _ rfl _ _ _ _ rfl _ _ rfl rfl _ _ (hrz _) ?_)
  all_goals
   go_ret
   refine⟨_,rfl,⟨rfl,Or.inr ⟨w.heap.size,G,_,rfl,Lr _,heap_alloc_new w.drew _,Nat.zero_le _,hM,?_,rfl⟩⟩,(below_drewN (Below.refl _ w) 1).alloc (Lr _) _⟩
   simp[Builtin.zeroCells]
   omega
end Go.Proofs.YtpgnlfdindmopaaGreatDoor
namespace Go.Proofs.YtpgnlfdindmopaaGreatDoor
open Go.RowKit (wrap64 intOf)
open Go Go.RowKit WM LX PX CX
set_option maxRecDepth 100000
set_option maxHeartbeats 4000000
abbrev sv (x:List UInt8):Value:=.string ⟨x.toArray⟩
theorem flat_sing (xs:List (List UInt8)):(xs.map fun x=>[sv x]).flatten=xs.map sv:=by
 induction xs with
 | nil=>rfl
 | cons a r ih=>rw[List.map_cons,List.flatten_cons,ih];rfl
theorem coll_of {w:World}{E:TypeId}{B:Nat}{xs:List (List UInt8)}{v:Value}(h:w.ownsRow B E 1 v xs.length (xs.map sv)):Coll RepN 1 E B xs (xs.map fun x=>[sv x]) v w :=
 ⟨by rw[flat_sing,List.length_map];exact h,by simp,fun cs hcs=>by obtain⟨x,_,rfl⟩:=List.mem_map.1 hcs;rfl,fun i x cs hx hc=>by
  rw[List.getElem?_map,hx] at hc
  injection hc with hc
  exact hc.symm⟩
def NmV (w:World)(ok:Nat→Prop)(ys:List (List UInt8))(v:Value):Prop:=RepL RepN 1 w ok ys v∧(v=.slice none 0 0∨(∃ g L c,v=.slice (some ⟨g,0,none⟩) L c)∨∃ A c,v=.slice A 0 c)
theorem NmV.keep {w w':World}{ok:Nat→Prop}{ys:List (List UInt8)}{v:Value}(h:NmV w ok ys v)(hw:∀ g,ok g→w'.heap[g]?=w.heap[g]?):NmV w' ok ys v:=⟨h.1.keep keepsN (fun _ h=>h) hw,h.2⟩
theorem NmV.cases {w:World}{ok:Nat→Prop}{ys:List (List UInt8)}{v:Value}(h:NmV w ok ys v) :
 (∃ A c,v=.slice A 0 c∧ys=[])∨∃ g c,v=.slice (some ⟨g,0,none⟩) ys.length c∧(ys≠[]→ok g)∧∀ j u,(ys.map sv)[j]?=some u→w.cell? ⟨g,j,none⟩=some u:=by
 obtain⟨hl,hv⟩:=h
 rcases hv with rfl | ⟨g,L,c,rfl⟩ | ⟨A,c,rfl⟩
 ·left
  have:=zCw hl
  exact⟨_,_,rfl,List.eq_nil_of_length_eq_zero this.symm⟩
 ·right
  have:=zCw hl
  subst this
  obtain⟨A',c',hv,hat⟩:=hl.at
  injection hv with h1 h2 h3
  subst h1 h3
  refine⟨g,_,rfl,fun hne=>?_,fun j u hu=>?_⟩
  ·cases ys with
   | nil=>exact absurd rfl hne
   | cons a r =>
    obtain⟨g',cs,hg',hok,_⟩:=hat 0 a rfl
    injection hg' with hg'
    injection hg' with hg'
    exact hg' ▸ hok
  ·rw[List.getElem?_map] at hu
   cases hy:ys[j]? with
   | none=>rw[hy] at hu;cases hu
   | some y =>
    rw[hy] at hu
    injection hu with hu
    obtain⟨g',cs,hg',_,hr,hc⟩:=hat j y hy
    injection hg' with hg'
    injection hg' with hg'
    subst hg'
    have:=hc 0 _ (by rw[show cs=_ from hr];rfl)
    rw[Nat.mul_one,Nat.add_zero] at this
    exact hu ▸ this
 ·left
  have:=zCw hl
  exact⟨_,_,rfl,List.eq_nil_of_length_eq_zero this.symm⟩
theorem run_append_zero {P:Program}{w:World}(base:Nat)(t ty e:TypeId)(i:TypeInfo)(size:Nat)(ht:P.underlying t=some (.slice e))(hi:P.info? e=some i)
 (v:Value) (n:Nat) (xs:List Value) (hown:w.ownsRow base e size v n xs) (A:Option Addr) (c:Nat) :
 (Builtin.append_ #[t,t] ty #[v,.slice A 0 c]).run P w=.ok v w:=by
 have hz:∀ a,(loadCells a 0).run P w=.ok #[] w:=fun a=>run_loadCells_list (P:=P) w a [] (fun j v h=>by simp at h)
 rcases hown.2 with ⟨rfl,rfl⟩ | ⟨g,cap,cur,rfl,_,_,hnc,_⟩
 ·cases A <;> simp[Builtin.append_,run_underlying ht,sizeOf,typeInfo,hi,Builtin.lenOf,Builtin.firstCells,hz,Result.andThen]
 ·cases A <;> simp[Builtin.append_,run_underlying ht,sizeOf,typeInfo,hi,Builtin.lenOf,Builtin.firstCells,hnc,storeCells,hz,Result.andThen]
theorem wpList_append_zero {P:Program}{w:World}{ops:Array Oper}{rest:List Oper}{o:Oper}{a:Act}{Q:Exit→Act→World→Prop}(hgd:o.guard=none)(s x:Operand)(t:TypeId)
 (ho:o.op=.call { callee:=.builtin .append,args:=#[s,x],argTypes:=#[t,t] })
 (base:Nat) (e:TypeId) (i:TypeInfo) (size:Nat) (ht:P.underlying t=some (.slice e)) (hi:P.info? e=some i)
 (v:Value) (n:Nat) (xs:List Value) (hs:a.eval s=v) (hown:w.ownsRow base e size v n xs) (A:Option Addr) (c:Nat) (hx:a.eval x=.slice A 0 c)
 (h:wpList P ops Q rest (a.put o.dst v) w):wpList P ops Q (o :: rest) a w:=by
 refine wpList_plain hgd fun K hK=>?_
 have hrun:=run_append_zero (P:=P) (w:=w) base t o.type e i size ht hi v n xs hown A c
 unfold Oper.wp
 simp[execOp,ho,resolve,invoke,builtin,hs,hx,hrun,Result.andThen]
 exact hK _ _ h
theorem flat_next {α:Type}{xss:List (List α)}{j:Nat}{ys:List α}(h:xss[j]?=some ys):(xss.take (j+1)).flatten=(xss.take j).flatten++ys:=by
 rw[take_next h,List.flatten_append]
 simp
theorem flat_le {α:Type}(xss:List (List α))(j:Nat):(xss.take j).flatten.length≤xss.flatten.length:=by
 have h:xss.flatten=(xss.take j).flatten++(xss.drop j).flatten:=by rw[←List.flatten_append,List.take_append_drop]
 rw[h,List.length_append];omega
theorem conc_any (xss:List (List (List UInt8)))(vs:List Value)(b c:Nat)(w:World)(ok:Nat→Prop)(hok:∀ g,ok g→g < w.heap.size)(hb:b < w.heap.size)(hl:vs.length=xss.length)(hm:xss.length≤3)
 (hc:∀ (i:Nat) (v:Value),vs[i]?=some v→w.cell? ⟨b,i,none⟩=some v) (hv:∀ (i:Nat) (ys:List (List UInt8)) (v:Value),xss[i]?=some ys→vs[i]?=some v→NmV w ok ys v) (ht:xss.flatten.length≤1000000) :
 Calls Tryz.prog 80 #[.slice (some ⟨b,0,none⟩) xss.length c] w (NsP xss.flatten w):=by
 obtain⟨i0,hi,hz0,hz1,hz2⟩:=strI
 obtain⟨len,hlen⟩:∃ len,xss.length=len:=⟨_,rfl⟩
 have hat:∀ (j:Nat),j < len→∃ (ys:List (List UInt8)) (v:Value),xss[j]?=some ys∧vs[j]?=some v∧w.cell? ⟨b,j,none⟩=some v∧NmV w ok ys v:=fun j hj=>by
  have h1:j < xss.length:=by omega
  have h2:j < vs.length:=by omega
  exact⟨_,_,Ge h1,Ge h2,hc _ _ (Ge h2),hv _ _ _ (Ge h1) (Ge h2)⟩
 have H:=Hd (Ai hat (Ai hok (Ai hlen ht)))
 rw[hlen] at hm ⊢
 clear hat hok hlen hl hc hv ht
 go_enter Tryz.func80,Tryz.ntmps80
 go_wp2_with fail
 go_loopg [3,11] len (fun k s i wr=>∃ j n:Nat,j+k=len∧i=.int .i64 (j:Int)∧s=.int .i64 (n:Int)∧n≤1000000∧Hid ((xss.take j).flatten.length=n)∧w=wr)
 case atStart=>exact⟨0,0,Nat.zero_add _,rfl,rfl,by decide,Hd rfl,rfl⟩
 case round =>
  obtain⟨j,n,hj,rfl,rfl,hn,HN,rfl⟩:=hrel
  by_cases hlt:j < len
  ·obtain⟨ys,v,h1,h2,h3,h4⟩:=H.out.1 j hlt
   have hnx:=flat_next h1
   have hle:=flat_le xss (j+1)
   rw[hnx,List.length_append,HN.out] at hle
   have hle2:n+ys.length≤1000000:=Nat.le_trans hle H.out.2.2.2
   have HX:Hid ((xss.take (j+1)).flatten.length=n+ys.length):=by rw[hnx,List.length_append,HN.out];exact rfl
   have e1:(j:Int) < (len:Int):=by omega
   obtain⟨A,L,cp,rfl,hL⟩:∃ A L cp,v=.slice A L cp∧L=ys.length:=by
    rcases h4.cases with ⟨A,cp,rfl,rfl⟩ | ⟨g,cp,rfl,_⟩
    ·exact⟨_,_,_,rfl,rfl⟩
    ·exact⟨_,_,_,rfl,rfl⟩
   rw[←hL] at hle2 HX
   have hge:¬ ((n:Int)+(L:Int) < 0):=by omega
   clear h1 h2 h4 hnx hle hL
   go_wp2_with fail
   go_roundg (gk - 1)
   case measure=>omega
   case rel=>exact⟨j+1,n+L,by omega,by go_num,by go_num,hle2,HX,rfl⟩
  ·obtain rfl:j=len:=by omega
   have HN2:Hid (xss.flatten.length=n):=by
    have:=HN.out
    rw[List.take_of_length_le (by rw[H.out.2.2.1];exact Lr _)] at this
    exact this
   clear HN
   go_wp2_with fail
   refine (grow_any n hn w).mono ?_
   rintro e w1 ⟨v,rfl,hown,hb1⟩
   have HO:=Hd (Ai hown hb1)
   clear hown hb1
   go_wp2_with fail
   go_loopg [6,27] j (fun k v i wr=>∃ (m:Nat),m+k=j∧i=.int .i64 (m:Int)∧Hid (wr.ownsRow w.heap.size 9 1 v (xss.take m).flatten.length ((xss.take m).flatten.map sv))∧Hid (Below w.heap.size w wr))
   case atStart=>exact⟨0,Nat.zero_add _,rfl,Hd HO.out.1,Hd HO.out.2⟩
   case round =>
    obtain⟨m,hmj,rfl,HW,HB⟩:=hrel
    have hsz:=HB.out.size
    by_cases hlt2:m < j
    ·obtain⟨ys,v,h1,h2,h3,h4⟩:=H.out.1 m hlt2
     have hnx:=flat_next h1
     have hle:=flat_le xss (m+1)
     rw[hnx,List.length_append] at hle
     have hle2:(xss.take m).flatten.length+ys.length≤1000000:=Nat.le_trans hle H.out.2.2.2
     have e1:(m:Int) < (j:Int):=by omega
     have h5:wr.cell? ⟨b,m,none⟩=some v:=(Cb (HB.out.block b hb)).trans h3
     have h6:=(h4.keep (fun g hg=>HB.out.block g (H.out.2.1 g hg)))
     have hown:=HW.out
     have HX:=Hd hnx
     obtain⟨xs,hxs⟩:∃ xs,(xss.take m).flatten=xs:=⟨_,rfl⟩
     rw[hxs] at hown hle2 HX
     have hrow:∀ k,u6.ownBlock=some k→w.heap.size≤k:=fun k hk=>(hown.lt k hk).1
     clear h1 h2 h3 h4 hnx hle hxs HW
     rcases h6.cases with ⟨A0,cp,rfl,rfl⟩ | ⟨g,cp,rfl,_,hcell⟩
     ·have HO2:=Hd hown
      clear h6
      go_wp2_with (at_builtin;refine wpList_append_zero rfl (.tmp 31) (.tmp 32) 32 rfl w.heap.size 9 i0 1 Tryz.underlying32 hi _ _ _ rfl hown _ _ rfl ?_)
      go_roundg (gk - 1)
      case measure=>omega
      case rel=>exact⟨m+1,by omega,by go_num,by rw[HX.out,List.append_nil];exact HO2,HB⟩
     ·have HC:=Hd hcell
      clear h6 hcell
      go_wp2_with (at_builtin;refine wpList_append_own_at _ rfl (.tmp 31) (.tmp 32) 32 rfl w.heap.size 9 i0 _ 1 16 Tryz.underlying32 hi hz0 hz1 hz2 rfl (by decide) _ _ _ rfl hown ⟨g,0,none⟩ ys.length cp (ys.map sv) rfl (by simp) (fun j u hu=>by rw[show (⟨g,0,none⟩:Addr).add j=⟨g,j,none⟩ by unfold Addr.add;split <;> simp_all];exact HC.out j u hu) (fun u hu=>by obtain⟨x,_,rfl⟩:=List.mem_map.1 hu;rfl) (by unfold maxLen;omega) (by omega) (by omega) ?_;intro v2 w4 hown2 hgr2 _ hob)
      go_roundg (gk - 1)
      case measure=>omega
      case rel=>exact⟨m+1,by omega,by go_num,Hd (by rw[HX.out,List.length_append,List.map_append];exact hown2),Hd (below_grow HB.out hgr2 hrow hsz)⟩
    ·obtain rfl:m=j:=by omega
     have hfin:=HW.out
     rw[List.take_of_length_le (by rw[H.out.2.2.1];exact Lr _)] at hfin
     have HF:=Hd hfin
     clear hfin HW
     go_wp2_with fail
     go_ret
     exact coll_ns (coll_of HF.out) HB.out
end Go.Proofs.YtpgnlfdindmopaaGreatDoor
namespace Go.Proofs.YtpgnlfdindmopaaGreatDoor
open Go.RowKit (wrap64 intOf)
open Go Go.RowKit WM LX PX CX
set_option maxRecDepth 100000
set_option maxHeartbeats 4000000
def NzV (v:Value):Prop:=v=.slice none 0 0∨(∃ g L c,v=.slice (some ⟨g,0,none⟩) L c)∨∃ A c,v=.slice A 0 c
theorem nz_of {α:Type}{Rep:World→(Nat→Prop)→α→List Value→Prop}{sz:Nat}{w:World}{ok:Nat→Prop}{l:List α}{v:Value}(h:RepL Rep sz w ok l v):NzV v:=by
 obtain⟨A,c,rfl,hat⟩:=h.at
 cases l with
 | nil=>exact Or.inr (Or.inr ⟨A,c,rfl⟩)
 | cons a r =>
  obtain⟨g,cs,rfl,_⟩:=hat 0 a rfl
  exact Or.inr (Or.inl ⟨_,_,_,rfl⟩)
def NiceF (cs:List Value):Prop:=(∃ v,cs[1]?=some v∧NzV v)∧∃ v,cs[2]?=some v∧NzV v
def RepG (w:World)(ok:Nat→Prop)(f:FN)(cs:List Value):Prop:=RepF w ok f cs∧NiceF cs
theorem keepsG:Keeps RepG:=⟨fun h hok hw=>⟨keepsF.k h.1 hok hw,h.2⟩⟩
theorem onesG:Ones RepG 9:=fun _ _ _ _ h=>onesF _ _ _ _ h.1
theorem repL_map {α:Type}{R S:World→(Nat→Prop)→α→List Value→Prop}{sz:Nat}{w:World}{ok:Nat→Prop}{xs:List α}{v:Value}(h:RepL R sz w ok xs v)(hm:∀ x cs,R w ok x cs→S w ok x cs):RepL S sz w ok xs v:=by
 obtain⟨F,h1,h2⟩:=h
 exact⟨F,h1,fun i x hx=>hm _ _ (h2 i x hx)⟩
def RepQ (w:World)(ok:Nat→Prop)(p:PG)(va vf:Value):Prop:=RepL RepA 2 w ok p.arrays va∧RepL RepG 9 w ok p.funcs vf
theorem repQ_of {w:World}{ok:Nat→Prop}{p:PG}{va vf:Value}(h1:RepL RepA 2 w ok p.arrays va)(h2:RepL RepF 9 w ok p.funcs vf):RepQ w ok p va vf:=⟨h1,repL_map h2 fun f cs h=>by
 have h0:=h
 obtain⟨A1,c1,A2,c2,A3,c3,kd,nn,nm,op,A,L,c,rfl,r1,r2,_⟩:=fun_of h
 exact⟨h0,⟨_,rfl,nz_of r1⟩,⟨_,rfl,nz_of r2⟩⟩⟩
theorem RepQ.p {w:World}{ok:Nat→Prop}{p:PG}{va vf:Value}(h:RepQ w ok p va vf):RepP w ok p va vf:=⟨h.1,repL_map h.2 fun _ _ h=>h.1⟩
theorem RepQ.keep {w w':World}{ok ok':Nat→Prop}{p:PG}{va vf:Value}(h:RepQ w ok p va vf)(hok:∀ g,ok g→ok' g)(hw:∀ g,ok g→w'.heap[g]?=w.heap[g]?):RepQ w' ok' p va vf:=⟨h.1.keep keepsA hok hw,h.2.keep keepsG hok hw⟩
theorem dup_cl (ars:List (List UInt8))(AA:Option Addr)(LA cA:Nat)(B1:Nat)(f:FN)(cs:List Value)(w:World)(ok:Nat→Prop)(hr:RepG w ok f cs)(hok:∀ g,ok g→g < w.heap.size)(hA:NmV w ok ars (.slice AA LA cA))(hB:B1 < w.heap.size)(hc:w.cell? ⟨B1,0,none⟩=some (.slice AA LA cA))
 (hs:ars.length+(f.params.length+f.locals.length)≤1000000) :
 Calls Tryz.prog 79 #[.agg cs.toArray,.pointer (some ⟨B1,0,none⟩)] w (RetN (.bool (repB (ars++(f.params++f.locals)))) w):=by
 obtain⟨hf,⟨v1,hv1,n1⟩,⟨v2,hv2,n2⟩⟩:=hr
 obtain⟨A1,c1,A2,c2,A3,c3,kd,nn,nm,op,A,L,c,rfl,r1,r2,_,_⟩:=fun_of hf
 obtain rfl:v1=.slice A1 f.params.length c1:=by simpa using hv1.symm
 obtain rfl:v2=.slice A2 f.locals.length c2:=by simpa using hv2.symm
 obtain⟨l1,hl1⟩:∃ n,f.params.length=n:=⟨_,rfl⟩
 obtain⟨l2,hl2⟩:∃ n,f.locals.length=n:=⟨_,rfl⟩
 obtain⟨l3,hl3⟩:∃ n,f.body.length=n:=⟨_,rfl⟩
 obtain⟨xn,hxn⟩:∃ y,f.name=y:=⟨_,rfl⟩
 obtain⟨W1,hW1⟩:∃ W1,(w.alloc (.cells #[.string ⟨xn.toArray⟩,.slice A1 l1 c1,.slice A2 l2 c2,.slice A3 l3 c3,.int .i64 kd,.int .i64 nn,.string ⟨nm.toArray⟩,.int .i64 op,.slice A L c] 38)).alloc (.cells #[.slice AA LA cA,.slice A1 l1 c1,.slice A2 l2 c2] 32)=W1:=⟨_,rfl⟩
 have hb1:Below w.heap.size w W1:=by rw[←hW1];exact ((Below.refl _ _).alloc (Lr _) _).alloc (by simp) _
 have k2:Blk W1 (w.heap.size+1) 32 #[.slice AA LA cA,.slice A1 l1 c1,.slice A2 l2 c2]:=by rw[←hW1];exact blk_at (by simp) _ _
 have hN1:NmV W1 ok f.params (.slice A1 l1 c1):=NmV.keep ⟨hl1 ▸ r1,by rw[←hl1];exact n1⟩ (fun g hg=>hb1.block g (hok g hg))
 have hN2:NmV W1 ok f.locals (.slice A2 l2 c2):=NmV.keep ⟨hl2 ▸ r2,by rw[←hl2];exact n2⟩ (fun g hg=>hb1.block g (hok g hg))
 have hN0:NmV W1 ok ars (.slice AA LA cA):=hA.keep (fun g hg=>hb1.block g (hok g hg))
 have hcon:=conc_any [ars,f.params,f.locals] [.slice AA LA cA,.slice A1 l1 c1,.slice A2 l2 c2] (w.heap.size+1) 3 W1 ok (fun g hg=>Ll (hok g hg) hb1.size) k2.lt rfl (Lr 3)
  (fun i v h=>by
    rw[k2.cell i]
    simpa using h)
  (fun i ys v hy hv=>by
    match i with
    | 0=>simp at hy hv;subst hy hv;exact hN0
    | 1=>simp at hy hv;subst hy hv;exact hN1
    | 2=>simp at hy hv;subst hy hv;exact hN2
    | i+3=>simp at hy) (by simp;omega)
 have hfl:[ars,f.params,f.locals].flatten=ars++(f.params++f.locals):=by simp
 rw[hfl] at hcon
 obtain⟨ns,hns⟩:∃ ns,ars++(f.params++f.locals)=ns:=⟨_,rfl⟩
 have hnl:ns.length≤1000000:=by rw[←hns];simp;omega
 rw[hns] at hcon ⊢
 obtain⟨q,hq⟩:∃ q,repB ns=q:=⟨_,rfl⟩
 have hrep:=fun w A c hcap (h:RepL RepN 1 w (fun _=>True) ns (.slice A ns.length c))=>rep_any ns hnl A c hcap w (fun _=>True) h
 rw[hq] at hrep ⊢
 have HC:=Hd hcon
 have HR:=Hd hrep
 have HB:=Hd (Ai hb1 hW1)
 simp only[hl1,hl2,hl3,hxn]
 clear hcon hrep hb1 hW1 k2 hN1 hN2 hN0 hf hv1 hv2 n1 n2 r1 r2 hok hA hs hfl hns hq hl1 hl2 hl3 hxn
 go_enter Tryz.func79,Tryz.ntmps79
 go_wp2_with fail
 rw[HB.out.2]
 refine HC.out.mono ?_
 rintro e w2 ⟨A9,c9,rfl,hcap,hl,hb2⟩
 have H2:=Hd (Ai (HR.out w2 A9 c9 hcap (hl.keep keepsN (fun _ _=>trivial) (fun _ _=>rfl))) (HB.out.1.trans (below_down hb2 HB.out.1.size)))
 clear hl hb2
 go_wp2_with fail
 refine H2.out.1.mono ?_
 rintro e w3 ⟨rfl,rfl⟩
 go_wp2_with fail
 go_ret
 exact retN rfl H2.out.2
end Go.Proofs.YtpgnlfdindmopaaGreatDoor
namespace Go.Proofs.YtpgnlfdindmopaaGreatDoor
open Go.RowKit (wrap64 intOf)
open Go Go.RowKit WM LX PX CX
set_option maxRecDepth 100000
set_option maxHeartbeats 4000000
def NzP (xs:List (List UInt8))(w:World)(e:Ending)(w':World):Prop :=
 ∃ A c,e=.returned (.slice A xs.length c)∧xs.length≤c∧NmV w' (Rg w.heap.size w'.heap.size) xs (.slice A xs.length c)∧Below w.heap.size w w'
theorem coll_nz {w w':World}{E:TypeId}{xs:List (List UInt8)}{css:List (List Value)}{v:Value}(c:Coll RepN 1 E w.heap.size xs css v w')(hb:Below w.heap.size w w'):NzP xs w (.returned v) w':=by
 have hl:=c.len
 have ho:=c.out keepsN
 rcases c.own.2 with ⟨rfl,h0⟩ | ⟨g,cap,cur,rfl,_,_,h1,_⟩
 ·obtain rfl:xs=[]:=List.eq_nil_of_length_eq_zero (by omega)
  exact⟨none,0,rfl,Lr _,⟨repL_nil _ _ _ _,Or.inl rfl⟩,hb⟩
 ·rw[←hl] at h1 ho ⊢
  exact⟨_,_,rfl,h1,⟨ho,Or.inr (Or.inl ⟨_,_,_,rfl⟩)⟩,hb⟩
theorem arrN2_any (p:PG)(va vf:Value)(w:World)(ok:Nat→Prop)(h:RepP w ok p va vf)(hok:∀ g,ok g→g < w.heap.size)(hs:p.arrays.length≤1000000) :
 Calls Tryz.prog 76 #[.agg #[va,vf]] w (NzP (anN p) w):=by
 obtain⟨i0,hi,hz0,hz1,hz2⟩:=info_parts strInfo
 obtain⟨A,c,rfl,hat⟩:=h.1.at
 obtain⟨A',c',rfl,_⟩:=h.2.at
 obtain⟨len,hlen⟩:∃ len,p.arrays.length=len:=⟨_,rfl⟩
 obtain⟨na,hna⟩:∃ na,p.funcs.length=na:=⟨_,rfl⟩
 obtain⟨ns,hns⟩:∃ ns,anN p=ns:=⟨_,rfl⟩
 have hnl:ns.length=len:=by rw[←hns,←hlen];simp[anN]
 have hnx:∀ (j:Nat) (x:List UInt8 × Int),p.arrays[j]?=some x→ns[j]?=some x.1:=fun j x hx=>by rw[←hns];simp[anN,hx]
 have H:=Hd (Ai hat (Ai hok (Ai hlen (Ai hnl hnx))))
 obtain⟨W1,hW1⟩:∃ W1,w.alloc (.cells #[.slice A len c,.slice A' na c'] 26)=W1:=⟨_,rfl⟩
 have hb1:Below w.heap.size w W1:=by rw[←hW1];exact (Below.refl _ _).alloc (Lr _) _
 have HB:=Hd (Ai hb1 hW1)
 rw[hlen] at hs ⊢
 rw[hna,hns]
 clear hat h hok hb1 hlen hW1 hns hnl hnx hna
 go_enter Tryz.func76,Tryz.ntmps76
 go_wp2_with fail
 rw[HB.out.2]
 go_loopg [3,9] len (fun k v i wr=>NsR ns len w W1 k v i wr)
 case atStart=>exact⟨0,[],Nat.zero_add _,rfl,Hd (coll_nil _ _ _ _ _),Hd (Below.refl _ _)⟩
 case round =>
  obtain⟨j,css,hj,rfl,HC,HW⟩:=hrel
  have hsz:=HB.out.1.size
  have hBw:w.heap.size≤wr.heap.size:=Nat.le_trans hsz HW.out.size
  by_cases hlt:j < len
  ·obtain⟨x,hx⟩:∃ x,p.arrays[j]?=some x:=⟨_,Ge (by rw[H.out.2.2.1];exact hlt)⟩
   obtain⟨g,cs,rfl,hg,hrep,hcell⟩:=H.out.1 j x hx
   have hgw:=H.out.2.1 g hg
   have hwk:wr.heap[g]?=w.heap[g]?:=(HW.out.block g hgw).trans (HB.out.1.block g hgw)
   obtain⟨xn,xv⟩:=x
   obtain rfl:cs=[.string ⟨xn.toArray⟩,.int .i64 xv]:=hrep
   have hc:=fun i u hu=>(Cb hwk).trans (hcell i u hu)
   have z0:wr.cell? ⟨g,j * 2,none⟩=some (.string ⟨xn.toArray⟩):=hc 0 _ rfl
   have z1:wr.cell? ⟨g,j * 2+1,none⟩=some (.int .i64 xv):=hc 1 _ rfl
   have hgr:g < wr.heap.size:=Ll hgw hBw
   have e1:(j:Int) < (len:Int):=by omega
   have hown:=HC.out.own
   have hnj:ns[j]?=some xn:=H.out.2.2.2.2 j _ hx
   have hcl:css.length≤1000000:=by
    have:=HC.out.len
    rw[List.length_take] at this
    omega
   have HX:=Hd hnj
   clear hx hcell hc hwk hg hnj
   go_wp2_with (at_builtin;refine wpList_append_own_at _ rfl (.tmp 13) (.tmp 16) 32 rfl w.heap.size 9 i0 _ 1 16 Tryz.underlying32 hi hz0 hz1 hz2 rfl (by decide) _ _ _ rfl ((hown.alloc _).alloc _) ⟨wr.heap.size+1,0,none⟩ 1 1 [.string ⟨xn.toArray⟩] rfl rfl (World.news_of_block (blk_at (by simp) _ _)) (by simp[Value.oneCell']) (by unfold maxLen;omega) (by omega) (by simp;omega) ?_;intro v2 w4 hown2 hgr2 _ hob)
   have hrow:∀ k,u3.ownBlock=some k→w.heap.size≤k:=fun k hk=>(HC.out.own.lt k hk).1
   have hrow2:∀ k,u3.ownBlock=some k→k < wr.heap.size:=HC.out.blk
   go_roundg (gk - 1)
   case measure=>omega
   case rel =>
    refine⟨j+1,css++[[.string ⟨xn.toArray⟩]],by omega,by go_num,Hd ?_,Hd ?_⟩
    ·rw[take_next HX.out]
     have hcl2:=HC.out.kept_low ((Below.refl wr.heap.size wr).alloc (Lr _) (.cells #[.string ⟨xn.toArray⟩,.int .i64 xv] 75))
     exact hcl2.snoc (Rep:=RepN) (x:=xn) (cs:=[.string ⟨xn.toArray⟩]) keepsN (lo:=wr.heap.size) rfl hBw hrow2 rfl hown2 hgr2 hob
    ·exact below_grow (((HW.out.alloc hBw _).alloc (Nat.le_trans hBw (by simp)) _)) hgr2 hrow (Nat.le_trans hBw (by simp;omega))
  ·obtain rfl:j=len:=by omega
   have hall:ns.take j=ns:=List.take_of_length_le (by rw[H.out.2.2.2.1];exact Lr _)
   have hfin:=HC.out
   rw[hall] at hfin
   have HF:=Hd hfin
   clear hfin hall
   go_wp2_with fail
   go_ret
   exact coll_nz HF.out (HB.out.1.trans (below_down HW.out (Lr _)))
end Go.Proofs.YtpgnlfdindmopaaGreatDoor
namespace Go.Proofs.YtpgnlfdindmopaaGreatDoor
open Go.RowKit (wrap64 intOf)
open Go Go.RowKit WM LX PX CX
set_option maxRecDepth 100000
set_option maxHeartbeats 4000000
theorem dup2_any (p:PG)(va vf:Value)(w:World)(ok:Nat→Prop)(h:RepQ w ok p va vf)(hok:∀ g,ok g→g < w.heap.size)(hs:szP p≤1000000) :
 Calls Tryz.prog 45 #[.agg #[va,vf]] w (RetN (.bool (dupB p)) w):=by
 have hpP:=h.p
 obtain⟨A,c,rfl,_⟩:=h.1.at
 obtain⟨A',c',rfl,_⟩:=h.2.at
 unfold szP at hs
 have l2:=sumL_len szF p.funcs
 have l1:=sumL_len (fun a:List UInt8 × Int=>a.1.length) p.arrays
 obtain⟨n1,hn1⟩:∃ n,p.arrays.length=n:=⟨_,rfl⟩
 obtain⟨n2,hn2⟩:∃ n,p.funcs.length=n:=⟨_,rfl⟩
 obtain⟨W1,hW1⟩:∃ W1,w.alloc (.cells #[.slice A n1 c,.slice A' n2 c'] 26)=W1:=⟨_,rfl⟩
 have hb1:Below w.heap.size w W1:=by rw[←hW1];exact (Below.refl _ _).alloc (Lr _) _
 have k1:Blk W1 w.heap.size 26 #[.slice A n1 c,.slice A' n2 c']:=by rw[←hW1];exact Blk.new _ _ _
 have hnal:(anN p).length=p.arrays.length:=by simp[anN]
 have hna:(anN p).length≤1000000:=by omega
 obtain⟨LA,hLA⟩:∃ n,(anN p).length=n:=⟨_,rfl⟩
 have ha:=arrN2_any p _ _ W1 ok (hpP.keep (fun _ h=>h) (fun x hx=>hb1.block x (hok x hx))) (fun g hg=>Ll (hok g hg) hb1.size) (by omega)
 unfold NzP at ha
 rw[hLA] at ha
 have hf:=fun W (hW:Below w.heap.size w W)=>fnN_any p _ _ W ok (hpP.keep (fun _ h=>h) (fun x hx=>hW.block x (hok x hx))) (fun g hg=>Ll (hok g hg) hW.size) (by omega)
 have hnf:(fnN p).length≤1000000:=by simp[fnN];omega
 have hcf:=fun W B1 (AA:Option Addr) (cA:Nat) (okA:Nat→Prop) (hW:Below w.heap.size w W) (hB1:w.heap.size≤B1) (kB:Blk W B1 32 #[.slice AA LA cA]) (hNm:NmV W okA (anN p) (.slice AA LA cA)) (hokA:∀ g,okA g→g < W.heap.size)=>contains_F keepsG onesG p.funcs _ W ok (h.keep (fun _ h=>h) (fun x hx=>hW.block x (hok x hx))).2 (by omega) (fun f=>repB (anN p++(f.params++f.locals))) none 79 #[] #[.pointer (some ⟨B1,0,none⟩)] (enters_of Tryz.func79 (by kernel_rfl) rfl)
  (fun _=>Kp none W) (inv_kp none W (fun _ h=>by cases h) ok (fun b hb=>⟨Ll (hok b hb) hW.size,by simp⟩)) (fun _=>0) (fun i x hx cs W' d _ hI hr=>by
   rw[app_l]
   have hsx:=zA6 szF p.funcs i x hx
   have hsz:szF x=1+x.name.length+sumL List.length x.params+sumL List.length x.locals+sumL szS x.body+szE x.value:=rfl
   have p1:=sumL_len List.length x.params
   have p2:=sumL_len List.length x.locals
   have kB':=kB.kp hI (fun b hb=>by cases hb)
   have hlt:∀ g,(ok g∨okA g)→g < W'.heap.size:=fun g hg=>by
    rcases hg with hg | hg
    ·exact Ll (hok g hg) (Nat.le_trans hW.size hI.size)
    ·exact Ll (hokA g hg) hI.size
   have hA0:=hNm.keep (w':=W') (fun g hg=>hI.block g (hokA g hg) (by simp))
   have hA:NmV W' (fun g=>ok g∨okA g) (anN p) (.slice AA LA cA):=⟨hA0.1.keep keepsN (fun _ h=>Or.inr h) (fun _ _=>rfl),hA0.2⟩
   exact (dup_cl (anN p) AA LA cA B1 x cs W' (fun g=>ok g∨okA g) (keepsG.k hr (fun _ h=>Or.inl h) (fun _ _=>rfl)) hlt hA kB'.lt (kB'.cell 0) (by omega)).mono fun _ _ h=>ret_kp h hI) 0 (by rw[zB3];omega) W (grown_id _ _)
 have hd:dupB p=(repB (anN p)||(repB (fnN p)||p.funcs.any fun f=>repB (anN p++(f.params++f.locals)))):=rfl
 obtain⟨qa,hqa⟩:∃ q,repB (anN p)=q:=⟨_,rfl⟩
 obtain⟨q1,hq1⟩:∃ q,repB (fnN p)=q:=⟨_,rfl⟩
 obtain⟨q2,hq2⟩:∃ q,(p.funcs.any fun f=>repB (anN p++(f.params++f.locals)))=q:=⟨_,rfl⟩
 rw[hd,hqa,hq1,hq2]
 have hr0:=fun W A c hcap (h:RepL RepN 1 W (fun _=>True) (anN p) (.slice A (anN p).length c))=>rep_any (anN p) hna A c hcap W (fun _=>True) h
 rw[hqa,hLA] at hr0
 have hr1:=fun W A c hcap (h:RepL RepN 1 W (fun _=>True) (fnN p) (.slice A (fnN p).length c))=>rep_any (fnN p) hnf A c hcap W (fun _=>True) h
 rw[hq1] at hr1
 rw[hn1,hn2] at ha hf
 rw[hn2,hq2] at hcf
 rw[hn1,hn2]
 have HA:=Hd ha
 have HF:=Hd hf
 have HCF:=Hd hcf
 have HR:=Hd (Ai hr0 hr1)
 have HB:=Hd (Ai hb1 (Ai k1 hW1))
 clear ha hf hcf hr0 hr1 hb1 k1 hW1 h hpP hs l1 l2 hn1 hn2 hnf hna hnal hd hqa hq1 hq2 hok
 go_enter Tryz.func45,Tryz.ntmps45
 go_wp2_with fail
 rw[HB.out.2.2]
 refine HA.out.mono ?_
 rintro e w2 ⟨AA,cA,rfl,hcapA,hnm,hb2⟩
 obtain⟨V,hV⟩:∃ V,w2.alloc (.cells #[.slice AA LA cA] 32)=V:=⟨_,rfl⟩
 have hbV:Below w2.heap.size w2 V:=by rw[←hV];exact (Below.refl _ _).alloc (Lr _) _
 have kV:Blk V w2.heap.size 32 #[.slice AA LA cA]:=by rw[←hV];exact Blk.new _ _ _
 have j1:=HB.out.2.1.on hb2 HB.out.2.1.lt
 have hw2:Below w.heap.size w w2:=HB.out.1.trans (below_down hb2 HB.out.1.size)
 have hokA:∀ g,Rg W1.heap.size w2.heap.size g→g < w2.heap.size:=fun g hg=>hg.2
 have hnV:=hnm.keep (w':=V) (fun g hg=>hbV.block g (hokA g hg))
 have HV:=Hd (Ai (j1.on hbV j1.lt) (Ai kV (Ai (hw2.trans (below_down hbV hw2.size)) hV)))
 have HN:=Hd (Ai hnV (Ai (fun g hg=>Ll (hokA g hg) hbV.size) (HR.out.1 V AA cA hcapA (hnV.1.keep keepsN (fun _ _=>trivial) (fun _ _=>rfl)))))
 obtain⟨x0,x1,_⟩:=j1.cells2
 have s1:=j1.lt
 have HS:Hid (w.heap.size≤w2.heap.size):=hw2.size
 clear hb2 hbV kV j1 hw2 hV hokA hnV hnm hcapA
 go_wp2_with fail
 rw[HV.out.2.2.2]
 refine HN.out.2.2.mono ?_
 rintro e w3 ⟨rfl,rfl⟩
 have y0:V.cell? ⟨w.heap.size,0,none⟩=some (.slice A n1 c):=HV.out.1.cell 0
 have y1:V.cell? ⟨w.heap.size,1,none⟩=some (.slice A' n2 c'):=HV.out.1.cell 1
 clear x0 x1
 cases qa with
 | true =>
  go_wp2_with fail
  go_ret
  exact retN rfl HV.out.2.2.1
 | false =>
  go_wp2_with fail
  refine (HF.out V HV.out.2.2.1).mono ?_
  rintro e w4 ⟨A9,c9,rfl,hcap,hl,hb4⟩
  have H4:=Hd (Ai (HR.out.2 w4 A9 c9 hcap (hl.keep keepsN (fun _ _=>trivial) (fun _ _=>rfl))) (Ai (HV.out.1.on hb4 HV.out.1.lt) (Ai (HV.out.2.1.on hb4 HV.out.2.1.lt) (HV.out.2.2.1.trans (below_down hb4 HV.out.2.2.1.size)))))
  have HN4:=Hd (Ai (HN.out.1.keep (fun g hg=>hb4.block g (HN.out.2.1 g hg))) (fun g hg=>Ll (HN.out.2.1 g hg) hb4.size))
  clear hl hb4 y0 y1
  go_wp2_with fail
  refine H4.out.1.mono ?_
  rintro e w5 ⟨rfl,rfl⟩
  have y1:w4.cell? ⟨w.heap.size,1,none⟩=some (.slice A' n2 c'):=H4.out.2.1.cell 1
  cases q1 with
  | true =>
   go_wp2_with fail
   go_ret
   exact retN rfl H4.out.2.2.2
  | false =>
   go_wp2_with fail
   refine (HCF.out w4 w2.heap.size AA cA _ H4.out.2.2.2 HS.out H4.out.2.2.1 HN4.out.1 HN4.out.2).mono ?_
   rintro e w6 ⟨rfl,_,hk⟩
   have H6:=Hd (H4.out.2.2.2.trans (below_down (below_kp hk) H4.out.2.2.2.size))
   clear hk y1
   go_wp2_with fail
   go_ret
   exact retN rfl H6.out
end Go.Proofs.YtpgnlfdindmopaaGreatDoor
