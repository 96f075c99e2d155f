/- Words and walks for the laws of the interpreter. -/
import Derived.Test.YtpgnlfdindmopaaGreatDoorI5
import Derived.Test.YtpgnlfdindmopaaGreatDoorK2
import Derived.Deep.LoopGhost
import Derived.Deep.AppendLies
import Derived.Carry
import Derived.Deep.RegionWith
namespace Go.Proofs.YtpgnlfdindmopaaGreatDoor
open Go.RowKit (wrap64 intOf)
open Go Go.RowKit WM LX PX CX IX
set_option maxRecDepth 100000
set_option maxHeartbeats 4000000
def XsC (g:Nat):Prop:=∀ (K:Cf)(o:Option Nat)(m:MS)(Vs:IX.Vs)(V:Nat)(s:ST)(r:XR)(cs:List Value)(w:World),CfOK K→xS K.fs g Vs m s=some r→RepS w K.ok s cs→MSt K o m w→VMp K o V m.k Vs w →
 Calls Tryz.prog 87 #[acV K.R V,.agg cs.toArray] w (XrP K V o r w)
theorem acSize:(Tryz.prog.info? 114).map (·.size)=some 2:=by kernel_rfl
def XalR (K:Cf)(V g:Nat)(o:Option Nat)(l:List ST)(r:XR)(W1:World)(len k:Nat)(i:Value)(wr:World):Prop :=
 ∃ (j g':Nat) (m:MS) (Vs:IX.Vs) (o':Option Nat),j+k=len∧i=.int .i64 (j:Int)∧g'≤g∧xL K.fs g' Vs m (l.drop j)=some r∧Step K (some V) o W1 o' wr∧MSt K o' m wr∧VMp K o' V m.k Vs wr
theorem ix_all (g:Nat)(ihs:∀ g',g' < g→XsC g'):XlC g:=fun K o m Vs V l r v w hK hx hl hM hV=>by
 obtain⟨A,cp,rfl,hat⟩:=hl.at
 have hsz:=hM.size hK
 obtain⟨W1,hW1⟩:∃ W1,w.alloc (.cells #[.pointer (some ⟨K.R,0,none⟩),.map (some V)] 114)=W1:=⟨_,rfl⟩
 have hb1:Below w.heap.size w W1:=by rw[←hW1];exact (Below.refl _ _).alloc (Lr _) _
 have j1:Blk W1 w.heap.size 114 #[.pointer (some ⟨K.R,0,none⟩),.map (some V)]:=by rw[←hW1];exact Blk.new _ _ _
 have hSS:∀ i,SS K o i→i < w.heap.size:=hM.lt
 have hVl:=hV.lt
 have hVb:=hV.b
 have hM1:=hM.low hK hb1
 have hstart:XalR K V g o l r W1 l.length l.length (.int .i64 0) W1:=⟨0,g,m,Vs,o,Nat.zero_add _,rfl,Lr _,by rw[List.drop_zero];exact hx,Step.low (Below.refl _ _),hM1,hV.low hb1⟩
 have hfew:l.length≤1000000000:=by
  cases g with
  | zero=>exact (xl_zero hx).elim
  | succ g=>exact xl_few hx
 obtain⟨len,hlen⟩:∃ n,l.length=n:=⟨_,rfl⟩
 obtain⟨R,hRR⟩:∃ R,K.R=R:=⟨_,rfl⟩
 rw[hlen] at hstart hfew ⊢
 rw[hRR] at hW1 j1 ⊢
 have HL:=Hd hlen
 have HS:=Hd (Ai hW1 (Ai hb1 (Ai j1 (Ai hSS (Ai hVl (Ai hVb (Ai hM1 (Ai hat (Ai hsz (Ai hRR hstart))))))))))
 have HK:=Hd hK
 have HI:=Hd ihs
 clear hlen hW1 hb1 j1 hSS hVl hVb hM1 hat hsz hRR hstart hK ihs hl hM hV hx
 go_enter Tryz.func49,Tryz.ntmps49
 go_wp2_with fail
 rw[HS.out.1]
 go_loopg [9] len (fun k i wr=>XalR K V g o l r W1 len k i wr)
 case atStart=>exact HS.out.2.2.2.2.2.2.2.2.2.2
 case round =>
  obtain⟨j,g',m',Vs',o',hj,rfl,hg',hx,hstep,hM',hV'⟩:=hrel
  obtain⟨_,hb1,j1,hSS,hVl,hVb,hM1,hat,hsz,hRR,_⟩:=HS.out
  have hbK:Below K.b W1 wr:=hstep.below HK.out hM1 (fun i e=>by injection e with e;omega)
  have hbw:Below K.b w wr:=(bk hb1 hsz).trans hbK
  cases g' with
  | zero=>exact (xl_zero hx).elim
  | succ g' =>
   by_cases hlt:j < len
   ·obtain⟨x,hxj⟩:∃ x,l[j]?=some x:=⟨_,Ge (by rw[HL.out];exact hlt)⟩
    obtain⟨b,cs,rfl,hb,hrep,hcell⟩:=hat j x hxj
    have hbK':=HK.out.ok b hb
    have hdrop:l.drop j=x :: l.drop (j+1):=by
     rw[List.drop_eq_getElem_cons (by rw[HL.out];exact hlt)]
     congr 1
     exact (Gs.1 hxj).2
    rw[hdrop] at hx
    obtain⟨rs,hrs,hcase⟩:=xl_cons hx
    have hrw:=hrep.keep (w':=wr) (ok':=K.ok) (fun _ h=>h) (fun i hi=>hbw.block i (HK.out.ok i hi))
    have hc:∀ i u,cs[i]?=some u→wr.cell? ⟨b,j * 17+i,none⟩=some u:=fun i u hu=>(Cb (hbw.block b hbK')).trans (hcell i u hu)
    obtain⟨h5,h6⟩:=zCn _ _ _ _ hrep
    have i1:=hstep.blk j1 (fun e=>by have:=hSS _ e;omega) (fun e=>by injection e with e;omega)
    have hcall:∀ W',Below wr.heap.size wr W'→Calls Tryz.prog 87 #[acV K.R V,.agg cs.toArray] W' (XrP K V o' rs W'):=fun W' hW' =>
     HI.out g' (by omega) K o' m' Vs' V x rs cs W' HK.out hrs (hrw.keep (fun _ h=>h) (fun i hi=>hW'.block i (by have:=HK.out.ok i hi;have:=hM'.size HK.out;omega))) (hM'.low HK.out hW') (hV'.low hW')
    rw[hRR] at hcall
    have HB:Hid (∀ W',Below wr.heap.size wr W'→Blk W' w.heap.size 114 #[.pointer (some ⟨R,0,none⟩),.map (some V)]):=Hd (fun W' hW'=>i1.on hW' i1.lt)
    have hsw:=hM'.size HK.out
    have hlb:b < wr.heap.size:=by omega
    have hwl:w.heap.size < wr.heap.size:=i1.lt
    have e1:(j:Int) < (len:Int):=by omega
    have HC:=Hd hc
    have H6:=Hd h6
    have H5:=Hd h5
    have HSZ:Hid ((Tryz.prog.info? 40).map (·.size)=some cs.length):=by rw[h5];exact sizeS
    have HX:=Hd hcall
    have HY:=Hd (Ai hstep (Ai hcase (Ai hbw hsw)))
    clear hc h6 h5 hcall hrw hrep hcell i1 hx hxj hdrop hrs hM' hV' hM1 hbK hb1 j1 hSS hVl hVb hat hsz hRR hb hbK' hstep hcase hbw hsw
    go_wp2_with (first | (refine wpList_load_at rfl 40 _ rfl b (j * 17) rfl cs HC.out _ Tryz.underlying40 rfl HSZ.out ?_) | (refine wpList_store_row rfl _ _ _ rfl wr.heap.size cs.toArray rfl rfl _ _ (Blk.new wr _ _) (by simpa using HSZ.out) (by simp[H5.out]) H6.out ?_) | (refine wpList_load_row rfl 40 _ rfl wr.heap.size rfl 40 cs.toArray (0,0) _ (blk_row (Blk.new wr _ _) _) Tryz.underlying40 rfl (by simpa using HSZ.out) ?_) | (refine wpList_load_row rfl 114 _ rfl w.heap.size rfl 114 _ (0,0) _ (HB.out _ (below_row ((Below.refl _ _).alloc (Lr _) _) (Lr _) _)) Tryz.underlying114 rfl acSize ?_))
    refine (HX.out _ (below_row ((Below.refl _ _).alloc (Lr _) _) (Lr _) _)).mono ?_
    rintro e w3 h3
    obtain⟨b3,rfl,h3⟩:=zCl h3
    have h3:=h3.back (w0:=wr) (below_row ((Below.refl _ _).alloc (Lr _) _) (Lr _) _) HY.out.2.2.2
    have HA:=Hd h3
    clear h3
    rcases HY.out.2.1 with ⟨kk,cc,oo,rfl,rfl⟩ | ⟨m2,V2,rfl,hx2⟩
    ·obtain⟨hx,hend⟩:=HA.out
     obtain rfl:b3=false:=by injection hx with hx;injection hx
     have HF:=Hd (hend.from HY.out.2.2.1)
     clear hx hend HA
     go_wp2_with fail
     go_ret
     exact⟨rfl,HF.out⟩
    ·obtain⟨hx,o5,hs5,hM5,hV5⟩:=HA.out
     obtain rfl:b3=true:=by injection hx with hx;injection hx
     have HF:=Hd (Ai hs5 (Ai hM5 (Ai hV5 hx2)))
     clear hx hs5 hM5 hV5 HA hx2
     go_wp2_with fail
     go_roundg (gk - 1)
     case measure=>omega
     case rel=>exact⟨j+1,g',m2,V2,o5,by omega,by go_num,by omega,HF.out.2.2.2,HY.out.1.to HF.out.1,HF.out.2.1,HF.out.2.2.1⟩
   ·obtain rfl:j=len:=by omega
    rw[List.drop_of_length_le (by rw[HL.out];exact Lr _)] at hx
    obtain rfl:=xl_nil hx
    have HF:=Hd (xrOk (Step.after hb1 hstep) hM' hV')
    clear hx hM' hV' hM1 hbK hb1 j1 hSS hVl hVb hat hsz hRR hstep hbw
    go_wp2_with fail
    go_ret
    exact HF.out
set_option maxRecDepth 100000
set_option maxHeartbeats 4000000
def ArgV (B:Nat)(w:World)(l:List Int)(v:Value):Prop:=∃ A c,v=.slice A l.length c∧∀ (i:Nat)(x:Int),l[i]?=some x→∃ g,A=some ⟨g,0,none⟩∧B≤g∧g < w.heap.size∧w.cell? ⟨g,i,none⟩=some (.int .i64 x)
theorem argV_own {w:World}{B:Nat}{v:Value}{l:List Int}(h:w.ownsRow B 2 1 v l.length (l.map (Value.int .i64))):ArgV B w l v:=by
 have h0:=h
 rcases h with ⟨l1,⟨rfl,l2⟩ | ⟨gg,cap,cur,rfl,l3,l4,l5⟩⟩
 ·exact⟨none,0,by rw[l2],fun i x hx=>by have:=(Gs.1 hx).1;omega⟩
 ·refine⟨some ⟨gg,0,none⟩,cap,rfl,fun i x hx=>⟨gg,rfl,l3,(Array.getElem?_eq_some_iff.1 l4).1,?_⟩⟩
  have:=h0.cells (g:=gg) rfl i (.int .i64 x) (by rw[List.getElem?_map,hx];rfl)
  rwa [show ∀ k,(⟨gg,0,none⟩:Addr).add k=⟨gg,k,none⟩ from fun k=>by unfold Addr.add;split <;> simp_all] at this
theorem ArgV.low {B:Nat}{w w':World}{l:List Int}{v:Value}(h:ArgV B w l v)(hb:Below w.heap.size w w'):ArgV B w' l v:=by
 obtain⟨A,c,hv,h⟩:=h
 refine⟨A,c,hv,fun i x hx=>?_⟩
 obtain⟨g,h1,h0,h2,h3⟩:=h i x hx
 exact⟨g,h1,h0,Ll h2 hb.size,(hb.cell (p:=⟨g,i,none⟩) h2).trans h3⟩
theorem ArgV.weak {B B':Nat}{w:World}{l:List Int}{v:Value}(h:ArgV B w l v)(hb:B'≤B):ArgV B' w l v:=by
 obtain⟨A,c,hv,h⟩:=h
 refine⟨A,c,hv,fun i x hx=>?_⟩
 obtain⟨g,h1,h0,h2⟩:=h i x hx
 exact⟨g,h1,Nat.le_trans hb h0,h2⟩
def ElP (K:Cf)(out:List Int)(q:RL)(w:World)(e:Ending)(w':World):Prop:=match q with
 | .vals l=>∃ v,e=.returned (.tuple #[v,.bool true])∧Below w.heap.size w w'∧ArgV w.heap.size w' l v
 | .trap c=>e=.returned (.tuple #[.slice none 0 0,.bool false])∧EndW K 2 c out w w'
theorem exSize5:(Tryz.prog.info? 36).map (·.size)=some 5:=by kernel_rfl
theorem i64_info2:(Tryz.prog.info? 2).map (fun i=>(i.zero,i.size,i.bytes))=some (some (.int .i64 0),1,8):=by kernel_rfl
theorem acSize2:(Tryz.prog.info? 114).map (·.size)=some 2:=by kernel_rfl
def EvlR (g:Nat)(Vs:IX.Vs)(C:Cs)(es:List PE)(q:RL)(W1:World)(len k:Nat)(v i:Value)(wr:World):Prop :=
 ∃ (j:Nat) (acc:List Int),j+k=len∧acc.length=j∧i=.int .i64 (j:Int)∧evL g Vs C acc (es.drop j)=some q∧Below W1.heap.size W1 wr∧wr.ownsRow W1.heap.size 2 1 v acc.length (acc.map (Value.int .i64))
theorem iv_all (g:Nat){K:Cf}(hK:CfOK K){o:Option Nat}{m:MS}{Vs:IX.Vs}{V c:Nat}{es:List PE}{q:RL}{v:Value}{w:World}(hx:evL g Vs m.C [] es=some q)(hl:RepL RepE 5 w K.ok es v)(hM:MSt K o m w)(hV:VMp K o V c Vs w) :
 Calls Tryz.prog 172 #[acV K.R V,v] w (ElP K m.out q w):=by
 have hfew:=evl_few hx
 obtain⟨A,cp,rfl,hat⟩:=hl.at
 have hsz:=hM.size hK
 obtain⟨W1,hW1⟩:∃ W1,w.alloc (.cells #[.pointer (some ⟨K.R,0,none⟩),.map (some V)] 114)=W1:=⟨_,rfl⟩
 have hb1:Below w.heap.size w W1:=by rw[←hW1];exact (Below.refl _ _).alloc (Lr _) _
 have j1:Blk W1 w.heap.size 114 #[.pointer (some ⟨K.R,0,none⟩),.map (some V)]:=by rw[←hW1];exact Blk.new _ _ _
 have hM1:=hM.low hK hb1
 have hV1:=hV.low hb1
 have hstart:EvlR g Vs m.C es q W1 es.length es.length (.slice none 0 0) (.int .i64 0) W1:=⟨0,[],Nat.zero_add _,rfl,rfl,by rw[List.drop_zero];exact hx,Below.refl _ _,World.ownsRow_nil _ _ _ _⟩
 obtain⟨len,hlen⟩:∃ n,es.length=n:=⟨_,rfl⟩
 obtain⟨R,hRR⟩:∃ R,K.R=R:=⟨_,rfl⟩
 rw[hlen] at hstart hfew ⊢
 rw[hRR] at hW1 j1 ⊢
 have HL:=Hd hlen
 have HS:=Hd (Ai hW1 (Ai hb1 (Ai j1 (Ai hM1 (Ai hV1 (Ai hat (Ai hsz (Ai hRR hstart))))))))
 have HK:=Hd hK
 clear hlen hW1 hb1 j1 hM1 hV1 hat hsz hRR hstart hK hl hM hV hx
 go_enter Tryz.func172,Tryz.ntmps172
 go_wp2_with fail
 rw[HS.out.1]
 go_loopg [6,13] len (fun k v i wr=>EvlR g Vs m.C es q W1 len k v i wr)
 case atStart=>exact HS.out.2.2.2.2.2.2.2.2
 case round =>
  obtain⟨j,acc,hj,hacc,rfl,hx,hbw,hown⟩:=hrel
  obtain⟨_,hb1,j1,hM1,hV1,hat,hsz,hRR,_⟩:=HS.out
  have hbr:Below w.heap.size w wr:=hb1.trans (below_down hbw hb1.size)
  by_cases hlt:j < len
  ·obtain⟨x,hxj⟩:∃ x,es[j]?=some x:=⟨_,Ge (by rw[HL.out];exact hlt)⟩
   obtain⟨b,cs,rfl,hb,hrep,hcell⟩:=hat j x hxj
   have hbK':=HK.out.ok b hb
   have hdrop:es.drop j=x :: es.drop (j+1):=by
    rw[List.drop_eq_getElem_cons (by rw[HL.out];exact hlt)]
    congr 1
    exact (Gs.1 hxj).2
   rw[hdrop] at hx
   obtain⟨rs,hrs,hcase⟩:=evl_cons hx
   have hlow:=fun i (hi:K.ok i)=>hbr.block i (by have:=HK.out.ok i hi;omega)
   have hrw:=hrep.keep (w':=wr) (ok':=K.ok) (fun _ h=>h) hlow
   have hc:∀ i u,cs[i]?=some u→wr.cell? ⟨b,j * 5+i,none⟩=some u:=fun i u hu=>(Cb (hlow b hb)).trans (hcell i u hu)
   obtain⟨k1,n1,x1,o1,A1,L1,c1,hF⟩:=exC_is hrep
   have h5:cs.length=5:=by rw[hF];rfl
   have h6:cs.toArray.all (·.oneCell')=true:=by rw[hF];simp[Value.oneCell']
   have i1:=j1.on hbw j1.lt
   have hcall:∀ W',Below wr.heap.size wr W'→Calls Tryz.prog 50 #[acV K.R V,.agg cs.toArray] W' (EvP K m.out rs W'):=fun W' hW' =>
    ev_any g K o m Vs V c x rs cs W' HK.out hrs (hrw.keep (fun _ h=>h) (fun i hi=>hW'.block i (by have:=HK.out.ok i hi;have:=hbr.size;omega))) (hM1.low HK.out (hbw.trans (below_down hW' hbw.size))) (hV1.low (hbw.trans (below_down hW' hbw.size)))
   rw[hRR] at hcall
   have HB:Hid (∀ W',Below wr.heap.size wr W'→Blk W' w.heap.size 114 #[.pointer (some ⟨R,0,none⟩),.map (some V)]):=Hd (fun W' hW'=>i1.on hW' i1.lt)
   have hlb:b < wr.heap.size:=by have:=hbr.size;omega
   have hwl:w.heap.size < wr.heap.size:=i1.lt
   have e1:(j:Int) < (len:Int):=by omega
   have HC:=Hd hc
   have H6:=Hd h6
   have H5:=Hd h5
   have HSZ:Hid ((Tryz.prog.info? 36).map (·.size)=some cs.length):=by rw[h5];exact exSize5
   have HX:=Hd hcall
   have HY:=Hd (Ai hcase (Ai hbr (Ai hbw hown)))
   have hsW:=hbw.size
   have HSZ2:=Hd hsz
   clear hc h6 h5 hF hcall hrw hrep hcell i1 hx hxj hdrop hrs hM1 hV1 hb1 j1 hat hsz hRR hb hbK' hcase hbr hbw hlow hown
   go_wp2_with (first | (refine wpList_load_at rfl 36 _ rfl b (j * 5) rfl cs HC.out _ Tryz.underlying36 rfl HSZ.out ?_) | (refine wpList_store_row rfl _ _ _ rfl wr.heap.size cs.toArray rfl rfl _ _ (Blk.new wr _ _) (by simpa using HSZ.out) (by simp[H5.out]) H6.out ?_) | (refine wpList_load_row rfl 36 _ rfl wr.heap.size rfl 36 cs.toArray (0,0) _ (blk_row (Blk.new wr _ _) _) Tryz.underlying36 rfl (by simpa using HSZ.out) ?_) | (refine wpList_load_row rfl 114 _ rfl w.heap.size rfl 114 _ (0,0) _ (HB.out _ (below_row ((Below.refl _ _).alloc (Lr _) _) (Lr _) _)) Tryz.underlying114 rfl acSize2 ?_))
   refine (HX.out _ (below_row ((Below.refl _ _).alloc (Lr _) _) (Lr _) _)).mono ?_
   rintro e w3 h3
   obtain⟨n3,b3,rfl,h3⟩:=zA3 h3
   have h3:=h3.back (w0:=wr) (below_row ((Below.refl _ _).alloc (Lr _) _) (Lr _) _) (by have:=HSZ2.out;omega)
   have HA:=Hd h3
   clear h3
   rcases HY.out.1 with ⟨c,rfl,rfl⟩ | ⟨x,rfl,hx2⟩
   ·obtain⟨hx,hend,_⟩:=HA.out
    obtain⟨rfl,rfl⟩:n3=0∧b3=false:=by injection hx with hx;injection hx with hx;simp at hx;exact hx
    have HF:=Hd (hend.from (bk HY.out.2.1 HSZ2.out))
    clear hx hend HA
    go_wp2_with fail
    go_ret2
    exact⟨rfl,HF.out⟩
   ·obtain⟨hx,hb3⟩:=HA.out
    obtain⟨rfl,rfl⟩:n3=x∧b3=true:=by injection hx with hx;injection hx with hx;simp at hx;exact hx
    have hb4:Below W1.heap.size W1 w3:=HY.out.2.2.1.trans (below_down hb3 HY.out.2.2.1.size)
    have hown:=own_on HY.out.2.2.2 hb3
    have hs3:=hb4.size
    obtain⟨i0,hi0,hz0,hz1,hz2⟩:=info_parts i64_info2
    have HF:=Hd (Ai hb4 hx2)
    obtain⟨al,hal⟩:∃ n,acc.length=n:=⟨_,rfl⟩
    obtain⟨xs,hxs⟩:∃ xs,acc.map (Value.int .i64)=xs:=⟨_,rfl⟩
    rw[hal,hxs] at hown
    have hal2:al≤1000000000:=by omega
    have HN:=Hd (Ai hal (Ai hxs hacc))
    clear hx hb3 hb4 HA hx2 hal hxs hacc
    go_wp2_with (refine wpList_append_own_at _ rfl (.tmp 25) (.tmp 27) 41 rfl W1.heap.size 2 i0 _ 1 8 Tryz.underlying41 hi0 hz0 hz1 hz2 rfl (by decide) _ _ _ rfl (hown.alloc _) ⟨w3.heap.size,0,none⟩ 1 1 [.int .i64 n3] rfl rfl (World.news_of_block (heap_alloc_new _ _)) (by simp[Value.oneCell']) (by unfold maxLen;omega) (by omega) (by simp;omega) ?_)
    rintro v' w5 hown' hgr _ hat'
    have hb5:Below W1.heap.size W1 w5:=by
     have ha:=HF.out.1.alloc (Nat.le_trans (Lr _) HF.out.1.size) (.cells #[.int .i64 n3] 2)
     refine⟨hgr.os.trans ha.os,hgr.tape.trans ha.tape,hgr.output.trans ha.output,Nat.le_trans ha.size hgr.size,fun i hi=>(hgr.block i (Ll hi ha.size) (fun e=>?_)).trans (ha.block i hi)⟩
     have:=(hown.lt i e.symm).1
     omega
    have HG:=Hd (Ai hown' hb5)
    clear hown' hb5 hgr hat' hown
    go_wp2_with fail
    go_roundg (gk - 1)
    case measure=>omega
    case rel=>exact⟨j+1,acc++[n3],by omega,by rw[List.length_append,HN.out.2.2];rfl,by go_num,HF.out.2,HG.out.2,by rw[List.map_append,HN.out.2.1,List.length_append,HN.out.1];exact HG.out.1⟩
  ·obtain rfl:j=len:=by omega
   rw[List.drop_of_length_le (by rw[HL.out];exact Lr _)] at hx
   obtain rfl:=evl_nil hx
   have HF:=Hd (Ai hbr ((argV_own hown).weak hb1.size))
   clear hx hM1 hV1 hbw hb1 j1 hat hsz hRR hbr hown
   go_wp2_with fail
   go_ret2
   exact⟨_,rfl,HF.out.1,HF.out.2⟩
set_option maxRecDepth 100000
set_option maxHeartbeats 4000000
def NmS (w:World)(l:List (List UInt8))(v:Value):Prop:=∃ A c,v=.slice A l.length c∧∀ (i:Nat)(x:List UInt8),l[i]?=some x→∃ g,A=some ⟨g,0,none⟩∧g < w.heap.size∧w.cell? ⟨g,i,none⟩=some (.string ⟨x.toArray⟩)
theorem nmS_of {w:World}{ok:Nat→Prop}{l:List (List UInt8)}{v:Value}(h:RepL RepN 1 w ok l v)(hok:∀ g,ok g→g < w.heap.size):NmS w l v:=by
 obtain⟨A,c,hv,hat⟩:=h.at
 refine⟨A,c,hv,fun i x hx=>?_⟩
 obtain⟨g,cs,h1,h2,h3,h4⟩:=hat i x hx
 refine⟨g,h1,hok g h2,?_⟩
 have:=h4 0 (.string ⟨x.toArray⟩) (by rw[show cs=_ from h3];rfl)
 rwa [Nat.mul_one,Nat.add_zero] at this
theorem take_nx2 {α:Type}{l:List α}{j:Nat}{x:α}(h:l[j]?=some x):l.take (j+1)=l.take j++[x]:=by
 obtain⟨hj,rfl⟩:=Gs.1 h
 exact List.take_succ_eq_append_getElem hj
def PaR (ps:List (List UInt8))(ag:List Int)(l1 V:Nat)(W1:World)(k:Nat)(i:Value)(wr:World):Prop :=
 ∃ j:Nat,j+k=l1∧i=.int .i64 (j:Int)∧Gr (fun i=>i=V) W1 wr∧∃ g,HMp V j g wr∧∀ x,(g x).getD (.int .i64 0)=.int .i64 (putL (fun _=>0) (ps.take j) (ag.take j) x)
def Pa2 (V0:Vs)(ls:List (List UInt8))(l2 V:Nat)(W1:World)(k:Nat)(i:Value)(wr:World):Prop :=
 ∃ j:Nat,j+k=l2∧i=.int .i64 (j:Int)∧Gr (fun i=>i=V) W1 wr∧∃ g,HMp V (1000+j) g wr∧∀ x,(g x).getD (.int .i64 0)=.int .i64 (zeroL V0 (ls.take j) x)
theorem zeroL_app (ls qs:List (List UInt8)):∀ V:Vs,zeroL V (ls++qs)=zeroL (zeroL V ls) qs:=by
 induction ls with
 | nil=>intro V;rfl
 | cons a r ih=>intro V;rw[List.cons_append,zeroL,zeroL];exact ih _
theorem zeroL_snoc {V0:Vs}{ls:List (List UInt8)}{j:Nat}{x:List UInt8}(hx:ls[j]?=some x):zeroL V0 (ls.take (j+1))=upd (zeroL V0 (ls.take j)) x 0:=by
 rw[take_nx2 hx,zeroL_app]
 rfl
theorem putL_long (ps:List (List UInt8)):∀ (ag:List Int)(j:Nat),ps.length=j→j≤ag.length→∀ V,putL V ps (ag.take j)=putL V ps ag:=by
 induction ps with
 | nil=>intro ag j _ _ V;rfl
 | cons p r ih =>
  intro ag j hj hl V
  cases j with
  | zero=>simp at hj
  | succ j =>
   cases ag with
   | nil=>simp at hl
   | cons a s =>
    rw[List.take_succ_cons,putL,putL]
    exact ih s j (by simpa using hj) (by simpa using hl) _
theorem putL_app (ps qs:List (List UInt8)):∀ (as' bs:List Int)(V:Vs),ps.length=as'.length→putL V (ps++qs) (as'++bs)=putL (putL V ps as') qs bs:=by
 induction ps with
 | nil =>
  intro as' bs V h
  cases as' with
  | nil=>cases qs <;> rfl
  | cons a r=>simp at h
 | cons p r ih =>
  intro as' bs V h
  cases as' with
  | nil=>simp at h
  | cons a s =>
   rw[List.cons_append,List.cons_append,putL,putL]
   exact ih s bs _ (by simpa using h)
theorem putL_snoc {ps:List (List UInt8)}{ag:List Int}{j:Nat}{x:List UInt8}{a:Int}(hx:ps[j]?=some x)(ha:ag[j]?=some a):putL (fun _=>0) (ps.take (j+1)) (ag.take (j+1))=upd (putL (fun _=>0) (ps.take j) (ag.take j)) x a:=by
 rw[take_nx2 hx,take_nx2 ha,putL_app _ _ _ _ _ (by rw[List.length_take,List.length_take];have:=(Gs.1 hx).1;have:=(Gs.1 ha).1;omega)]
 rfl
theorem new_act (R:Nat)(ps ls:List (List UInt8))(ag:List Int)(av:Value)(cs:List Value)(v1 v2:Value)(w:World)(d1:cs[1]?=some v1)(d2:cs[2]?=some v2)(hp:NmS w ps v1)(hl:NmS w ls v2)(ha:ArgV 0 w ag av)(hle:ps.length≤ag.length)(hf1:ps.length≤1000)(hf2:ls.length≤1000)
 (ho1:∀ x∈ps,x.length≤1000000000) (ho2:∀ x∈ls,x.length≤1000000000) :
 Calls Tryz.prog 48 #[.pointer (some ⟨R,0,none⟩),.agg cs.toArray,av] w (fun e w'=>∃ V,e=.returned (acV R V)∧w.heap.size≤V∧Below w.heap.size w w'∧∃ g,HMp V 3000 g w'∧∀ x,(g x).getD (.int .i64 0)=.int .i64 (zeroL (putL (fun _=>0) ps ag) ls x)):=by
 obtain⟨A1,c1,rfl,hp⟩:=hp
 obtain⟨A2,c2,rfl,hl⟩:=hl
 obtain⟨A3,c3,rfl,ha⟩:=ha
 have hmm:=@run_makeMap Tryz.prog
 obtain⟨l1,hl1⟩:∃ n,ps.length=n:=⟨_,rfl⟩
 obtain⟨l2,hl2⟩:∃ n,ls.length=n:=⟨_,rfl⟩
 obtain⟨l3,hl3⟩:∃ n,ag.length=n:=⟨_,rfl⟩
 rw[hl1] at d1 hle hf1
 rw[hl2] at d2 hf2
 rw[hl3] at hle ⊢
 obtain⟨W1,hW1⟩:∃ W1,(((w.alloc (.cells cs.toArray 38)).alloc (.cells #[.pointer none,.map none] 114)).alloc (.map #[] 0)).alloc (.cells #[.pointer (some ⟨R,0,none⟩),.map (some (w.heap.size+1+1))] 114)=W1:=⟨_,rfl⟩
 have hb0:Below w.heap.size w ((w.alloc (.cells cs.toArray 38)).alloc (.cells #[.pointer none,.map none] 114)):=((Below.refl _ _).alloc (Lr _) _).alloc (by simp) _
 have hb1:Below w.heap.size w W1:=by rw[←hW1];exact (hb0.alloc (by simp;omega) _).alloc (by simp;omega) _
 have k0:Blk W1 w.heap.size 38 cs.toArray:=by rw[←hW1];exact (((Blk.new _ _ _).alloc _).alloc _).alloc _
 have k1:Blk W1 (w.heap.size+1) 114 #[.pointer none,.map none]:=by rw[←hW1];exact ((blk_at (by simp) _ _).alloc _).alloc _
 have k3:Blk W1 (w.heap.size+1+1+1) 114 #[.pointer (some ⟨R,0,none⟩),.map (some (w.heap.size+1+1))]:=by rw[←hW1];exact blk_at (by simp) _ _
 have hz1:W1.heap.size=w.heap.size+1+1+1+1:=by rw[←hW1];simp
 have hm0:HMp (w.heap.size+1+1) 0 (fun _=>none) W1:=by
  have h0:=hmp_made ((w.alloc (.cells cs.toArray 38)).alloc (.cells #[.pointer none,.map none] 114))
  rw[show ((w.alloc (.cells cs.toArray 38)).alloc (.cells #[.pointer none,.map none] 114)).heap.size=w.heap.size+1+1 by simp] at h0
  rw[←hW1]
  exact h0.same (Below.heap_alloc _ _ _ (by simp))
 have hcw:∀ W,Gr (fun i=>i=w.heap.size+1+1) W1 W→∀ b i,b < w.heap.size→W.cell? ⟨b,i,none⟩=w.cell? ⟨b,i,none⟩:=fun W hW b i hb=>(Cb (hW.block b (by omega) (by omega))).trans (hb1.cell (p:=⟨b,i,none⟩) hb)
 have H:=Hd (Ai hp (Ai hl (Ai ha (Ai ho1 (Ai ho2 (Ai hl1 (Ai hl2 hl3)))))))
 have HW:=Hd (Ai hW1 (Ai hb1 (Ai k0 (Ai k1 (Ai k3 (Ai hz1 (Ai hm0 hcw)))))))
 have HD:=Hd (Ai d1 d2)
 clear hp hl ha ho1 ho2 hl1 hl2 hl3 hW1 hb0 hb1 k0 k1 k3 hz1 hm0 hcw
 go_enter Tryz.func48,Tryz.ntmps48
 go_wp2_with fail
 rw[HW.out.1]
 clear d1 d2
 go_loopg [18] l1 (fun k i wr=>PaR ps ag l1 (w.heap.size+1+1) W1 k i wr)
 case atStart=>exact⟨0,Nat.zero_add _,rfl,Gr.refl _ _,_,HW.out.2.2.2.2.2.2.1,fun x=>rfl⟩
 case round =>
  obtain⟨j,hj,rfl,hgr,g,hm,hg⟩:=hrel
  obtain⟨_,hb1,k0,k1,k3,hz1,_,hcw⟩:=HW.out
  obtain⟨hp,hl,ha,ho1,ho2,hl1,hl2,hl3⟩:=H.out
  have hws:=hgr.size
  have kk:Blk wr (w.heap.size+1+1+1) 114 #[.pointer (some ⟨R,0,none⟩),.map (some (w.heap.size+1+1))]:=(hgr.block _ k3.lt (by omega)).trans k3
  have k00:Blk wr w.heap.size 38 cs.toArray:=(hgr.block _ k0.lt (by omega)).trans k0
  by_cases hlt:j < l1
  ·obtain⟨x,hx⟩:∃ x,ps[j]?=some x:=⟨_,Ge (by omega)⟩
   obtain⟨a,hax⟩:∃ a,ag[j]?=some a:=⟨_,Ge (by omega)⟩
   obtain⟨gp,rfl,hgp,hcp⟩:=hp j x hx
   obtain⟨ga,rfl,_,hga,hca⟩:=ha j a hax
   have y1:wr.cell? ⟨gp,j,none⟩=some (.string ⟨x.toArray⟩):=(hcw wr hgr gp j hgp).trans hcp
   have y2:wr.cell? ⟨ga,j,none⟩=some (.int .i64 a):=(hcw wr hgr ga j hga).trans hca
   have y3:wr.cell? ⟨w.heap.size+1+1+1,1,none⟩=some (.map (some (w.heap.size+1+1))):=kk.cell 1
   obtain⟨w4,r1,r2,r3⟩:=(hm.same (w':=wr.drew) rfl).put mapV (by unfold maxLen;omega) x (ho1 x (List.mem_of_getElem? hx)) (.int .i64 a)
   obtain⟨sx,hsx⟩:∃ sx:ByteArray,(⟨x.toArray⟩:ByteArray)=sx:=⟨_,rfl⟩
   rw[hsx] at r1 y1
   have e1:(j:Int) < (l1:Int):=by omega
   have e2:(j:Int) < (l3:Int):=by omega
   have hfin:PaR ps ag l1 (w.heap.size+1+1) W1 (gk - 1) (.int .i64 ((j+1:Nat):Int)) w4:=by
    refine⟨j+1,by omega,rfl,gr_to hgr (zCc (⟨r3.os,r3.tape,r3.output,r3.size,r3.block⟩:wr.grownBy w4 (some (w.heap.size+1+1)))),_,r2,fun y=>?_⟩
    rw[putL_snoc hx hax]
    unfold upd
    by_cases hxy:x=y
    ·rw[if_pos hxy,if_pos hxy];rfl
    ·rw[if_neg hxy,if_neg hxy];exact hg y
   have H4:=Hd hfin
   have hpw:gp < wr.heap.size:=by omega
   have haw:ga < wr.heap.size:=by omega
   have hkw:=kk.lt
   clear hp hl ha ho1 ho2 hl1 hl2 hl3 hx hax hcp hca hm hg hgr hcw hb1 k0 k1 k3 kk k00 hfin r2 r3 hsx
   go_wp2_with fail
   go_region_with fail
   all_goals
    go_wp2_with fail
    go_roundg (gk - 1)
    case measure=>omega
    case rel=>exact H4.out
  ·obtain rfl:j=l1:=by omega
   have y2:wr.cell? ⟨w.heap.size,2,none⟩=some (.slice A2 l2 c2):=by rw[k00.cell 2];simpa using HD.out.2
   have hm2:Pa2 (putL (fun _=>0) ps ag) ls l2 (w.heap.size+1+1) W1 l2 (.int .i64 0) wr:=by
    refine⟨0,Nat.zero_add _,rfl,hgr,g,hm.mono (by omega),fun y=>?_⟩
    rw[hg y,List.take_of_length_le (by omega)]
    rw[List.take_zero]
    rw[putL_long ps ag j (by omega) (by omega)]
    rfl
   have HM:=Hd hm2
   clear hp hl ha ho1 ho2 hl1 hl2 hl3 hgr hm hg hcw hb1 k0 k1 k3 kk k00 hm2
   have hwl:w.heap.size < wr.heap.size:=by omega
   go_wp2_with fail
   go_loopg [34] l2 (fun k i wr=>Pa2 (putL (fun _=>0) ps ag) ls l2 (w.heap.size+1+1) W1 k i wr)
   case atStart=>exact HM.out
   case round =>
    obtain⟨j2,hj2,rfl,hgr,g,hm,hg⟩:=hrel
    obtain⟨_,hb1,k0,k1,k3,hz1,_,hcw⟩:=HW.out
    obtain⟨hp,hl,ha,ho1,ho2,hl1,hl2,hl3⟩:=H.out
    have hws2:=hgr.size
    have kk:Blk wr (w.heap.size+1+1+1) 114 #[.pointer (some ⟨R,0,none⟩),.map (some (w.heap.size+1+1))]:=(hgr.block _ k3.lt (by omega)).trans k3
    have k11:Blk wr (w.heap.size+1) 114 #[.pointer none,.map none]:=(hgr.block _ k1.lt (by omega)).trans k1
    have y3:wr.cell? ⟨w.heap.size+1+1+1,1,none⟩=some (.map (some (w.heap.size+1+1))):=kk.cell 1
    by_cases hlt2:j2 < l2
    ·obtain⟨x,hx⟩:∃ x,ls[j2]?=some x:=⟨_,Ge (by omega)⟩
     obtain⟨gp,rfl,hgp,hcp⟩:=hl j2 x hx
     have y1:wr.cell? ⟨gp,j2,none⟩=some (.string ⟨x.toArray⟩):=(hcw wr hgr gp j2 hgp).trans hcp
     obtain⟨w4,r1,r2,r3⟩:=hm.put mapV (by unfold maxLen;omega) x (ho2 x (List.mem_of_getElem? hx)) (.int .i64 0)
     obtain⟨sx,hsx⟩:∃ sx:ByteArray,(⟨x.toArray⟩:ByteArray)=sx:=⟨_,rfl⟩
     rw[hsx] at r1 y1
     have e1:(j2:Int) < (l2:Int):=by omega
     have hfin:Pa2 (putL (fun _=>0) ps ag) ls l2 (w.heap.size+1+1) W1 (gk - 1) (.int .i64 ((j2+1:Nat):Int)) w4:=by
      refine⟨j2+1,by omega,rfl,gr_to hgr (zCc r3),_,r2,fun y=>?_⟩
      rw[zeroL_snoc hx]
      unfold upd
      by_cases hxy:x=y
      ·rw[if_pos hxy,if_pos hxy];rfl
      ·rw[if_neg hxy,if_neg hxy];exact hg y
     have H4:=Hd hfin
     have hpw:gp < wr.heap.size:=by omega
     have hkw:=kk.lt
     clear hp hl ha ho1 ho2 hl1 hl2 hl3 hx hcp hm hg hgr hcw hb1 k0 k1 k3 kk k11 hfin r2 r3 hsx
     go_wp2_with fail
     go_roundg (gk - 1)
     case measure=>omega
     case rel=>exact H4.out
    ·obtain rfl:j2=l2:=by omega
     have hbw:Below w.heap.size w wr:=hb1.trans (hgr.under (fun i e=>by omega) (by omega))
     have y30:wr.cell? ⟨w.heap.size+1+1+1,0,none⟩=some (.pointer (some ⟨R,0,none⟩)):=kk.cell 0
     have hmf:∃ g,HMp (w.heap.size+1+1) 3000 g (wr.setRow (w.heap.size+1) #[.pointer (some ⟨R,0,none⟩),.map (some (w.heap.size+1+1))])∧∀ x,(g x).getD (.int .i64 0)=.int .i64 (zeroL (putL (fun _=>0) ps ag) ls x) :=
      ⟨g,(hm.mono (by omega)).same (zBi _ _ _ _ (by omega)),fun y=>by rw[hg y,List.take_of_length_le (by omega)]⟩
     have HF:=Hd (Ai (zBu hbw (g:=w.heap.size+1) (by omega) #[.pointer (some ⟨R,0,none⟩),.map (some (w.heap.size+1+1))]) hmf)
     have HK1:=Hd k11
     clear hp hl ha ho1 ho2 hl1 hl2 hl3 hm hg hgr hcw hb1 k0 k1 k3 kk k11 hbw hmf
     go_wp2_with (refine wpList_store_row rfl _ _ _ rfl (w.heap.size+1) #[.pointer (some ⟨R,0,none⟩),.map (some (w.heap.size+1+1))] rfl rfl _ _ HK1.out acSize2 rfl (by simp[Value.oneCell']) ?_)
     exact bodyPost_ret (results_cell_row rfl _ _ _ _ _ _ _ rfl (zBc HK1.out _) Tryz.underlying114 rfl acSize2) rfl ⟨w.heap.size+1+1,rfl,by omega,HF.out.1,HF.out.2⟩
set_option maxRecDepth 100000
set_option maxHeartbeats 4000000
def XcC (g:Nat):Prop:=∀ (K:Cf)(o:Option Nat)(m:MS)(f:FN)(ag:List Int)(q:CR)(cs:List Value)(av:Value)(w:World),CfOK K→xC K.fs g m f ag=some q→RepF w K.ok f cs→ArgV 0 w ag av→MSt K o m w →
 Calls Tryz.prog 25 #[.pointer (some ⟨K.R,0,none⟩),.agg cs.toArray,av] w (CrP K o q w)
theorem step_out {K:Cf}{o o':Option Nat}{V:Nat}{w w1 w2:World}(hb:Below w.heap.size w w1)(h:Step K (some V) o w1 o' w2)(hV:w.heap.size≤V):Step K none o w o' w2:=by
 have h2:=Step.after hb h
 exact⟨h2.g.weak (fun i hi e=>by
  rcases e with e | e
  ·exact Or.inl e
  ·injection e with e;omega),h2.oo⟩
theorem all_ok {l:List (List UInt8)}(h:l.all nmOK=true):∀ x∈l,x.length≤1000000000:=fun x hx=>of_decide_eq_true (List.all_eq_true.1 h x hx)
theorem ix_call (g:Nat)(ihl:XlC g):XcC (g+1):=fun K o m f ag q cs av w hK hx hF hA hM=>by
 obtain⟨hfit,rb,hrb,hcase⟩:=xc_step hx
 unfold fitB at hfit
 simp only[Bool.and_eq_true,decide_eq_true_eq] at hfit
 obtain⟨f1,f2,f3,f4,f5⟩:=hfit
 obtain⟨A1,c1,A2,c2,A3,c3,kd,nn,nm,op,A,L,c,rfl,r1,r2,r3,r4⟩:=fun_of hF
 have hsz:=hM.size hK
 have hSS:∀ i,SS K o i→i < w.heap.size:=hM.lt
 have hRlt:K.R < w.heap.size:=hM.lt _ (Or.inl rfl)
 obtain⟨_,_,hFm,_⟩:=hM.F
 obtain⟨_,_,hCm,_⟩:=hM.A
 have hFl:=hFm.lt
 have hCl:=hCm.lt
 obtain⟨cs,hcs⟩:∃ cs,[Value.string ⟨f.name.toArray⟩,.slice A1 f.params.length c1,.slice A2 f.locals.length c2,.slice A3 f.body.length c3,.int .i64 kd,.int .i64 nn,.string ⟨nm.toArray⟩,.int .i64 op,.slice A L c]=cs:=⟨_,rfl⟩
 have d1:cs[1]?=some (.slice A1 f.params.length c1):=by rw[←hcs];rfl
 have d2:cs[2]?=some (.slice A2 f.locals.length c2):=by rw[←hcs];rfl
 have d3:cs[3]?=some (.slice A3 f.body.length c3):=by rw[←hcs];rfl
 have d4:cs[4]?=some (.int .i64 kd):=by rw[←hcs];rfl
 have d5:cs[5]?=some (.int .i64 nn):=by rw[←hcs];rfl
 have d6:cs[6]?=some (.string ⟨nm.toArray⟩):=by rw[←hcs];rfl
 have d7:cs[7]?=some (.int .i64 op):=by rw[←hcs];rfl
 have d8:cs[8]?=some (.slice A L c):=by rw[←hcs];rfl
 have h9:cs.length=9:=by rw[←hcs];rfl
 rw[hcs]
 obtain⟨W1,hW1⟩:∃ W1,w.alloc (.cells cs.toArray 38)=W1:=⟨_,rfl⟩
 have hb1:Below w.heap.size w W1:=by rw[←hW1];exact (Below.refl _ _).alloc (Lr _) _
 have k1:Blk W1 w.heap.size 38 cs.toArray:=by rw[←hW1];exact Blk.new _ _ _
 have hz1:W1.heap.size=w.heap.size+1:=by rw[←hW1];simp
 have hok1:∀ g,K.ok g→g < W1.heap.size:=fun g hg=>by have:=hK.ok g hg;omega
 have hkeep:=fun (W:World) (hW:Below K.b w W) (i:Nat) (hi:K.ok i)=>hW.block i (hK.ok i hi)
 have hbk1:Below K.b w W1:=bk hb1 hsz
 have hna:=new_act K.R f.params f.locals ag av cs _ _ W1 d1 d2 (nmS_of (r1.keep keepsN (fun _ h=>h) (hkeep W1 hbk1)) hok1) (nmS_of (r2.keep keepsN (fun _ h=>h) (hkeep W1 hbk1)) hok1) (hA.low hb1) f1 f2 f3 (all_ok f4) (all_ok f5)
 obtain⟨R,hRR⟩:∃ R,K.R=R:=⟨_,rfl⟩
 rw[hRR] at hna hRlt ⊢
 have HNA:=Hd hna
 have HW:=Hd (Ai hW1 (Ai hb1 (Ai k1 (Ai hsz (Ai hSS (Ai hM (Ai hRR (Ai r3 r4))))))))
 have HX:=Hd (Ai hrb (Ai hcase (Ai hkeep h9)))
 have HD:=Hd (Ai d3 (Ai d4 (Ai d5 (Ai d6 (Ai d7 d8)))))
 have HK:=Hd hK
 have HI:=Hd ihl
 have HH:=Hd (Ai hFl hCl)
 clear hna hW1 hb1 k1 hsz hSS hM hRR r1 r2 r3 r4 hrb hcase hkeep h9 d1 d2 d3 d4 d5 d6 d7 d8 hK ihl hF hA hx f1 f2 f3 f4 f5 hcs hok1 hbk1 hFl hCl hFm hCm
 have HS9:Hid ((Tryz.prog.info? 38).map (·.size)=some cs.toArray.size):=by rw[show cs.toArray.size=9 from by simpa using HX.out.2.2.2];exact fnSize
 go_enter Tryz.func25,Tryz.ntmps25
 go_wp2_with (refine wpList_load_row rfl 38 _ rfl w.heap.size rfl 38 cs.toArray (0,0) _ (Blk.new w _ _) Tryz.underlying38 rfl HS9.out ?_)
 rw[HW.out.1]
 refine HNA.out.mono ?_
 rintro e w2 ⟨V,rfl,hVn,hb2,hmap⟩
 obtain⟨_,hb1,k1,hsz,hSS,hM,hRR,r3,r4⟩:=HW.out
 obtain⟨hrb,hcase,hkeep,_⟩:=HX.out
 have hK:=HK.out
 have hz2:=hb2.size
 obtain⟨W3,hW3⟩:∃ W3,w2.alloc (.cells #[.pointer (some ⟨R,0,none⟩),.map (some V)] 114)=W3:=⟨_,rfl⟩
 have hb3:Below w2.heap.size w2 W3:=by rw[←hW3];exact (Below.refl _ _).alloc (Lr _) _
 have k3:Blk W3 w2.heap.size 114 #[.pointer (some ⟨R,0,none⟩),.map (some V)]:=by rw[←hW3];exact Blk.new _ _ _
 have hw3:Below w.heap.size w W3:=hb1.trans (below_down (hb2.trans (below_down hb3 hz2)) (by omega))
 have k13:Blk W3 w.heap.size 38 cs.toArray:=(k1.on hb2 k1.lt).on hb3 (by omega)
 have hM3:=hM.low hK hw3
 obtain⟨gm,hg1,hg2⟩:=hmap
 have hVl:V < w2.heap.size:=hg1.lt
 have hV3:VMp K o V m.k (actV f ag) W3:=⟨⟨gm,(hg1.same (hb3.block V hVl)).mono (by omega),hg2⟩,by omega,⟨by have:=HH.out.1;omega,by have:=HH.out.2;omega⟩,fun e=>by have:=hSS V e;omega⟩
 have hcl:=HI.out K o m (actV f ag) V f.body rb _ W3 hK hrb (r3.keep keepsS (fun _ h=>h) (hkeep W3 (bk hw3 hsz))) hM3 hV3
 rw[hRR] at hcl
 have u0:W3.cell? ⟨w2.heap.size,0,none⟩=some (.pointer (some ⟨R,0,none⟩)):=k3.cell 0
 have u1:W3.cell? ⟨w2.heap.size,1,none⟩=some (.map (some V)):=k3.cell 1
 have y3:w2.cell? ⟨w.heap.size,3,none⟩=some (.slice A3 f.body.length c3):=by rw[(k1.on hb2 k1.lt).cell 3];simpa using HD.out.1
 obtain⟨l3,hl3⟩:∃ n,f.body.length=n:=⟨_,rfl⟩
 rw[hl3] at hcl y3
 have hwl:w.heap.size < w2.heap.size:=by omega
 have HC:=Hd hcl
 have HY:=Hd (Ai hW3 (Ai hw3 (Ai k3 (Ai k13 (Ai hM3 (Ai hV3 (Ai hVl hVn)))))))
 clear hb1 k1 hsz hSS hM hRR r3 r4 hrb hcase hkeep hK hb2 hVn hb3 k3 hw3 k13 hM3 hg1 hg2 hVl hV3 hcl hW3 hl3
 go_wp2_with fail
 rw[HY.out.1]
 refine HC.out.mono ?_
 rintro e w4 h4
 obtain⟨b4,rfl,h4⟩:=zCl h4
 have HA:=Hd h4
 clear h4
 rcases HX.out.2.1 with ⟨kk,cc,oo,rfl,rfl⟩ | ⟨m',V',rfl,rv,hrv,hres⟩
 ·obtain⟨hx,hend⟩:=HA.out
  obtain rfl:b4=false:=by injection hx with hx;injection hx
  have HF:=Hd (hend.from (bk HY.out.2.1 HW.out.2.2.2.1))
  clear hx hend HA
  go_wp2_with fail
  go_ret2
  exact⟨rfl,HF.out⟩
 ·obtain⟨hx,o5,hs5,hM5,hV5⟩:=HA.out
  obtain rfl:b4=true:=by injection hx with hx;injection hx
  obtain⟨hW3,hw3,k3,k13,hM3,hV3,hVl,hVn⟩:=HY.out
  obtain⟨_,hb1,k1,hsz,hSS,hM,hRR,r3,r4⟩:=HW.out
  have hz3:=k3.lt
  have i3:=hs5.blk k3 (fun e=>by have:=hSS _ e;omega) (fun e=>by injection e with e;omega)
  have i1:=hs5.blk k13 (fun e=>by have:=hSS _ e;omega) (fun e=>by injection e with e;omega)
  have hbK:Below K.b w w4:=(bk hw3 hsz).trans (hs5.below HK.out hM3 (fun i e=>by injection e with e;rw[←e];exact hV3.b))
  have hev:=ev_any g K o5 m' V' V m'.k f.value rv _ w4 HK.out hrv (r4.keep (fun _ h=>h) (HX.out.2.2.1 w4 hbK)) hM5 hV5
  have hev:Calls Tryz.prog 50 #[acV K.R V,.agg #[.int .i64 kd,.int .i64 nn,.string ⟨nm.toArray⟩,.int .i64 op,.slice A L c]] w4 (EvP K m'.out rv w4):=hev
  rw[hRR] at hev
  obtain⟨sx,hsx⟩:∃ sx:ByteArray,(⟨nm.toArray⟩:ByteArray)=sx:=⟨_,rfl⟩
  have x0:w4.cell? ⟨w2.heap.size,0,none⟩=some (.pointer (some ⟨R,0,none⟩)):=i3.cell 0
  have x1:w4.cell? ⟨w2.heap.size,1,none⟩=some (.map (some V)):=i3.cell 1
  have y4:w4.cell? ⟨w.heap.size,4,none⟩=some (.int .i64 kd):=by rw[i1.cell 4];simpa using HD.out.2.1
  have y5:w4.cell? ⟨w.heap.size,5,none⟩=some (.int .i64 nn):=by rw[i1.cell 5];simpa using HD.out.2.2.1
  have y6:w4.cell? ⟨w.heap.size,6,none⟩=some (.string ⟨nm.toArray⟩):=by rw[i1.cell 6];simpa using HD.out.2.2.2.1
  have y7:w4.cell? ⟨w.heap.size,7,none⟩=some (.int .i64 op):=by rw[i1.cell 7];simpa using HD.out.2.2.2.2.1
  have y8:w4.cell? ⟨w.heap.size,8,none⟩=some (.slice A L c):=by rw[i1.cell 8];simpa using HD.out.2.2.2.2.2
  rw[hsx] at hev y6
  have HE:=Hd hev
  have hout:=step_out (w:=w) hw3 hs5 (by omega)
  have HF:=Hd (Ai hout (Ai hM5 hbK))
  clear hx hs5 hM5 hV5 HA hW3 hw3 k3 k13 hM3 hV3 hVl hVn hb1 k1 hsz hSS hM hRR r3 r4 i3 i1 hbK hev hsx hrv hout
  go_wp2_with fail
  refine HE.out.mono ?_
  rintro e w5 h5
  obtain⟨n5,b5,rfl,h5⟩:=zA3 h5
  have HG:=Hd h5
  clear h5
  rcases hres with ⟨c9,rfl,rfl⟩ | ⟨x,rfl,rfl⟩
  ·obtain⟨hx,hend,_⟩:=HG.out
   obtain⟨rfl,rfl⟩:n5=0∧b5=false:=by injection hx with hx;injection hx with hx;simp at hx;exact hx
   have HZ:=Hd (hend.from HF.out.2.2)
   clear hx hend HG
   go_wp2_with fail
   go_ret2
   exact⟨rfl,HZ.out⟩
  ·obtain⟨hx,hb5⟩:=HG.out
   obtain⟨rfl,rfl⟩:n5=x∧b5=true:=by injection hx with hx;injection hx with hx;simp at hx;exact hx
   have HZ:=Hd hb5
   clear hx hb5 HG
   go_wp2_with fail
   go_ret2
   exact⟨rfl,o5,HF.out.1.to (Step.low HZ.out),HF.out.2.1.low HK.out HZ.out⟩
end Go.Proofs.YtpgnlfdindmopaaGreatDoor
