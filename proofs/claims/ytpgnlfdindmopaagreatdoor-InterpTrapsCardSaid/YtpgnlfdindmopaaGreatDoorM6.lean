/- Words and walks for the laws of the interpreter. -/
import Derived.Test.YtpgnlfdindmopaaGreatDoorM5
import Derived.Test.YtpgnlfdindmopaaGreatDoorJ8
namespace Go.Proofs.YtpgnlfdindmopaaGreatDoor
open Go.RowKit (wrap64 intOf)
open Go Go.RowKit WM LX PX
set_option maxRecDepth 100000
set_option maxHeartbeats 4000000
theorem Coll.fs {α:Type}{Rep:World→(Nat→Prop)→α→List Value→Prop}{sz:Nat}{E:TypeId}{B:Nat}{xs:List α}{css:List (List Value)}{v:Value}{w:World}(c:Coll Rep sz E B xs css v w)(hk:Keeps Rep){a:Addr}(ha:a.block < B)(u:Value):Coll Rep sz E B xs css v (w.setCell a u) :=
 ⟨own_set c.own ha u,c.len,c.szs,fun i x cs hx hc=>hk.k (c.rep i x cs hx hc) (fun g h=>⟨h.1,by rw[zBq];exact h.2.1,h.2.2⟩) (fun g h=>Below.heap_setCell w a u g (fun e=>by have:=h.1;omega))⟩
theorem Coll.form' {α:Type}{Rep:World→(Nat→Prop)→α→List Value→Prop}{sz:Nat}{E:TypeId}{B:Nat}{xs:List α}{css:List (List Value)}{v:Value}{w:World}(c:Coll Rep sz E B xs css v w):∃ A cp,v=.slice A xs.length cp:=by
 rw[c.len]
 rcases c.own.2 with ⟨rfl,h⟩ | ⟨g,cap,cur,hv,_⟩
 ·exact⟨none,0,by rw[h]⟩
 ·exact⟨_,cap,hv⟩
theorem ROwn.rowg {ts:List Tk}{en p:Nat}{q:PS}{t:TypeId}{cs:Array Value}{w w1 w2:World}{row:Option Nat}(o:ROwn ts en p q t cs w w1)(g:w1.grownBy w2 row)(hrow:∀ k,row=some k→w.heap.size < k):ROwn ts en p q t cs w w2 :=
 ⟨zCt o.g g (fun k hk=>Nat.le_of_lt (hrow k hk)),o.s.row g (fun k hk=>Nat.lt_trans o.p (hrow k hk)),(g.block _ o.r.lt (fun e=>by have:=hrow _ e.symm;omega)).trans o.r,o.p⟩
theorem Blk.rowg {w w':World}{g:Nat}{t:TypeId}{cs:Array Value}{row:Option Nat}(h:Blk w g t cs)(hg:w.grownBy w' row)(hrow:∀ k,row=some k→g < k):Blk w' g t cs:=(hg.block g h.lt (fun e=>by have:=hrow g e.symm;omega)).trans h
def RArR (ts:List Tk)(en p:Nat)(nm0 nm2:List UInt8)(l:List PE)(s4:PS)(w:World)(k n:Nat)(wr:World):Prop :=
 ∃ (s':PS) (acc:List PE) (css:List (List Value)) (v:Value),acc++(rarF ts k (!acc.isEmpty) s').1=l∧(rarF ts k (!acc.isEmpty) s').2=s4∧20 * ms ts s'+16≤k+min acc.length 1∧k≤n∧acc.length+ms ts s'≤ts.length+1+min acc.length 1 ∧
  ROwn ts en p s' 40 st0 w wr∧Blk wr (w.heap.size+1) 40 #[.int .i64 6,.string ⟨nm0.toArray⟩,.string ⟨nm2.toArray⟩,.int .i64 0,.int .i64 0,.int .i64 0,.string ⟨#[]⟩,.int .i64 0,.slice none 0 0,.int .i64 0,.int .i64 0,.string ⟨#[]⟩,.int .i64 0,.slice none 0 0,v,.slice none 0 0,.slice none 0 0]∧Coll RepE 5 36 (w.heap.size+2) acc css v wr
theorem rag_call (ts:List Tk)(en p n:Nat)(s:PS)(q:ST × PS)(w:World)(hq:Hid (ragF ts n s=q))(hm:20 * ms ts s+15≤n)(h:RSt ts en p s w)(hx:rAt ts (rNmS ts s) 0 cLb=false)(hy:(rNm ts (rEx ts (rNmS ts s) cEq) 0&&rAt ts (rEx ts (rNmS ts s) cEq) 1 cLp)=true) :
 Calls Tryz.prog 65 #[.pointer (some ⟨p,0,none⟩)] w (RStP ts en p q w):=by
 have hq:=hq.out
 unfold ragF at hq
 rw[if_neg (by rw[hx];decide)] at hq
 dsimp only at hq
 rw[if_pos hy] at hq
 obtain⟨nm0,hv⟩:∃ x,rNmV ts s=x:=⟨_,rfl⟩
 obtain⟨s1,hs1⟩:∃ x,rNmS ts s=x:=⟨_,rfl⟩
 have HV:=Hd hv
 have HS1:=Hd hs1
 have hm1:=zBr (ts:=ts) s
 rw[hs1] at hx hy hm1
 rw[hv,hs1] at hq
 have HX:=Hd hx
 obtain⟨s2,hs2⟩:∃ x,rEx ts s1 cEq=x:=⟨_,rfl⟩
 have HS2:=Hd hs2
 have hm2:=zAt (ts:=ts) s1 cEq
 rw[hs2] at hq hm2 hy
 rw[Bool.and_eq_true] at hy
 have HN:=Hd hy.1
 have HY:=Hd hy.2
 have hs3:rNmS ts s2=adv s2:=by unfold rNmS;rw[if_pos hy.1]
 have HS3:=Hd hs3
 have hlen:=zAo (rNm_inn hy.1)
 have hlen2:=zAo (zBd hy.2)
 have hlen3:(adv s2).f=false∧(adv s2).i+0 < ts.length:=⟨hlen2.1,hlen2.2⟩
 have hmv:=zAj (ts:=ts) (s:=s2) hlen
 have hmv3:=zAj (ts:=ts) (s:=adv s2) hlen3
 have hml:=ms_le ts (adv (adv s2))
 obtain⟨nm2,hv2⟩:∃ x,rNmV ts s2=x:=⟨_,rfl⟩
 have HV2:=Hd hv2
 rw[hs3,hv2] at hq
 obtain⟨⟨al,s4⟩,ha⟩:∃ x,rarF ts n false (adv (adv s2))=x:=⟨_,rfl⟩
 have HA:=Hd ha
 rw[ha] at hq
 dsimp only at hq
 obtain⟨s5,hs5⟩:∃ x,rEx ts s4 cRp=x:=⟨_,rfl⟩
 have HS5:=Hd hs5
 rw[hs5] at hq
 subst hq
 have hA0:20 * ms ts (adv (adv s2))+16≤n:=by omega
 clear hv hs1 hx hy hs2 hs3 hv2 ha hs5 hm hm1 hm2 hlen hlen2 hmv hmv3
 obtain⟨i0,hi,hz0,hz1,hz2⟩:=info_parts exprInfo
 have hpw:=h.lt
 have o:=(ROwn.start h 40 st0).al (.cells st0 40)
 have b:Blk ((w.alloc (.cells st0 40)).alloc (.cells st0 40)) (w.heap.size+1) 40 st0:=blk_at (by simp) _ _
 clear h
 go_enter Tryz.func65,Tryz.ntmps65
 go_wp2_with fail
 refine (zA9 ts en p s s1 nm0 HV HS1 _ o.s).mono ?_
 rintro e w1 ⟨rfl,hg,hp⟩
 replace o:=o.acc hg hp
 replace b:=b.gr hg (by omega)
 clear hg hp
 have z1:=b.cell 1
 have y1:=b.free 1
 go_wp2_with fail
 clear z1 y1
 replace o:=o.far (a:=⟨w.heap.size+1,1,none⟩) (by show w.heap.size < w.heap.size+1;omega) (.string ⟨nm0.toArray⟩)
 replace b:Blk _ (w.heap.size+1) 40 #[.int .i64 0,.string ⟨nm0.toArray⟩,.string ⟨#[]⟩,.int .i64 0,.int .i64 0,.int .i64 0,.string ⟨#[]⟩,.int .i64 0,.slice none 0 0,.int .i64 0,.int .i64 0,.string ⟨#[]⟩,.int .i64 0,.slice none 0 0,.slice none 0 0,.slice none 0 0,.slice none 0 0]:=b.set 1 (.string ⟨nm0.toArray⟩)
 refine (zAe ts en p s1 0 (by decide) cLb false HX _ o.s).mono ?_
 rintro e w2 ⟨rfl,hb⟩
 have hg:=zAa hb (some p)
 have hp:=o.s.keep hb
 clear hb
 replace o:=o.acc hg hp
 replace b:=b.gr hg (by omega)
 clear hg hp
 go_wp2_with fail
 refine (zAc ts en p s1 s2 cEq HS2 _ o.s).mono ?_
 rintro e w3 ⟨rfl,hg,hp⟩
 replace o:=o.acc hg hp
 replace b:=b.gr hg (by omega)
 clear hg hp
 go_wp2_with fail
 refine (rnm_any ts en p s2 0 (by decide) true HN _ o.s).mono ?_
 rintro e w4 ⟨rfl,hb⟩
 have hg:=zAa hb (some p)
 have hp:=o.s.keep hb
 clear hb
 replace o:=o.acc hg hp
 replace b:=b.gr hg (by omega)
 clear hg hp
 go_wp2_with fail
 refine (zAe ts en p s2 1 (by decide) cLp true HY _ o.s).mono ?_
 rintro e w5 ⟨rfl,hb⟩
 have hg:=zAa hb (some p)
 have hp:=o.s.keep hb
 clear hb
 replace o:=o.acc hg hp
 replace b:=b.gr hg (by omega)
 clear hg hp
 have z0:=b.cell 0
 have y0:=b.free 0
 go_wp2_with fail
 clear z0 y0
 replace o:=o.far (a:=⟨w.heap.size+1,0,none⟩) (by show w.heap.size < w.heap.size+1;omega) (.int .i64 6)
 replace b:Blk _ (w.heap.size+1) 40 #[.int .i64 6,.string ⟨nm0.toArray⟩,.string ⟨#[]⟩,.int .i64 0,.int .i64 0,.int .i64 0,.string ⟨#[]⟩,.int .i64 0,.slice none 0 0,.int .i64 0,.int .i64 0,.string ⟨#[]⟩,.int .i64 0,.slice none 0 0,.slice none 0 0,.slice none 0 0,.slice none 0 0]:=b.set 0 (.int .i64 6)
 refine (zA9 ts en p s2 (adv s2) nm2 HV2 HS3 _ o.s).mono ?_
 rintro e w6 ⟨rfl,hg,hp⟩
 replace o:=o.acc hg hp
 replace b:=b.gr hg (by omega)
 clear hg hp
 have z2:=b.cell 2
 have y2:=b.free 2
 obtain⟨_,_,_,c1,_,_,_,f1,_,_,_,hi,hl,_⟩:=o.s.cells
 go_wp2_with fail
 replace o:=o.far (a:=⟨w.heap.size+1,2,none⟩) (by show w.heap.size < w.heap.size+1;omega) (.string ⟨nm2.toArray⟩)
 replace b:Blk _ (w.heap.size+1) 40 #[.int .i64 6,.string ⟨nm0.toArray⟩,.string ⟨nm2.toArray⟩,.int .i64 0,.int .i64 0,.int .i64 0,.string ⟨#[]⟩,.int .i64 0,.slice none 0 0,.int .i64 0,.int .i64 0,.string ⟨#[]⟩,.int .i64 0,.slice none 0 0,.slice none 0 0,.slice none 0 0,.slice none 0 0]:=b.set 2 (.string ⟨nm2.toArray⟩)
 obtain⟨hg,hp⟩:=radv o.s hlen3
 replace o:=o.acc hg hp
 replace b:=b.gr hg (by omega)
 clear hg hp
 clear z2 y2 c1 f1 hi hl
 generalize hwz:World.setCell _ ⟨p,1,none⟩ _=wz at *
 have H0:Hid (RArR ts en p nm0 nm2 al s4 w n n wz):=Hd ⟨adv (adv s2),[],[],.slice none 0 0,by show []++(rarF ts n false (adv (adv s2))).1=al;rw[HA.out];rfl,by show (rarF ts n false (adv (adv s2))).2=s4;rw[HA.out],by simpa using hA0,Lr _,by simpa using hml,o,b,coll_nil _ _ _ _ _⟩
 clear hwz o b hA0 hml
 go_loopg [] n (fun k wr=>RArR ts en p nm0 nm2 al s4 w k n wr)
 case atStart=>exact H0.out
 case round =>
  clear H0
  obtain⟨s',acc,css,v,ha,hb,hk,hkn,hln,o,b,cl⟩:=hrel
  obtain⟨m,rfl⟩:∃ m,gk=m+1:=⟨gk - 1,by omega⟩
  rw[rarF_eq] at ha hb
  obtain⟨Av,cv,rfl⟩:=cl.form'
  cases hf:s'.f with
  | true =>
   rw[hf,Bool.true_or,if_pos rfl] at ha hb
   have ha:acc=al:=by simpa using ha
   have hb:s'=s4:=hb
   subst ha hb
   have HOK:=Hd (fun w h=>zAn ts en p s' false hf w h)
   clear hf
   go_wp2_with fail
   refine (HOK.out _ o.s).mono ?_
   rintro e w2 ⟨rfl,rfl⟩
   go_wp2_with fail
   refine (zAc ts en p s' s5 cRp HS5 _ o.s).mono ?_
   rintro e w4 ⟨rfl,hg,hp⟩
   replace o:=o.acc hg hp
   replace b:=b.gr hg (by omega)
   replace cl:=cl.grown (p:=p) keepsE hg (by omega)
   clear hg hp
   go_wp2_with (first | (refine wpList_load_row rfl _ _ rfl (w.heap.size+1) rfl _ _ _ _ b Tryz.underlying40 rfl zAf ?_) | (refine wpList_store_row rfl _ _ _ rfl w.heap.size #[.int .i64 6,.string ⟨nm0.toArray⟩,.string ⟨nm2.toArray⟩,.int .i64 0,.int .i64 0,.int .i64 0,.string ⟨#[]⟩,.int .i64 0,.slice none 0 0,.int .i64 0,.int .i64 0,.string ⟨#[]⟩,.int .i64 0,.slice none 0 0,.slice Av acc.length cv,.slice none 0 0,.slice none 0 0] rfl rfl _ _ o.r zAf rfl (by simp[Value.oneCell']) ?_))
   obtain⟨hk,hx⟩:=o.fin17 (kd:=6) (nm:=nm0) («to»:=nm2) (num:=0) (repS_mk (repE_leaf _ _ 0 0 [] 0 none 0) (repE_leaf _ _ 0 0 [] 0 none 0) ((cl.out keepsE).mono keepsE (Nat.le_succ _) (Lr _)) (repL_nil _ _ _ _) (repL_nil _ _ _ _))
   exact bodyPost_ret (results_cell_row rfl _ _ _ _ _ _ _ rfl hk Tryz.underlying40 rfl zAf) rfl hx
  | false =>
   have HOK:=Hd (fun w h=>zAn ts en p s' true hf w h)
   obtain⟨b0,hb0⟩:∃ b,rAt ts s' 0 cRp=b:=⟨_,rfl⟩
   have HB:=Hd hb0
   rw[hf,Bool.false_or,hb0] at ha hb
   cases b0
   rotate_left
   ·rw[if_pos rfl] at ha hb
    have ha:acc=al:=by simpa using ha
    have hb:s'=s4:=hb
    subst ha hb
    clear hf hb0
    go_wp2_with fail
    refine (HOK.out _ o.s).mono ?_
    rintro e w2 ⟨rfl,rfl⟩
    go_wp2_with fail
    refine (zAe ts en p s' 0 (by decide) cRp true HB _ o.s).mono ?_
    rintro e w2 ⟨rfl,hb1⟩
    have hg:=zAa hb1 (some p)
    have hp:=o.s.keep hb1
    replace o:=o.acc hg hp
    replace b:=b.gr hg (by omega)
    replace cl:=cl.grown (p:=p) keepsE hg (by omega)
    clear hg hp hb1
    go_wp2_with fail
    refine (zAc ts en p s' s5 cRp HS5 _ o.s).mono ?_
    rintro e w4 ⟨rfl,hg,hp⟩
    replace o:=o.acc hg hp
    replace b:=b.gr hg (by omega)
    replace cl:=cl.grown (p:=p) keepsE hg (by omega)
    clear hg hp
    go_wp2_with (first | (refine wpList_load_row rfl _ _ rfl (w.heap.size+1) rfl _ _ _ _ b Tryz.underlying40 rfl zAf ?_) | (refine wpList_store_row rfl _ _ _ rfl w.heap.size #[.int .i64 6,.string ⟨nm0.toArray⟩,.string ⟨nm2.toArray⟩,.int .i64 0,.int .i64 0,.int .i64 0,.string ⟨#[]⟩,.int .i64 0,.slice none 0 0,.int .i64 0,.int .i64 0,.string ⟨#[]⟩,.int .i64 0,.slice none 0 0,.slice Av acc.length cv,.slice none 0 0,.slice none 0 0] rfl rfl _ _ o.r zAf rfl (by simp[Value.oneCell']) ?_))
    obtain⟨hk,hx⟩:=o.fin17 (kd:=6) (nm:=nm0) («to»:=nm2) (num:=0) (repS_mk (repE_leaf _ _ 0 0 [] 0 none 0) (repE_leaf _ _ 0 0 [] 0 none 0) ((cl.out keepsE).mono keepsE (Nat.le_succ _) (Lr _)) (repL_nil _ _ _ _) (repL_nil _ _ _ _))
    exact bodyPost_ret (results_cell_row rfl _ _ _ _ _ _ _ rfl hk Tryz.underlying40 rfl zAf) rfl hx
   ·rw[if_neg (by decide)] at ha hb
    have hne1:(!(acc++[emE]).isEmpty)=true:=by simp
    cases hacc:acc.isEmpty with
    | true =>
     obtain rfl:acc=[]:=List.isEmpty_iff.1 hacc
     rw[hacc] at ha hb
     simp only[Bool.not_true,Bool.false_eq_true,if_false] at ha hb
     obtain⟨⟨ape,s6⟩,hc⟩:∃ x,rexF ts m s'=x:=⟨_,rfl⟩
     have HC:=Hd hc
     have hmc:=ms_rex (ts:=ts) m s'
     rw[hc] at ha hb hmc
     dsimp only at ha hb hmc
     have HAE:=Hd ha
     have HBE:=Hd hb
     have hne1:(!([]++[ape]:List PE).isEmpty)=true:=by simp
     have hmin:min ([]++[ape]:List PE).length 1=1:=by simp
     have hAm:20 * ms ts s'+14≤m:=by simp at hk;omega
     simp only[List.length_nil,Nat.zero_min,Nat.add_zero,Nat.zero_add] at hk hln
     clear hf hb0 hc ha hb hacc
     have z1:=b.cell 14
     go_wp2_with fail
     refine (HOK.out _ o.s).mono ?_
     rintro e w2 ⟨rfl,rfl⟩
     go_wp2_with fail
     refine (zAe ts en p s' 0 (by decide) cRp false HB _ o.s).mono ?_
     rintro e w2 ⟨rfl,hb1⟩
     have hg:=zAa hb1 (some p)
     have hp:=o.s.keep hb1
     replace o:=o.acc hg hp
     replace b:=b.gr hg (by omega)
     replace cl:=cl.grown (p:=p) keepsE hg (by omega)
     clear hg hp hb1 z1
     have z1:=b.cell 14
     go_wp2_with fail
     clear z1
     have hvb:=cl.blk
     have oD:ROwn ts en p s' 40 st0 w w2.drew:=o.low (below_drewN (Below.refl _ _) 1)
     have bD:Blk w2.drew (w.heap.size+1) 40 #[.int .i64 6,.string ⟨nm0.toArray⟩,.string ⟨nm2.toArray⟩,.int .i64 0,.int .i64 0,.int .i64 0,.string ⟨#[]⟩,.int .i64 0,.slice none 0 0,.int .i64 0,.int .i64 0,.string ⟨#[]⟩,.int .i64 0,.slice none 0 0,.slice Av 0 cv,.slice none 0 0,.slice none 0 0]:=b
     have clD:=cl.grown (w':=w2.drew) (p:=p) keepsE (zAa (below_drewN (Below.refl _ _) 1) _) (by omega)
     have hcall:=zBg ts en p m s' _ _ HC hAm oD.s
     have hcz:css.length≤30000:=by
      have h1:=cl.len
      have h2:=o.s.few
      rw[←h1]
      first | (simp;done) | omega
     have z0:=b.cell 14
     refine wp_region_any (by kernel_rfl) ?_
     change wpAny _ _ _ _ _ _ _ (World.drew _)
     refine wpAny_take (i:=0) (v:=.pointer (some ⟨w.heap.size+1,14,none⟩)) rfl (by kernel_rfl) (by kernel_rfl) (by kernel_rfl) (fun _ _ _ h=>h) (Or.inl ⟨by kernel_rfl,fun w=>by go_simp⟩) ?_
     refine wpAny_take (i:=2) (v:=.pointer (some ⟨p,0,none⟩)) rfl (by kernel_rfl) (by kernel_rfl) (by kernel_rfl) (fun _ _ _ h=>h) (Or.inl ⟨by kernel_rfl,fun w=>by go_simp⟩) ?_
     refine wpAny_ready (rs:=[1,3]) (by kernel_rfl) (by simp) ?_
     refine AllReady.cons rfl (fun K hK'=>?_) (AllReady.cons rfl (fun K hK'=>?_) AllReady.nil)
     ·go_simp
      refine hK' _ _ ?_
      clear hK' K
      refine wpAny_ready (rs:=[3]) (by kernel_rfl) (by simp) ?_
      refine AllReady.cons rfl (fun K hK'=>?_) AllReady.nil
      go_simp
      go_wp2_with (go_at_call 42;((with_reducible refine hcall.mono ?_);rintro e wc ⟨kd,nn,nm,op,A,L,c,rfl,hr,hg,hp⟩;have hgz:=hg.size;have bE:=bD.gr hg (show p≠w.heap.size+1 by omega);have oE:=oD.acc hg hp;have clE:=clD.grown (p:=p) keepsE hg (show p < w.heap.size+2 by omega)))
      refine wpAny_ready (rs:=[4]) (by kernel_rfl) (by simp) ?_
      refine AllReady.cons rfl (fun K hK'=>?_) AllReady.nil
      go_simp
      refine hK' _ _ ?_
      clear hK' K
      refine wpAny_ready (rs:=[5]) (by kernel_rfl) (by simp) ?_
      refine AllReady.cons rfl (fun K hK'=>?_) AllReady.nil
      rw[if_pos (by kernel_rfl)]
      refine wp_app (.tmp 61) (.tmp 64) _ rfl (w.heap.size+2) 36 i0 _ 5 64 Tryz.underlying34 hi hz0 hz1 hz2 rfl (by decide) _ _ _ rfl (clE.own.alloc _) ⟨wc.heap.size,0,none⟩ 1 [.int .i64 kd,.int .i64 nn,.string ⟨nm.toArray⟩,.int .i64 op,.slice A L c] rfl rfl (World.news_of_block (heap_alloc_new _ _)) (by simp[Value.oneCell']) (by unfold maxLen;omega) (by omega) (by have:=bE.lt;simp;omega) ?_
      intro v2 w5 hown2 hgr2 hob
      refine hK' _ _ ?_
      clear hK' K
      have hrow:∀ k,(Value.slice Av 0 cv).ownBlock=some k→w.heap.size+2≤k:=fun k hk=>(clE.own.lt k hk).1
      have o5:=(oE.al (.cells #[.int .i64 kd,.int .i64 nn,.string ⟨nm.toArray⟩,.int .i64 op,.slice A L c] 36)).rowg hgr2 (fun k hk=>by have:=hrow k hk;omega)
      have b5:=(bE.alloc (.cells #[.int .i64 kd,.int .i64 nn,.string ⟨nm.toArray⟩,.int .i64 op,.slice A L c] 36)).rowg hgr2 (fun k hk=>by have:=hrow k hk;omega)
      have cl5:=clE.snoc (Rep:=RepE) (x:=ape) (cs:=[.int .i64 kd,.int .i64 nn,.string ⟨nm.toArray⟩,.int .i64 op,.slice A L c]) keepsE (lo:=w2.drew.heap.size) hr (by have:=bD.lt;omega) hvb rfl hown2 hgr2 hob
      obtain⟨A5,L5,c5,_,rfl⟩:∃ A L c,Hid (([]++[ape]:List PE).length=L)∧v2=Value.slice A L c:=by
       obtain⟨A,c,e⟩:=cl5.form'
       exact⟨A,_,c,Hd rfl,e⟩
      have q0:=b5.cell 14
      have g0:=b5.free 14
      refine wpAny_take (i:=6) (v:=.pointer (some ⟨w.heap.size+1,14,none⟩)) rfl (by kernel_rfl) (by kernel_rfl) (by kernel_rfl) (fun _ _ _ h=>h) (Or.inl ⟨by kernel_rfl,fun w=>by go_simp⟩) ?_
      refine wpAny_ready (rs:=[7]) (by kernel_rfl) (by simp) ?_
      refine AllReady.cons rfl (fun K hK'=>?_) AllReady.nil
      go_simp
      refine hK' _ _ ?_
      clear hK' K
      refine wpAny_done (by kernel_rfl) ?_ _
      have b6:Blk _ (w.heap.size+1) 40 #[.int .i64 6,.string ⟨nm0.toArray⟩,.string ⟨nm2.toArray⟩,.int .i64 0,.int .i64 0,.int .i64 0,.string ⟨#[]⟩,.int .i64 0,.slice none 0 0,.int .i64 0,.int .i64 0,.string ⟨#[]⟩,.int .i64 0,.slice none 0 0,.slice A5 L5 c5,.slice none 0 0,.slice none 0 0]:=b5.set 14 (.slice A5 L5 c5)
      have o6:=o5.far (a:=⟨w.heap.size+1,14,none⟩) (by show w.heap.size < w.heap.size+1;omega) (.slice A5 L5 c5)
      have cl6:=cl5.fs keepsE (a:=⟨w.heap.size+1,14,none⟩) (by show w.heap.size+1 < w.heap.size+2;omega) (.slice A5 L5 c5)
      go_wp2_with fail
      go_roundg m
      case measure=>exact Nat.lt_succ_self m
      case rel=>exact⟨s6,[]++[ape],css++[[.int .i64 kd,.int .i64 nn,.string ⟨nm.toArray⟩,.int .i64 op,.slice A L c]],_,by rw[List.append_assoc,hne1];exact HAE.out,by rw[hne1];exact HBE.out,by rw[hmin];omega,by omega,by rw[hmin];simp;omega,o6,b6,cl6⟩
     ·go_simp
      go_wp2_with (go_at_call 42;((with_reducible refine hcall.mono ?_);rintro e wc ⟨kd,nn,nm,op,A,L,c,rfl,hr,hg,hp⟩;have hgz:=hg.size;have bE:=bD.gr hg (show p≠w.heap.size+1 by omega);have oE:=oD.acc hg hp;have clE:=clD.grown (p:=p) keepsE hg (show p < w.heap.size+2 by omega)))
      have j0:=bE.cell 14
      refine wpAny_ready (rs:=[1,4]) (by kernel_rfl) (by simp) ?_
      refine AllReady.cons rfl (fun K hK'=>?_) (AllReady.cons rfl (fun K hK'=>?_) AllReady.nil)
      ·go_simp
       refine hK' _ _ ?_
       clear hK' K
       refine wpAny_ready (rs:=[4]) (by kernel_rfl) (by simp) ?_
       refine AllReady.cons rfl (fun K hK'=>?_) AllReady.nil
       go_simp
       refine hK' _ _ ?_
       clear hK' K
       refine wpAny_ready (rs:=[5]) (by kernel_rfl) (by simp) ?_
       refine AllReady.cons rfl (fun K hK'=>?_) AllReady.nil
       rw[if_pos (by kernel_rfl)]
       refine wp_app (.tmp 61) (.tmp 64) _ rfl (w.heap.size+2) 36 i0 _ 5 64 Tryz.underlying34 hi hz0 hz1 hz2 rfl (by decide) _ _ _ rfl (clE.own.alloc _) ⟨wc.heap.size,0,none⟩ 1 [.int .i64 kd,.int .i64 nn,.string ⟨nm.toArray⟩,.int .i64 op,.slice A L c] rfl rfl (World.news_of_block (heap_alloc_new _ _)) (by simp[Value.oneCell']) (by unfold maxLen;omega) (by omega) (by have:=bE.lt;simp;omega) ?_
       intro v2 w5 hown2 hgr2 hob
       refine hK' _ _ ?_
       clear hK' K
       have hrow:∀ k,(Value.slice Av 0 cv).ownBlock=some k→w.heap.size+2≤k:=fun k hk=>(clE.own.lt k hk).1
       have o5:=(oE.al (.cells #[.int .i64 kd,.int .i64 nn,.string ⟨nm.toArray⟩,.int .i64 op,.slice A L c] 36)).rowg hgr2 (fun k hk=>by have:=hrow k hk;omega)
       have b5:=(bE.alloc (.cells #[.int .i64 kd,.int .i64 nn,.string ⟨nm.toArray⟩,.int .i64 op,.slice A L c] 36)).rowg hgr2 (fun k hk=>by have:=hrow k hk;omega)
       have cl5:=clE.snoc (Rep:=RepE) (x:=ape) (cs:=[.int .i64 kd,.int .i64 nn,.string ⟨nm.toArray⟩,.int .i64 op,.slice A L c]) keepsE (lo:=w2.drew.heap.size) hr (by have:=bD.lt;omega) hvb rfl hown2 hgr2 hob
       obtain⟨A5,L5,c5,_,rfl⟩:∃ A L c,Hid (([]++[ape]:List PE).length=L)∧v2=Value.slice A L c:=by
        obtain⟨A,c,e⟩:=cl5.form'
        exact⟨A,_,c,Hd rfl,e⟩
       have q0:=b5.cell 14
       have g0:=b5.free 14
       refine wpAny_take (i:=6) (v:=.pointer (some ⟨w.heap.size+1,14,none⟩)) rfl (by kernel_rfl) (by kernel_rfl) (by kernel_rfl) (fun _ _ _ h=>h) (Or.inl ⟨by kernel_rfl,fun w=>by go_simp⟩) ?_
       refine wpAny_ready (rs:=[7]) (by kernel_rfl) (by simp) ?_
       refine AllReady.cons rfl (fun K hK'=>?_) AllReady.nil
       go_simp
       refine hK' _ _ ?_
       clear hK' K
       refine wpAny_done (by kernel_rfl) ?_ _
       have b6:Blk _ (w.heap.size+1) 40 #[.int .i64 6,.string ⟨nm0.toArray⟩,.string ⟨nm2.toArray⟩,.int .i64 0,.int .i64 0,.int .i64 0,.string ⟨#[]⟩,.int .i64 0,.slice none 0 0,.int .i64 0,.int .i64 0,.string ⟨#[]⟩,.int .i64 0,.slice none 0 0,.slice A5 L5 c5,.slice none 0 0,.slice none 0 0]:=b5.set 14 (.slice A5 L5 c5)
       have o6:=o5.far (a:=⟨w.heap.size+1,14,none⟩) (by show w.heap.size < w.heap.size+1;omega) (.slice A5 L5 c5)
       have cl6:=cl5.fs keepsE (a:=⟨w.heap.size+1,14,none⟩) (by show w.heap.size+1 < w.heap.size+2;omega) (.slice A5 L5 c5)
       go_wp2_with fail
       go_roundg m
       case measure=>exact Nat.lt_succ_self m
       case rel=>exact⟨s6,[]++[ape],css++[[.int .i64 kd,.int .i64 nn,.string ⟨nm.toArray⟩,.int .i64 op,.slice A L c]],_,by rw[List.append_assoc,hne1];exact HAE.out,by rw[hne1];exact HBE.out,by rw[hmin];omega,by omega,by rw[hmin];simp;omega,o6,b6,cl6⟩
      ·go_simp
       refine hK' _ _ ?_
       clear hK' K
       have j1:=(bE.alloc (.cells #[.int .i64 kd,.int .i64 nn,.string ⟨nm.toArray⟩,.int .i64 op,.slice A L c] 36)).cell 14
       refine wpAny_ready (rs:=[1]) (by kernel_rfl) (by simp) ?_
       refine AllReady.cons rfl (fun K hK'=>?_) AllReady.nil
       go_simp
       refine hK' _ _ ?_
       clear hK' K
       refine wpAny_ready (rs:=[5]) (by kernel_rfl) (by simp) ?_
       refine AllReady.cons rfl (fun K hK'=>?_) AllReady.nil
       rw[if_pos (by kernel_rfl)]
       refine wp_app (.tmp 61) (.tmp 64) _ rfl (w.heap.size+2) 36 i0 _ 5 64 Tryz.underlying34 hi hz0 hz1 hz2 rfl (by decide) _ _ _ rfl (clE.own.alloc _) ⟨wc.heap.size,0,none⟩ 1 [.int .i64 kd,.int .i64 nn,.string ⟨nm.toArray⟩,.int .i64 op,.slice A L c] rfl rfl (World.news_of_block (heap_alloc_new _ _)) (by simp[Value.oneCell']) (by unfold maxLen;omega) (by omega) (by have:=bE.lt;simp;omega) ?_
       intro v2 w5 hown2 hgr2 hob
       refine hK' _ _ ?_
       clear hK' K
       have hrow:∀ k,(Value.slice Av 0 cv).ownBlock=some k→w.heap.size+2≤k:=fun k hk=>(clE.own.lt k hk).1
       have o5:=(oE.al (.cells #[.int .i64 kd,.int .i64 nn,.string ⟨nm.toArray⟩,.int .i64 op,.slice A L c] 36)).rowg hgr2 (fun k hk=>by have:=hrow k hk;omega)
       have b5:=(bE.alloc (.cells #[.int .i64 kd,.int .i64 nn,.string ⟨nm.toArray⟩,.int .i64 op,.slice A L c] 36)).rowg hgr2 (fun k hk=>by have:=hrow k hk;omega)
       have cl5:=clE.snoc (Rep:=RepE) (x:=ape) (cs:=[.int .i64 kd,.int .i64 nn,.string ⟨nm.toArray⟩,.int .i64 op,.slice A L c]) keepsE (lo:=w2.drew.heap.size) hr (by have:=bD.lt;omega) hvb rfl hown2 hgr2 hob
       obtain⟨A5,L5,c5,_,rfl⟩:∃ A L c,Hid (([]++[ape]:List PE).length=L)∧v2=Value.slice A L c:=by
        obtain⟨A,c,e⟩:=cl5.form'
        exact⟨A,_,c,Hd rfl,e⟩
       have q0:=b5.cell 14
       have g0:=b5.free 14
       refine wpAny_take (i:=6) (v:=.pointer (some ⟨w.heap.size+1,14,none⟩)) rfl (by kernel_rfl) (by kernel_rfl) (by kernel_rfl) (fun _ _ _ h=>h) (Or.inl ⟨by kernel_rfl,fun w=>by go_simp⟩) ?_
       refine wpAny_ready (rs:=[7]) (by kernel_rfl) (by simp) ?_
       refine AllReady.cons rfl (fun K hK'=>?_) AllReady.nil
       go_simp
       refine hK' _ _ ?_
       clear hK' K
       refine wpAny_done (by kernel_rfl) ?_ _
       have b6:Blk _ (w.heap.size+1) 40 #[.int .i64 6,.string ⟨nm0.toArray⟩,.string ⟨nm2.toArray⟩,.int .i64 0,.int .i64 0,.int .i64 0,.string ⟨#[]⟩,.int .i64 0,.slice none 0 0,.int .i64 0,.int .i64 0,.string ⟨#[]⟩,.int .i64 0,.slice none 0 0,.slice A5 L5 c5,.slice none 0 0,.slice none 0 0]:=b5.set 14 (.slice A5 L5 c5)
       have o6:=o5.far (a:=⟨w.heap.size+1,14,none⟩) (by show w.heap.size < w.heap.size+1;omega) (.slice A5 L5 c5)
       have cl6:=cl5.fs keepsE (a:=⟨w.heap.size+1,14,none⟩) (by show w.heap.size+1 < w.heap.size+2;omega) (.slice A5 L5 c5)
       go_wp2_with fail
       go_roundg m
       case measure=>exact Nat.lt_succ_self m
       case rel=>exact⟨s6,[]++[ape],css++[[.int .i64 kd,.int .i64 nn,.string ⟨nm.toArray⟩,.int .i64 op,.slice A L c]],_,by rw[List.append_assoc,hne1];exact HAE.out,by rw[hne1];exact HBE.out,by rw[hmin];omega,by omega,by rw[hmin];simp;omega,o6,b6,cl6⟩
    | false =>
     rw[hacc] at ha hb
     simp only[Bool.not_false,if_true] at ha hb
     obtain⟨s1',hs1'⟩:∃ x,rEx ts s' zA7=x:=⟨_,rfl⟩
     have HSC:=Hd hs1'
     have hms:=ms_rEx_lt (ts:=ts) hf zA7
     rw[hs1'] at ha hb hms
     obtain⟨⟨ape,s6⟩,hc⟩:∃ x,rexF ts m s1'=x:=⟨_,rfl⟩
     have HC:=Hd hc
     have hmc:=ms_rex (ts:=ts) m s1'
     rw[hc] at ha hb hmc
     dsimp only at ha hb hmc
     have HAE:=Hd ha
     have HBE:=Hd hb
     have hne1:(!(acc++[ape]).isEmpty)=true:=by simp
     have hpos:0 < acc.length:=by cases acc with
      | nil=>cases hacc
      | cons a r=>simp
     have hmin0:min acc.length 1=1:=by omega
     have hmin:min (acc++[ape]).length 1=1:=by simp
     rw[hmin0] at hk hln
     have hAm:20 * ms ts s1'+14≤m:=by omega
     have hp1:decide (0 < acc.length)=true:=decide_eq_true hpos
     have hp2:(0:Int) < (acc.length:Int):=by omega
     clear hf hb0 hc ha hb hacc hs1' hmin0
     go_wp2_with fail
     refine (HOK.out _ o.s).mono ?_
     rintro e w2 ⟨rfl,rfl⟩
     go_wp2_with fail
     refine (zAe ts en p s' 0 (by decide) cRp false HB _ o.s).mono ?_
     rintro e w2 ⟨rfl,hb1⟩
     have hg:=zAa hb1 (some p)
     have hp:=o.s.keep hb1
     replace o:=o.acc hg hp
     replace b:=b.gr hg (by omega)
     replace cl:=cl.grown (p:=p) keepsE hg (by omega)
     clear hg hp hb1
     have z1:=b.cell 14
     go_wp2_with fail
     refine (zAc ts en p s' s1' zA7 HSC _ o.s).mono ?_
     rintro e w3 ⟨rfl,hg,hp⟩
     replace o:=o.acc hg hp
     replace b:=b.gr hg (by omega)
     replace cl:=cl.grown (p:=p) keepsE hg (by omega)
     clear hg hp z1
     go_wp2_with fail
     have hvb:=cl.blk
     have oD:ROwn ts en p s1' 40 st0 w w3.drew:=o.low (below_drewN (Below.refl _ _) 1)
     have bD:Blk w3.drew (w.heap.size+1) 40 #[.int .i64 6,.string ⟨nm0.toArray⟩,.string ⟨nm2.toArray⟩,.int .i64 0,.int .i64 0,.int .i64 0,.string ⟨#[]⟩,.int .i64 0,.slice none 0 0,.int .i64 0,.int .i64 0,.string ⟨#[]⟩,.int .i64 0,.slice none 0 0,.slice Av acc.length cv,.slice none 0 0,.slice none 0 0]:=b
     have clD:=cl.grown (w':=w3.drew) (p:=p) keepsE (zAa (below_drewN (Below.refl _ _) 1) _) (by omega)
     have hcall:=zBg ts en p m s1' _ _ HC hAm oD.s
     have hcz:css.length≤30000:=by
      have h1:=cl.len
      have h2:=o.s.few
      rw[←h1]
      first | (simp;done) | omega
     have z0:=b.cell 14
     refine wp_region_any (by kernel_rfl) ?_
     change wpAny _ _ _ _ _ _ _ (World.drew _)
     refine wpAny_take (i:=0) (v:=.pointer (some ⟨w.heap.size+1,14,none⟩)) rfl (by kernel_rfl) (by kernel_rfl) (by kernel_rfl) (fun _ _ _ h=>h) (Or.inl ⟨by kernel_rfl,fun w=>by go_simp⟩) ?_
     refine wpAny_take (i:=2) (v:=.pointer (some ⟨p,0,none⟩)) rfl (by kernel_rfl) (by kernel_rfl) (by kernel_rfl) (fun _ _ _ h=>h) (Or.inl ⟨by kernel_rfl,fun w=>by go_simp⟩) ?_
     refine wpAny_ready (rs:=[1,3]) (by kernel_rfl) (by simp) ?_
     refine AllReady.cons rfl (fun K hK'=>?_) (AllReady.cons rfl (fun K hK'=>?_) AllReady.nil)
     ·go_simp
      refine hK' _ _ ?_
      clear hK' K
      refine wpAny_ready (rs:=[3]) (by kernel_rfl) (by simp) ?_
      refine AllReady.cons rfl (fun K hK'=>?_) AllReady.nil
      go_simp
      go_wp2_with (go_at_call 42;((with_reducible refine hcall.mono ?_);rintro e wc ⟨kd,nn,nm,op,A,L,c,rfl,hr,hg,hp⟩;have hgz:=hg.size;have bE:=bD.gr hg (show p≠w.heap.size+1 by omega);have oE:=oD.acc hg hp;have clE:=clD.grown (p:=p) keepsE hg (show p < w.heap.size+2 by omega)))
      refine wpAny_ready (rs:=[4]) (by kernel_rfl) (by simp) ?_
      refine AllReady.cons rfl (fun K hK'=>?_) AllReady.nil
      go_simp
      refine hK' _ _ ?_
      clear hK' K
      refine wpAny_ready (rs:=[5]) (by kernel_rfl) (by simp) ?_
      refine AllReady.cons rfl (fun K hK'=>?_) AllReady.nil
      rw[if_pos (by kernel_rfl)]
      refine wp_app (.tmp 61) (.tmp 64) _ rfl (w.heap.size+2) 36 i0 _ 5 64 Tryz.underlying34 hi hz0 hz1 hz2 rfl (by decide) _ _ _ rfl (clE.own.alloc _) ⟨wc.heap.size,0,none⟩ 1 [.int .i64 kd,.int .i64 nn,.string ⟨nm.toArray⟩,.int .i64 op,.slice A L c] rfl rfl (World.news_of_block (heap_alloc_new _ _)) (by simp[Value.oneCell']) (by unfold maxLen;omega) (by omega) (by have:=bE.lt;simp;omega) ?_
      intro v2 w5 hown2 hgr2 hob
      refine hK' _ _ ?_
      clear hK' K
      have hrow:∀ k,(Value.slice Av acc.length cv).ownBlock=some k→w.heap.size+2≤k:=fun k hk=>(clE.own.lt k hk).1
      have o5:=(oE.al (.cells #[.int .i64 kd,.int .i64 nn,.string ⟨nm.toArray⟩,.int .i64 op,.slice A L c] 36)).rowg hgr2 (fun k hk=>by have:=hrow k hk;omega)
      have b5:=(bE.alloc (.cells #[.int .i64 kd,.int .i64 nn,.string ⟨nm.toArray⟩,.int .i64 op,.slice A L c] 36)).rowg hgr2 (fun k hk=>by have:=hrow k hk;omega)
      have cl5:=clE.snoc (Rep:=RepE) (x:=ape) (cs:=[.int .i64 kd,.int .i64 nn,.string ⟨nm.toArray⟩,.int .i64 op,.slice A L c]) keepsE (lo:=w3.drew.heap.size) hr (by have:=bD.lt;omega) hvb rfl hown2 hgr2 hob
      obtain⟨A5,L5,c5,_,rfl⟩:∃ A L c,Hid ((acc++[ape]).length=L)∧v2=Value.slice A L c:=by
       obtain⟨A,c,e⟩:=cl5.form'
       exact⟨A,_,c,Hd rfl,e⟩
      have q0:=b5.cell 14
      have g0:=b5.free 14
      refine wpAny_take (i:=6) (v:=.pointer (some ⟨w.heap.size+1,14,none⟩)) rfl (by kernel_rfl) (by kernel_rfl) (by kernel_rfl) (fun _ _ _ h=>h) (Or.inl ⟨by kernel_rfl,fun w=>by go_simp⟩) ?_
      refine wpAny_ready (rs:=[7]) (by kernel_rfl) (by simp) ?_
      refine AllReady.cons rfl (fun K hK'=>?_) AllReady.nil
      go_simp
      refine hK' _ _ ?_
      clear hK' K
      refine wpAny_done (by kernel_rfl) ?_ _
      have b6:Blk _ (w.heap.size+1) 40 #[.int .i64 6,.string ⟨nm0.toArray⟩,.string ⟨nm2.toArray⟩,.int .i64 0,.int .i64 0,.int .i64 0,.string ⟨#[]⟩,.int .i64 0,.slice none 0 0,.int .i64 0,.int .i64 0,.string ⟨#[]⟩,.int .i64 0,.slice none 0 0,.slice A5 L5 c5,.slice none 0 0,.slice none 0 0]:=b5.set 14 (.slice A5 L5 c5)
      have o6:=o5.far (a:=⟨w.heap.size+1,14,none⟩) (by show w.heap.size < w.heap.size+1;omega) (.slice A5 L5 c5)
      have cl6:=cl5.fs keepsE (a:=⟨w.heap.size+1,14,none⟩) (by show w.heap.size+1 < w.heap.size+2;omega) (.slice A5 L5 c5)
      go_wp2_with fail
      go_roundg m
      case measure=>exact Nat.lt_succ_self m
      case rel=>exact⟨s6,acc++[ape],css++[[.int .i64 kd,.int .i64 nn,.string ⟨nm.toArray⟩,.int .i64 op,.slice A L c]],_,by rw[List.append_assoc,hne1];exact HAE.out,by rw[hne1];exact HBE.out,by rw[hmin];omega,by omega,by rw[hmin];simp;omega,o6,b6,cl6⟩
     ·go_simp
      go_wp2_with (go_at_call 42;((with_reducible refine hcall.mono ?_);rintro e wc ⟨kd,nn,nm,op,A,L,c,rfl,hr,hg,hp⟩;have hgz:=hg.size;have bE:=bD.gr hg (show p≠w.heap.size+1 by omega);have oE:=oD.acc hg hp;have clE:=clD.grown (p:=p) keepsE hg (show p < w.heap.size+2 by omega)))
      have j0:=bE.cell 14
      refine wpAny_ready (rs:=[1,4]) (by kernel_rfl) (by simp) ?_
      refine AllReady.cons rfl (fun K hK'=>?_) (AllReady.cons rfl (fun K hK'=>?_) AllReady.nil)
      ·go_simp
       refine hK' _ _ ?_
       clear hK' K
       refine wpAny_ready (rs:=[4]) (by kernel_rfl) (by simp) ?_
       refine AllReady.cons rfl (fun K hK'=>?_) AllReady.nil
       go_simp
       refine hK' _ _ ?_
       clear hK' K
       refine wpAny_ready (rs:=[5]) (by kernel_rfl) (by simp) ?_
       refine AllReady.cons rfl (fun K hK'=>?_) AllReady.nil
       rw[if_pos (by kernel_rfl)]
       refine wp_app (.tmp 61) (.tmp 64) _ rfl (w.heap.size+2) 36 i0 _ 5 64 Tryz.underlying34 hi hz0 hz1 hz2 rfl (by decide) _ _ _ rfl (clE.own.alloc _) ⟨wc.heap.size,0,none⟩ 1 [.int .i64 kd,.int .i64 nn,.string ⟨nm.toArray⟩,.int .i64 op,.slice A L c] rfl rfl (World.news_of_block (heap_alloc_new _ _)) (by simp[Value.oneCell']) (by unfold maxLen;omega) (by omega) (by have:=bE.lt;simp;omega) ?_
       intro v2 w5 hown2 hgr2 hob
       refine hK' _ _ ?_
       clear hK' K
       have hrow:∀ k,(Value.slice Av acc.length cv).ownBlock=some k→w.heap.size+2≤k:=fun k hk=>(clE.own.lt k hk).1
       have o5:=(oE.al (.cells #[.int .i64 kd,.int .i64 nn,.string ⟨nm.toArray⟩,.int .i64 op,.slice A L c] 36)).rowg hgr2 (fun k hk=>by have:=hrow k hk;omega)
       have b5:=(bE.alloc (.cells #[.int .i64 kd,.int .i64 nn,.string ⟨nm.toArray⟩,.int .i64 op,.slice A L c] 36)).rowg hgr2 (fun k hk=>by have:=hrow k hk;omega)
       have cl5:=clE.snoc (Rep:=RepE) (x:=ape) (cs:=[.int .i64 kd,.int .i64 nn,.string ⟨nm.toArray⟩,.int .i64 op,.slice A L c]) keepsE (lo:=w3.drew.heap.size) hr (by have:=bD.lt;omega) hvb rfl hown2 hgr2 hob
       obtain⟨A5,L5,c5,_,rfl⟩:∃ A L c,Hid ((acc++[ape]).length=L)∧v2=Value.slice A L c:=by
        obtain⟨A,c,e⟩:=cl5.form'
        exact⟨A,_,c,Hd rfl,e⟩
       have q0:=b5.cell 14
       have g0:=b5.free 14
       refine wpAny_take (i:=6) (v:=.pointer (some ⟨w.heap.size+1,14,none⟩)) rfl (by kernel_rfl) (by kernel_rfl) (by kernel_rfl) (fun _ _ _ h=>h) (Or.inl ⟨by kernel_rfl,fun w=>by go_simp⟩) ?_
       refine wpAny_ready (rs:=[7]) (by kernel_rfl) (by simp) ?_
       refine AllReady.cons rfl (fun K hK'=>?_) AllReady.nil
       go_simp
       refine hK' _ _ ?_
       clear hK' K
       refine wpAny_done (by kernel_rfl) ?_ _
       have b6:Blk _ (w.heap.size+1) 40 #[.int .i64 6,.string ⟨nm0.toArray⟩,.string ⟨nm2.toArray⟩,.int .i64 0,.int .i64 0,.int .i64 0,.string ⟨#[]⟩,.int .i64 0,.slice none 0 0,.int .i64 0,.int .i64 0,.string ⟨#[]⟩,.int .i64 0,.slice none 0 0,.slice A5 L5 c5,.slice none 0 0,.slice none 0 0]:=b5.set 14 (.slice A5 L5 c5)
       have o6:=o5.far (a:=⟨w.heap.size+1,14,none⟩) (by show w.heap.size < w.heap.size+1;omega) (.slice A5 L5 c5)
       have cl6:=cl5.fs keepsE (a:=⟨w.heap.size+1,14,none⟩) (by show w.heap.size+1 < w.heap.size+2;omega) (.slice A5 L5 c5)
       go_wp2_with fail
       go_roundg m
       case measure=>exact Nat.lt_succ_self m
       case rel=>exact⟨s6,acc++[ape],css++[[.int .i64 kd,.int .i64 nn,.string ⟨nm.toArray⟩,.int .i64 op,.slice A L c]],_,by rw[List.append_assoc,hne1];exact HAE.out,by rw[hne1];exact HBE.out,by rw[hmin];omega,by omega,by rw[hmin];simp;omega,o6,b6,cl6⟩
      ·go_simp
       refine hK' _ _ ?_
       clear hK' K
       have j1:=(bE.alloc (.cells #[.int .i64 kd,.int .i64 nn,.string ⟨nm.toArray⟩,.int .i64 op,.slice A L c] 36)).cell 14
       refine wpAny_ready (rs:=[1]) (by kernel_rfl) (by simp) ?_
       refine AllReady.cons rfl (fun K hK'=>?_) AllReady.nil
       go_simp
       refine hK' _ _ ?_
       clear hK' K
       refine wpAny_ready (rs:=[5]) (by kernel_rfl) (by simp) ?_
       refine AllReady.cons rfl (fun K hK'=>?_) AllReady.nil
       rw[if_pos (by kernel_rfl)]
       refine wp_app (.tmp 61) (.tmp 64) _ rfl (w.heap.size+2) 36 i0 _ 5 64 Tryz.underlying34 hi hz0 hz1 hz2 rfl (by decide) _ _ _ rfl (clE.own.alloc _) ⟨wc.heap.size,0,none⟩ 1 [.int .i64 kd,.int .i64 nn,.string ⟨nm.toArray⟩,.int .i64 op,.slice A L c] rfl rfl (World.news_of_block (heap_alloc_new _ _)) (by simp[Value.oneCell']) (by unfold maxLen;omega) (by omega) (by have:=bE.lt;simp;omega) ?_
       intro v2 w5 hown2 hgr2 hob
       refine hK' _ _ ?_
       clear hK' K
       have hrow:∀ k,(Value.slice Av acc.length cv).ownBlock=some k→w.heap.size+2≤k:=fun k hk=>(clE.own.lt k hk).1
       have o5:=(oE.al (.cells #[.int .i64 kd,.int .i64 nn,.string ⟨nm.toArray⟩,.int .i64 op,.slice A L c] 36)).rowg hgr2 (fun k hk=>by have:=hrow k hk;omega)
       have b5:=(bE.alloc (.cells #[.int .i64 kd,.int .i64 nn,.string ⟨nm.toArray⟩,.int .i64 op,.slice A L c] 36)).rowg hgr2 (fun k hk=>by have:=hrow k hk;omega)
       have cl5:=clE.snoc (Rep:=RepE) (x:=ape) (cs:=[.int .i64 kd,.int .i64 nn,.string ⟨nm.toArray⟩,.int .i64 op,.slice A L c]) keepsE (lo:=w3.drew.heap.size) hr (by have:=bD.lt;omega) hvb rfl hown2 hgr2 hob
       obtain⟨A5,L5,c5,_,rfl⟩:∃ A L c,Hid ((acc++[ape]).length=L)∧v2=Value.slice A L c:=by
        obtain⟨A,c,e⟩:=cl5.form'
        exact⟨A,_,c,Hd rfl,e⟩
       have q0:=b5.cell 14
       have g0:=b5.free 14
       refine wpAny_take (i:=6) (v:=.pointer (some ⟨w.heap.size+1,14,none⟩)) rfl (by kernel_rfl) (by kernel_rfl) (by kernel_rfl) (fun _ _ _ h=>h) (Or.inl ⟨by kernel_rfl,fun w=>by go_simp⟩) ?_
       refine wpAny_ready (rs:=[7]) (by kernel_rfl) (by simp) ?_
       refine AllReady.cons rfl (fun K hK'=>?_) AllReady.nil
       go_simp
       refine hK' _ _ ?_
       clear hK' K
       refine wpAny_done (by kernel_rfl) ?_ _
       have b6:Blk _ (w.heap.size+1) 40 #[.int .i64 6,.string ⟨nm0.toArray⟩,.string ⟨nm2.toArray⟩,.int .i64 0,.int .i64 0,.int .i64 0,.string ⟨#[]⟩,.int .i64 0,.slice none 0 0,.int .i64 0,.int .i64 0,.string ⟨#[]⟩,.int .i64 0,.slice none 0 0,.slice A5 L5 c5,.slice none 0 0,.slice none 0 0]:=b5.set 14 (.slice A5 L5 c5)
       have o6:=o5.far (a:=⟨w.heap.size+1,14,none⟩) (by show w.heap.size < w.heap.size+1;omega) (.slice A5 L5 c5)
       have cl6:=cl5.fs keepsE (a:=⟨w.heap.size+1,14,none⟩) (by show w.heap.size+1 < w.heap.size+2;omega) (.slice A5 L5 c5)
       go_wp2_with fail
       go_roundg m
       case measure=>exact Nat.lt_succ_self m
       case rel=>exact⟨s6,acc++[ape],css++[[.int .i64 kd,.int .i64 nn,.string ⟨nm.toArray⟩,.int .i64 op,.slice A L c]],_,by rw[List.append_assoc,hne1];exact HAE.out,by rw[hne1];exact HBE.out,by rw[hmin];omega,by omega,by rw[hmin];simp;omega,o6,b6,cl6⟩
theorem rag_any (ts:List Tk)(en p n:Nat):RWAg ts en p n:=by
 intro s q w hq hm h
 cases hx:rAt ts (rNmS ts s) 0 cLb with
 | true=>exact rag_store ts en p n s q w hq hm h hx
 | false =>
  cases hy:(rNm ts (rEx ts (rNmS ts s) cEq) 0&&rAt ts (rEx ts (rNmS ts s) cEq) 1 cLp) with
  | true=>exact rag_call ts en p n s q w hq hm h hx hy
  | false=>exact rag_plain ts en p n s q w hq hm h hx hy
theorem rstmt_all (ts:List Tk)(en p:Nat)(n:Nat):(∀ m,m≤n→RWSt ts en p m)∧RWBl ts en p n:=by
 induction n with
 | zero=>exact⟨fun m hm _ _ _ _ h=>absurd h (by omega),fun _ _ _ _ h=>absurd h (by omega)⟩
 | succ n ih =>
  refine⟨fun m hm=>?_,rblock_step ts en p n ih.1⟩
  by_cases h:m≤n
  ·exact ih.1 m h
  ·obtain rfl:m=n+1:=by omega
   exact rstmt_step ts en p n ih.2 (rag_any ts en p n)
theorem rstmt_any (ts:List Tk)(en p n:Nat):RWSt ts en p n:=(rstmt_all ts en p n).1 n (Lr _)
end Go.Proofs.YtpgnlfdindmopaaGreatDoor
