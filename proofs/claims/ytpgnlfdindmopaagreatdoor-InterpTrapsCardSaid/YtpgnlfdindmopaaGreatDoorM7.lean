/- Words and walks for the laws of the interpreter. -/
import Derived.Test.YtpgnlfdindmopaaGreatDoorM6
import Derived.Test.YtpgnlfdindmopaaGreatDoorJ8
import Derived.Deep.CutBlock
import Derived.Deep.DeepCutAuto
namespace Go.Proofs.YtpgnlfdindmopaaGreatDoor
open Go.RowKit (wrap64 intOf)
open Go Go.RowKit WM LX PX
set_option maxRecDepth 100000
set_option maxHeartbeats 4000000
abbrev fn0:Array Value:=#[.string ⟨#[]⟩,.slice none 0 0,.slice none 0 0,.slice none 0 0,.int .i64 0,.int .i64 0,.string ⟨#[]⟩,.int .i64 0,.slice none 0 0]
theorem ms_rpr {ts:List Tk}(n:Nat):∀ (c:Bool)(s:PS),ms ts (rprF ts n c s).2≤ms ts s:=by
 induction n with
 | zero=>intro c s;rw[rprF];exact Lr _
 | succ n ih =>
  intro c s
  rw[rprF_eq]
  split
  ·exact Lr _
  ·refine Nat.le_trans (ih _ _) (Nat.le_trans (zBr _) ?_)
   split
   ·exact zAt _ _
   ·exact Lr _
theorem ms_rlc {ts:List Tk}(n:Nat):∀ (s:PS),ms ts (rlcF ts n s).2≤ms ts s:=by
 induction n with
 | zero=>intro s;rw[rlcF];exact Lr _
 | succ n ih =>
  intro s
  rw[rlcF]
  split
  ·rename_i h
   have h1:=zBa h
   have h2:=zBr (ts:=ts) (adv s)
   have h3:=ih (rNmS ts (adv s))
   dsimp only
   omega
  ·exact Lr _
theorem ms_rlv {ts:List Tk}(n:Nat)(s:PS):ms ts (rlvF ts n s).2≤ms ts s:=by
 unfold rlvF
 split
 ·rename_i h
  have h1:=zBa h
  have h2:=zBr (ts:=ts) (adv s)
  have h3:=ms_rlc (ts:=ts) n (rNmS ts (adv s))
  dsimp only
  omega
 ·exact Lr _
theorem RepL.rowg {α:Type}{Rep:World→(Nat→Prop)→α→List Value→Prop}{sz:Nat}{w w':World}{lo hi:Nat}{xs:List α}{v:Value}(h:RepL Rep sz w (Rg lo hi) xs v)(hk:Keeps Rep){row:Option Nat}(hg:w.grownBy w' row)(hhi:hi≤w.heap.size)(hrow:∀ k,row=some k→k < lo∨hi≤k):RepL Rep sz w' (Rg lo hi) xs v :=
 h.keep hk (fun _ h=>h) (fun g h=>hg.block g (Ll h.2 hhi) (fun e=>by have:=hrow g e.symm;have:=h.1;have:=h.2;omega))
theorem RepL.fs2 {α:Type}{Rep:World→(Nat→Prop)→α→List Value→Prop}{sz:Nat}{w:World}{lo hi:Nat}{xs:List α}{v:Value}(h:RepL Rep sz w (Rg lo hi) xs v)(hk:Keeps Rep){a:Addr}(ha:a.block < lo)(u:Value):RepL Rep sz (w.setCell a u) (Rg lo hi) xs v :=
 h.keep hk (fun _ h=>h) (fun g hg=>Below.heap_setCell w a u g (fun e=>by have:=hg.1;omega))
structure FnO (ts:List Tk)(en p:Nat)(s:PS)(w:World)(nm0:List UInt8)(v1 v2 v3:Value)(wr:World):Prop where
 o:ROwn ts en p s 38 fn0 w wr
 b:Blk wr (w.heap.size+1) 38 #[.string ⟨nm0.toArray⟩,v1,v2,v3,.int .i64 0,.int .i64 0,.string ⟨#[]⟩,.int .i64 0,.slice none 0 0]
def RPrR (ts:List Tk)(en p:Nat)(nm0:List UInt8)(l:List (List UInt8))(s4:PS)(w:World)(k n:Nat)(wr:World):Prop :=
 ∃ (s':PS) (acc:List (List UInt8)) (css:List (List Value)) (v:Value),acc++(rprF ts k (!acc.isEmpty) s').1=l∧(rprF ts k (!acc.isEmpty) s').2=s4∧ms ts s'+1≤k∧k≤n∧acc.length+ms ts s'≤ts.length+1+min acc.length 1 ∧
  FnO ts en p s' w nm0 v (.slice none 0 0) (.slice none 0 0) wr∧Coll RepN 1 9 (w.heap.size+2) acc css v wr
def RLcR (ts:List Tk)(en p:Nat)(nm0:List UInt8)(l:List (List UInt8))(s4:PS)(ps:List (List UInt8))(v1:Value)(B:Nat)(w:World)(k n:Nat)(wr:World):Prop :=
 ∃ (s':PS) (acc:List (List UInt8)) (css:List (List Value)) (v:Value),acc++(rlcF ts k s').1=l∧(rlcF ts k s').2=s4∧ms ts s'+1≤k∧k≤n∧acc.length+ms ts s'≤ts.length+2 ∧
  w.heap.size+2≤B∧B≤wr.heap.size∧FnO ts en p s' w nm0 v1 v (.slice none 0 0) wr∧RepL RepN 1 wr (Rg (w.heap.size+2) B) ps v1∧Coll RepN 1 9 B acc css v wr
def RBdR (ts:List Tk)(en p:Nat)(nm0:List UInt8)(l:List ST)(s4:PS)(ps lc:List (List UInt8))(v1 v2:Value)(B:Nat)(w:World)(k n:Nat)(wr:World):Prop :=
 ∃ (s':PS) (acc:List ST) (css:List (List Value)) (v:Value),acc++(rssF ts k zAm s').1=l∧(rssF ts k zAm s').2=s4∧20 * ms ts s'+17≤k∧k≤n∧acc.length+ms ts s'≤ts.length+2 ∧
  w.heap.size+2≤B∧B≤wr.heap.size∧FnO ts en p s' w nm0 v1 v2 v wr∧RepL RepN 1 wr (Rg (w.heap.size+2) B) ps v1∧RepL RepN 1 wr (Rg (w.heap.size+2) B) lc v2∧Coll RepS 17 40 B acc css v wr
def RFnP (ts:List Tk)(en p:Nat)(q:FN × PS)(w:World)(e:Ending)(w':World):Prop :=
 ∃ (nm0:List UInt8) (A1:Option Addr) (L1 c1:Nat) (A2:Option Addr) (L2 c2:Nat) (A3:Option Addr) (L3 c3:Nat) (kd nn:Int) (nm:List UInt8) (op:Int) (A:Option Addr) (L c:Nat),
  e=.returned (.agg #[.string ⟨nm0.toArray⟩,.slice A1 L1 c1,.slice A2 L2 c2,.slice A3 L3 c3,.int .i64 kd,.int .i64 nn,.string ⟨nm.toArray⟩,.int .i64 op,.slice A L c]) ∧
  RepF w' (Rg w.heap.size w'.heap.size) q.1 [.string ⟨nm0.toArray⟩,.slice A1 L1 c1,.slice A2 L2 c2,.slice A3 L3 c3,.int .i64 kd,.int .i64 nn,.string ⟨nm.toArray⟩,.int .i64 op,.slice A L c]∧w.grownBy w' (some p)∧RSt ts en p q.2 w'
theorem rfn_any (ts:List Tk)(en p n:Nat)(s:PS)(q:FN × PS)(w:World)(hq:Hid (rfnF ts n s=q))(hm:20 * ms ts s+18≤n)(h:RSt ts en p s w) :
 Calls Tryz.prog 22 #[.pointer (some ⟨p,0,none⟩)] w (RFnP ts en p q w):=by
 have hq:=hq.out
 unfold rfnF at hq
 obtain⟨nm0,hv⟩:∃ x,rNmV ts s=x:=⟨_,rfl⟩
 obtain⟨s1,hs1⟩:∃ x,rNmS ts s=x:=⟨_,rfl⟩
 have HV:=Hd hv
 have HS1:=Hd hs1
 have m1:=zBr (ts:=ts) s
 rw[hs1] at m1
 rw[hv,hs1] at hq
 obtain⟨s2,hs2⟩:∃ x,rEx ts s1 cLp=x:=⟨_,rfl⟩
 have HS2:=Hd hs2
 have m2:=zAt (ts:=ts) s1 cLp
 rw[hs2] at hq m2
 obtain⟨⟨ps,s3⟩,hp3⟩:∃ x,rprF ts n false s2=x:=⟨_,rfl⟩
 have HP3:=Hd hp3
 have m3:=ms_rpr (ts:=ts) n false s2
 rw[hp3] at hq m3
 dsimp only at hq m3
 obtain⟨s4,hs4⟩:∃ x,rEx ts s3 cRp=x:=⟨_,rfl⟩
 have HS4:=Hd hs4
 have m4:=zAt (ts:=ts) s3 cRp
 rw[hs4] at hq m4
 obtain⟨⟨lc,s5⟩,hl5⟩:∃ x,rlvF ts n s4=x:=⟨_,rfl⟩
 have HL5:=Hd hl5
 have m5:=ms_rlv (ts:=ts) n s4
 rw[hl5] at hq m5
 dsimp only at hq m5
 obtain⟨s6,hs6⟩:∃ x,rEx ts s5 cLc=x:=⟨_,rfl⟩
 have HS6:=Hd hs6
 have m6:=zAt (ts:=ts) s5 cLc
 rw[hs6] at hq m6
 obtain⟨⟨bd,s7⟩,hb7⟩:∃ x,rssF ts n zAm s6=x:=⟨_,rfl⟩
 have HB7:=Hd hb7
 have m7:=(rms_st (ts:=ts) n).1 zAm s6
 rw[hb7] at hq m7
 dsimp only at hq m7
 obtain⟨s8,hs8⟩:∃ x,rEx ts s7 zAm=x:=⟨_,rfl⟩
 have HS8:=Hd hs8
 have m8:=zAt (ts:=ts) s7 zAm
 rw[hs8] at hq m8
 obtain⟨⟨ve,s9⟩,he9⟩:∃ x,rexF ts n s8=x:=⟨_,rfl⟩
 have HE9:=Hd he9
 rw[he9] at hq
 dsimp only at hq
 obtain⟨t1,ht1⟩:∃ x,rEx ts s9 zA1=x:=⟨_,rfl⟩
 have HT1:=Hd ht1
 rw[ht1] at hq
 obtain⟨t2,ht2⟩:∃ x,rEx ts t1 cRc=x:=⟨_,rfl⟩
 have HT2:=Hd ht2
 rw[ht2] at hq
 subst hq
 have hA1:ms ts s2+1≤n:=by omega
 have hA2:ms ts s4+1≤n:=by omega
 have hA3:20 * ms ts s6+17≤n:=by omega
 have hA4:20 * ms ts s8+14≤n:=by omega
 have hml2:=ms_le ts s2
 have hml4:=ms_le ts s4
 have hml6:=ms_le ts s6
 clear hv hs1 hs2 hp3 hs4 hl5 hs6 hb7 hs8 he9 ht1 ht2 m1 m2 m3 m4 m5 m6 m7 m8 hm
 have hfew:=h.few
 obtain⟨i0,hi,hz0,hz1,hz2⟩:=info_parts strInfo
 obtain⟨jj,hj,hj0,hj1,hj2⟩:=info_parts stInfo
 have hpw:=h.lt
 have o:=(ROwn.start h 38 fn0).al (.cells fn0 38)
 have b:Blk ((w.alloc (.cells fn0 38)).alloc (.cells fn0 38)) (w.heap.size+1) 38 fn0:=blk_at (by simp) _ _
 clear h
 go_enter Tryz.func22,Tryz.ntmps22
 go_wp2_with fail
 refine (zA9 ts en p s s1 nm0 HV HS1 _ o.s).mono ?_
 rintro e w1 ⟨rfl,hg,hp⟩
 replace o:=o.acc hg hp
 replace b:=b.gr hg (by omega)
 clear hg hp
 have z0:=b.cell 0
 have y0:=b.free 0
 go_wp2_with fail
 clear z0 y0
 replace o:=o.far (a:=⟨w.heap.size+1,0,none⟩) (by show w.heap.size < w.heap.size+1;omega) (.string ⟨nm0.toArray⟩)
 replace b:Blk _ (w.heap.size+1) 38 #[.string ⟨nm0.toArray⟩,.slice none 0 0,.slice none 0 0,.slice none 0 0,.int .i64 0,.int .i64 0,.string ⟨#[]⟩,.int .i64 0,.slice none 0 0]:=b.set 0 (.string ⟨nm0.toArray⟩)
 refine (zAc ts en p s1 s2 cLp HS2 _ o.s).mono ?_
 rintro e w2 ⟨rfl,hg,hp⟩
 replace o:=o.acc hg hp
 replace b:=b.gr hg (by omega)
 clear hg hp
 go_upto_block 0 with fail
 go_cut [] (fun wx=>∃ (A1:Option Addr) (L1 c1:Nat),FnO ts en p s3 w nm0 (.slice A1 L1 c1) (.slice none 0 0) (.slice none 0 0) wx∧RepL RepN 1 wx (Rg (w.heap.size+2) wx.heap.size) ps (.slice A1 L1 c1))
 case first =>
  have H0:Hid (RPrR ts en p nm0 ps s3 w n n w2):=Hd ⟨s2,[],[],.slice none 0 0,by show []++(rprF ts n false s2).1=ps;rw[HP3.out];rfl,by show (rprF ts n false s2).2=s3;rw[HP3.out],hA1,Lr _,by simpa using hml2,⟨o,b⟩,coll_nil _ _ _ _ _⟩
  clear o b
  go_wp2_with fail
  go_loopg [] n (fun k wr=>RPrR ts en p nm0 ps s3 w k n wr)
  case atStart=>exact H0.out
  case round =>
   clear H0
   obtain⟨s',acc,css,v,ha,hb,hk,hkn,hln,⟨o,b⟩,cl⟩:=hrel
   obtain⟨m,rfl⟩:∃ m,gk=m+1:=⟨gk - 1,by omega⟩
   rw[rprF_eq] at ha hb
   obtain⟨Av,cv,rfl⟩:=cl.form'
   cases hf:s'.f with
   | true =>
    rw[hf,Bool.true_or,if_pos rfl] at ha hb
    have ha:acc=ps:=by simpa using ha
    have hb:s'=s3:=hb
    subst ha hb
    have HOK:=Hd (fun w h=>zAn ts en p s' false hf w h)
    clear hf
    go_wp2_with fail
    refine (HOK.out _ o.s).mono ?_
    rintro e w3 ⟨rfl,rfl⟩
    go_wp2_with fail
    go_meet
    case rel=>exact⟨_,_,_,⟨o,b⟩,cl.out keepsN⟩
   | false =>
    have HOK:=Hd (fun w h=>zAn ts en p s' true hf w h)
    obtain⟨b0,hb0⟩:∃ b,rAt ts s' 0 cRp=b:=⟨_,rfl⟩
    have HB:=Hd hb0
    rw[hf,Bool.false_or,hb0] at ha hb
    cases b0
    rotate_left
    ·rw[if_pos rfl] at ha hb
     have ha:acc=ps:=by simpa using ha
     have hb:s'=s3:=hb
     subst ha hb
     clear hf hb0
     go_wp2_with fail
     refine (HOK.out _ o.s).mono ?_
     rintro e w3 ⟨rfl,rfl⟩
     go_wp2_with fail
     refine (zAe ts en p s' 0 (by decide) cRp true HB _ o.s).mono ?_
     rintro e w3 ⟨rfl,hb1⟩
     have hg:=zAa hb1 (some p)
     have hp:=o.s.keep hb1
     clear hb1
     replace o:=o.acc hg hp
     replace b:=b.gr hg (by omega)
     replace cl:=cl.grown (p:=p) keepsN hg (by omega)
     clear hg hp
     go_wp2_with fail
     go_meet
     case rel=>exact⟨_,_,_,⟨o,b⟩,cl.out keepsN⟩
    ·rw[if_neg (by decide)] at ha hb
     cases hacc:acc.isEmpty with
     | true =>
      obtain rfl:acc=[]:=List.isEmpty_iff.1 hacc
      rw[hacc] at ha hb
      simp only[Bool.not_true,Bool.false_eq_true,if_false] at ha hb
      obtain⟨nm,hvn⟩:∃ x,rNmV ts s'=x:=⟨_,rfl⟩
      obtain⟨s6,hsn⟩:∃ x,rNmS ts s'=x:=⟨_,rfl⟩
      have HVN:=Hd hvn
      have HSN:=Hd hsn
      have hmc:=ms_rNmS_lt (ts:=ts) hf
      rw[hsn] at hmc
      rw[hvn,hsn] at ha
      rw[hsn] at hb
      have HAE:=Hd ha
      have HBE:=Hd hb
      have hne1:(!([]++[nm]:List (List UInt8)).isEmpty)=true:=by simp
      have hmin:min ([]++[nm]:List (List UInt8)).length 1=1:=by simp
      simp only[List.length_nil,Nat.zero_min,Nat.add_zero,Nat.zero_add] at hln
      clear hf hb0 hvn hsn ha hb hacc
      have z1:=b.cell 1
      go_wp2_with fail
      refine (HOK.out _ o.s).mono ?_
      rintro e w3 ⟨rfl,rfl⟩
      go_wp2_with fail
      refine (zAe ts en p s' 0 (by decide) cRp false HB _ o.s).mono ?_
      rintro e w3 ⟨rfl,hb1⟩
      clear z1
      have hg:=zAa hb1 (some p)
      have hp:=o.s.keep hb1
      clear hb1
      replace o:=o.acc hg hp
      replace b:=b.gr hg (by omega)
      replace cl:=cl.grown (p:=p) keepsN hg (by omega)
      clear hg hp
      have z1:=b.cell 1
      go_wp2_with fail
      clear z1
      have hvb:=cl.blk
      have oD:ROwn ts en p s' 38 fn0 w w3.drew:=o.low (below_drewN (Below.refl _ _) 1)
      have bD:Blk w3.drew (w.heap.size+1) 38 #[.string ⟨nm0.toArray⟩,.slice Av 0 cv,.slice none 0 0,.slice none 0 0,.int .i64 0,.int .i64 0,.string ⟨#[]⟩,.int .i64 0,.slice none 0 0]:=b
      have clD:=cl.grown (w':=w3.drew) (p:=p) keepsN (zAa (below_drewN (Below.refl _ _) 1) _) (by omega)
      have hcall:=zA9 ts en p s' s6 nm HVN HSN _ oD.s
      have hcz:css.length≤30000:=by
       have h1:=cl.len
       have h2:=o.s.few
       rw[←h1]
       first | (simp;done) | omega
      have z0:=b.cell 1
      refine wp_region_any (by kernel_rfl) ?_
      change wpAny _ _ _ _ _ _ _ (World.drew _)
      refine wpAny_take (i:=0) (v:=.pointer (some ⟨w.heap.size+1,1,none⟩)) rfl (by kernel_rfl) (by kernel_rfl) (by kernel_rfl) (fun _ _ _ h=>h) (Or.inl ⟨by kernel_rfl,fun w=>by go_simp⟩) ?_
      refine wpAny_take (i:=2) (v:=.pointer (some ⟨p,0,none⟩)) rfl (by kernel_rfl) (by kernel_rfl) (by kernel_rfl) (fun _ _ _ h=>h) (Or.inl ⟨by kernel_rfl,fun w=>by go_simp⟩) ?_
      refine wpAny_ready (rs:=[1,3]) (by kernel_rfl) (by simp) ?_
      refine AllReady.cons rfl (fun K hK'=>?_) (AllReady.cons rfl (fun K hK'=>?_) AllReady.nil)
      ·go_simp
       refine hK' _ _ ?_
       clear hK' K
       refine wpAny_ready (rs:=[3]) (by kernel_rfl) (by simp) ?_
       refine AllReady.cons rfl (fun K hK'=>?_) AllReady.nil
       go_simp
       go_wp2_with (go_at_call 19;((with_reducible refine hcall.mono ?_);rintro e wc ⟨rfl,hg,hp⟩;have hgz:=hg.size;have bE:=bD.gr hg (show p≠w.heap.size+1 by omega);have oE:=oD.acc hg hp;have clE:=clD.grown (p:=p) keepsN hg (show p < w.heap.size+2 by omega)))
       refine wpAny_ready (rs:=[4]) (by kernel_rfl) (by simp) ?_
       refine AllReady.cons rfl (fun K hK'=>?_) AllReady.nil
       go_simp
       refine hK' _ _ ?_
       clear hK' K
       refine wpAny_ready (rs:=[5]) (by kernel_rfl) (by simp) ?_
       refine AllReady.cons rfl (fun K hK'=>?_) AllReady.nil
       rw[if_pos (by kernel_rfl)]
       refine wp_app (.tmp 23) (.tmp 26) _ rfl (w.heap.size+2) 9 i0 _ 1 16 Tryz.underlying32 hi hz0 hz1 hz2 rfl (by decide) _ _ _ rfl (clE.own.alloc _) ⟨wc.heap.size,0,none⟩ 1 [.string ⟨nm.toArray⟩] rfl rfl (World.news_of_block (heap_alloc_new _ _)) (by simp[Value.oneCell']) (by unfold maxLen;omega) (by omega) (by have:=bE.lt;simp;omega) ?_
       intro v2 w5 hown2 hgr2 hob
       refine hK' _ _ ?_
       clear hK' K
       have hrow:∀ k,(Value.slice Av 0 cv).ownBlock=some k→w.heap.size+2≤k:=fun k hk=>(clE.own.lt k hk).1
       have o5:=(oE.al (.cells #[.string ⟨nm.toArray⟩] 9)).rowg hgr2 (fun k hk=>by have:=hrow k hk;omega)
       have b5:=(bE.alloc (.cells #[.string ⟨nm.toArray⟩] 9)).rowg hgr2 (fun k hk=>by have:=hrow k hk;omega)
       have cl5:=clE.snoc (Rep:=RepN) (x:=nm) (cs:=[.string ⟨nm.toArray⟩]) keepsN (lo:=w3.drew.heap.size) rfl (by have:=bD.lt;omega) hvb rfl hown2 hgr2 hob
       obtain⟨A5,L5,c5,_,rfl⟩:∃ A L c,Hid (([]++[nm]:List (List UInt8)).length=L)∧v2=Value.slice A L c:=by
        obtain⟨A,c,e⟩:=cl5.form'
        exact⟨A,_,c,Hd rfl,e⟩
       have q0:=b5.cell 1
       have g0:=b5.free 1
       refine wpAny_take (i:=6) (v:=.pointer (some ⟨w.heap.size+1,1,none⟩)) rfl (by kernel_rfl) (by kernel_rfl) (by kernel_rfl) (fun _ _ _ h=>h) (Or.inl ⟨by kernel_rfl,fun w=>by go_simp⟩) ?_
       refine wpAny_ready (rs:=[7]) (by kernel_rfl) (by simp) ?_
       refine AllReady.cons rfl (fun K hK'=>?_) AllReady.nil
       go_simp
       refine hK' _ _ ?_
       clear hK' K
       refine wpAny_done (by kernel_rfl) ?_ _
       have b6:Blk _ (w.heap.size+1) 38 #[.string ⟨nm0.toArray⟩,.slice A5 L5 c5,.slice none 0 0,.slice none 0 0,.int .i64 0,.int .i64 0,.string ⟨#[]⟩,.int .i64 0,.slice none 0 0]:=b5.set 1 (.slice A5 L5 c5)
       have o6:=o5.far (a:=⟨w.heap.size+1,1,none⟩) (by show w.heap.size < w.heap.size+1;omega) (.slice A5 L5 c5)
       have cl6:=cl5.fs keepsN (a:=⟨w.heap.size+1,1,none⟩) (by show w.heap.size+1 < w.heap.size+2;omega) (.slice A5 L5 c5)
       go_wp2_with fail
       go_roundg m
       case measure=>exact Nat.lt_succ_self m
       case rel=>exact⟨s6,[]++[nm],css++[[.string ⟨nm.toArray⟩]],_,by rw[List.append_assoc,hne1];exact HAE.out,by rw[hne1];exact HBE.out,by omega,by omega,by rw[hmin];simp;omega,⟨o6,b6⟩,cl6⟩
      ·go_simp
       go_wp2_with (go_at_call 19;((with_reducible refine hcall.mono ?_);rintro e wc ⟨rfl,hg,hp⟩;have hgz:=hg.size;have bE:=bD.gr hg (show p≠w.heap.size+1 by omega);have oE:=oD.acc hg hp;have clE:=clD.grown (p:=p) keepsN hg (show p < w.heap.size+2 by omega)))
       have j0:=bE.cell 1
       refine wpAny_ready (rs:=[1,4]) (by kernel_rfl) (by simp) ?_
       refine AllReady.cons rfl (fun K hK'=>?_) (AllReady.cons rfl (fun K hK'=>?_) AllReady.nil)
       ·go_simp
        refine hK' _ _ ?_
        clear hK' K
        refine wpAny_ready (rs:=[4]) (by kernel_rfl) (by simp) ?_
        refine AllReady.cons rfl (fun K hK'=>?_) AllReady.nil
        go_simp
        refine hK' _ _ ?_
        clear hK' K
        refine wpAny_ready (rs:=[5]) (by kernel_rfl) (by simp) ?_
        refine AllReady.cons rfl (fun K hK'=>?_) AllReady.nil
        rw[if_pos (by kernel_rfl)]
        refine wp_app (.tmp 23) (.tmp 26) _ rfl (w.heap.size+2) 9 i0 _ 1 16 Tryz.underlying32 hi hz0 hz1 hz2 rfl (by decide) _ _ _ rfl (clE.own.alloc _) ⟨wc.heap.size,0,none⟩ 1 [.string ⟨nm.toArray⟩] rfl rfl (World.news_of_block (heap_alloc_new _ _)) (by simp[Value.oneCell']) (by unfold maxLen;omega) (by omega) (by have:=bE.lt;simp;omega) ?_
        intro v2 w5 hown2 hgr2 hob
        refine hK' _ _ ?_
        clear hK' K
        have hrow:∀ k,(Value.slice Av 0 cv).ownBlock=some k→w.heap.size+2≤k:=fun k hk=>(clE.own.lt k hk).1
        have o5:=(oE.al (.cells #[.string ⟨nm.toArray⟩] 9)).rowg hgr2 (fun k hk=>by have:=hrow k hk;omega)
        have b5:=(bE.alloc (.cells #[.string ⟨nm.toArray⟩] 9)).rowg hgr2 (fun k hk=>by have:=hrow k hk;omega)
        have cl5:=clE.snoc (Rep:=RepN) (x:=nm) (cs:=[.string ⟨nm.toArray⟩]) keepsN (lo:=w3.drew.heap.size) rfl (by have:=bD.lt;omega) hvb rfl hown2 hgr2 hob
        obtain⟨A5,L5,c5,_,rfl⟩:∃ A L c,Hid (([]++[nm]:List (List UInt8)).length=L)∧v2=Value.slice A L c:=by
         obtain⟨A,c,e⟩:=cl5.form'
         exact⟨A,_,c,Hd rfl,e⟩
        have q0:=b5.cell 1
        have g0:=b5.free 1
        refine wpAny_take (i:=6) (v:=.pointer (some ⟨w.heap.size+1,1,none⟩)) rfl (by kernel_rfl) (by kernel_rfl) (by kernel_rfl) (fun _ _ _ h=>h) (Or.inl ⟨by kernel_rfl,fun w=>by go_simp⟩) ?_
        refine wpAny_ready (rs:=[7]) (by kernel_rfl) (by simp) ?_
        refine AllReady.cons rfl (fun K hK'=>?_) AllReady.nil
        go_simp
        refine hK' _ _ ?_
        clear hK' K
        refine wpAny_done (by kernel_rfl) ?_ _
        have b6:Blk _ (w.heap.size+1) 38 #[.string ⟨nm0.toArray⟩,.slice A5 L5 c5,.slice none 0 0,.slice none 0 0,.int .i64 0,.int .i64 0,.string ⟨#[]⟩,.int .i64 0,.slice none 0 0]:=b5.set 1 (.slice A5 L5 c5)
        have o6:=o5.far (a:=⟨w.heap.size+1,1,none⟩) (by show w.heap.size < w.heap.size+1;omega) (.slice A5 L5 c5)
        have cl6:=cl5.fs keepsN (a:=⟨w.heap.size+1,1,none⟩) (by show w.heap.size+1 < w.heap.size+2;omega) (.slice A5 L5 c5)
        go_wp2_with fail
        go_roundg m
        case measure=>exact Nat.lt_succ_self m
        case rel=>exact⟨s6,[]++[nm],css++[[.string ⟨nm.toArray⟩]],_,by rw[List.append_assoc,hne1];exact HAE.out,by rw[hne1];exact HBE.out,by omega,by omega,by rw[hmin];simp;omega,⟨o6,b6⟩,cl6⟩
       ·go_simp
        refine hK' _ _ ?_
        clear hK' K
        have j1:=(bE.alloc (.cells #[.string ⟨nm.toArray⟩] 9)).cell 1
        refine wpAny_ready (rs:=[1]) (by kernel_rfl) (by simp) ?_
        refine AllReady.cons rfl (fun K hK'=>?_) AllReady.nil
        go_simp
        refine hK' _ _ ?_
        clear hK' K
        refine wpAny_ready (rs:=[5]) (by kernel_rfl) (by simp) ?_
        refine AllReady.cons rfl (fun K hK'=>?_) AllReady.nil
        rw[if_pos (by kernel_rfl)]
        refine wp_app (.tmp 23) (.tmp 26) _ rfl (w.heap.size+2) 9 i0 _ 1 16 Tryz.underlying32 hi hz0 hz1 hz2 rfl (by decide) _ _ _ rfl (clE.own.alloc _) ⟨wc.heap.size,0,none⟩ 1 [.string ⟨nm.toArray⟩] rfl rfl (World.news_of_block (heap_alloc_new _ _)) (by simp[Value.oneCell']) (by unfold maxLen;omega) (by omega) (by have:=bE.lt;simp;omega) ?_
        intro v2 w5 hown2 hgr2 hob
        refine hK' _ _ ?_
        clear hK' K
        have hrow:∀ k,(Value.slice Av 0 cv).ownBlock=some k→w.heap.size+2≤k:=fun k hk=>(clE.own.lt k hk).1
        have o5:=(oE.al (.cells #[.string ⟨nm.toArray⟩] 9)).rowg hgr2 (fun k hk=>by have:=hrow k hk;omega)
        have b5:=(bE.alloc (.cells #[.string ⟨nm.toArray⟩] 9)).rowg hgr2 (fun k hk=>by have:=hrow k hk;omega)
        have cl5:=clE.snoc (Rep:=RepN) (x:=nm) (cs:=[.string ⟨nm.toArray⟩]) keepsN (lo:=w3.drew.heap.size) rfl (by have:=bD.lt;omega) hvb rfl hown2 hgr2 hob
        obtain⟨A5,L5,c5,_,rfl⟩:∃ A L c,Hid (([]++[nm]:List (List UInt8)).length=L)∧v2=Value.slice A L c:=by
         obtain⟨A,c,e⟩:=cl5.form'
         exact⟨A,_,c,Hd rfl,e⟩
        have q0:=b5.cell 1
        have g0:=b5.free 1
        refine wpAny_take (i:=6) (v:=.pointer (some ⟨w.heap.size+1,1,none⟩)) rfl (by kernel_rfl) (by kernel_rfl) (by kernel_rfl) (fun _ _ _ h=>h) (Or.inl ⟨by kernel_rfl,fun w=>by go_simp⟩) ?_
        refine wpAny_ready (rs:=[7]) (by kernel_rfl) (by simp) ?_
        refine AllReady.cons rfl (fun K hK'=>?_) AllReady.nil
        go_simp
        refine hK' _ _ ?_
        clear hK' K
        refine wpAny_done (by kernel_rfl) ?_ _
        have b6:Blk _ (w.heap.size+1) 38 #[.string ⟨nm0.toArray⟩,.slice A5 L5 c5,.slice none 0 0,.slice none 0 0,.int .i64 0,.int .i64 0,.string ⟨#[]⟩,.int .i64 0,.slice none 0 0]:=b5.set 1 (.slice A5 L5 c5)
        have o6:=o5.far (a:=⟨w.heap.size+1,1,none⟩) (by show w.heap.size < w.heap.size+1;omega) (.slice A5 L5 c5)
        have cl6:=cl5.fs keepsN (a:=⟨w.heap.size+1,1,none⟩) (by show w.heap.size+1 < w.heap.size+2;omega) (.slice A5 L5 c5)
        go_wp2_with fail
        go_roundg m
        case measure=>exact Nat.lt_succ_self m
        case rel=>exact⟨s6,[]++[nm],css++[[.string ⟨nm.toArray⟩]],_,by rw[List.append_assoc,hne1];exact HAE.out,by rw[hne1];exact HBE.out,by omega,by omega,by rw[hmin];simp;omega,⟨o6,b6⟩,cl6⟩
     | false =>
      rw[hacc] at ha hb
      simp only[Bool.not_false,if_true] at ha hb
      obtain⟨s1',hs1'⟩:∃ x,rEx ts s' zA7=x:=⟨_,rfl⟩
      have HSC:=Hd hs1'
      have hms:=ms_rEx_lt (ts:=ts) hf zA7
      rw[hs1'] at ha hb hms
      obtain⟨nm,hvn⟩:∃ x,rNmV ts s1'=x:=⟨_,rfl⟩
      obtain⟨s6,hsn⟩:∃ x,rNmS ts s1'=x:=⟨_,rfl⟩
      have HVN:=Hd hvn
      have HSN:=Hd hsn
      have hmc:=zBr (ts:=ts) s1'
      rw[hsn] at hmc
      rw[hvn,hsn] at ha
      rw[hsn] at hb
      have HAE:=Hd ha
      have HBE:=Hd hb
      have hne1:(!(acc++[nm]).isEmpty)=true:=by simp
      have hpos:0 < acc.length:=by cases acc with
       | nil=>cases hacc
       | cons a r=>simp
      have hmin0:min acc.length 1=1:=by omega
      have hmin:min (acc++[nm]).length 1=1:=by simp
      rw[hmin0] at hln
      have hp1:decide (0 < acc.length)=true:=decide_eq_true hpos
      have hp2:(0:Int) < (acc.length:Int):=by omega
      clear hf hb0 hvn hsn ha hb hacc hs1' hmin0
      go_wp2_with fail
      refine (HOK.out _ o.s).mono ?_
      rintro e w3 ⟨rfl,rfl⟩
      go_wp2_with fail
      refine (zAe ts en p s' 0 (by decide) cRp false HB _ o.s).mono ?_
      rintro e w3 ⟨rfl,hb1⟩
      have hg:=zAa hb1 (some p)
      have hp:=o.s.keep hb1
      clear hb1
      replace o:=o.acc hg hp
      replace b:=b.gr hg (by omega)
      replace cl:=cl.grown (p:=p) keepsN hg (by omega)
      clear hg hp
      have z1:=b.cell 1
      go_wp2_with fail
      refine (zAc ts en p s' s1' zA7 HSC _ o.s).mono ?_
      rintro e w4 ⟨rfl,hg,hp⟩
      clear z1
      replace o:=o.acc hg hp
      replace b:=b.gr hg (by omega)
      replace cl:=cl.grown (p:=p) keepsN hg (by omega)
      clear hg hp
      go_wp2_with fail
      have hvb:=cl.blk
      have oD:ROwn ts en p s1' 38 fn0 w w4.drew:=o.low (below_drewN (Below.refl _ _) 1)
      have bD:Blk w4.drew (w.heap.size+1) 38 #[.string ⟨nm0.toArray⟩,.slice Av acc.length cv,.slice none 0 0,.slice none 0 0,.int .i64 0,.int .i64 0,.string ⟨#[]⟩,.int .i64 0,.slice none 0 0]:=b
      have clD:=cl.grown (w':=w4.drew) (p:=p) keepsN (zAa (below_drewN (Below.refl _ _) 1) _) (by omega)
      have hcall:=zA9 ts en p s1' s6 nm HVN HSN _ oD.s
      have hcz:css.length≤30000:=by
       have h1:=cl.len
       have h2:=o.s.few
       rw[←h1]
       first | (simp;done) | omega
      have z0:=b.cell 1
      refine wp_region_any (by kernel_rfl) ?_
      change wpAny _ _ _ _ _ _ _ (World.drew _)
      refine wpAny_take (i:=0) (v:=.pointer (some ⟨w.heap.size+1,1,none⟩)) rfl (by kernel_rfl) (by kernel_rfl) (by kernel_rfl) (fun _ _ _ h=>h) (Or.inl ⟨by kernel_rfl,fun w=>by go_simp⟩) ?_
      refine wpAny_take (i:=2) (v:=.pointer (some ⟨p,0,none⟩)) rfl (by kernel_rfl) (by kernel_rfl) (by kernel_rfl) (fun _ _ _ h=>h) (Or.inl ⟨by kernel_rfl,fun w=>by go_simp⟩) ?_
      refine wpAny_ready (rs:=[1,3]) (by kernel_rfl) (by simp) ?_
      refine AllReady.cons rfl (fun K hK'=>?_) (AllReady.cons rfl (fun K hK'=>?_) AllReady.nil)
      ·go_simp
       refine hK' _ _ ?_
       clear hK' K
       refine wpAny_ready (rs:=[3]) (by kernel_rfl) (by simp) ?_
       refine AllReady.cons rfl (fun K hK'=>?_) AllReady.nil
       go_simp
       go_wp2_with (go_at_call 19;((with_reducible refine hcall.mono ?_);rintro e wc ⟨rfl,hg,hp⟩;have hgz:=hg.size;have bE:=bD.gr hg (show p≠w.heap.size+1 by omega);have oE:=oD.acc hg hp;have clE:=clD.grown (p:=p) keepsN hg (show p < w.heap.size+2 by omega)))
       refine wpAny_ready (rs:=[4]) (by kernel_rfl) (by simp) ?_
       refine AllReady.cons rfl (fun K hK'=>?_) AllReady.nil
       go_simp
       refine hK' _ _ ?_
       clear hK' K
       refine wpAny_ready (rs:=[5]) (by kernel_rfl) (by simp) ?_
       refine AllReady.cons rfl (fun K hK'=>?_) AllReady.nil
       rw[if_pos (by kernel_rfl)]
       refine wp_app (.tmp 23) (.tmp 26) _ rfl (w.heap.size+2) 9 i0 _ 1 16 Tryz.underlying32 hi hz0 hz1 hz2 rfl (by decide) _ _ _ rfl (clE.own.alloc _) ⟨wc.heap.size,0,none⟩ 1 [.string ⟨nm.toArray⟩] rfl rfl (World.news_of_block (heap_alloc_new _ _)) (by simp[Value.oneCell']) (by unfold maxLen;omega) (by omega) (by have:=bE.lt;simp;omega) ?_
       intro v2 w5 hown2 hgr2 hob
       refine hK' _ _ ?_
       clear hK' K
       have hrow:∀ k,(Value.slice Av acc.length cv).ownBlock=some k→w.heap.size+2≤k:=fun k hk=>(clE.own.lt k hk).1
       have o5:=(oE.al (.cells #[.string ⟨nm.toArray⟩] 9)).rowg hgr2 (fun k hk=>by have:=hrow k hk;omega)
       have b5:=(bE.alloc (.cells #[.string ⟨nm.toArray⟩] 9)).rowg hgr2 (fun k hk=>by have:=hrow k hk;omega)
       have cl5:=clE.snoc (Rep:=RepN) (x:=nm) (cs:=[.string ⟨nm.toArray⟩]) keepsN (lo:=w4.drew.heap.size) rfl (by have:=bD.lt;omega) hvb rfl hown2 hgr2 hob
       obtain⟨A5,L5,c5,_,rfl⟩:∃ A L c,Hid ((acc++[nm]).length=L)∧v2=Value.slice A L c:=by
        obtain⟨A,c,e⟩:=cl5.form'
        exact⟨A,_,c,Hd rfl,e⟩
       have q0:=b5.cell 1
       have g0:=b5.free 1
       refine wpAny_take (i:=6) (v:=.pointer (some ⟨w.heap.size+1,1,none⟩)) rfl (by kernel_rfl) (by kernel_rfl) (by kernel_rfl) (fun _ _ _ h=>h) (Or.inl ⟨by kernel_rfl,fun w=>by go_simp⟩) ?_
       refine wpAny_ready (rs:=[7]) (by kernel_rfl) (by simp) ?_
       refine AllReady.cons rfl (fun K hK'=>?_) AllReady.nil
       go_simp
       refine hK' _ _ ?_
       clear hK' K
       refine wpAny_done (by kernel_rfl) ?_ _
       have b6:Blk _ (w.heap.size+1) 38 #[.string ⟨nm0.toArray⟩,.slice A5 L5 c5,.slice none 0 0,.slice none 0 0,.int .i64 0,.int .i64 0,.string ⟨#[]⟩,.int .i64 0,.slice none 0 0]:=b5.set 1 (.slice A5 L5 c5)
       have o6:=o5.far (a:=⟨w.heap.size+1,1,none⟩) (by show w.heap.size < w.heap.size+1;omega) (.slice A5 L5 c5)
       have cl6:=cl5.fs keepsN (a:=⟨w.heap.size+1,1,none⟩) (by show w.heap.size+1 < w.heap.size+2;omega) (.slice A5 L5 c5)
       go_wp2_with fail
       go_roundg m
       case measure=>exact Nat.lt_succ_self m
       case rel=>exact⟨s6,acc++[nm],css++[[.string ⟨nm.toArray⟩]],_,by rw[List.append_assoc,hne1];exact HAE.out,by rw[hne1];exact HBE.out,by omega,by omega,by rw[hmin];simp;omega,⟨o6,b6⟩,cl6⟩
      ·go_simp
       go_wp2_with (go_at_call 19;((with_reducible refine hcall.mono ?_);rintro e wc ⟨rfl,hg,hp⟩;have hgz:=hg.size;have bE:=bD.gr hg (show p≠w.heap.size+1 by omega);have oE:=oD.acc hg hp;have clE:=clD.grown (p:=p) keepsN hg (show p < w.heap.size+2 by omega)))
       have j0:=bE.cell 1
       refine wpAny_ready (rs:=[1,4]) (by kernel_rfl) (by simp) ?_
       refine AllReady.cons rfl (fun K hK'=>?_) (AllReady.cons rfl (fun K hK'=>?_) AllReady.nil)
       ·go_simp
        refine hK' _ _ ?_
        clear hK' K
        refine wpAny_ready (rs:=[4]) (by kernel_rfl) (by simp) ?_
        refine AllReady.cons rfl (fun K hK'=>?_) AllReady.nil
        go_simp
        refine hK' _ _ ?_
        clear hK' K
        refine wpAny_ready (rs:=[5]) (by kernel_rfl) (by simp) ?_
        refine AllReady.cons rfl (fun K hK'=>?_) AllReady.nil
        rw[if_pos (by kernel_rfl)]
        refine wp_app (.tmp 23) (.tmp 26) _ rfl (w.heap.size+2) 9 i0 _ 1 16 Tryz.underlying32 hi hz0 hz1 hz2 rfl (by decide) _ _ _ rfl (clE.own.alloc _) ⟨wc.heap.size,0,none⟩ 1 [.string ⟨nm.toArray⟩] rfl rfl (World.news_of_block (heap_alloc_new _ _)) (by simp[Value.oneCell']) (by unfold maxLen;omega) (by omega) (by have:=bE.lt;simp;omega) ?_
        intro v2 w5 hown2 hgr2 hob
        refine hK' _ _ ?_
        clear hK' K
        have hrow:∀ k,(Value.slice Av acc.length cv).ownBlock=some k→w.heap.size+2≤k:=fun k hk=>(clE.own.lt k hk).1
        have o5:=(oE.al (.cells #[.string ⟨nm.toArray⟩] 9)).rowg hgr2 (fun k hk=>by have:=hrow k hk;omega)
        have b5:=(bE.alloc (.cells #[.string ⟨nm.toArray⟩] 9)).rowg hgr2 (fun k hk=>by have:=hrow k hk;omega)
        have cl5:=clE.snoc (Rep:=RepN) (x:=nm) (cs:=[.string ⟨nm.toArray⟩]) keepsN (lo:=w4.drew.heap.size) rfl (by have:=bD.lt;omega) hvb rfl hown2 hgr2 hob
        obtain⟨A5,L5,c5,_,rfl⟩:∃ A L c,Hid ((acc++[nm]).length=L)∧v2=Value.slice A L c:=by
         obtain⟨A,c,e⟩:=cl5.form'
         exact⟨A,_,c,Hd rfl,e⟩
        have q0:=b5.cell 1
        have g0:=b5.free 1
        refine wpAny_take (i:=6) (v:=.pointer (some ⟨w.heap.size+1,1,none⟩)) rfl (by kernel_rfl) (by kernel_rfl) (by kernel_rfl) (fun _ _ _ h=>h) (Or.inl ⟨by kernel_rfl,fun w=>by go_simp⟩) ?_
        refine wpAny_ready (rs:=[7]) (by kernel_rfl) (by simp) ?_
        refine AllReady.cons rfl (fun K hK'=>?_) AllReady.nil
        go_simp
        refine hK' _ _ ?_
        clear hK' K
        refine wpAny_done (by kernel_rfl) ?_ _
        have b6:Blk _ (w.heap.size+1) 38 #[.string ⟨nm0.toArray⟩,.slice A5 L5 c5,.slice none 0 0,.slice none 0 0,.int .i64 0,.int .i64 0,.string ⟨#[]⟩,.int .i64 0,.slice none 0 0]:=b5.set 1 (.slice A5 L5 c5)
        have o6:=o5.far (a:=⟨w.heap.size+1,1,none⟩) (by show w.heap.size < w.heap.size+1;omega) (.slice A5 L5 c5)
        have cl6:=cl5.fs keepsN (a:=⟨w.heap.size+1,1,none⟩) (by show w.heap.size+1 < w.heap.size+2;omega) (.slice A5 L5 c5)
        go_wp2_with fail
        go_roundg m
        case measure=>exact Nat.lt_succ_self m
        case rel=>exact⟨s6,acc++[nm],css++[[.string ⟨nm.toArray⟩]],_,by rw[List.append_assoc,hne1];exact HAE.out,by rw[hne1];exact HBE.out,by omega,by omega,by rw[hmin];simp;omega,⟨o6,b6⟩,cl6⟩
       ·go_simp
        refine hK' _ _ ?_
        clear hK' K
        have j1:=(bE.alloc (.cells #[.string ⟨nm.toArray⟩] 9)).cell 1
        refine wpAny_ready (rs:=[1]) (by kernel_rfl) (by simp) ?_
        refine AllReady.cons rfl (fun K hK'=>?_) AllReady.nil
        go_simp
        refine hK' _ _ ?_
        clear hK' K
        refine wpAny_ready (rs:=[5]) (by kernel_rfl) (by simp) ?_
        refine AllReady.cons rfl (fun K hK'=>?_) AllReady.nil
        rw[if_pos (by kernel_rfl)]
        refine wp_app (.tmp 23) (.tmp 26) _ rfl (w.heap.size+2) 9 i0 _ 1 16 Tryz.underlying32 hi hz0 hz1 hz2 rfl (by decide) _ _ _ rfl (clE.own.alloc _) ⟨wc.heap.size,0,none⟩ 1 [.string ⟨nm.toArray⟩] rfl rfl (World.news_of_block (heap_alloc_new _ _)) (by simp[Value.oneCell']) (by unfold maxLen;omega) (by omega) (by have:=bE.lt;simp;omega) ?_
        intro v2 w5 hown2 hgr2 hob
        refine hK' _ _ ?_
        clear hK' K
        have hrow:∀ k,(Value.slice Av acc.length cv).ownBlock=some k→w.heap.size+2≤k:=fun k hk=>(clE.own.lt k hk).1
        have o5:=(oE.al (.cells #[.string ⟨nm.toArray⟩] 9)).rowg hgr2 (fun k hk=>by have:=hrow k hk;omega)
        have b5:=(bE.alloc (.cells #[.string ⟨nm.toArray⟩] 9)).rowg hgr2 (fun k hk=>by have:=hrow k hk;omega)
        have cl5:=clE.snoc (Rep:=RepN) (x:=nm) (cs:=[.string ⟨nm.toArray⟩]) keepsN (lo:=w4.drew.heap.size) rfl (by have:=bD.lt;omega) hvb rfl hown2 hgr2 hob
        obtain⟨A5,L5,c5,_,rfl⟩:∃ A L c,Hid ((acc++[nm]).length=L)∧v2=Value.slice A L c:=by
         obtain⟨A,c,e⟩:=cl5.form'
         exact⟨A,_,c,Hd rfl,e⟩
        have q0:=b5.cell 1
        have g0:=b5.free 1
        refine wpAny_take (i:=6) (v:=.pointer (some ⟨w.heap.size+1,1,none⟩)) rfl (by kernel_rfl) (by kernel_rfl) (by kernel_rfl) (fun _ _ _ h=>h) (Or.inl ⟨by kernel_rfl,fun w=>by go_simp⟩) ?_
        refine wpAny_ready (rs:=[7]) (by kernel_rfl) (by simp) ?_
        refine AllReady.cons rfl (fun K hK'=>?_) AllReady.nil
        go_simp
        refine hK' _ _ ?_
        clear hK' K
        refine wpAny_done (by kernel_rfl) ?_ _
        have b6:Blk _ (w.heap.size+1) 38 #[.string ⟨nm0.toArray⟩,.slice A5 L5 c5,.slice none 0 0,.slice none 0 0,.int .i64 0,.int .i64 0,.string ⟨#[]⟩,.int .i64 0,.slice none 0 0]:=b5.set 1 (.slice A5 L5 c5)
        have o6:=o5.far (a:=⟨w.heap.size+1,1,none⟩) (by show w.heap.size < w.heap.size+1;omega) (.slice A5 L5 c5)
        have cl6:=cl5.fs keepsN (a:=⟨w.heap.size+1,1,none⟩) (by show w.heap.size+1 < w.heap.size+2;omega) (.slice A5 L5 c5)
        go_wp2_with fail
        go_roundg m
        case measure=>exact Nat.lt_succ_self m
        case rel=>exact⟨s6,acc++[nm],css++[[.string ⟨nm.toArray⟩]],_,by rw[List.append_assoc,hne1];exact HAE.out,by rw[hne1];exact HBE.out,by omega,by omega,by rw[hmin];simp;omega,⟨o6,b6⟩,cl6⟩
 case rest =>
  obtain⟨A1,L1,c1,⟨o,b⟩,r1⟩:=hcut
  go_wp2_with fail
  refine (zAc ts en p s3 s4 cRp HS4 _ o.s).mono ?_
  rintro e w3 ⟨rfl,hg,hp⟩
  replace o:=o.acc hg hp
  replace b:=b.gr hg (by omega)
  replace r1:=r1.go keepsN hg (by omega)
  clear hg hp
  obtain⟨bv,hbv⟩:∃ b,rAt ts s4 0 wVar=b:=⟨_,rfl⟩
  have HBV:=Hd hbv
  clear hbv
  go_wp2_with fail
  refine (zAe ts en p s4 0 (by decide) wVar bv HBV _ o.s).mono ?_
  rintro e w4 ⟨rfl,hb1⟩
  have hg:=zAa hb1 (some p)
  have hp:=o.s.keep hb1
  clear hb1
  replace o:=o.acc hg hp
  replace b:=b.gr hg (by omega)
  replace r1:=r1.go keepsN hg (by omega)
  clear hg hp
  go_upto_if 32 with fail
  go_cut [] (fun wx=>∃ (A1:Option Addr) (L1 c1:Nat) (A2:Option Addr) (L2 c2:Nat),FnO ts en p s5 w nm0 (.slice A1 L1 c1) (.slice A2 L2 c2) (.slice none 0 0) wx∧RepL RepN 1 wx (Rg (w.heap.size+2) wx.heap.size) ps (.slice A1 L1 c1)∧RepL RepN 1 wx (Rg (w.heap.size+2) wx.heap.size) lc (.slice A2 L2 c2))
  case first =>
   have hl:=HL5.out
   unfold rlvF at hl
   rw[HBV.out] at hl
   cases bv with
   | false =>
    rw[if_neg (by decide)] at hl
    obtain⟨rfl,rfl⟩:[]=lc∧s4=s5:=⟨congrArg Prod.fst hl,congrArg Prod.snd hl⟩
    clear hl HL5
    go_wp2_with fail
    go_meet
    case rel=>exact⟨_,_,_,_,_,_,⟨o,b⟩,r1,repL_nil _ _ _ _⟩
   | true =>
    rw[if_pos rfl] at hl
    have hlen:=zAo (zBd HBV.out)
    have hmv:=zAj (ts:=ts) (s:=s4) hlen
    obtain⟨nm,hvn⟩:∃ x,rNmV ts (adv s4)=x:=⟨_,rfl⟩
    obtain⟨s6',hsn⟩:∃ x,rNmS ts (adv s4)=x:=⟨_,rfl⟩
    have HVN:=Hd hvn
    have HSN:=Hd hsn
    have hmc:=zBr (ts:=ts) (adv s4)
    rw[hsn] at hmc
    rw[hvn,hsn] at hl
    have HAE:=Hd (congrArg Prod.fst hl)
    have HBE:=Hd (congrArg Prod.snd hl)
    clear hl hvn hsn HL5
    obtain⟨_,_,_,d1,_,_,_,f1,_,_,_,hiI,hlI,_⟩:=o.s.cells
    go_upto_region 11 with fail
    obtain⟨hg,hp⟩:=radv o.s hlen
    replace o:=o.acc hg hp
    replace b:=b.gr hg (by omega)
    replace r1:=r1.go keepsN hg (by omega)
    clear hg hp
    clear d1 f1 hiI hlI
    generalize World.setCell _ ⟨p,1,none⟩ _=wz at *
    obtain⟨B,hB⟩:∃ B,wz.heap.size=B:=⟨_,rfl⟩
    have hBz:B≤wz.heap.size:=Nat.le_of_eq hB.symm
    have hBw:w.heap.size+2≤B:=by have:=b.lt;omega
    rw[hB] at r1
    clear hB
    have cl:Coll RepN 1 9 B ([]:List (List UInt8)) [] (.slice none 0 0) wz:=coll_nil _ _ _ _ _
    have HM6:ms ts s6'+1≤n:=by omega
    have HM7:1+ms ts s6'≤ts.length+2:=by omega
    go_cut [] (fun wx=>RLcR ts en p nm0 lc s5 ps (.slice A1 L1 c1) B w n n wx)
    case first =>
     have hvb:=cl.blk
     have oD:ROwn ts en p (adv s4) 38 fn0 w wz.drew:=o.low (below_drewN (Below.refl _ _) 1)
     have bD:Blk wz.drew (w.heap.size+1) 38 #[.string ⟨nm0.toArray⟩,.slice A1 L1 c1,.slice none 0 0,.slice none 0 0,.int .i64 0,.int .i64 0,.string ⟨#[]⟩,.int .i64 0,.slice none 0 0]:=b
     have clD:=cl.grown (w':=wz.drew) (p:=p) keepsN (zAa (below_drewN (Below.refl _ _) 1) _) (by omega)
     have hBd:B≤wz.drew.heap.size:=hBz
     have r1D:=r1.rowg keepsN (w':=wz.drew) (row:=some p) (zAa (below_drewN (Below.refl _ _) 1) _) (by omega) (fun k hk=>by injection hk with hk;omega)
     have hcall:=zA9 ts en p (adv s4) s6' nm HVN HSN _ oD.s
     have hcz:([]:List (List Value)).length≤30000:=by
      simp
     have z0:=b.cell 2
     refine wp_region_any (by kernel_rfl) ?_
     change wpAny _ _ _ _ _ _ _ (World.drew _)
     refine wpAny_take (i:=0) (v:=.pointer (some ⟨w.heap.size+1,2,none⟩)) rfl (by kernel_rfl) (by kernel_rfl) (by kernel_rfl) (fun _ _ _ h=>h) (Or.inl ⟨by kernel_rfl,fun w=>by go_simp⟩) ?_
     refine wpAny_take (i:=2) (v:=.pointer (some ⟨p,0,none⟩)) rfl (by kernel_rfl) (by kernel_rfl) (by kernel_rfl) (fun _ _ _ h=>h) (Or.inl ⟨by kernel_rfl,fun w=>by go_simp⟩) ?_
     refine wpAny_ready (rs:=[1,3]) (by kernel_rfl) (by simp) ?_
     refine AllReady.cons rfl (fun K hK'=>?_) (AllReady.cons rfl (fun K hK'=>?_) AllReady.nil)
     ·go_simp
      refine hK' _ _ ?_
      clear hK' K
      refine wpAny_ready (rs:=[3]) (by kernel_rfl) (by simp) ?_
      refine AllReady.cons rfl (fun K hK'=>?_) AllReady.nil
      go_simp
      go_wp2_with (go_at_call 19;((with_reducible refine hcall.mono ?_);rintro e wc ⟨rfl,hg,hp⟩;have hgz:=hg.size;have bE:=bD.gr hg (show p≠w.heap.size+1 by omega);have oE:=oD.acc hg hp;have clE:=clD.grown (p:=p) keepsN hg (show p < B by omega);have r1E:=r1D.rowg keepsN hg (by omega) (fun k hk=>by injection hk with hk;omega)))
      refine wpAny_ready (rs:=[4]) (by kernel_rfl) (by simp) ?_
      refine AllReady.cons rfl (fun K hK'=>?_) AllReady.nil
      go_simp
      refine hK' _ _ ?_
      clear hK' K
      refine wpAny_ready (rs:=[5]) (by kernel_rfl) (by simp) ?_
      refine AllReady.cons rfl (fun K hK'=>?_) AllReady.nil
      rw[if_pos (by kernel_rfl)]
      refine wp_app (.tmp 41) (.tmp 44) _ rfl (B) 9 i0 _ 1 16 Tryz.underlying32 hi hz0 hz1 hz2 rfl (by decide) _ _ _ rfl (clE.own.alloc _) ⟨wc.heap.size,0,none⟩ 1 [.string ⟨nm.toArray⟩] rfl rfl (World.news_of_block (heap_alloc_new _ _)) (by simp[Value.oneCell']) (by unfold maxLen;omega) (by omega) (by have:=bE.lt;simp;omega) ?_
      intro v2 w5 hown2 hgr2 hob
      refine hK' _ _ ?_
      clear hK' K
      have hrow:∀ k,(Value.slice none 0 0).ownBlock=some k→B≤k:=fun k hk=>(clE.own.lt k hk).1
      have o5:=(oE.al (.cells #[.string ⟨nm.toArray⟩] 9)).rowg hgr2 (fun k hk=>by have:=hrow k hk;omega)
      have b5:=(bE.alloc (.cells #[.string ⟨nm.toArray⟩] 9)).rowg hgr2 (fun k hk=>by have:=hrow k hk;omega)
      have r15:=(r1E.rowg keepsN (row:=some p) (grown_al (grown_id _ _) (.cells #[.string ⟨nm.toArray⟩] 9)) (by omega) (fun k hk=>by injection hk with hk;omega)).rowg keepsN hgr2 (by rw[World.size_alloc];omega) (fun k hk=>Or.inr (hrow k hk))
      have cl5:=clE.snoc (Rep:=RepN) (x:=nm) (cs:=[.string ⟨nm.toArray⟩]) keepsN (lo:=wz.drew.heap.size) rfl (by have:=bD.lt;omega) hvb rfl hown2 hgr2 hob
      obtain⟨A5,L5,c5,_,rfl⟩:∃ A L c,Hid ((([]:List (List UInt8))++[nm]).length=L)∧v2=Value.slice A L c:=by
       obtain⟨A,c,e⟩:=cl5.form'
       exact⟨A,_,c,Hd rfl,e⟩
      have q0:=b5.cell 2
      have g0:=b5.free 2
      refine wpAny_take (i:=6) (v:=.pointer (some ⟨w.heap.size+1,2,none⟩)) rfl (by kernel_rfl) (by kernel_rfl) (by kernel_rfl) (fun _ _ _ h=>h) (Or.inl ⟨by kernel_rfl,fun w=>by go_simp⟩) ?_
      refine wpAny_ready (rs:=[7]) (by kernel_rfl) (by simp) ?_
      refine AllReady.cons rfl (fun K hK'=>?_) AllReady.nil
      go_simp
      refine hK' _ _ ?_
      clear hK' K
      refine wpAny_done (by kernel_rfl) ?_ _
      have b6:Blk _ (w.heap.size+1) 38 #[.string ⟨nm0.toArray⟩,.slice A1 L1 c1,.slice A5 L5 c5,.slice none 0 0,.int .i64 0,.int .i64 0,.string ⟨#[]⟩,.int .i64 0,.slice none 0 0]:=b5.set 2 (.slice A5 L5 c5)
      have o6:=o5.far (a:=⟨w.heap.size+1,2,none⟩) (by show w.heap.size < w.heap.size+1;omega) (.slice A5 L5 c5)
      have cl6:=cl5.fs keepsN (a:=⟨w.heap.size+1,2,none⟩) (by show w.heap.size+1 < B;omega) (.slice A5 L5 c5)
      have r16:=r15.fs2 keepsN (a:=⟨w.heap.size+1,2,none⟩) (by show w.heap.size+1 < w.heap.size+2;omega) (.slice A5 L5 c5)
      go_wp2_with fail
      go_meet
      case rel=>exact⟨s6',[]++[nm],[]++[[.string ⟨nm.toArray⟩]],_,by rw[List.nil_append];exact HAE.out,HBE.out,HM6,Lr _,by simpa using HM7,hBw,(by rw[zBq];have h1:=hgr2.size;rw[World.size_alloc] at h1;omega),⟨o6,b6⟩,r16,cl6⟩
     ·go_simp
      go_wp2_with (go_at_call 19;((with_reducible refine hcall.mono ?_);rintro e wc ⟨rfl,hg,hp⟩;have hgz:=hg.size;have bE:=bD.gr hg (show p≠w.heap.size+1 by omega);have oE:=oD.acc hg hp;have clE:=clD.grown (p:=p) keepsN hg (show p < B by omega);have r1E:=r1D.rowg keepsN hg (by omega) (fun k hk=>by injection hk with hk;omega)))
      have j0:=bE.cell 2
      refine wpAny_ready (rs:=[1,4]) (by kernel_rfl) (by simp) ?_
      refine AllReady.cons rfl (fun K hK'=>?_) (AllReady.cons rfl (fun K hK'=>?_) AllReady.nil)
      ·go_simp
       refine hK' _ _ ?_
       clear hK' K
       refine wpAny_ready (rs:=[4]) (by kernel_rfl) (by simp) ?_
       refine AllReady.cons rfl (fun K hK'=>?_) AllReady.nil
       go_simp
       refine hK' _ _ ?_
       clear hK' K
       refine wpAny_ready (rs:=[5]) (by kernel_rfl) (by simp) ?_
       refine AllReady.cons rfl (fun K hK'=>?_) AllReady.nil
       rw[if_pos (by kernel_rfl)]
       refine wp_app (.tmp 41) (.tmp 44) _ rfl (B) 9 i0 _ 1 16 Tryz.underlying32 hi hz0 hz1 hz2 rfl (by decide) _ _ _ rfl (clE.own.alloc _) ⟨wc.heap.size,0,none⟩ 1 [.string ⟨nm.toArray⟩] rfl rfl (World.news_of_block (heap_alloc_new _ _)) (by simp[Value.oneCell']) (by unfold maxLen;omega) (by omega) (by have:=bE.lt;simp;omega) ?_
       intro v2 w5 hown2 hgr2 hob
       refine hK' _ _ ?_
       clear hK' K
       have hrow:∀ k,(Value.slice none 0 0).ownBlock=some k→B≤k:=fun k hk=>(clE.own.lt k hk).1
       have o5:=(oE.al (.cells #[.string ⟨nm.toArray⟩] 9)).rowg hgr2 (fun k hk=>by have:=hrow k hk;omega)
       have b5:=(bE.alloc (.cells #[.string ⟨nm.toArray⟩] 9)).rowg hgr2 (fun k hk=>by have:=hrow k hk;omega)
       have r15:=(r1E.rowg keepsN (row:=some p) (grown_al (grown_id _ _) (.cells #[.string ⟨nm.toArray⟩] 9)) (by omega) (fun k hk=>by injection hk with hk;omega)).rowg keepsN hgr2 (by rw[World.size_alloc];omega) (fun k hk=>Or.inr (hrow k hk))
       have cl5:=clE.snoc (Rep:=RepN) (x:=nm) (cs:=[.string ⟨nm.toArray⟩]) keepsN (lo:=wz.drew.heap.size) rfl (by have:=bD.lt;omega) hvb rfl hown2 hgr2 hob
       obtain⟨A5,L5,c5,_,rfl⟩:∃ A L c,Hid ((([]:List (List UInt8))++[nm]).length=L)∧v2=Value.slice A L c:=by
        obtain⟨A,c,e⟩:=cl5.form'
        exact⟨A,_,c,Hd rfl,e⟩
       have q0:=b5.cell 2
       have g0:=b5.free 2
       refine wpAny_take (i:=6) (v:=.pointer (some ⟨w.heap.size+1,2,none⟩)) rfl (by kernel_rfl) (by kernel_rfl) (by kernel_rfl) (fun _ _ _ h=>h) (Or.inl ⟨by kernel_rfl,fun w=>by go_simp⟩) ?_
       refine wpAny_ready (rs:=[7]) (by kernel_rfl) (by simp) ?_
       refine AllReady.cons rfl (fun K hK'=>?_) AllReady.nil
       go_simp
       refine hK' _ _ ?_
       clear hK' K
       refine wpAny_done (by kernel_rfl) ?_ _
       have b6:Blk _ (w.heap.size+1) 38 #[.string ⟨nm0.toArray⟩,.slice A1 L1 c1,.slice A5 L5 c5,.slice none 0 0,.int .i64 0,.int .i64 0,.string ⟨#[]⟩,.int .i64 0,.slice none 0 0]:=b5.set 2 (.slice A5 L5 c5)
       have o6:=o5.far (a:=⟨w.heap.size+1,2,none⟩) (by show w.heap.size < w.heap.size+1;omega) (.slice A5 L5 c5)
       have cl6:=cl5.fs keepsN (a:=⟨w.heap.size+1,2,none⟩) (by show w.heap.size+1 < B;omega) (.slice A5 L5 c5)
       have r16:=r15.fs2 keepsN (a:=⟨w.heap.size+1,2,none⟩) (by show w.heap.size+1 < w.heap.size+2;omega) (.slice A5 L5 c5)
       go_wp2_with fail
       go_meet
       case rel=>exact⟨s6',[]++[nm],[]++[[.string ⟨nm.toArray⟩]],_,by rw[List.nil_append];exact HAE.out,HBE.out,HM6,Lr _,by simpa using HM7,hBw,(by rw[zBq];have h1:=hgr2.size;rw[World.size_alloc] at h1;omega),⟨o6,b6⟩,r16,cl6⟩
      ·go_simp
       refine hK' _ _ ?_
       clear hK' K
       have j1:=(bE.alloc (.cells #[.string ⟨nm.toArray⟩] 9)).cell 2
       refine wpAny_ready (rs:=[1]) (by kernel_rfl) (by simp) ?_
       refine AllReady.cons rfl (fun K hK'=>?_) AllReady.nil
       go_simp
       refine hK' _ _ ?_
       clear hK' K
       refine wpAny_ready (rs:=[5]) (by kernel_rfl) (by simp) ?_
       refine AllReady.cons rfl (fun K hK'=>?_) AllReady.nil
       rw[if_pos (by kernel_rfl)]
       refine wp_app (.tmp 41) (.tmp 44) _ rfl (B) 9 i0 _ 1 16 Tryz.underlying32 hi hz0 hz1 hz2 rfl (by decide) _ _ _ rfl (clE.own.alloc _) ⟨wc.heap.size,0,none⟩ 1 [.string ⟨nm.toArray⟩] rfl rfl (World.news_of_block (heap_alloc_new _ _)) (by simp[Value.oneCell']) (by unfold maxLen;omega) (by omega) (by have:=bE.lt;simp;omega) ?_
       intro v2 w5 hown2 hgr2 hob
       refine hK' _ _ ?_
       clear hK' K
       have hrow:∀ k,(Value.slice none 0 0).ownBlock=some k→B≤k:=fun k hk=>(clE.own.lt k hk).1
       have o5:=(oE.al (.cells #[.string ⟨nm.toArray⟩] 9)).rowg hgr2 (fun k hk=>by have:=hrow k hk;omega)
       have b5:=(bE.alloc (.cells #[.string ⟨nm.toArray⟩] 9)).rowg hgr2 (fun k hk=>by have:=hrow k hk;omega)
       have r15:=(r1E.rowg keepsN (row:=some p) (grown_al (grown_id _ _) (.cells #[.string ⟨nm.toArray⟩] 9)) (by omega) (fun k hk=>by injection hk with hk;omega)).rowg keepsN hgr2 (by rw[World.size_alloc];omega) (fun k hk=>Or.inr (hrow k hk))
       have cl5:=clE.snoc (Rep:=RepN) (x:=nm) (cs:=[.string ⟨nm.toArray⟩]) keepsN (lo:=wz.drew.heap.size) rfl (by have:=bD.lt;omega) hvb rfl hown2 hgr2 hob
       obtain⟨A5,L5,c5,_,rfl⟩:∃ A L c,Hid ((([]:List (List UInt8))++[nm]).length=L)∧v2=Value.slice A L c:=by
        obtain⟨A,c,e⟩:=cl5.form'
        exact⟨A,_,c,Hd rfl,e⟩
       have q0:=b5.cell 2
       have g0:=b5.free 2
       refine wpAny_take (i:=6) (v:=.pointer (some ⟨w.heap.size+1,2,none⟩)) rfl (by kernel_rfl) (by kernel_rfl) (by kernel_rfl) (fun _ _ _ h=>h) (Or.inl ⟨by kernel_rfl,fun w=>by go_simp⟩) ?_
       refine wpAny_ready (rs:=[7]) (by kernel_rfl) (by simp) ?_
       refine AllReady.cons rfl (fun K hK'=>?_) AllReady.nil
       go_simp
       refine hK' _ _ ?_
       clear hK' K
       refine wpAny_done (by kernel_rfl) ?_ _
       have b6:Blk _ (w.heap.size+1) 38 #[.string ⟨nm0.toArray⟩,.slice A1 L1 c1,.slice A5 L5 c5,.slice none 0 0,.int .i64 0,.int .i64 0,.string ⟨#[]⟩,.int .i64 0,.slice none 0 0]:=b5.set 2 (.slice A5 L5 c5)
       have o6:=o5.far (a:=⟨w.heap.size+1,2,none⟩) (by show w.heap.size < w.heap.size+1;omega) (.slice A5 L5 c5)
       have cl6:=cl5.fs keepsN (a:=⟨w.heap.size+1,2,none⟩) (by show w.heap.size+1 < B;omega) (.slice A5 L5 c5)
       have r16:=r15.fs2 keepsN (a:=⟨w.heap.size+1,2,none⟩) (by show w.heap.size+1 < w.heap.size+2;omega) (.slice A5 L5 c5)
       go_wp2_with fail
       go_meet
       case rel=>exact⟨s6',[]++[nm],[]++[[.string ⟨nm.toArray⟩]],_,by rw[List.nil_append];exact HAE.out,HBE.out,HM6,Lr _,by simpa using HM7,hBw,(by rw[zBq];have h1:=hgr2.size;rw[World.size_alloc] at h1;omega),⟨o6,b6⟩,r16,cl6⟩
    case rest =>
     have H0:=Hd hcut
     clear hcut o b r1 cl hBz hlen hmv hmc HVN HSN HAE HBE HM6 HM7
     go_wp2_with fail
     go_loopg [] n (fun k wr=>RLcR ts en p nm0 lc s5 ps (.slice A1 L1 c1) B w k n wr)
     case atStart=>exact H0.out
     case round =>
      clear H0
      obtain⟨s',acc,css,v,ha,hb,hk,hkn,hln,_,hBz,⟨o,b⟩,r1,cl⟩:=hrel
      obtain⟨m,rfl⟩:∃ m,gk=m+1:=⟨gk - 1,by omega⟩
      rw[rlcF] at ha hb
      obtain⟨Av,cv,rfl⟩:=cl.form'
      obtain⟨b0,hb0⟩:∃ b,rAt ts s' 0 zA7=b:=⟨_,rfl⟩
      have HB:=Hd hb0
      rw[hb0] at ha hb
      cases b0 with
      | false =>
       rw[if_neg (by decide)] at ha hb
       have ha:acc=lc:=by simpa using ha
       have hb:s'=s5:=hb
       subst ha hb
       clear hb0
       go_wp2_with fail
       refine (zAe ts en p s' 0 (by decide) zA7 false HB _ o.s).mono ?_
       rintro e w5 ⟨rfl,hb1⟩
       have hg:=zAa hb1 (some p)
       have hp:=o.s.keep hb1
       clear hb1
       replace o:=o.acc hg hp
       replace b:=b.gr hg (by omega)
       replace r1:=r1.rowg keepsN hg (by omega) (fun k hk=>by injection hk with hk;omega)
       replace cl:=cl.grown (p:=p) keepsN hg (by omega)
       replace hBz:=Nat.le_trans hBz hg.size
       clear hg hp
       go_wp2_with fail
       go_meet
       case rel=>exact⟨_,_,_,_,_,_,⟨o,b⟩,r1.mono keepsN (Lr _) hBz,(cl.out keepsN).mono keepsN hBw (Lr _)⟩
      | true =>
       rw[if_pos rfl] at ha hb
       have hlen:=zAo (zBd hb0)
       have hmv:=zAj (ts:=ts) (s:=s') hlen
       obtain⟨nm,hvn⟩:∃ x,rNmV ts (adv s')=x:=⟨_,rfl⟩
       obtain⟨s6,hsn⟩:∃ x,rNmS ts (adv s')=x:=⟨_,rfl⟩
       have HVN:=Hd hvn
       have HSN:=Hd hsn
       have hmc:=zBr (ts:=ts) (adv s')
       rw[hsn] at hmc
       rw[hvn,hsn] at ha
       rw[hsn] at hb
       have HAE:=Hd ha
       have HBE:=Hd hb
       clear hb0 hvn hsn ha hb
       go_wp2_with fail
       refine (zAe ts en p s' 0 (by decide) zA7 true HB _ o.s).mono ?_
       rintro e w5 ⟨rfl,hb1⟩
       have hg:=zAa hb1 (some p)
       have hp:=o.s.keep hb1
       clear hb1
       replace o:=o.acc hg hp
       replace b:=b.gr hg (by omega)
       replace r1:=r1.rowg keepsN hg (by omega) (fun k hk=>by injection hk with hk;omega)
       replace cl:=cl.grown (p:=p) keepsN hg (by omega)
       replace hBz:=Nat.le_trans hBz hg.size
       clear hg hp
       obtain⟨_,_,_,d1,_,_,_,f1,_,_,_,hiI,hlI,_⟩:=o.s.cells
       go_upto_region 14 with fail
       obtain⟨hg,hp⟩:=radv o.s hlen
       replace o:=o.acc hg hp
       replace b:=b.gr hg (by omega)
       replace r1:=r1.rowg keepsN hg (by omega) (fun k hk=>by injection hk with hk;omega)
       replace cl:=cl.grown (p:=p) keepsN hg (by omega)
       replace hBz:=Nat.le_trans hBz hg.size
       clear hg hp
       clear d1 f1 hiI hlI
       generalize World.setCell _ ⟨p,1,none⟩ _=wz at *
       have hvb:=cl.blk
       have oD:ROwn ts en p (adv s') 38 fn0 w wz.drew:=o.low (below_drewN (Below.refl _ _) 1)
       have bD:Blk wz.drew (w.heap.size+1) 38 #[.string ⟨nm0.toArray⟩,.slice A1 L1 c1,.slice Av acc.length cv,.slice none 0 0,.int .i64 0,.int .i64 0,.string ⟨#[]⟩,.int .i64 0,.slice none 0 0]:=b
       have clD:=cl.grown (w':=wz.drew) (p:=p) keepsN (zAa (below_drewN (Below.refl _ _) 1) _) (by omega)
       have hBd:B≤wz.drew.heap.size:=hBz
       have r1D:=r1.rowg keepsN (w':=wz.drew) (row:=some p) (zAa (below_drewN (Below.refl _ _) 1) _) (by omega) (fun k hk=>by injection hk with hk;omega)
       have hcall:=zA9 ts en p (adv s') s6 nm HVN HSN _ oD.s
       have hcz:css.length≤30000:=by
        have h1:=cl.len
        have h2:=o.s.few
        rw[←h1]
        first | (simp;done) | omega
       have z0:=b.cell 2
       refine wp_region_any (by kernel_rfl) ?_
       change wpAny _ _ _ _ _ _ _ (World.drew _)
       refine wpAny_take (i:=0) (v:=.pointer (some ⟨w.heap.size+1,2,none⟩)) rfl (by kernel_rfl) (by kernel_rfl) (by kernel_rfl) (fun _ _ _ h=>h) (Or.inl ⟨by kernel_rfl,fun w=>by go_simp⟩) ?_
       refine wpAny_take (i:=2) (v:=.pointer (some ⟨p,0,none⟩)) rfl (by kernel_rfl) (by kernel_rfl) (by kernel_rfl) (fun _ _ _ h=>h) (Or.inl ⟨by kernel_rfl,fun w=>by go_simp⟩) ?_
       refine wpAny_ready (rs:=[1,3]) (by kernel_rfl) (by simp) ?_
       refine AllReady.cons rfl (fun K hK'=>?_) (AllReady.cons rfl (fun K hK'=>?_) AllReady.nil)
       ·go_simp
        refine hK' _ _ ?_
        clear hK' K
        refine wpAny_ready (rs:=[3]) (by kernel_rfl) (by simp) ?_
        refine AllReady.cons rfl (fun K hK'=>?_) AllReady.nil
        go_simp
        go_wp2_with (go_at_call 19;((with_reducible refine hcall.mono ?_);rintro e wc ⟨rfl,hg,hp⟩;have hgz:=hg.size;have bE:=bD.gr hg (show p≠w.heap.size+1 by omega);have oE:=oD.acc hg hp;have clE:=clD.grown (p:=p) keepsN hg (show p < B by omega);have r1E:=r1D.rowg keepsN hg (by omega) (fun k hk=>by injection hk with hk;omega)))
        refine wpAny_ready (rs:=[4]) (by kernel_rfl) (by simp) ?_
        refine AllReady.cons rfl (fun K hK'=>?_) AllReady.nil
        go_simp
        refine hK' _ _ ?_
        clear hK' K
        refine wpAny_ready (rs:=[5]) (by kernel_rfl) (by simp) ?_
        refine AllReady.cons rfl (fun K hK'=>?_) AllReady.nil
        rw[if_pos (by kernel_rfl)]
        refine wp_app (.tmp 57) (.tmp 60) _ rfl (B) 9 i0 _ 1 16 Tryz.underlying32 hi hz0 hz1 hz2 rfl (by decide) _ _ _ rfl (clE.own.alloc _) ⟨wc.heap.size,0,none⟩ 1 [.string ⟨nm.toArray⟩] rfl rfl (World.news_of_block (heap_alloc_new _ _)) (by simp[Value.oneCell']) (by unfold maxLen;omega) (by omega) (by have:=bE.lt;simp;omega) ?_
        intro v2 w5 hown2 hgr2 hob
        refine hK' _ _ ?_
        clear hK' K
        have hrow:∀ k,(Value.slice Av acc.length cv).ownBlock=some k→B≤k:=fun k hk=>(clE.own.lt k hk).1
        have o5:=(oE.al (.cells #[.string ⟨nm.toArray⟩] 9)).rowg hgr2 (fun k hk=>by have:=hrow k hk;omega)
        have b5:=(bE.alloc (.cells #[.string ⟨nm.toArray⟩] 9)).rowg hgr2 (fun k hk=>by have:=hrow k hk;omega)
        have r15:=(r1E.rowg keepsN (row:=some p) (grown_al (grown_id _ _) (.cells #[.string ⟨nm.toArray⟩] 9)) (by omega) (fun k hk=>by injection hk with hk;omega)).rowg keepsN hgr2 (by rw[World.size_alloc];omega) (fun k hk=>Or.inr (hrow k hk))
        have cl5:=clE.snoc (Rep:=RepN) (x:=nm) (cs:=[.string ⟨nm.toArray⟩]) keepsN (lo:=wz.drew.heap.size) rfl (by have:=bD.lt;omega) hvb rfl hown2 hgr2 hob
        obtain⟨A5,L5,c5,_,rfl⟩:∃ A L c,Hid ((acc++[nm]).length=L)∧v2=Value.slice A L c:=by
         obtain⟨A,c,e⟩:=cl5.form'
         exact⟨A,_,c,Hd rfl,e⟩
        have q0:=b5.cell 2
        have g0:=b5.free 2
        refine wpAny_take (i:=6) (v:=.pointer (some ⟨w.heap.size+1,2,none⟩)) rfl (by kernel_rfl) (by kernel_rfl) (by kernel_rfl) (fun _ _ _ h=>h) (Or.inl ⟨by kernel_rfl,fun w=>by go_simp⟩) ?_
        refine wpAny_ready (rs:=[7]) (by kernel_rfl) (by simp) ?_
        refine AllReady.cons rfl (fun K hK'=>?_) AllReady.nil
        go_simp
        refine hK' _ _ ?_
        clear hK' K
        refine wpAny_done (by kernel_rfl) ?_ _
        have b6:Blk _ (w.heap.size+1) 38 #[.string ⟨nm0.toArray⟩,.slice A1 L1 c1,.slice A5 L5 c5,.slice none 0 0,.int .i64 0,.int .i64 0,.string ⟨#[]⟩,.int .i64 0,.slice none 0 0]:=b5.set 2 (.slice A5 L5 c5)
        have o6:=o5.far (a:=⟨w.heap.size+1,2,none⟩) (by show w.heap.size < w.heap.size+1;omega) (.slice A5 L5 c5)
        have cl6:=cl5.fs keepsN (a:=⟨w.heap.size+1,2,none⟩) (by show w.heap.size+1 < B;omega) (.slice A5 L5 c5)
        have r16:=r15.fs2 keepsN (a:=⟨w.heap.size+1,2,none⟩) (by show w.heap.size+1 < w.heap.size+2;omega) (.slice A5 L5 c5)
        go_wp2_with fail
        go_roundg m
        case measure=>exact Nat.lt_succ_self m
        case rel=>exact⟨s6,acc++[nm],css++[[.string ⟨nm.toArray⟩]],_,by rw[List.append_assoc];exact HAE.out,HBE.out,by omega,by omega,by simp;omega,hBw,(by rw[zBq];have h1:=hgr2.size;rw[World.size_alloc] at h1;omega),⟨o6,b6⟩,r16,cl6⟩
       ·go_simp
        go_wp2_with (go_at_call 19;((with_reducible refine hcall.mono ?_);rintro e wc ⟨rfl,hg,hp⟩;have hgz:=hg.size;have bE:=bD.gr hg (show p≠w.heap.size+1 by omega);have oE:=oD.acc hg hp;have clE:=clD.grown (p:=p) keepsN hg (show p < B by omega);have r1E:=r1D.rowg keepsN hg (by omega) (fun k hk=>by injection hk with hk;omega)))
        have j0:=bE.cell 2
        refine wpAny_ready (rs:=[1,4]) (by kernel_rfl) (by simp) ?_
        refine AllReady.cons rfl (fun K hK'=>?_) (AllReady.cons rfl (fun K hK'=>?_) AllReady.nil)
        ·go_simp
         refine hK' _ _ ?_
         clear hK' K
         refine wpAny_ready (rs:=[4]) (by kernel_rfl) (by simp) ?_
         refine AllReady.cons rfl (fun K hK'=>?_) AllReady.nil
         go_simp
         refine hK' _ _ ?_
         clear hK' K
         refine wpAny_ready (rs:=[5]) (by kernel_rfl) (by simp) ?_
         refine AllReady.cons rfl (fun K hK'=>?_) AllReady.nil
         rw[if_pos (by kernel_rfl)]
         refine wp_app (.tmp 57) (.tmp 60) _ rfl (B) 9 i0 _ 1 16 Tryz.underlying32 hi hz0 hz1 hz2 rfl (by decide) _ _ _ rfl (clE.own.alloc _) ⟨wc.heap.size,0,none⟩ 1 [.string ⟨nm.toArray⟩] rfl rfl (World.news_of_block (heap_alloc_new _ _)) (by simp[Value.oneCell']) (by unfold maxLen;omega) (by omega) (by have:=bE.lt;simp;omega) ?_
         intro v2 w5 hown2 hgr2 hob
         refine hK' _ _ ?_
         clear hK' K
         have hrow:∀ k,(Value.slice Av acc.length cv).ownBlock=some k→B≤k:=fun k hk=>(clE.own.lt k hk).1
         have o5:=(oE.al (.cells #[.string ⟨nm.toArray⟩] 9)).rowg hgr2 (fun k hk=>by have:=hrow k hk;omega)
         have b5:=(bE.alloc (.cells #[.string ⟨nm.toArray⟩] 9)).rowg hgr2 (fun k hk=>by have:=hrow k hk;omega)
         have r15:=(r1E.rowg keepsN (row:=some p) (grown_al (grown_id _ _) (.cells #[.string ⟨nm.toArray⟩] 9)) (by omega) (fun k hk=>by injection hk with hk;omega)).rowg keepsN hgr2 (by rw[World.size_alloc];omega) (fun k hk=>Or.inr (hrow k hk))
         have cl5:=clE.snoc (Rep:=RepN) (x:=nm) (cs:=[.string ⟨nm.toArray⟩]) keepsN (lo:=wz.drew.heap.size) rfl (by have:=bD.lt;omega) hvb rfl hown2 hgr2 hob
         obtain⟨A5,L5,c5,_,rfl⟩:∃ A L c,Hid ((acc++[nm]).length=L)∧v2=Value.slice A L c:=by
          obtain⟨A,c,e⟩:=cl5.form'
          exact⟨A,_,c,Hd rfl,e⟩
         have q0:=b5.cell 2
         have g0:=b5.free 2
         refine wpAny_take (i:=6) (v:=.pointer (some ⟨w.heap.size+1,2,none⟩)) rfl (by kernel_rfl) (by kernel_rfl) (by kernel_rfl) (fun _ _ _ h=>h) (Or.inl ⟨by kernel_rfl,fun w=>by go_simp⟩) ?_
         refine wpAny_ready (rs:=[7]) (by kernel_rfl) (by simp) ?_
         refine AllReady.cons rfl (fun K hK'=>?_) AllReady.nil
         go_simp
         refine hK' _ _ ?_
         clear hK' K
         refine wpAny_done (by kernel_rfl) ?_ _
         have b6:Blk _ (w.heap.size+1) 38 #[.string ⟨nm0.toArray⟩,.slice A1 L1 c1,.slice A5 L5 c5,.slice none 0 0,.int .i64 0,.int .i64 0,.string ⟨#[]⟩,.int .i64 0,.slice none 0 0]:=b5.set 2 (.slice A5 L5 c5)
         have o6:=o5.far (a:=⟨w.heap.size+1,2,none⟩) (by show w.heap.size < w.heap.size+1;omega) (.slice A5 L5 c5)
         have cl6:=cl5.fs keepsN (a:=⟨w.heap.size+1,2,none⟩) (by show w.heap.size+1 < B;omega) (.slice A5 L5 c5)
         have r16:=r15.fs2 keepsN (a:=⟨w.heap.size+1,2,none⟩) (by show w.heap.size+1 < w.heap.size+2;omega) (.slice A5 L5 c5)
         go_wp2_with fail
         go_roundg m
         case measure=>exact Nat.lt_succ_self m
         case rel=>exact⟨s6,acc++[nm],css++[[.string ⟨nm.toArray⟩]],_,by rw[List.append_assoc];exact HAE.out,HBE.out,by omega,by omega,by simp;omega,hBw,(by rw[zBq];have h1:=hgr2.size;rw[World.size_alloc] at h1;omega),⟨o6,b6⟩,r16,cl6⟩
        ·go_simp
         refine hK' _ _ ?_
         clear hK' K
         have j1:=(bE.alloc (.cells #[.string ⟨nm.toArray⟩] 9)).cell 2
         refine wpAny_ready (rs:=[1]) (by kernel_rfl) (by simp) ?_
         refine AllReady.cons rfl (fun K hK'=>?_) AllReady.nil
         go_simp
         refine hK' _ _ ?_
         clear hK' K
         refine wpAny_ready (rs:=[5]) (by kernel_rfl) (by simp) ?_
         refine AllReady.cons rfl (fun K hK'=>?_) AllReady.nil
         rw[if_pos (by kernel_rfl)]
         refine wp_app (.tmp 57) (.tmp 60) _ rfl (B) 9 i0 _ 1 16 Tryz.underlying32 hi hz0 hz1 hz2 rfl (by decide) _ _ _ rfl (clE.own.alloc _) ⟨wc.heap.size,0,none⟩ 1 [.string ⟨nm.toArray⟩] rfl rfl (World.news_of_block (heap_alloc_new _ _)) (by simp[Value.oneCell']) (by unfold maxLen;omega) (by omega) (by have:=bE.lt;simp;omega) ?_
         intro v2 w5 hown2 hgr2 hob
         refine hK' _ _ ?_
         clear hK' K
         have hrow:∀ k,(Value.slice Av acc.length cv).ownBlock=some k→B≤k:=fun k hk=>(clE.own.lt k hk).1
         have o5:=(oE.al (.cells #[.string ⟨nm.toArray⟩] 9)).rowg hgr2 (fun k hk=>by have:=hrow k hk;omega)
         have b5:=(bE.alloc (.cells #[.string ⟨nm.toArray⟩] 9)).rowg hgr2 (fun k hk=>by have:=hrow k hk;omega)
         have r15:=(r1E.rowg keepsN (row:=some p) (grown_al (grown_id _ _) (.cells #[.string ⟨nm.toArray⟩] 9)) (by omega) (fun k hk=>by injection hk with hk;omega)).rowg keepsN hgr2 (by rw[World.size_alloc];omega) (fun k hk=>Or.inr (hrow k hk))
         have cl5:=clE.snoc (Rep:=RepN) (x:=nm) (cs:=[.string ⟨nm.toArray⟩]) keepsN (lo:=wz.drew.heap.size) rfl (by have:=bD.lt;omega) hvb rfl hown2 hgr2 hob
         obtain⟨A5,L5,c5,_,rfl⟩:∃ A L c,Hid ((acc++[nm]).length=L)∧v2=Value.slice A L c:=by
          obtain⟨A,c,e⟩:=cl5.form'
          exact⟨A,_,c,Hd rfl,e⟩
         have q0:=b5.cell 2
         have g0:=b5.free 2
         refine wpAny_take (i:=6) (v:=.pointer (some ⟨w.heap.size+1,2,none⟩)) rfl (by kernel_rfl) (by kernel_rfl) (by kernel_rfl) (fun _ _ _ h=>h) (Or.inl ⟨by kernel_rfl,fun w=>by go_simp⟩) ?_
         refine wpAny_ready (rs:=[7]) (by kernel_rfl) (by simp) ?_
         refine AllReady.cons rfl (fun K hK'=>?_) AllReady.nil
         go_simp
         refine hK' _ _ ?_
         clear hK' K
         refine wpAny_done (by kernel_rfl) ?_ _
         have b6:Blk _ (w.heap.size+1) 38 #[.string ⟨nm0.toArray⟩,.slice A1 L1 c1,.slice A5 L5 c5,.slice none 0 0,.int .i64 0,.int .i64 0,.string ⟨#[]⟩,.int .i64 0,.slice none 0 0]:=b5.set 2 (.slice A5 L5 c5)
         have o6:=o5.far (a:=⟨w.heap.size+1,2,none⟩) (by show w.heap.size < w.heap.size+1;omega) (.slice A5 L5 c5)
         have cl6:=cl5.fs keepsN (a:=⟨w.heap.size+1,2,none⟩) (by show w.heap.size+1 < B;omega) (.slice A5 L5 c5)
         have r16:=r15.fs2 keepsN (a:=⟨w.heap.size+1,2,none⟩) (by show w.heap.size+1 < w.heap.size+2;omega) (.slice A5 L5 c5)
         go_wp2_with fail
         go_roundg m
         case measure=>exact Nat.lt_succ_self m
         case rel=>exact⟨s6,acc++[nm],css++[[.string ⟨nm.toArray⟩]],_,by rw[List.append_assoc];exact HAE.out,HBE.out,by omega,by omega,by simp;omega,hBw,(by rw[zBq];have h1:=hgr2.size;rw[World.size_alloc] at h1;omega),⟨o6,b6⟩,r16,cl6⟩
  case rest =>
   obtain⟨A1,L1,c1,A2,L2,c2,⟨o,b⟩,r1,r2⟩:=hcut
   go_wp2_with fail
   refine (zAc ts en p s5 s6 cLc HS6 _ o.s).mono ?_
   rintro e w5 ⟨rfl,hg,hp⟩
   replace o:=o.acc hg hp
   replace b:=b.gr hg (by omega)
   replace r1:=r1.go keepsN hg (by omega)
   replace r2:=r2.go keepsN hg (by omega)
   clear hg hp
   obtain⟨B,hB⟩:∃ B,w5.heap.size=B:=⟨_,rfl⟩
   have hBz:B≤w5.heap.size:=Nat.le_of_eq hB.symm
   have hBw:w.heap.size+2≤B:=by have:=b.lt;omega
   rw[hB] at r1 r2
   clear hB
   have H0:Hid (RBdR ts en p nm0 bd s7 ps lc (.slice A1 L1 c1) (.slice A2 L2 c2) B w n n w5):=Hd ⟨s6,[],[],.slice none 0 0,by rw[HB7.out];rfl,by rw[HB7.out],hA3,Lr _,by simp;omega,hBw,hBz,⟨o,b⟩,r1,r2,coll_nil _ _ _ _ _⟩
   clear o b r1 r2 hBz
   go_wp2_with fail
   go_loopg [] n (fun k wr=>RBdR ts en p nm0 bd s7 ps lc (.slice A1 L1 c1) (.slice A2 L2 c2) B w k n wr)
   case atStart=>exact H0.out
   case round =>
    clear H0
    obtain⟨s',acc,css,v,ha,hb,hk,hkn,hln,_,hBz,⟨o,b⟩,r1,r2,cl⟩:=hrel
    obtain⟨m,rfl⟩:∃ m,gk=m+1:=⟨gk - 1,by omega⟩
    rw[rssF_eq] at ha hb
    obtain⟨Av,cv,rfl⟩:=cl.form'
    cases hf:s'.f with
    | true =>
     rw[hf,Bool.true_or,if_pos rfl] at ha hb
     have ha:acc=bd:=by simpa using ha
     have hb:s'=s7:=hb
     subst ha hb
     have HOK:=Hd (fun w h=>zAn ts en p s' false hf w h)
     clear hf
     go_wp2_with fail
     refine (HOK.out _ o.s).mono ?_
     rintro e w6 ⟨rfl,rfl⟩
     have r3:=(cl.out keepsS).mono keepsS hBw (Lr _)
     replace r1:=r1.mono keepsN (Lr _) hBz
     replace r2:=r2.mono keepsN (Lr _) hBz
     clear cl hBz
     go_wp2_with fail
     refine (zAc ts en p s' s8 zAm HS8 _ o.s).mono ?_
     rintro e w6 ⟨rfl,hg,hp⟩
     replace o:=o.acc hg hp
     replace b:=b.gr hg (by omega)
     replace r1:=r1.go keepsN hg (by omega)
     replace r2:=r2.go keepsN hg (by omega)
     replace r3:=r3.go keepsS hg (by omega)
     clear hg hp
     go_wp2_with fail
     refine (zBg ts en p n s8 _ _ HE9 hA4 o.s).mono ?_
     rintro e w7 ⟨kd,nn,nm,op,A,L,c,rfl,r4,hg,hp⟩
     replace r4:=r4.mono (lo':=w.heap.size+2) (by have:=b.lt;omega) (Lr _)
     replace o:=o.acc hg hp
     replace b:=b.gr hg (by omega)
     replace r1:=r1.go keepsN hg (by omega)
     replace r2:=r2.go keepsN hg (by omega)
     replace r3:=r3.go keepsS hg (by omega)
     clear hg hp
     have z4:=b.cell 4
     have y4:=b.free 4
     have z5:=b.cell 5
     have y5:=b.free 5
     have z6:=b.cell 6
     have y6:=b.free 6
     have z7:=b.cell 7
     have y7:=b.free 7
     have z8:=b.cell 8
     have y8:=b.free 8
     go_upto_region 20 with fail
     clear z4 y4 z5 y5 z6 y6 z7 y7 z8 y8
     replace o:=o.far (a:=⟨w.heap.size+1,4,none⟩) (by show w.heap.size < w.heap.size+1;omega) (.int .i64 kd)
     replace b:Blk _ (w.heap.size+1) 38 #[.string ⟨nm0.toArray⟩,.slice A1 L1 c1,.slice A2 L2 c2,.slice Av acc.length cv,.int .i64 kd,.int .i64 0,.string ⟨#[]⟩,.int .i64 0,.slice none 0 0]:=b.set 4 (.int .i64 kd)
     replace r1:=r1.fs keepsN (a:=⟨w.heap.size+1,4,none⟩) (by show w.heap.size+1 < w.heap.size+2;omega) (.int .i64 kd)
     replace r2:=r2.fs keepsN (a:=⟨w.heap.size+1,4,none⟩) (by show w.heap.size+1 < w.heap.size+2;omega) (.int .i64 kd)
     replace r3:=r3.fs keepsS (a:=⟨w.heap.size+1,4,none⟩) (by show w.heap.size+1 < w.heap.size+2;omega) (.int .i64 kd)
     replace r4:=r4.fs (a:=⟨w.heap.size+1,4,none⟩) (by show w.heap.size+1 < w.heap.size+2;omega) (.int .i64 kd)
     replace o:=o.far (a:=⟨w.heap.size+1,5,none⟩) (by show w.heap.size < w.heap.size+1;omega) (.int .i64 nn)
     replace b:Blk _ (w.heap.size+1) 38 #[.string ⟨nm0.toArray⟩,.slice A1 L1 c1,.slice A2 L2 c2,.slice Av acc.length cv,.int .i64 kd,.int .i64 nn,.string ⟨#[]⟩,.int .i64 0,.slice none 0 0]:=b.set 5 (.int .i64 nn)
     replace r1:=r1.fs keepsN (a:=⟨w.heap.size+1,5,none⟩) (by show w.heap.size+1 < w.heap.size+2;omega) (.int .i64 nn)
     replace r2:=r2.fs keepsN (a:=⟨w.heap.size+1,5,none⟩) (by show w.heap.size+1 < w.heap.size+2;omega) (.int .i64 nn)
     replace r3:=r3.fs keepsS (a:=⟨w.heap.size+1,5,none⟩) (by show w.heap.size+1 < w.heap.size+2;omega) (.int .i64 nn)
     replace r4:=r4.fs (a:=⟨w.heap.size+1,5,none⟩) (by show w.heap.size+1 < w.heap.size+2;omega) (.int .i64 nn)
     replace o:=o.far (a:=⟨w.heap.size+1,6,none⟩) (by show w.heap.size < w.heap.size+1;omega) (.string ⟨nm.toArray⟩)
     replace b:Blk _ (w.heap.size+1) 38 #[.string ⟨nm0.toArray⟩,.slice A1 L1 c1,.slice A2 L2 c2,.slice Av acc.length cv,.int .i64 kd,.int .i64 nn,.string ⟨nm.toArray⟩,.int .i64 0,.slice none 0 0]:=b.set 6 (.string ⟨nm.toArray⟩)
     replace r1:=r1.fs keepsN (a:=⟨w.heap.size+1,6,none⟩) (by show w.heap.size+1 < w.heap.size+2;omega) (.string ⟨nm.toArray⟩)
     replace r2:=r2.fs keepsN (a:=⟨w.heap.size+1,6,none⟩) (by show w.heap.size+1 < w.heap.size+2;omega) (.string ⟨nm.toArray⟩)
     replace r3:=r3.fs keepsS (a:=⟨w.heap.size+1,6,none⟩) (by show w.heap.size+1 < w.heap.size+2;omega) (.string ⟨nm.toArray⟩)
     replace r4:=r4.fs (a:=⟨w.heap.size+1,6,none⟩) (by show w.heap.size+1 < w.heap.size+2;omega) (.string ⟨nm.toArray⟩)
     replace o:=o.far (a:=⟨w.heap.size+1,7,none⟩) (by show w.heap.size < w.heap.size+1;omega) (.int .i64 op)
     replace b:Blk _ (w.heap.size+1) 38 #[.string ⟨nm0.toArray⟩,.slice A1 L1 c1,.slice A2 L2 c2,.slice Av acc.length cv,.int .i64 kd,.int .i64 nn,.string ⟨nm.toArray⟩,.int .i64 op,.slice none 0 0]:=b.set 7 (.int .i64 op)
     replace r1:=r1.fs keepsN (a:=⟨w.heap.size+1,7,none⟩) (by show w.heap.size+1 < w.heap.size+2;omega) (.int .i64 op)
     replace r2:=r2.fs keepsN (a:=⟨w.heap.size+1,7,none⟩) (by show w.heap.size+1 < w.heap.size+2;omega) (.int .i64 op)
     replace r3:=r3.fs keepsS (a:=⟨w.heap.size+1,7,none⟩) (by show w.heap.size+1 < w.heap.size+2;omega) (.int .i64 op)
     replace r4:=r4.fs (a:=⟨w.heap.size+1,7,none⟩) (by show w.heap.size+1 < w.heap.size+2;omega) (.int .i64 op)
     replace o:=o.far (a:=⟨w.heap.size+1,8,none⟩) (by show w.heap.size < w.heap.size+1;omega) (.slice A L c)
     replace b:Blk _ (w.heap.size+1) 38 #[.string ⟨nm0.toArray⟩,.slice A1 L1 c1,.slice A2 L2 c2,.slice Av acc.length cv,.int .i64 kd,.int .i64 nn,.string ⟨nm.toArray⟩,.int .i64 op,.slice A L c]:=b.set 8 (.slice A L c)
     replace r1:=r1.fs keepsN (a:=⟨w.heap.size+1,8,none⟩) (by show w.heap.size+1 < w.heap.size+2;omega) (.slice A L c)
     replace r2:=r2.fs keepsN (a:=⟨w.heap.size+1,8,none⟩) (by show w.heap.size+1 < w.heap.size+2;omega) (.slice A L c)
     replace r3:=r3.fs keepsS (a:=⟨w.heap.size+1,8,none⟩) (by show w.heap.size+1 < w.heap.size+2;omega) (.slice A L c)
     replace r4:=r4.fs (a:=⟨w.heap.size+1,8,none⟩) (by show w.heap.size+1 < w.heap.size+2;omega) (.slice A L c)
     go_wp2_with fail
     refine (zAc ts en p s9 t1 zA1 HT1 _ o.s).mono ?_
     rintro e w8 ⟨rfl,hg,hp⟩
     replace o:=o.acc hg hp
     replace b:=b.gr hg (by omega)
     replace r1:=r1.go keepsN hg (by omega)
     replace r2:=r2.go keepsN hg (by omega)
     replace r3:=r3.go keepsS hg (by omega)
     replace r4:=r4.go hg (by omega)
     clear hg hp
     go_wp2_with fail
     refine (zAc ts en p t1 t2 cRc HT2 _ o.s).mono ?_
     rintro e w9 ⟨rfl,hg,hp⟩
     replace o:=o.acc hg hp
     replace b:=b.gr hg (by omega)
     replace r1:=r1.go keepsN hg (by omega)
     replace r2:=r2.go keepsN hg (by omega)
     replace r3:=r3.go keepsS hg (by omega)
     replace r4:=r4.go hg (by omega)
     clear hg hp
     go_wp2_with (first | (refine wpList_load_row rfl _ _ rfl (w.heap.size+1) rfl _ _ _ _ b Tryz.underlying38 rfl fnSize ?_) | (refine wpList_store_row rfl _ _ _ rfl w.heap.size #[.string ⟨nm0.toArray⟩,.slice A1 L1 c1,.slice A2 L2 c2,.slice Av acc.length cv,.int .i64 kd,.int .i64 nn,.string ⟨nm.toArray⟩,.int .i64 op,.slice A L c] rfl rfl _ _ o.r fnSize rfl (by simp[Value.oneCell']) ?_))
     exact bodyPost_ret (results_cell_row rfl _ _ _ _ _ _ _ rfl (zBc o.r _) Tryz.underlying38 rfl fnSize) rfl ⟨nm0,A1,L1,c1,A2,L2,c2,Av,acc.length,cv,kd,nn,nm,op,A,L,c,rfl,keepsF.k ⟨A1,L1,c1,A2,L2,c2,Av,acc.length,cv,kd,nn,nm,op,A,L,c,rfl,r1,r2,r3,r4⟩ (fun g h=>⟨by have:=h.1;omega,by rw[zBm];exact h.2⟩) (fun g h=>zBi _ _ _ _ (by have:=h.1;omega)),zBf o.g (Lr _) _,row_rst o.s o.p _⟩
    | false =>
     have HOK:=Hd (fun w h=>zAn ts en p s' true hf w h)
     obtain⟨b0,hb0⟩:∃ b,rAt ts s' 0 zAm=b:=⟨_,rfl⟩
     have HB:=Hd hb0
     rw[hf,Bool.false_or,hb0] at ha hb
     cases b0
     rotate_left
     ·rw[if_pos rfl] at ha hb
      have ha:acc=bd:=by simpa using ha
      have hb:s'=s7:=hb
      subst ha hb
      clear hf hb0
      go_wp2_with fail
      refine (HOK.out _ o.s).mono ?_
      rintro e w6 ⟨rfl,rfl⟩
      go_wp2_with fail
      refine (zAe ts en p s' 0 (by decide) zAm true HB _ o.s).mono ?_
      rintro e w6 ⟨rfl,hb1⟩
      have hg:=zAa hb1 (some p)
      have hp:=o.s.keep hb1
      clear hb1
      replace o:=o.acc hg hp
      replace b:=b.gr hg (by omega)
      replace r1:=r1.rowg keepsN hg (by omega) (fun k hk=>by injection hk with hk;omega)
      replace r2:=r2.rowg keepsN hg (by omega) (fun k hk=>by injection hk with hk;omega)
      replace cl:=cl.grown (p:=p) keepsS hg (by omega)
      replace hBz:=Nat.le_trans hBz hg.size
      clear hg hp
      have r3:=(cl.out keepsS).mono keepsS hBw (Lr _)
      replace r1:=r1.mono keepsN (Lr _) hBz
      replace r2:=r2.mono keepsN (Lr _) hBz
      clear cl hBz
      go_wp2_with fail
      refine (zAc ts en p s' s8 zAm HS8 _ o.s).mono ?_
      rintro e w6 ⟨rfl,hg,hp⟩
      replace o:=o.acc hg hp
      replace b:=b.gr hg (by omega)
      replace r1:=r1.go keepsN hg (by omega)
      replace r2:=r2.go keepsN hg (by omega)
      replace r3:=r3.go keepsS hg (by omega)
      clear hg hp
      go_wp2_with fail
      refine (zBg ts en p n s8 _ _ HE9 hA4 o.s).mono ?_
      rintro e w7 ⟨kd,nn,nm,op,A,L,c,rfl,r4,hg,hp⟩
      replace r4:=r4.mono (lo':=w.heap.size+2) (by have:=b.lt;omega) (Lr _)
      replace o:=o.acc hg hp
      replace b:=b.gr hg (by omega)
      replace r1:=r1.go keepsN hg (by omega)
      replace r2:=r2.go keepsN hg (by omega)
      replace r3:=r3.go keepsS hg (by omega)
      clear hg hp
      have z4:=b.cell 4
      have y4:=b.free 4
      have z5:=b.cell 5
      have y5:=b.free 5
      have z6:=b.cell 6
      have y6:=b.free 6
      have z7:=b.cell 7
      have y7:=b.free 7
      have z8:=b.cell 8
      have y8:=b.free 8
      go_upto_region 20 with fail
      clear z4 y4 z5 y5 z6 y6 z7 y7 z8 y8
      replace o:=o.far (a:=⟨w.heap.size+1,4,none⟩) (by show w.heap.size < w.heap.size+1;omega) (.int .i64 kd)
      replace b:Blk _ (w.heap.size+1) 38 #[.string ⟨nm0.toArray⟩,.slice A1 L1 c1,.slice A2 L2 c2,.slice Av acc.length cv,.int .i64 kd,.int .i64 0,.string ⟨#[]⟩,.int .i64 0,.slice none 0 0]:=b.set 4 (.int .i64 kd)
      replace r1:=r1.fs keepsN (a:=⟨w.heap.size+1,4,none⟩) (by show w.heap.size+1 < w.heap.size+2;omega) (.int .i64 kd)
      replace r2:=r2.fs keepsN (a:=⟨w.heap.size+1,4,none⟩) (by show w.heap.size+1 < w.heap.size+2;omega) (.int .i64 kd)
      replace r3:=r3.fs keepsS (a:=⟨w.heap.size+1,4,none⟩) (by show w.heap.size+1 < w.heap.size+2;omega) (.int .i64 kd)
      replace r4:=r4.fs (a:=⟨w.heap.size+1,4,none⟩) (by show w.heap.size+1 < w.heap.size+2;omega) (.int .i64 kd)
      replace o:=o.far (a:=⟨w.heap.size+1,5,none⟩) (by show w.heap.size < w.heap.size+1;omega) (.int .i64 nn)
      replace b:Blk _ (w.heap.size+1) 38 #[.string ⟨nm0.toArray⟩,.slice A1 L1 c1,.slice A2 L2 c2,.slice Av acc.length cv,.int .i64 kd,.int .i64 nn,.string ⟨#[]⟩,.int .i64 0,.slice none 0 0]:=b.set 5 (.int .i64 nn)
      replace r1:=r1.fs keepsN (a:=⟨w.heap.size+1,5,none⟩) (by show w.heap.size+1 < w.heap.size+2;omega) (.int .i64 nn)
      replace r2:=r2.fs keepsN (a:=⟨w.heap.size+1,5,none⟩) (by show w.heap.size+1 < w.heap.size+2;omega) (.int .i64 nn)
      replace r3:=r3.fs keepsS (a:=⟨w.heap.size+1,5,none⟩) (by show w.heap.size+1 < w.heap.size+2;omega) (.int .i64 nn)
      replace r4:=r4.fs (a:=⟨w.heap.size+1,5,none⟩) (by show w.heap.size+1 < w.heap.size+2;omega) (.int .i64 nn)
      replace o:=o.far (a:=⟨w.heap.size+1,6,none⟩) (by show w.heap.size < w.heap.size+1;omega) (.string ⟨nm.toArray⟩)
      replace b:Blk _ (w.heap.size+1) 38 #[.string ⟨nm0.toArray⟩,.slice A1 L1 c1,.slice A2 L2 c2,.slice Av acc.length cv,.int .i64 kd,.int .i64 nn,.string ⟨nm.toArray⟩,.int .i64 0,.slice none 0 0]:=b.set 6 (.string ⟨nm.toArray⟩)
      replace r1:=r1.fs keepsN (a:=⟨w.heap.size+1,6,none⟩) (by show w.heap.size+1 < w.heap.size+2;omega) (.string ⟨nm.toArray⟩)
      replace r2:=r2.fs keepsN (a:=⟨w.heap.size+1,6,none⟩) (by show w.heap.size+1 < w.heap.size+2;omega) (.string ⟨nm.toArray⟩)
      replace r3:=r3.fs keepsS (a:=⟨w.heap.size+1,6,none⟩) (by show w.heap.size+1 < w.heap.size+2;omega) (.string ⟨nm.toArray⟩)
      replace r4:=r4.fs (a:=⟨w.heap.size+1,6,none⟩) (by show w.heap.size+1 < w.heap.size+2;omega) (.string ⟨nm.toArray⟩)
      replace o:=o.far (a:=⟨w.heap.size+1,7,none⟩) (by show w.heap.size < w.heap.size+1;omega) (.int .i64 op)
      replace b:Blk _ (w.heap.size+1) 38 #[.string ⟨nm0.toArray⟩,.slice A1 L1 c1,.slice A2 L2 c2,.slice Av acc.length cv,.int .i64 kd,.int .i64 nn,.string ⟨nm.toArray⟩,.int .i64 op,.slice none 0 0]:=b.set 7 (.int .i64 op)
      replace r1:=r1.fs keepsN (a:=⟨w.heap.size+1,7,none⟩) (by show w.heap.size+1 < w.heap.size+2;omega) (.int .i64 op)
      replace r2:=r2.fs keepsN (a:=⟨w.heap.size+1,7,none⟩) (by show w.heap.size+1 < w.heap.size+2;omega) (.int .i64 op)
      replace r3:=r3.fs keepsS (a:=⟨w.heap.size+1,7,none⟩) (by show w.heap.size+1 < w.heap.size+2;omega) (.int .i64 op)
      replace r4:=r4.fs (a:=⟨w.heap.size+1,7,none⟩) (by show w.heap.size+1 < w.heap.size+2;omega) (.int .i64 op)
      replace o:=o.far (a:=⟨w.heap.size+1,8,none⟩) (by show w.heap.size < w.heap.size+1;omega) (.slice A L c)
      replace b:Blk _ (w.heap.size+1) 38 #[.string ⟨nm0.toArray⟩,.slice A1 L1 c1,.slice A2 L2 c2,.slice Av acc.length cv,.int .i64 kd,.int .i64 nn,.string ⟨nm.toArray⟩,.int .i64 op,.slice A L c]:=b.set 8 (.slice A L c)
      replace r1:=r1.fs keepsN (a:=⟨w.heap.size+1,8,none⟩) (by show w.heap.size+1 < w.heap.size+2;omega) (.slice A L c)
      replace r2:=r2.fs keepsN (a:=⟨w.heap.size+1,8,none⟩) (by show w.heap.size+1 < w.heap.size+2;omega) (.slice A L c)
      replace r3:=r3.fs keepsS (a:=⟨w.heap.size+1,8,none⟩) (by show w.heap.size+1 < w.heap.size+2;omega) (.slice A L c)
      replace r4:=r4.fs (a:=⟨w.heap.size+1,8,none⟩) (by show w.heap.size+1 < w.heap.size+2;omega) (.slice A L c)
      go_wp2_with fail
      refine (zAc ts en p s9 t1 zA1 HT1 _ o.s).mono ?_
      rintro e w8 ⟨rfl,hg,hp⟩
      replace o:=o.acc hg hp
      replace b:=b.gr hg (by omega)
      replace r1:=r1.go keepsN hg (by omega)
      replace r2:=r2.go keepsN hg (by omega)
      replace r3:=r3.go keepsS hg (by omega)
      replace r4:=r4.go hg (by omega)
      clear hg hp
      go_wp2_with fail
      refine (zAc ts en p t1 t2 cRc HT2 _ o.s).mono ?_
      rintro e w9 ⟨rfl,hg,hp⟩
      replace o:=o.acc hg hp
      replace b:=b.gr hg (by omega)
      replace r1:=r1.go keepsN hg (by omega)
      replace r2:=r2.go keepsN hg (by omega)
      replace r3:=r3.go keepsS hg (by omega)
      replace r4:=r4.go hg (by omega)
      clear hg hp
      go_wp2_with (first | (refine wpList_load_row rfl _ _ rfl (w.heap.size+1) rfl _ _ _ _ b Tryz.underlying38 rfl fnSize ?_) | (refine wpList_store_row rfl _ _ _ rfl w.heap.size #[.string ⟨nm0.toArray⟩,.slice A1 L1 c1,.slice A2 L2 c2,.slice Av acc.length cv,.int .i64 kd,.int .i64 nn,.string ⟨nm.toArray⟩,.int .i64 op,.slice A L c] rfl rfl _ _ o.r fnSize rfl (by simp[Value.oneCell']) ?_))
      exact bodyPost_ret (results_cell_row rfl _ _ _ _ _ _ _ rfl (zBc o.r _) Tryz.underlying38 rfl fnSize) rfl ⟨nm0,A1,L1,c1,A2,L2,c2,Av,acc.length,cv,kd,nn,nm,op,A,L,c,rfl,keepsF.k ⟨A1,L1,c1,A2,L2,c2,Av,acc.length,cv,kd,nn,nm,op,A,L,c,rfl,r1,r2,r3,r4⟩ (fun g h=>⟨by have:=h.1;omega,by rw[zBm];exact h.2⟩) (fun g h=>zBi _ _ _ _ (by have:=h.1;omega)),zBf o.g (Lr _) _,row_rst o.s o.p _⟩
     ·rw[if_neg (by decide)] at ha hb
      obtain⟨⟨t,s6'⟩,ht⟩:∃ x,rstF ts m s'=x:=⟨_,rfl⟩
      have HT:=Hd ht
      have hmt:=(rms_st (ts:=ts) m).2.2.1 s' hf (by omega)
      rw[ht] at ha hb hmt
      dsimp only at ha hb hmt
      have HAE:=Hd ha
      have HBE:=Hd hb
      have hAm:20 * ms ts s'+16≤m:=by omega
      clear hf hb0 ht ha hb
      go_wp2_with fail
      refine (HOK.out _ o.s).mono ?_
      rintro e w6 ⟨rfl,rfl⟩
      go_wp2_with fail
      refine (zAe ts en p s' 0 (by decide) zAm false HB _ o.s).mono ?_
      rintro e w6 ⟨rfl,hb1⟩
      have hg:=zAa hb1 (some p)
      have hp:=o.s.keep hb1
      clear hb1
      replace o:=o.acc hg hp
      replace b:=b.gr hg (by omega)
      replace r1:=r1.rowg keepsN hg (by omega) (fun k hk=>by injection hk with hk;omega)
      replace r2:=r2.rowg keepsN hg (by omega) (fun k hk=>by injection hk with hk;omega)
      replace cl:=cl.grown (p:=p) keepsS hg (by omega)
      replace hBz:=Nat.le_trans hBz hg.size
      clear hg hp
      go_wp2_with fail
      have hvb:=cl.blk
      have oD:ROwn ts en p s' 38 fn0 w w6.drew:=o.low (below_drewN (Below.refl _ _) 1)
      have bD:Blk w6.drew (w.heap.size+1) 38 #[.string ⟨nm0.toArray⟩,.slice A1 L1 c1,.slice A2 L2 c2,.slice Av acc.length cv,.int .i64 0,.int .i64 0,.string ⟨#[]⟩,.int .i64 0,.slice none 0 0]:=b
      have clD:=cl.grown (w':=w6.drew) (p:=p) keepsS (zAa (below_drewN (Below.refl _ _) 1) _) (by omega)
      have hBd:B≤w6.drew.heap.size:=hBz
      have r1D:=r1.rowg keepsN (w':=w6.drew) (row:=some p) (zAa (below_drewN (Below.refl _ _) 1) _) (by omega) (fun k hk=>by injection hk with hk;omega)
      have r2D:=r2.rowg keepsN (w':=w6.drew) (row:=some p) (zAa (below_drewN (Below.refl _ _) 1) _) (by omega) (fun k hk=>by injection hk with hk;omega)
      have hcall:=rstmt_any ts en p m s' _ _ HT hAm oD.s
      have hcz:css.length≤30000:=by
       have h1:=cl.len
       have h2:=o.s.few
       rw[←h1]
       first | (simp;done) | omega
      have z0:=b.cell 3
      refine wp_region_any (by kernel_rfl) ?_
      change wpAny _ _ _ _ _ _ _ (World.drew _)
      refine wpAny_take (i:=0) (v:=.pointer (some ⟨w.heap.size+1,3,none⟩)) rfl (by kernel_rfl) (by kernel_rfl) (by kernel_rfl) (fun _ _ _ h=>h) (Or.inl ⟨by kernel_rfl,fun w=>by go_simp⟩) ?_
      refine wpAny_take (i:=2) (v:=.pointer (some ⟨p,0,none⟩)) rfl (by kernel_rfl) (by kernel_rfl) (by kernel_rfl) (fun _ _ _ h=>h) (Or.inl ⟨by kernel_rfl,fun w=>by go_simp⟩) ?_
      refine wpAny_ready (rs:=[1,3]) (by kernel_rfl) (by simp) ?_
      refine AllReady.cons rfl (fun K hK'=>?_) (AllReady.cons rfl (fun K hK'=>?_) AllReady.nil)
      ·go_simp
       refine hK' _ _ ?_
       clear hK' K
       refine wpAny_ready (rs:=[3]) (by kernel_rfl) (by simp) ?_
       refine AllReady.cons rfl (fun K hK'=>?_) AllReady.nil
       go_simp
       go_wp2_with (go_at_call 41;((with_reducible refine hcall.mono ?_);rintro e wc ⟨kd,nm,tt,num,k1,n1,x1,o1,G1,H1,e1,k2,n2,x2,o2,G2,H2,e2,G3,H3,e3,G4,H4,e4,G5,H5,e5,rfl,hr,hg,hp⟩;have hgz:=hg.size;have bE:=bD.gr hg (show p≠w.heap.size+1 by omega);have oE:=oD.acc hg hp;have clE:=clD.grown (p:=p) keepsS hg (show p < B by omega);have r1E:=r1D.rowg keepsN hg (by omega) (fun k hk=>by injection hk with hk;omega);have r2E:=r2D.rowg keepsN hg (by omega) (fun k hk=>by injection hk with hk;omega)))
       refine wpAny_ready (rs:=[4]) (by kernel_rfl) (by simp) ?_
       refine AllReady.cons rfl (fun K hK'=>?_) AllReady.nil
       go_simp
       refine hK' _ _ ?_
       clear hK' K
       refine wpAny_ready (rs:=[5]) (by kernel_rfl) (by simp) ?_
       refine AllReady.cons rfl (fun K hK'=>?_) AllReady.nil
       rw[if_pos (by kernel_rfl)]
       refine wp_app (.tmp 73) (.tmp 76) _ rfl (B) 40 jj _ 17 248 Tryz.underlying33 hj hj0 hj1 hj2 rfl (by decide) _ _ _ rfl (clE.own.alloc _) ⟨wc.heap.size,0,none⟩ 1 [.int .i64 kd,.string ⟨nm.toArray⟩,.string ⟨tt.toArray⟩,.int .i64 num,.int .i64 k1,.int .i64 n1,.string ⟨x1.toArray⟩,.int .i64 o1,.slice G1 H1 e1,.int .i64 k2,.int .i64 n2,.string ⟨x2.toArray⟩,.int .i64 o2,.slice G2 H2 e2,.slice G3 H3 e3,.slice G4 H4 e4,.slice G5 H5 e5] rfl rfl (World.news_of_block (heap_alloc_new _ _)) (by simp[Value.oneCell']) (by unfold maxLen;omega) (by omega) (by have:=bE.lt;simp;omega) ?_
       intro v2 w5 hown2 hgr2 hob
       refine hK' _ _ ?_
       clear hK' K
       have hrow:∀ k,(Value.slice Av acc.length cv).ownBlock=some k→B≤k:=fun k hk=>(clE.own.lt k hk).1
       have o5:=(oE.al (.cells #[.int .i64 kd,.string ⟨nm.toArray⟩,.string ⟨tt.toArray⟩,.int .i64 num,.int .i64 k1,.int .i64 n1,.string ⟨x1.toArray⟩,.int .i64 o1,.slice G1 H1 e1,.int .i64 k2,.int .i64 n2,.string ⟨x2.toArray⟩,.int .i64 o2,.slice G2 H2 e2,.slice G3 H3 e3,.slice G4 H4 e4,.slice G5 H5 e5] 40)).rowg hgr2 (fun k hk=>by have:=hrow k hk;omega)
       have b5:=(bE.alloc (.cells #[.int .i64 kd,.string ⟨nm.toArray⟩,.string ⟨tt.toArray⟩,.int .i64 num,.int .i64 k1,.int .i64 n1,.string ⟨x1.toArray⟩,.int .i64 o1,.slice G1 H1 e1,.int .i64 k2,.int .i64 n2,.string ⟨x2.toArray⟩,.int .i64 o2,.slice G2 H2 e2,.slice G3 H3 e3,.slice G4 H4 e4,.slice G5 H5 e5] 40)).rowg hgr2 (fun k hk=>by have:=hrow k hk;omega)
       have r15:=(r1E.rowg keepsN (row:=some p) (grown_al (grown_id _ _) (.cells #[.int .i64 kd,.string ⟨nm.toArray⟩,.string ⟨tt.toArray⟩,.int .i64 num,.int .i64 k1,.int .i64 n1,.string ⟨x1.toArray⟩,.int .i64 o1,.slice G1 H1 e1,.int .i64 k2,.int .i64 n2,.string ⟨x2.toArray⟩,.int .i64 o2,.slice G2 H2 e2,.slice G3 H3 e3,.slice G4 H4 e4,.slice G5 H5 e5] 40)) (by omega) (fun k hk=>by injection hk with hk;omega)).rowg keepsN hgr2 (by rw[World.size_alloc];omega) (fun k hk=>Or.inr (hrow k hk))
       have r25:=(r2E.rowg keepsN (row:=some p) (grown_al (grown_id _ _) (.cells #[.int .i64 kd,.string ⟨nm.toArray⟩,.string ⟨tt.toArray⟩,.int .i64 num,.int .i64 k1,.int .i64 n1,.string ⟨x1.toArray⟩,.int .i64 o1,.slice G1 H1 e1,.int .i64 k2,.int .i64 n2,.string ⟨x2.toArray⟩,.int .i64 o2,.slice G2 H2 e2,.slice G3 H3 e3,.slice G4 H4 e4,.slice G5 H5 e5] 40)) (by omega) (fun k hk=>by injection hk with hk;omega)).rowg keepsN hgr2 (by rw[World.size_alloc];omega) (fun k hk=>Or.inr (hrow k hk))
       have cl5:=clE.snoc (Rep:=RepS) (x:=t) (cs:=[.int .i64 kd,.string ⟨nm.toArray⟩,.string ⟨tt.toArray⟩,.int .i64 num,.int .i64 k1,.int .i64 n1,.string ⟨x1.toArray⟩,.int .i64 o1,.slice G1 H1 e1,.int .i64 k2,.int .i64 n2,.string ⟨x2.toArray⟩,.int .i64 o2,.slice G2 H2 e2,.slice G3 H3 e3,.slice G4 H4 e4,.slice G5 H5 e5]) keepsS (lo:=w6.drew.heap.size) hr (by have:=bD.lt;omega) hvb rfl hown2 hgr2 hob
       obtain⟨A5,L5,c5,_,rfl⟩:∃ A L c,Hid ((acc++[t]).length=L)∧v2=Value.slice A L c:=by
        obtain⟨A,c,e⟩:=cl5.form'
        exact⟨A,_,c,Hd rfl,e⟩
       have q0:=b5.cell 3
       have g0:=b5.free 3
       refine wpAny_take (i:=6) (v:=.pointer (some ⟨w.heap.size+1,3,none⟩)) rfl (by kernel_rfl) (by kernel_rfl) (by kernel_rfl) (fun _ _ _ h=>h) (Or.inl ⟨by kernel_rfl,fun w=>by go_simp⟩) ?_
       refine wpAny_ready (rs:=[7]) (by kernel_rfl) (by simp) ?_
       refine AllReady.cons rfl (fun K hK'=>?_) AllReady.nil
       go_simp
       refine hK' _ _ ?_
       clear hK' K
       refine wpAny_done (by kernel_rfl) ?_ _
       have b6:Blk _ (w.heap.size+1) 38 #[.string ⟨nm0.toArray⟩,.slice A1 L1 c1,.slice A2 L2 c2,.slice A5 L5 c5,.int .i64 0,.int .i64 0,.string ⟨#[]⟩,.int .i64 0,.slice none 0 0]:=b5.set 3 (.slice A5 L5 c5)
       have o6:=o5.far (a:=⟨w.heap.size+1,3,none⟩) (by show w.heap.size < w.heap.size+1;omega) (.slice A5 L5 c5)
       have cl6:=cl5.fs keepsS (a:=⟨w.heap.size+1,3,none⟩) (by show w.heap.size+1 < B;omega) (.slice A5 L5 c5)
       have r16:=r15.fs2 keepsN (a:=⟨w.heap.size+1,3,none⟩) (by show w.heap.size+1 < w.heap.size+2;omega) (.slice A5 L5 c5)
       have r26:=r25.fs2 keepsN (a:=⟨w.heap.size+1,3,none⟩) (by show w.heap.size+1 < w.heap.size+2;omega) (.slice A5 L5 c5)
       go_wp2_with fail
       go_roundg m
       case measure=>exact Nat.lt_succ_self m
       case rel=>exact⟨s6',acc++[t],css++[[.int .i64 kd,.string ⟨nm.toArray⟩,.string ⟨tt.toArray⟩,.int .i64 num,.int .i64 k1,.int .i64 n1,.string ⟨x1.toArray⟩,.int .i64 o1,.slice G1 H1 e1,.int .i64 k2,.int .i64 n2,.string ⟨x2.toArray⟩,.int .i64 o2,.slice G2 H2 e2,.slice G3 H3 e3,.slice G4 H4 e4,.slice G5 H5 e5]],_,by rw[List.append_assoc];exact HAE.out,HBE.out,by omega,by omega,by simp;omega,hBw,(by rw[zBq];have h1:=hgr2.size;rw[World.size_alloc] at h1;omega),⟨o6,b6⟩,r16,r26,cl6⟩
      ·go_simp
       go_wp2_with (go_at_call 41;((with_reducible refine hcall.mono ?_);rintro e wc ⟨kd,nm,tt,num,k1,n1,x1,o1,G1,H1,e1,k2,n2,x2,o2,G2,H2,e2,G3,H3,e3,G4,H4,e4,G5,H5,e5,rfl,hr,hg,hp⟩;have hgz:=hg.size;have bE:=bD.gr hg (show p≠w.heap.size+1 by omega);have oE:=oD.acc hg hp;have clE:=clD.grown (p:=p) keepsS hg (show p < B by omega);have r1E:=r1D.rowg keepsN hg (by omega) (fun k hk=>by injection hk with hk;omega);have r2E:=r2D.rowg keepsN hg (by omega) (fun k hk=>by injection hk with hk;omega)))
       have j0:=bE.cell 3
       refine wpAny_ready (rs:=[1,4]) (by kernel_rfl) (by simp) ?_
       refine AllReady.cons rfl (fun K hK'=>?_) (AllReady.cons rfl (fun K hK'=>?_) AllReady.nil)
       ·go_simp
        refine hK' _ _ ?_
        clear hK' K
        refine wpAny_ready (rs:=[4]) (by kernel_rfl) (by simp) ?_
        refine AllReady.cons rfl (fun K hK'=>?_) AllReady.nil
        go_simp
        refine hK' _ _ ?_
        clear hK' K
        refine wpAny_ready (rs:=[5]) (by kernel_rfl) (by simp) ?_
        refine AllReady.cons rfl (fun K hK'=>?_) AllReady.nil
        rw[if_pos (by kernel_rfl)]
        refine wp_app (.tmp 73) (.tmp 76) _ rfl (B) 40 jj _ 17 248 Tryz.underlying33 hj hj0 hj1 hj2 rfl (by decide) _ _ _ rfl (clE.own.alloc _) ⟨wc.heap.size,0,none⟩ 1 [.int .i64 kd,.string ⟨nm.toArray⟩,.string ⟨tt.toArray⟩,.int .i64 num,.int .i64 k1,.int .i64 n1,.string ⟨x1.toArray⟩,.int .i64 o1,.slice G1 H1 e1,.int .i64 k2,.int .i64 n2,.string ⟨x2.toArray⟩,.int .i64 o2,.slice G2 H2 e2,.slice G3 H3 e3,.slice G4 H4 e4,.slice G5 H5 e5] rfl rfl (World.news_of_block (heap_alloc_new _ _)) (by simp[Value.oneCell']) (by unfold maxLen;omega) (by omega) (by have:=bE.lt;simp;omega) ?_
        intro v2 w5 hown2 hgr2 hob
        refine hK' _ _ ?_
        clear hK' K
        have hrow:∀ k,(Value.slice Av acc.length cv).ownBlock=some k→B≤k:=fun k hk=>(clE.own.lt k hk).1
        have o5:=(oE.al (.cells #[.int .i64 kd,.string ⟨nm.toArray⟩,.string ⟨tt.toArray⟩,.int .i64 num,.int .i64 k1,.int .i64 n1,.string ⟨x1.toArray⟩,.int .i64 o1,.slice G1 H1 e1,.int .i64 k2,.int .i64 n2,.string ⟨x2.toArray⟩,.int .i64 o2,.slice G2 H2 e2,.slice G3 H3 e3,.slice G4 H4 e4,.slice G5 H5 e5] 40)).rowg hgr2 (fun k hk=>by have:=hrow k hk;omega)
        have b5:=(bE.alloc (.cells #[.int .i64 kd,.string ⟨nm.toArray⟩,.string ⟨tt.toArray⟩,.int .i64 num,.int .i64 k1,.int .i64 n1,.string ⟨x1.toArray⟩,.int .i64 o1,.slice G1 H1 e1,.int .i64 k2,.int .i64 n2,.string ⟨x2.toArray⟩,.int .i64 o2,.slice G2 H2 e2,.slice G3 H3 e3,.slice G4 H4 e4,.slice G5 H5 e5] 40)).rowg hgr2 (fun k hk=>by have:=hrow k hk;omega)
        have r15:=(r1E.rowg keepsN (row:=some p) (grown_al (grown_id _ _) (.cells #[.int .i64 kd,.string ⟨nm.toArray⟩,.string ⟨tt.toArray⟩,.int .i64 num,.int .i64 k1,.int .i64 n1,.string ⟨x1.toArray⟩,.int .i64 o1,.slice G1 H1 e1,.int .i64 k2,.int .i64 n2,.string ⟨x2.toArray⟩,.int .i64 o2,.slice G2 H2 e2,.slice G3 H3 e3,.slice G4 H4 e4,.slice G5 H5 e5] 40)) (by omega) (fun k hk=>by injection hk with hk;omega)).rowg keepsN hgr2 (by rw[World.size_alloc];omega) (fun k hk=>Or.inr (hrow k hk))
        have r25:=(r2E.rowg keepsN (row:=some p) (grown_al (grown_id _ _) (.cells #[.int .i64 kd,.string ⟨nm.toArray⟩,.string ⟨tt.toArray⟩,.int .i64 num,.int .i64 k1,.int .i64 n1,.string ⟨x1.toArray⟩,.int .i64 o1,.slice G1 H1 e1,.int .i64 k2,.int .i64 n2,.string ⟨x2.toArray⟩,.int .i64 o2,.slice G2 H2 e2,.slice G3 H3 e3,.slice G4 H4 e4,.slice G5 H5 e5] 40)) (by omega) (fun k hk=>by injection hk with hk;omega)).rowg keepsN hgr2 (by rw[World.size_alloc];omega) (fun k hk=>Or.inr (hrow k hk))
        have cl5:=clE.snoc (Rep:=RepS) (x:=t) (cs:=[.int .i64 kd,.string ⟨nm.toArray⟩,.string ⟨tt.toArray⟩,.int .i64 num,.int .i64 k1,.int .i64 n1,.string ⟨x1.toArray⟩,.int .i64 o1,.slice G1 H1 e1,.int .i64 k2,.int .i64 n2,.string ⟨x2.toArray⟩,.int .i64 o2,.slice G2 H2 e2,.slice G3 H3 e3,.slice G4 H4 e4,.slice G5 H5 e5]) keepsS (lo:=w6.drew.heap.size) hr (by have:=bD.lt;omega) hvb rfl hown2 hgr2 hob
        obtain⟨A5,L5,c5,_,rfl⟩:∃ A L c,Hid ((acc++[t]).length=L)∧v2=Value.slice A L c:=by
         obtain⟨A,c,e⟩:=cl5.form'
         exact⟨A,_,c,Hd rfl,e⟩
        have q0:=b5.cell 3
        have g0:=b5.free 3
        refine wpAny_take (i:=6) (v:=.pointer (some ⟨w.heap.size+1,3,none⟩)) rfl (by kernel_rfl) (by kernel_rfl) (by kernel_rfl) (fun _ _ _ h=>h) (Or.inl ⟨by kernel_rfl,fun w=>by go_simp⟩) ?_
        refine wpAny_ready (rs:=[7]) (by kernel_rfl) (by simp) ?_
        refine AllReady.cons rfl (fun K hK'=>?_) AllReady.nil
        go_simp
        refine hK' _ _ ?_
        clear hK' K
        refine wpAny_done (by kernel_rfl) ?_ _
        have b6:Blk _ (w.heap.size+1) 38 #[.string ⟨nm0.toArray⟩,.slice A1 L1 c1,.slice A2 L2 c2,.slice A5 L5 c5,.int .i64 0,.int .i64 0,.string ⟨#[]⟩,.int .i64 0,.slice none 0 0]:=b5.set 3 (.slice A5 L5 c5)
        have o6:=o5.far (a:=⟨w.heap.size+1,3,none⟩) (by show w.heap.size < w.heap.size+1;omega) (.slice A5 L5 c5)
        have cl6:=cl5.fs keepsS (a:=⟨w.heap.size+1,3,none⟩) (by show w.heap.size+1 < B;omega) (.slice A5 L5 c5)
        have r16:=r15.fs2 keepsN (a:=⟨w.heap.size+1,3,none⟩) (by show w.heap.size+1 < w.heap.size+2;omega) (.slice A5 L5 c5)
        have r26:=r25.fs2 keepsN (a:=⟨w.heap.size+1,3,none⟩) (by show w.heap.size+1 < w.heap.size+2;omega) (.slice A5 L5 c5)
        go_wp2_with fail
        go_roundg m
        case measure=>exact Nat.lt_succ_self m
        case rel=>exact⟨s6',acc++[t],css++[[.int .i64 kd,.string ⟨nm.toArray⟩,.string ⟨tt.toArray⟩,.int .i64 num,.int .i64 k1,.int .i64 n1,.string ⟨x1.toArray⟩,.int .i64 o1,.slice G1 H1 e1,.int .i64 k2,.int .i64 n2,.string ⟨x2.toArray⟩,.int .i64 o2,.slice G2 H2 e2,.slice G3 H3 e3,.slice G4 H4 e4,.slice G5 H5 e5]],_,by rw[List.append_assoc];exact HAE.out,HBE.out,by omega,by omega,by simp;omega,hBw,(by rw[zBq];have h1:=hgr2.size;rw[World.size_alloc] at h1;omega),⟨o6,b6⟩,r16,r26,cl6⟩
       ·go_simp
        refine hK' _ _ ?_
        clear hK' K
        have j1:=(bE.alloc (.cells #[.int .i64 kd,.string ⟨nm.toArray⟩,.string ⟨tt.toArray⟩,.int .i64 num,.int .i64 k1,.int .i64 n1,.string ⟨x1.toArray⟩,.int .i64 o1,.slice G1 H1 e1,.int .i64 k2,.int .i64 n2,.string ⟨x2.toArray⟩,.int .i64 o2,.slice G2 H2 e2,.slice G3 H3 e3,.slice G4 H4 e4,.slice G5 H5 e5] 40)).cell 3
        refine wpAny_ready (rs:=[1]) (by kernel_rfl) (by simp) ?_
        refine AllReady.cons rfl (fun K hK'=>?_) AllReady.nil
        go_simp
        refine hK' _ _ ?_
        clear hK' K
        refine wpAny_ready (rs:=[5]) (by kernel_rfl) (by simp) ?_
        refine AllReady.cons rfl (fun K hK'=>?_) AllReady.nil
        rw[if_pos (by kernel_rfl)]
        refine wp_app (.tmp 73) (.tmp 76) _ rfl (B) 40 jj _ 17 248 Tryz.underlying33 hj hj0 hj1 hj2 rfl (by decide) _ _ _ rfl (clE.own.alloc _) ⟨wc.heap.size,0,none⟩ 1 [.int .i64 kd,.string ⟨nm.toArray⟩,.string ⟨tt.toArray⟩,.int .i64 num,.int .i64 k1,.int .i64 n1,.string ⟨x1.toArray⟩,.int .i64 o1,.slice G1 H1 e1,.int .i64 k2,.int .i64 n2,.string ⟨x2.toArray⟩,.int .i64 o2,.slice G2 H2 e2,.slice G3 H3 e3,.slice G4 H4 e4,.slice G5 H5 e5] rfl rfl (World.news_of_block (heap_alloc_new _ _)) (by simp[Value.oneCell']) (by unfold maxLen;omega) (by omega) (by have:=bE.lt;simp;omega) ?_
        intro v2 w5 hown2 hgr2 hob
        refine hK' _ _ ?_
        clear hK' K
        have hrow:∀ k,(Value.slice Av acc.length cv).ownBlock=some k→B≤k:=fun k hk=>(clE.own.lt k hk).1
        have o5:=(oE.al (.cells #[.int .i64 kd,.string ⟨nm.toArray⟩,.string ⟨tt.toArray⟩,.int .i64 num,.int .i64 k1,.int .i64 n1,.string ⟨x1.toArray⟩,.int .i64 o1,.slice G1 H1 e1,.int .i64 k2,.int .i64 n2,.string ⟨x2.toArray⟩,.int .i64 o2,.slice G2 H2 e2,.slice G3 H3 e3,.slice G4 H4 e4,.slice G5 H5 e5] 40)).rowg hgr2 (fun k hk=>by have:=hrow k hk;omega)
        have b5:=(bE.alloc (.cells #[.int .i64 kd,.string ⟨nm.toArray⟩,.string ⟨tt.toArray⟩,.int .i64 num,.int .i64 k1,.int .i64 n1,.string ⟨x1.toArray⟩,.int .i64 o1,.slice G1 H1 e1,.int .i64 k2,.int .i64 n2,.string ⟨x2.toArray⟩,.int .i64 o2,.slice G2 H2 e2,.slice G3 H3 e3,.slice G4 H4 e4,.slice G5 H5 e5] 40)).rowg hgr2 (fun k hk=>by have:=hrow k hk;omega)
        have r15:=(r1E.rowg keepsN (row:=some p) (grown_al (grown_id _ _) (.cells #[.int .i64 kd,.string ⟨nm.toArray⟩,.string ⟨tt.toArray⟩,.int .i64 num,.int .i64 k1,.int .i64 n1,.string ⟨x1.toArray⟩,.int .i64 o1,.slice G1 H1 e1,.int .i64 k2,.int .i64 n2,.string ⟨x2.toArray⟩,.int .i64 o2,.slice G2 H2 e2,.slice G3 H3 e3,.slice G4 H4 e4,.slice G5 H5 e5] 40)) (by omega) (fun k hk=>by injection hk with hk;omega)).rowg keepsN hgr2 (by rw[World.size_alloc];omega) (fun k hk=>Or.inr (hrow k hk))
        have r25:=(r2E.rowg keepsN (row:=some p) (grown_al (grown_id _ _) (.cells #[.int .i64 kd,.string ⟨nm.toArray⟩,.string ⟨tt.toArray⟩,.int .i64 num,.int .i64 k1,.int .i64 n1,.string ⟨x1.toArray⟩,.int .i64 o1,.slice G1 H1 e1,.int .i64 k2,.int .i64 n2,.string ⟨x2.toArray⟩,.int .i64 o2,.slice G2 H2 e2,.slice G3 H3 e3,.slice G4 H4 e4,.slice G5 H5 e5] 40)) (by omega) (fun k hk=>by injection hk with hk;omega)).rowg keepsN hgr2 (by rw[World.size_alloc];omega) (fun k hk=>Or.inr (hrow k hk))
        have cl5:=clE.snoc (Rep:=RepS) (x:=t) (cs:=[.int .i64 kd,.string ⟨nm.toArray⟩,.string ⟨tt.toArray⟩,.int .i64 num,.int .i64 k1,.int .i64 n1,.string ⟨x1.toArray⟩,.int .i64 o1,.slice G1 H1 e1,.int .i64 k2,.int .i64 n2,.string ⟨x2.toArray⟩,.int .i64 o2,.slice G2 H2 e2,.slice G3 H3 e3,.slice G4 H4 e4,.slice G5 H5 e5]) keepsS (lo:=w6.drew.heap.size) hr (by have:=bD.lt;omega) hvb rfl hown2 hgr2 hob
        obtain⟨A5,L5,c5,_,rfl⟩:∃ A L c,Hid ((acc++[t]).length=L)∧v2=Value.slice A L c:=by
         obtain⟨A,c,e⟩:=cl5.form'
         exact⟨A,_,c,Hd rfl,e⟩
        have q0:=b5.cell 3
        have g0:=b5.free 3
        refine wpAny_take (i:=6) (v:=.pointer (some ⟨w.heap.size+1,3,none⟩)) rfl (by kernel_rfl) (by kernel_rfl) (by kernel_rfl) (fun _ _ _ h=>h) (Or.inl ⟨by kernel_rfl,fun w=>by go_simp⟩) ?_
        refine wpAny_ready (rs:=[7]) (by kernel_rfl) (by simp) ?_
        refine AllReady.cons rfl (fun K hK'=>?_) AllReady.nil
        go_simp
        refine hK' _ _ ?_
        clear hK' K
        refine wpAny_done (by kernel_rfl) ?_ _
        have b6:Blk _ (w.heap.size+1) 38 #[.string ⟨nm0.toArray⟩,.slice A1 L1 c1,.slice A2 L2 c2,.slice A5 L5 c5,.int .i64 0,.int .i64 0,.string ⟨#[]⟩,.int .i64 0,.slice none 0 0]:=b5.set 3 (.slice A5 L5 c5)
        have o6:=o5.far (a:=⟨w.heap.size+1,3,none⟩) (by show w.heap.size < w.heap.size+1;omega) (.slice A5 L5 c5)
        have cl6:=cl5.fs keepsS (a:=⟨w.heap.size+1,3,none⟩) (by show w.heap.size+1 < B;omega) (.slice A5 L5 c5)
        have r16:=r15.fs2 keepsN (a:=⟨w.heap.size+1,3,none⟩) (by show w.heap.size+1 < w.heap.size+2;omega) (.slice A5 L5 c5)
        have r26:=r25.fs2 keepsN (a:=⟨w.heap.size+1,3,none⟩) (by show w.heap.size+1 < w.heap.size+2;omega) (.slice A5 L5 c5)
        go_wp2_with fail
        go_roundg m
        case measure=>exact Nat.lt_succ_self m
        case rel=>exact⟨s6',acc++[t],css++[[.int .i64 kd,.string ⟨nm.toArray⟩,.string ⟨tt.toArray⟩,.int .i64 num,.int .i64 k1,.int .i64 n1,.string ⟨x1.toArray⟩,.int .i64 o1,.slice G1 H1 e1,.int .i64 k2,.int .i64 n2,.string ⟨x2.toArray⟩,.int .i64 o2,.slice G2 H2 e2,.slice G3 H3 e3,.slice G4 H4 e4,.slice G5 H5 e5]],_,by rw[List.append_assoc];exact HAE.out,HBE.out,by omega,by omega,by simp;omega,hBw,(by rw[zBq];have h1:=hgr2.size;rw[World.size_alloc] at h1;omega),⟨o6,b6⟩,r16,r26,cl6⟩
end Go.Proofs.YtpgnlfdindmopaaGreatDoor
