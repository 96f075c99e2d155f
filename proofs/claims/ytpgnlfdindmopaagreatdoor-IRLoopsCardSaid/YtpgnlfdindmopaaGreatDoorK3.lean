/- Words and walks for the laws of the interpreter. -/
import Derived.Test.YtpgnlfdindmopaaGreatDoorK2
import Derived.Deep.DeepCutAuto
import Derived.Test.YtpgnlfdindmopaaGreatDoorJ8
namespace Go.Proofs.YtpgnlfdindmopaaGreatDoor
open Go.RowKit (wrap64 intOf)
open Go Go.RowKit WM LX PX CX
set_option maxRecDepth 100000
set_option maxHeartbeats 4000000
def CntP (B:Nat)(r:Option (Nat × Nat))(w:World)(e:Ending)(w':World):Prop :=
 e=.returned (.bool r.isNone)∧Kp (some B) w w'∧∀ c,r=some c→Blk w' B 179 #[.int .i64 (c.1:Int),.int .i64 (c.2:Int)]∧c.1≤200∧c.2≤16
def CtR (B d len:Nat)(l:List ST)(r:Option (Nat × Nat))(w:World)(k:Nat)(i:Value)(wr:World):Prop :=
 ∃ (j a b:Nat),j+k=len∧i=.int .i64 (j:Int)∧a≤200∧b≤16∧Hid (cntL d (a,b) (l.drop j)=r)∧Hid (Kp (some B) w wr)∧Hid (Blk wr B 179 #[.int .i64 (a:Int),.int .i64 (b:Int)])
abbrev CntC (d:Nat):Prop:=∀ (l:List ST)(a b:Nat)(v:Value)(w:World)(ok:Nat→Prop)(B:Nat),RepL RepS 17 w ok l v→(∀ g,ok g→g < w.heap.size∧g≠B)→Blk w B 179 #[.int .i64 (a:Int),.int .i64 (b:Int)] →
 a≤200→b≤16→sumL szS l≤1000000000→Calls Tryz.prog 113 #[.pointer (some ⟨B,0,none⟩),v,.int .i64 (d:Int)] w (CntP B (cntL d (a,b) l) w)
theorem drop_at {α:Type}{l:List α}{j:Nat}{x:α}(h:l[j]?=some x):l.drop j=x :: l.drop (j+1):=by
 obtain⟨hj,rfl⟩:=Gs.1 h
 exact List.drop_eq_getElem_cons hj
theorem cnt_step (d:Nat)(hd:d≤21)(ih:d≤20→CntC (d+1)):CntC d:=by
 intro l a b v w ok B hl hok hB ha hb hs
 have IH:=Hd ih
 clear ih
 obtain⟨A,cp,rfl,hat⟩:=hl.at
 have hfew:=sumL_len szS l
 obtain⟨len,hlen⟩:∃ len,l.length=len:=⟨_,rfl⟩
 have HL:=Hd hlen
 have H:=Hd (Ai hat (Ai hok hs))
 rw[hlen] at hfew ⊢
 have hfew2:len≤1000000000:=by omega
 obtain⟨r,hr⟩:∃ r,cntL d (a,b) l=r:=⟨_,rfl⟩
 have HR:=Hd hr
 have HB:=Hd hB
 rw[hr]
 have hBw:=hB.lt
 clear hlen hat hok hl hs hfew hr hB
 go_enter Tryz.func113,Tryz.ntmps113
 go_wp2_with fail
 go_loopg [11] len (fun k i wr=>CtR B d len l r w k i wr)
 case atStart=>exact⟨0,a,b,Nat.zero_add _,rfl,ha,hb,Hd HR.out,Hd (grown_id _ _),HB⟩
 case round =>
  clear ha hb HR HB
  obtain⟨j,a,b,hj,rfl,ha,hb,HQ,HG,HK⟩:=hrel
  by_cases hlt:j < len
  ·obtain⟨s,hx⟩:∃ s,l[j]?=some s:=⟨_,Ge (by rw[HL.out];exact hlt)⟩
   obtain⟨h1,h2,h3⟩:=H.out
   obtain⟨g,cs,rfl,hg,hrep,hcell⟩:=h1 j s hx
   have hgw:=h2 g hg
   have hkeep:∀ x,ok x→wr.heap[x]?=w.heap[x]?:=fun x hx=>HG.out.block x (h2 x hx).1 (fun e=>by injection e with e;exact (h2 x hx).2 e)
   have hc:∀ i u,cs[i]?=some u→wr.cell? ⟨g,j * 17+i,none⟩=some u:=fun i u hu=>(Cb (hkeep g hg)).trans (hcell i u hu)
   have hws:=HG.out.size
   have hsz:=zA6 szS l j s hx
   have hdr:=drop_at hx
   cases s with
   | mk kd nm tn n pos value args thn els =>
    have hq':=HQ.out
    rw[hdr,cntL_cons,cntS_eq] at hq'
    have hq:=Hd hq'
    obtain⟨h17,hone⟩:=zCn _ _ _ _ hrep
    obtain⟨k1,n1,x1,o1,A1,L1,c1,k2,n2,x2,o2,A2,L2,c2,A3,c3,A4,c4,A5,c5,hcs,rp,rv,ra,rt,re⟩:=zBo hrep
    have c0:cs.toArray[0]?=some (.int .i64 kd):=by rw[hcs];rfl
    have c15:cs.toArray[15]?=some (.slice A4 thn.length c4):=by rw[hcs];rfl
    have c16:cs.toArray[16]?=some (.slice A5 els.length c5):=by rw[hcs];rfl
    have HCC:=Hd (Ai c15 c16)
    have HS:Hid ((Tryz.prog.info? 40).map (·.size)=some cs.length):=by rw[h17];exact zAf
    have HO:=Hd (Ai hone h17)
    have HC:=Hd hc
    have HREP:=Hd hrep
    have HRT:=Hd (Ai rt re)
    rw[szS_eq] at hsz
    have HSZ:=Hd (Ai (show sumL szS thn≤1000000000 by omega) (show sumL szS els≤1000000000 by omega))
    have HS2:Hid (szS (.mk kd nm tn n pos value args thn els)≤1000000000):=by rw[szS_eq];show _≤_;omega
    have k0:=HK.out
    have e1:(j:Int) < (len:Int):=by omega
    have hBr:B < wr.heap.size:=k0.lt
    have hgr:g < wr.heap.size:=by omega
    have hneB:B≠wr.heap.size:=Nat.ne_of_lt hBr
    clear h1 h2 h3 hrep hcell hc rp rv ra rt re hkeep hx HQ h17 hone hcs c15 c16 hsz hdr hq' k1 n1 x1 o1 A1 L1 c1 k2 n2 x2 o2 A2 L2 c2 A3 c3
    go_upto_region 4 with (first | (refine wpList_load_at rfl 40 _ rfl g (j * 17) rfl cs HC.out _ Tryz.underlying40 rfl HS.out ?_) | (refine wpList_store_row rfl _ _ _ rfl wr.heap.size cs.toArray rfl rfl _ _ (Blk.new wr _ _) (by simpa using HS.out) (by simp[HO.out.2]) HO.out.1 ?_))
    have kB:Blk ((wr.alloc (.cells st0 40)).setRow wr.heap.size cs.toArray) B 179 #[.int .i64 (a:Int),.int .i64 (b:Int)]:=(zBi _ _ _ _ hneB).trans (k0.alloc _)
    have kE:Blk ((wr.alloc (.cells st0 40)).setRow wr.heap.size cs.toArray) wr.heap.size 40 cs.toArray:=blk_row (Blk.new wr _ _) _
    have hgV:Kp (some B) w ((wr.alloc (.cells st0 40)).setRow wr.heap.size cs.toArray):=zBf (grown_al HG.out _) hws _
    have HGV:=Hd hgV
    clear hgV k0 HC HO
    generalize (wr.alloc (.cells st0 40)).setRow wr.heap.size cs.toArray=V at *
    by_cases hkd:kd=4
    ·obtain rfl:=hkd
     have q0:V.cell? ⟨B,0,none⟩=some (.int .i64 (a:Int)):=kB.cell 0
     have q1:V.cell? ⟨B,1,none⟩=some (.int .i64 (b:Int)):=kB.cell 1
     have y0:V.cell? ⟨wr.heap.size,0,none⟩=some (.int .i64 4):=(kE.cell 0).trans c0
     have g0:V.frozen? ⟨B,0,none⟩=false:=kB.free 0
     have g1:V.frozen? ⟨B,1,none⟩=false:=kB.free 1
     have kU:Blk ((V.setCell ⟨B,0,none⟩ (.int .i64 ((a:Int)+1))).setCell ⟨B,1,none⟩ (.int .i64 ((b:Int)+1))) B 179 #[.int .i64 ((a+1:Nat):Int),.int .i64 ((b+1:Nat):Int)]:=(kB.set 0 (.int .i64 ((a:Int)+1))).set 1 (.int .i64 ((b:Int)+1))
     have kEU:Blk ((V.setCell ⟨B,0,none⟩ (.int .i64 ((a:Int)+1))).setCell ⟨B,1,none⟩ (.int .i64 ((b:Int)+1))) wr.heap.size 40 cs.toArray:=(kE.far (p:=⟨B,0,none⟩) hneB (.int .i64 ((a:Int)+1))).far (p:=⟨B,1,none⟩) hneB (.int .i64 ((b:Int)+1))
     have hgU:Kp (some B) w ((V.setCell ⟨B,0,none⟩ (.int .i64 ((a:Int)+1))).setCell ⟨B,1,none⟩ (.int .i64 ((b:Int)+1))):=zAz (zAz HGV.out (i:=0) (.int .i64 ((a:Int)+1))) (i:=1) (.int .i64 ((b:Int)+1))
     have HU:=Hd (Ai kU (Ai kEU hgU))
     clear kU kEU hgU kB kE c0
     by_cases o0:20 < d
     ·have p0:(20:Int) < (d:Int):=by omega
      have hn:r=none:=by
       rw[←hq.out,show over d (bump 4 (a,b))=true by unfold over;simp[o0]]
       rfl
      subst hn
      go_wp2_with fail
      go_ret
      exact⟨rfl,HU.out.2.2,fun c h=>by cases h⟩
     ·have p0:¬ (20:Int) < (d:Int):=by omega
      by_cases o1:200 < a+1
      ·have p1:(200:Int) < (a:Int)+1:=by omega
       have hn:r=none:=by
        rw[←hq.out,show over d (bump 4 (a,b))=true by unfold over bump;simp[o1]]
        rfl
       subst hn
       go_wp2_with fail
       go_ret
       exact⟨rfl,HU.out.2.2,fun c h=>by cases h⟩
      ·have p1:¬ (200:Int) < (a:Int)+1:=by omega
       by_cases o2:16 < b+1
       ·have p2:(16:Int) < (b:Int)+1:=by omega
        have hn:r=none:=by
         rw[←hq.out,show over d (bump 4 (a,b))=true by unfold over bump;simp;omega]
         rfl
        subst hn
        go_wp2_with fail
        go_ret
        exact⟨rfl,HU.out.2.2,fun c h=>by cases h⟩
       ·have p2:¬ (16:Int) < (b:Int)+1:=by omega
        have hov:over d (bump 4 (a,b))=false:=by unfold over bump;simp;omega
        have hq2:=hq.out
        rw[hov,Bool.false_or,show bump 4 (a,b)=(a+1,b+1) by unfold bump;simp] at hq2
        have HQ2:=Hd hq2
        clear hq hq2 hov
        have hkU:∀ x,ok x→((V.setCell ⟨B,0,none⟩ (.int .i64 ((a:Int)+1))).setCell ⟨B,1,none⟩ (.int .i64 ((b:Int)+1))).heap[x]?=w.heap[x]?:=fun x hx=>HU.out.2.2.block x (H.out.2.1 x hx).1 (fun e=>by injection e with e;exact (H.out.2.1 x hx).2 e)
        have hdeep:=deepX_any 4 nm tn n pos value args thn els cs _ ok (HREP.out.keep (fun _ h=>h) hkU) (fun x hx=>Ll (H.out.2.1 x hx).1 HU.out.2.2.size) HS2.out
        have HD:=Hd hdeep
        clear hdeep hkU
        go_wp2_with (refine wpList_load_row rfl _ _ rfl wr.heap.size rfl 40 cs.toArray (0,0) _ HU.out.2.1 Tryz.underlying40 rfl (by simpa using HS.out) ?_)
        refine HD.out.mono ?_
        rintro e w3 ⟨rfl,hb3⟩
        have kB3:=HU.out.1.on hb3 HU.out.1.lt
        have kE3:=HU.out.2.1.on hb3 HU.out.2.1.lt
        have kg3:Kp (some B) w w3:=kp_to HU.out.2.2 (kp_below hb3 _)
        have y15:w3.cell? ⟨wr.heap.size,15,none⟩=_:=(kE3.cell 15).trans HCC.out.1
        have H3:=Hd (Ai kB3 (Ai kE3 kg3))
        clear hb3 kB3 kE3 kg3 q0 q1 y0 g0 g1 HD
        cases hdx:deepX (.mk 4 nm tn n pos value args thn els) with
        | true =>
         have hn:r=none:=by rw[←HQ2.out,if_pos hdx];rfl
         subst hn
         clear hdx
         go_wp2_with fail
         go_ret
         exact⟨rfl,H3.out.2.2,fun c h=>by cases h⟩
        | false =>
         have hq3:=HQ2.out
         rw[if_neg (by rw[hdx];decide)] at hq3
         have HQ3:=Hd hq3
         clear HQ2 hq3 hdx
         have hk3:∀ x,ok x→w3.heap[x]?=w.heap[x]?:=fun x hx=>H3.out.2.2.block x (H.out.2.1 x hx).1 (fun e=>by injection e with e;exact (H.out.2.1 x hx).2 e)
         obtain⟨r1,hr1⟩:∃ r1,cntL (d+1) (a+1,b+1) thn=r1:=⟨_,rfl⟩
         have ht:=IH.out (by omega) thn (a+1) (b+1) _ w3 ok B (HRT.out.1.keep keepsS (fun _ h=>h) hk3) (fun x hx=>⟨Ll (H.out.2.1 x hx).1 H3.out.2.2.size,(H.out.2.1 x hx).2⟩) H3.out.1 (by omega) (by omega) HSZ.out.1
         rw[hr1] at ht
         have hq3:=HQ3.out
         rw[hr1] at hq3
         have HT:=Hd ht
         have HQ4:=Hd hq3
         have d1:((d+1:Nat):Int)=(d:Int)+1:=by omega
         rw[d1] at HT
         clear ht hq3 HQ3 hk3 hr1 d1
         go_wp2_with fail
         refine HT.out.mono ?_
         rintro e w4 ⟨rfl,hk4,hc4⟩
         have kE4:=H3.out.2.1.kp hk4 (fun b' hb' e=>by injection hb' with hb';exact hneB (hb'.trans e))
         have y16:w4.cell? ⟨wr.heap.size,16,none⟩=_:=(kE4.cell 16).trans HCC.out.2
         have H4:=Hd (Ai hc4 (Ai kE4 (kp_to H3.out.2.2 hk4)))
         clear hk4 hc4 kE4 y15 HT
         cases r1 with
         | none =>
          have hn:r=none:=by rw[←HQ4.out];rfl
          subst hn
          go_wp2_with fail
          go_ret
          exact⟨rfl,H4.out.2.2,fun c h=>by cases h⟩
         | some c2 =>
          obtain⟨a2,b2'⟩:=c2
          obtain⟨kB4,l1,l2⟩:=H4.out.1 _ rfl
          dsimp only at kB4 l1 l2
          have hk4:∀ x,ok x→w4.heap[x]?=w.heap[x]?:=fun x hx=>H4.out.2.2.block x (H.out.2.1 x hx).1 (fun e=>by injection e with e;exact (H.out.2.1 x hx).2 e)
          obtain⟨r2,hr2⟩:∃ r2,cntL (d+1) (a2,b2') els=r2:=⟨_,rfl⟩
          have ht:=IH.out (by omega) els a2 b2' _ w4 ok B (HRT.out.2.keep keepsS (fun _ h=>h) hk4) (fun x hx=>⟨Ll (H.out.2.1 x hx).1 H4.out.2.2.size,(H.out.2.1 x hx).2⟩) kB4 l1 l2 HSZ.out.2
          rw[hr2] at ht
          have hq3:((r2.bind fun c2=>cntL d c2 (l.drop (j+1)))=r):=by
           have:=HQ4.out
           rw[←this]
           show _=(cntL (d+1) (a2,b2') els).bind _
           rw[hr2]
          have HT:=Hd ht
          have HQ5:=Hd hq3
          have d1:((d+1:Nat):Int)=(d:Int)+1:=by omega
          rw[d1] at HT
          clear ht hq3 HQ4 hk4 hr2 d1 kB4
          go_wp2_with fail
          refine HT.out.mono ?_
          rintro e w5 ⟨rfl,hk5,hc5⟩
          have H5:=Hd (Ai hc5 (kp_to H4.out.2.2 hk5))
          clear hk5 hc5 HT y16
          cases r2 with
          | none =>
           have hn:r=none:=by rw[←HQ5.out];rfl
           subst hn
           go_wp2_with fail
           go_ret
           exact⟨rfl,H5.out.2,fun c h=>by cases h⟩
          | some c2 =>
           obtain⟨a3,b3⟩:=c2
           obtain⟨kB5,l3,l4⟩:=H5.out.1 _ rfl
           dsimp only at kB5 l3 l4
           have HB5:=Hd kB5
           clear kB5
           go_wp2_with fail
           go_roundg (gk - 1)
           case measure=>omega
           case rel=>exact⟨j+1,a3,b3,by omega,by go_num,l3,l4,Hd HQ5.out,Hd H5.out.2,HB5⟩
    ·have hkd2:(kd==4)=false:=by rw[beq_eq_false_iff_ne];exact hkd
     have q0:V.cell? ⟨B,0,none⟩=some (.int .i64 (a:Int)):=kB.cell 0
     have q1:V.cell? ⟨B,1,none⟩=some (.int .i64 (b:Int)):=kB.cell 1
     have y0:V.cell? ⟨wr.heap.size,0,none⟩=some (.int .i64 kd):=(kE.cell 0).trans c0
     have g0:V.frozen? ⟨B,0,none⟩=false:=kB.free 0
     have g1:V.frozen? ⟨B,1,none⟩=false:=kB.free 1
     have kU:Blk (V.setCell ⟨B,0,none⟩ (.int .i64 ((a:Int)+1))) B 179 #[.int .i64 ((a+1:Nat):Int),.int .i64 ((b:Nat):Int)]:=kB.set 0 (.int .i64 ((a:Int)+1))
     have kEU:Blk (V.setCell ⟨B,0,none⟩ (.int .i64 ((a:Int)+1))) wr.heap.size 40 cs.toArray:=kE.far (p:=⟨B,0,none⟩) hneB (.int .i64 ((a:Int)+1))
     have hgU:Kp (some B) w (V.setCell ⟨B,0,none⟩ (.int .i64 ((a:Int)+1))):=zAz HGV.out (i:=0) (.int .i64 ((a:Int)+1))
     have HU:=Hd (Ai kU (Ai kEU hgU))
     clear kU kEU hgU kB kE c0
     by_cases o0:20 < d
     ·have p0:(20:Int) < (d:Int):=by omega
      have hn:r=none:=by
       rw[←hq.out,show over d (bump kd (a,b))=true by unfold over;simp[o0]]
       rfl
      subst hn
      go_wp2_with fail
      go_ret
      exact⟨rfl,HU.out.2.2,fun c h=>by cases h⟩
     ·have p0:¬ (20:Int) < (d:Int):=by omega
      by_cases o1:200 < a+1
      ·have p1:(200:Int) < (a:Int)+1:=by omega
       have hn:r=none:=by
        rw[←hq.out,show over d (bump kd (a,b))=true by unfold over bump;simp[o1]]
        rfl
       subst hn
       go_wp2_with fail
       go_ret
       exact⟨rfl,HU.out.2.2,fun c h=>by cases h⟩
      ·have p1:¬ (200:Int) < (a:Int)+1:=by omega
       by_cases o2:16 < b
       ·exact absurd o2 (by omega)
       ·have p2:¬ (16:Int) < (b:Int):=by omega
        have hov:over d (bump kd (a,b))=false:=by unfold over bump;simp[if_neg hkd];omega
        have hq2:=hq.out
        rw[hov,Bool.false_or,show bump kd (a,b)=(a+1,b) by unfold bump;simp[if_neg hkd]] at hq2
        have HQ2:=Hd hq2
        clear hq hq2 hov
        have hkU:∀ x,ok x→(V.setCell ⟨B,0,none⟩ (.int .i64 ((a:Int)+1))).heap[x]?=w.heap[x]?:=fun x hx=>HU.out.2.2.block x (H.out.2.1 x hx).1 (fun e=>by injection e with e;exact (H.out.2.1 x hx).2 e)
        have hdeep:=deepX_any kd nm tn n pos value args thn els cs _ ok (HREP.out.keep (fun _ h=>h) hkU) (fun x hx=>Ll (H.out.2.1 x hx).1 HU.out.2.2.size) HS2.out
        have HD:=Hd hdeep
        clear hdeep hkU
        go_wp2_with (refine wpList_load_row rfl _ _ rfl wr.heap.size rfl 40 cs.toArray (0,0) _ HU.out.2.1 Tryz.underlying40 rfl (by simpa using HS.out) ?_)
        refine HD.out.mono ?_
        rintro e w3 ⟨rfl,hb3⟩
        have kB3:=HU.out.1.on hb3 HU.out.1.lt
        have kE3:=HU.out.2.1.on hb3 HU.out.2.1.lt
        have kg3:Kp (some B) w w3:=kp_to HU.out.2.2 (kp_below hb3 _)
        have y15:w3.cell? ⟨wr.heap.size,15,none⟩=_:=(kE3.cell 15).trans HCC.out.1
        have H3:=Hd (Ai kB3 (Ai kE3 kg3))
        clear hb3 kB3 kE3 kg3 q0 q1 y0 g0 g1 HD
        cases hdx:deepX (.mk kd nm tn n pos value args thn els) with
        | true =>
         have hn:r=none:=by rw[←HQ2.out,if_pos hdx];rfl
         subst hn
         clear hdx
         go_wp2_with fail
         go_ret
         exact⟨rfl,H3.out.2.2,fun c h=>by cases h⟩
        | false =>
         have hq3:=HQ2.out
         rw[if_neg (by rw[hdx];decide)] at hq3
         have HQ3:=Hd hq3
         clear HQ2 hq3 hdx
         have hk3:∀ x,ok x→w3.heap[x]?=w.heap[x]?:=fun x hx=>H3.out.2.2.block x (H.out.2.1 x hx).1 (fun e=>by injection e with e;exact (H.out.2.1 x hx).2 e)
         obtain⟨r1,hr1⟩:∃ r1,cntL (d+1) (a+1,b) thn=r1:=⟨_,rfl⟩
         have ht:=IH.out (by omega) thn (a+1) (b) _ w3 ok B (HRT.out.1.keep keepsS (fun _ h=>h) hk3) (fun x hx=>⟨Ll (H.out.2.1 x hx).1 H3.out.2.2.size,(H.out.2.1 x hx).2⟩) H3.out.1 (by omega) (by omega) HSZ.out.1
         rw[hr1] at ht
         have hq3:=HQ3.out
         rw[hr1] at hq3
         have HT:=Hd ht
         have HQ4:=Hd hq3
         have d1:((d+1:Nat):Int)=(d:Int)+1:=by omega
         rw[d1] at HT
         clear ht hq3 HQ3 hk3 hr1 d1
         go_wp2_with fail
         refine HT.out.mono ?_
         rintro e w4 ⟨rfl,hk4,hc4⟩
         have kE4:=H3.out.2.1.kp hk4 (fun b' hb' e=>by injection hb' with hb';exact hneB (hb'.trans e))
         have y16:w4.cell? ⟨wr.heap.size,16,none⟩=_:=(kE4.cell 16).trans HCC.out.2
         have H4:=Hd (Ai hc4 (Ai kE4 (kp_to H3.out.2.2 hk4)))
         clear hk4 hc4 kE4 y15 HT
         cases r1 with
         | none =>
          have hn:r=none:=by rw[←HQ4.out];rfl
          subst hn
          go_wp2_with fail
          go_ret
          exact⟨rfl,H4.out.2.2,fun c h=>by cases h⟩
         | some c2 =>
          obtain⟨a2,b2'⟩:=c2
          obtain⟨kB4,l1,l2⟩:=H4.out.1 _ rfl
          dsimp only at kB4 l1 l2
          have hk4:∀ x,ok x→w4.heap[x]?=w.heap[x]?:=fun x hx=>H4.out.2.2.block x (H.out.2.1 x hx).1 (fun e=>by injection e with e;exact (H.out.2.1 x hx).2 e)
          obtain⟨r2,hr2⟩:∃ r2,cntL (d+1) (a2,b2') els=r2:=⟨_,rfl⟩
          have ht:=IH.out (by omega) els a2 b2' _ w4 ok B (HRT.out.2.keep keepsS (fun _ h=>h) hk4) (fun x hx=>⟨Ll (H.out.2.1 x hx).1 H4.out.2.2.size,(H.out.2.1 x hx).2⟩) kB4 l1 l2 HSZ.out.2
          rw[hr2] at ht
          have hq3:((r2.bind fun c2=>cntL d c2 (l.drop (j+1)))=r):=by
           have:=HQ4.out
           rw[←this]
           show _=(cntL (d+1) (a2,b2') els).bind _
           rw[hr2]
          have HT:=Hd ht
          have HQ5:=Hd hq3
          have d1:((d+1:Nat):Int)=(d:Int)+1:=by omega
          rw[d1] at HT
          clear ht hq3 HQ4 hk4 hr2 d1 kB4
          go_wp2_with fail
          refine HT.out.mono ?_
          rintro e w5 ⟨rfl,hk5,hc5⟩
          have H5:=Hd (Ai hc5 (kp_to H4.out.2.2 hk5))
          clear hk5 hc5 HT y16
          cases r2 with
          | none =>
           have hn:r=none:=by rw[←HQ5.out];rfl
           subst hn
           go_wp2_with fail
           go_ret
           exact⟨rfl,H5.out.2,fun c h=>by cases h⟩
          | some c2 =>
           obtain⟨a3,b3⟩:=c2
           obtain⟨kB5,l3,l4⟩:=H5.out.1 _ rfl
           dsimp only at kB5 l3 l4
           have HB5:=Hd kB5
           clear kB5
           go_wp2_with fail
           go_roundg (gk - 1)
           case measure=>omega
           case rel=>exact⟨j+1,a3,b3,by omega,by go_num,l3,l4,Hd HQ5.out,Hd H5.out.2,HB5⟩
  ·obtain rfl:j=len:=by omega
   have hn:r=some (a,b):=by
    have:=HQ.out
    rw[List.drop_of_length_le (by rw[HL.out];exact Lr _),cntL_nil] at this
    exact this.symm
   subst hn
   go_wp2_with fail
   go_ret
   exact⟨rfl,HG.out,fun c h=>by injection h with h;subst h;exact⟨HK.out,ha,hb⟩⟩
theorem cnt_any (m:Nat):∀ d,d+m=21→CntC d:=by
 induction m with
 | zero=>exact fun d hd=>cnt_step d (by omega) (fun h=>absurd h (by omega))
 | succ m ih=>exact fun d hd=>cnt_step d (by omega) (fun _=>ih (d+1) (by omega))
end Go.Proofs.YtpgnlfdindmopaaGreatDoor
namespace Go.Proofs.YtpgnlfdindmopaaGreatDoor
open Go.RowKit (wrap64 intOf)
open Go Go.RowKit WM LX PX CX
set_option maxRecDepth 100000
set_option maxHeartbeats 4000000
theorem zCw {α:Type}{Rep:World→(Nat→Prop)→α→List Value→Prop}{sz:Nat}{w:World}{ok:Nat→Prop}{xs:List α}{A:Option Addr}{L c:Nat}(h:RepL Rep sz w ok xs (.slice A L c)):L=xs.length:=by
 obtain⟨F,⟨A',c',hv,_⟩,_⟩:=h
 injection hv
theorem fun_of {w:World}{ok:Nat→Prop}{f:FN}{cs:List Value}(h:RepF w ok f cs) :
 ∃ A1 c1 A2 c2 A3 c3 kd nn nm op A L c,cs=[.string ⟨f.name.toArray⟩,.slice A1 f.params.length c1,.slice A2 f.locals.length c2,.slice A3 f.body.length c3,.int .i64 kd,.int .i64 nn,.string ⟨nm.toArray⟩,.int .i64 op,.slice A L c] ∧
  RepL RepN 1 w ok f.params (.slice A1 f.params.length c1)∧RepL RepN 1 w ok f.locals (.slice A2 f.locals.length c2)∧RepL RepS 17 w ok f.body (.slice A3 f.body.length c3)∧RepE w ok f.value (exC kd nn nm op A L c):=by
 obtain⟨A1,L1,c1,A2,L2,c2,A3,L3,c3,kd,nn,nm,op,A,L,c,rfl,h1,h2,h3,h4⟩:=h
 obtain rfl:=zCw h1
 obtain rfl:=zCw h2
 obtain rfl:=zCw h3
 exact⟨A1,c1,A2,c2,A3,c3,kd,nn,nm,op,A,L,c,rfl,h1,h2,h3,h4⟩
theorem onesF:Ones RepF 9:=fun _ _ _ _ h=>by
 obtain⟨A1,c1,A2,c2,A3,c3,kd,nn,nm,op,A,L,c,rfl,_⟩:=fun_of h
 exact⟨rfl,by simp[Value.oneCell']⟩
theorem onesA:Ones RepA 2:=fun _ _ _ _ h=>by
 rw[show _=_ from h]
 exact⟨rfl,by simp[Value.oneCell']⟩
theorem len_any (x:List UInt8 × Int)(cs:List Value)(w:World)(ok:Nat→Prop)(h:RepA w ok x cs):Calls Tryz.prog 68 #[.agg cs.toArray] w (RetN (.bool (lenB x)) w):=by
 obtain⟨nm,n⟩:=x
 obtain rfl:cs=[.string ⟨nm.toArray⟩,.int .i64 n]:=h
 unfold lenB
 dsimp only
 by_cases h1:n < 1
 ·rw[decide_eq_true h1,Bool.true_or]
  go_enter Tryz.func68,Tryz.ntmps68
  go_wp2_with fail
  go_ret
  exact retN rfl ((Below.refl _ _).alloc (Lr _) _)
 ·rw[decide_eq_false h1,Bool.false_or]
  by_cases h2:16 < n
  ·rw[decide_eq_true h2]
   go_enter Tryz.func68,Tryz.ntmps68
   go_wp2_with fail
   go_ret
   exact retN rfl ((Below.refl _ _).alloc (Lr _) _)
  ·rw[decide_eq_false h2]
   go_enter Tryz.func68,Tryz.ntmps68
   go_wp2_with fail
   go_ret
   exact retN rfl ((Below.refl _ _).alloc (Lr _) _)
theorem limF_any (f:FN)(cs:List Value)(w:World)(ok:Nat→Prop)(h:RepF w ok f cs)(hok:∀ g,ok g→g < w.heap.size)(hs:szF f≤1000000000) :
 Calls Tryz.prog 70 #[.agg cs.toArray] w (RetN (.bool (limFB f)) w):=by
 obtain⟨A1,c1,A2,c2,A3,c3,kd,nn,nm,op,A,L,c,rfl,r1,r2,r3,r4⟩:=fun_of h
 obtain⟨W1,hW1⟩:∃ W1,(w.alloc (.cells #[.string ⟨f.name.toArray⟩,.slice A1 f.params.length c1,.slice A2 f.locals.length c2,.slice A3 f.body.length c3,.int .i64 kd,.int .i64 nn,.string ⟨nm.toArray⟩,.int .i64 op,.slice A L c] 38)).alloc (.cells #[.int .i64 0,.int .i64 0] 179)=W1:=⟨_,rfl⟩
 have hb1:Below w.heap.size w W1:=by rw[←hW1];exact ((Below.refl _ _).alloc (Lr _) _).alloc (by simp) _
 have k1:Blk W1 w.heap.size 38 #[.string ⟨f.name.toArray⟩,.slice A1 f.params.length c1,.slice A2 f.locals.length c2,.slice A3 f.body.length c3,.int .i64 kd,.int .i64 nn,.string ⟨nm.toArray⟩,.int .i64 op,.slice A L c]:=by rw[←hW1];exact (Blk.new _ _ _).alloc _
 have k2:Blk W1 (w.heap.size+1) 179 #[.int .i64 ((0:Nat):Int),.int .i64 ((0:Nat):Int)]:=by rw[←hW1];exact blk_at (by simp) _ _
 have hz:W1.heap.size=w.heap.size+2:=by rw[←hW1];simp
 unfold szF at hs
 have hcnt:=cnt_any 21 0 rfl f.body 0 0 _ W1 ok (w.heap.size+1) (r3.keep keepsS (fun _ h=>h) (fun x hx=>hb1.block x (hok x hx))) (fun g hg=>by have:=hok g hg;omega) k2 (by omega) (by omega) (by omega)
 have hdeep:=fun W (hg:Kp (some (w.heap.size+1)) W1 W)=>deep_any 21 0 rfl f.value _ W ok (r4.keep (fun _ h=>h) (fun x hx=>(hg.block x (by have:=hok x hx;omega) (fun e=>by injection e with e;have:=hok x hx;omega)).trans (hb1.block x (hok x hx)))) (fun x hx=>by have:=hok x hx;have:=hg.size;omega) (by omega)
 have l1:=sumL_len List.length f.params
 have l2:=sumL_len List.length f.locals
 have l3:=sumL_len szS f.body
 obtain⟨n1,hn1⟩:∃ n,f.params.length=n:=⟨_,rfl⟩
 obtain⟨n2,hn2⟩:∃ n,f.locals.length=n:=⟨_,rfl⟩
 obtain⟨n3,hn3⟩:∃ n,f.body.length=n:=⟨_,rfl⟩
 obtain⟨r,hr⟩:∃ r,cntL 0 (0,0) f.body=r:=⟨_,rfl⟩
 obtain⟨dv,hdv⟩:∃ dv,deepE 0 f.value=dv:=⟨_,rfl⟩
 obtain⟨fnm,hfn⟩:∃ x,f.name=x:=⟨_,rfl⟩
 rw[hr] at hcnt
 have hlim:limFB f=(decide (6 < n1)||(decide (8 < n2)||(r.isNone||dv))):=by unfold limFB;rw[hn1,hn2,hr,hdv]
 rw[hlim]
 rw[hn1] at l1
 rw[hn2] at l2
 rw[hn3] at l3 hcnt
 rw[hn1,hn2,hn3,hfn] at k1 hW1
 rw[hdv] at hdeep
 simp only[hn1,hn2,hn3,hfn]
 have HC:=Hd hcnt
 have HD:=Hd hdeep
 have HB:=Hd (Ai hb1 (Ai k1 hW1))
 have m1:n1≤1000000000:=by omega
 have m2:n2≤1000000000:=by omega
 clear h hcnt hdeep hb1 k1 k2 hW1 l1 l2 l3 hs hlim hn1 hn2 hn3 hr hdv hfn r1 r2 r3 r4 hz hok
 by_cases h1:6 < n1
 ·rw[decide_eq_true h1,Bool.true_or]
  have h1i:(6:Int) < (n1:Int):=by omega
  go_enter Tryz.func70,Tryz.ntmps70
  go_wp2_with fail
  go_ret
  exact retN rfl (by rw[HB.out.2.2];exact HB.out.1)
 ·rw[decide_eq_false h1,Bool.false_or]
  have h1i:¬ (6:Int) < (n1:Int):=by omega
  by_cases h2:8 < n2
  ·rw[decide_eq_true h2,Bool.true_or]
   have h2i:(8:Int) < (n2:Int):=by omega
   go_enter Tryz.func70,Tryz.ntmps70
   go_wp2_with fail
   go_ret
   exact retN rfl (by rw[HB.out.2.2];exact HB.out.1)
  ·rw[decide_eq_false h2,Bool.false_or]
   have h2i:¬ (8:Int) < (n2:Int):=by omega
   go_enter Tryz.func70,Tryz.ntmps70
   go_wp2_with fail
   rw[HB.out.2.2]
   refine HC.out.mono ?_
   rintro e w3 ⟨rfl,hk,_⟩
   have k3:=HB.out.2.1.kp hk (fun b hb e=>by injection hb with hb;omega)
   obtain⟨x4,x5,x6,x7,x8⟩:w3.cell? ⟨w.heap.size,4,none⟩=_∧w3.cell? ⟨w.heap.size,5,none⟩=_∧w3.cell? ⟨w.heap.size,6,none⟩=_∧w3.cell? ⟨w.heap.size,7,none⟩=_∧w3.cell? ⟨w.heap.size,8,none⟩=_:=⟨k3.cell 4,k3.cell 5,k3.cell 6,k3.cell 7,k3.cell 8⟩
   have hb3:Below w.heap.size w w3:=HB.out.1.trans ⟨hk.os,hk.tape,hk.output,hk.size,fun i hi=>hk.block i (Ll hi HB.out.1.size) (fun e=>by injection e with e;omega)⟩
   have HK:=Hd (Ai hk hb3)
   clear hk hb3 k3
   cases hn:r.isNone with
   | true =>
    have HN:=Hd hn
    clear hn
    go_wp2_with fail
    go_ret
    exact retN (by rw[HN.out];rfl) HK.out.2
   | false =>
    have HN:=Hd hn
    clear hn
    go_wp2_with fail
    refine (HD.out w3 HK.out.1).mono ?_
    rintro e w4 ⟨rfl,hb4⟩
    have H4:=Hd (HK.out.2.trans (below_down hb4 HK.out.2.size))
    clear hb4 x4 x5 x6 x7 x8
    go_wp2_with fail
    go_ret
    exact retN (by rw[HN.out];rfl) H4.out
def RepP (w:World)(ok:Nat→Prop)(p:PG)(va vf:Value):Prop:=RepL RepA 2 w ok p.arrays va∧RepL RepF 9 w ok p.funcs vf
theorem RepP.keep {w w':World}{ok ok':Nat→Prop}{p:PG}{va vf:Value}(h:RepP w ok p va vf)(hok:∀ g,ok g→ok' g)(hw:∀ g,ok g→w'.heap[g]?=w.heap[g]?):RepP w' ok' p va vf:=⟨h.1.keep keepsA hok hw,h.2.keep keepsF hok hw⟩
theorem lim_any (p:PG)(va vf:Value)(w:World)(ok:Nat→Prop)(h:RepP w ok p va vf)(hok:∀ g,ok g→g < w.heap.size)(hs:szP p≤1000000000) :
 Calls Tryz.prog 43 #[.agg #[va,vf]] w (RetN (.bool (limB p)) w):=by
 obtain⟨A,c,rfl,_⟩:=h.1.at
 obtain⟨A',c',rfl,_⟩:=h.2.at
 obtain⟨W1,hW1⟩:∃ W1,w.alloc (.cells #[.slice A p.arrays.length c,.slice A' p.funcs.length c'] 26)=W1:=⟨_,rfl⟩
 have hb1:Below w.heap.size w W1:=by rw[←hW1];exact (Below.refl _ _).alloc (Lr _) _
 have k1:Blk W1 w.heap.size 26 #[.slice A p.arrays.length c,.slice A' p.funcs.length c']:=by rw[←hW1];exact Blk.new _ _ _
 have h1:=h.keep (fun _ h=>h) (fun x hx=>hb1.block x (hok x hx))
 have hok1:∀ b,ok b→b < W1.heap.size∧some b≠none:=fun b hb=>⟨Ll (hok b hb) hb1.size,by simp⟩
 unfold szP at hs
 have l1:=sumL_len (fun a:List UInt8 × Int=>a.1.length) p.arrays
 have l2:=sumL_len szF p.funcs
 have ha:=contains_A keepsA onesA p.arrays _ W1 ok h1.1 (by omega) lenB none 68 #[] #[] (enters_of Tryz.func68 (by kernel_rfl) rfl) (fun _=>Kp none W1) (inv_kp none W1 (fun _ h=>by cases h) ok hok1) (fun _=>0)
  (fun i x hx cs W c _ hI hr=>by rw[app_1];exact (len_any x cs W ok hr).mono fun _ _ h=>ret_kp h hI) 0 (by rw[zB3];omega) W1 (grown_id _ _)
 have hf:=fun W2 (hW2:Kp none W1 W2)=>contains_F keepsF onesF p.funcs _ W1 ok h1.2 (by omega) limFB none 70 #[] #[] (enters_of Tryz.func70 (by kernel_rfl) rfl) (fun _=>Kp none W1) (inv_kp none W1 (fun _ h=>by cases h) ok hok1) (fun _=>0)
  (fun i x hx cs W c _ hI hr=>by rw[app_1];exact (limF_any x cs W ok hr (fun g hg=>Ll (hok1 g hg).1 hI.size) (by have:=zA6 szF p.funcs i x hx;omega)).mono fun _ _ h=>ret_kp h hI) 0 (by rw[zB3];omega) W2 hW2
 obtain⟨n1,hn1⟩:∃ n,p.arrays.length=n:=⟨_,rfl⟩
 obtain⟨n2,hn2⟩:∃ n,p.funcs.length=n:=⟨_,rfl⟩
 obtain⟨b1,hq1⟩:∃ b,p.arrays.any lenB=b:=⟨_,rfl⟩
 obtain⟨b2,hq2⟩:∃ b,p.funcs.any limFB=b:=⟨_,rfl⟩
 have hlim:limB p=(decide (4 < n1)||(decide (8 < n2)||(b1||b2))):=by unfold limB;rw[hn1,hn2,hq1,hq2]
 rw[hlim]
 rw[hn1,hq1] at ha
 rw[hn2,hq2] at hf
 rw[hn1,hn2] at k1 hW1 ⊢
 have HA:=Hd ha
 have HF:=Hd hf
 have HB:=Hd (Ai hb1 (Ai k1 hW1))
 have m1:n1≤1000000000:=by omega
 have m2:n2≤1000000000:=by omega
 clear h h1 ha hf hb1 k1 hW1 l1 l2 hs hlim hn1 hn2 hq1 hq2 hok hok1
 by_cases c1:4 < n1
 ·rw[decide_eq_true c1,Bool.true_or]
  have h1i:(4:Int) < (n1:Int):=by omega
  go_enter Tryz.func43,Tryz.ntmps43
  go_wp2_with fail
  go_ret
  exact retN rfl (by rw[HB.out.2.2];exact HB.out.1)
 ·rw[decide_eq_false c1,Bool.false_or]
  have h1i:¬ (4:Int) < (n1:Int):=by omega
  by_cases c2:8 < n2
  ·rw[decide_eq_true c2,Bool.true_or]
   have h2i:(8:Int) < (n2:Int):=by omega
   go_enter Tryz.func43,Tryz.ntmps43
   go_wp2_with fail
   go_ret
   exact retN rfl (by rw[HB.out.2.2];exact HB.out.1)
  ·rw[decide_eq_false c2,Bool.false_or]
   have h2i:¬ (8:Int) < (n2:Int):=by omega
   go_enter Tryz.func43,Tryz.ntmps43
   go_wp2_with fail
   rw[HB.out.2.2]
   refine HA.out.mono ?_
   rintro e w3 ⟨rfl,_,hk⟩
   have x1:=(HB.out.2.1.kp hk (fun b hb=>by cases hb)).cell 1
   have y1:w3.cell? ⟨w.heap.size,1,none⟩=some (.slice A' n2 c'):=x1
   have HK:=Hd (Ai hk (HB.out.1.trans (below_down (below_kp hk) HB.out.1.size)))
   clear hk x1
   cases b1 with
   | true =>
    rw[Bool.true_or]
    go_wp2_with fail
    go_ret
    exact retN rfl HK.out.2
   | false =>
    rw[Bool.false_or]
    go_wp2_with fail
    refine (HF.out w3 HK.out.1).mono ?_
    rintro e w4 ⟨rfl,_,hk4⟩
    have H4:=Hd (HK.out.2.trans (below_down (below_kp hk4) HK.out.2.size))
    clear hk4 y1
    go_wp2_with fail
    go_ret
    exact retN rfl H4.out
end Go.Proofs.YtpgnlfdindmopaaGreatDoor
