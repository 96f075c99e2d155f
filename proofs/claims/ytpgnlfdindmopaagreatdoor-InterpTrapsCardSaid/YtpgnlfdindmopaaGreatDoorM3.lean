/- Words and walks for the laws of the interpreter. -/
import Derived.Test.YtpgnlfdindmopaaGreatDoorM2
import Derived.Test.YtpgnlfdindmopaaGreatDoorM1
namespace Go.Proofs.YtpgnlfdindmopaaGreatDoor
open Go.RowKit (wrap64 intOf)
open Go Go.RowKit WM LX PX
set_option maxRecDepth 100000
set_option maxHeartbeats 4000000
theorem RSt.rd {ts:List Tk}{en p:Nat}{s:PS}{w:World}(h:RSt ts en p s w)(hi:inn ts s 0=true){y:List UInt8}(hy:(tkk ts s 0).text=y) :
 ∃ g c n i:Nat,w.cell? ⟨p,0,none⟩=some (.slice (some ⟨g,0,none⟩) n c)∧w.cell? ⟨p,1,none⟩=some (.int .i64 (i:Int))∧w.cell? ⟨g,i * 3+1,none⟩=some (.string ⟨y.toArray⟩)∧(i:Int) < (n:Int):=by
 subst hy
 obtain⟨A,c,c0,c1,_,_,_,_,_,_,ht,_,_,_⟩:=h.cells
 have hl:=(zAo hi).2
 obtain⟨g,rfl,_,_,d1,_⟩:=zCm ht (i:=s.i) (by omega)
 exact⟨g,c,ts.length,s.i,c0,c1,d1,by omega⟩
theorem list_ba (y:List UInt8):(⟨y.toArray⟩:ByteArray).data.toList=y:=by simp
theorem rp_call (y:List UInt8)(hy:y.length≤20001)(z:Int)(b:Bool)(hb:Hid (zA0 y=b))(hz:Hid (zBb y=z))(w:World) :
 Calls Tryz.prog 198 #[.string ⟨y.toArray⟩] w (fun e w'=>e=.returned (.tuple #[.int .i64 z,.bool b])∧w'=w):=by
 obtain rfl:=hb.out
 obtain rfl:=hz.out
 refine (rparse_any ⟨y.toArray⟩ (by show y.toArray.size≤_;simp;omega) w).mono ?_
 rintro e w' ⟨he,rfl⟩
 rw[list_ba] at he
 exact⟨he,rfl⟩
theorem rp_call' (y:List UInt8)(hy:y.length≤20001)(x:ByteArray)(hx:Hid (x=⟨y.toArray⟩))(z:Int)(b:Bool)(hb:Hid (zA0 y=b))(hz:Hid (zBb y=z))(w:World) :
 Calls Tryz.prog 198 #[.string x] w (fun e w'=>e=.returned (.tuple #[.int .i64 z,.bool b])∧w'=w):=by
 obtain rfl:=hx.out
 exact rp_call y hy z b hb hz w
theorem rn_call (y:List UInt8)(hy:y.length≤20001)(z:Int)(b:Bool)(hb:Hid (numB y 1000000=b))(hz:Hid ((numV y 1000000:Int)=z))(w:World) :
 Calls Tryz.prog 37 #[.string ⟨y.toArray⟩,.int .u64 1000000] w (fun e w'=>e=.returned (.tuple #[.int .u64 z,.bool b])∧w'=w) :=
 (zB6 ⟨y.toArray⟩ 1000000 1000000 z b (by show y.toArray.size≤_;simp;omega) rfl (by rw[list_ba];exact hz.out) (by rw[list_ba];exact hb.out) w).mono fun _ _ h=>⟨h.1,h.2.symm⟩
theorem rsmall_any (ts:List Tk)(en p:Nat)(s s1:PS)(n:Int)(hv:Hid (rSmV ts s=n))(hs:Hid (rSmS ts s=s1))(w:World)(h:RSt ts en p s w) :
 Calls Tryz.prog 20 #[.pointer (some ⟨p,0,none⟩)] w (RAccP ts en p s1 (.int .i64 n) w):=by
 obtain rfl:=hv.out
 obtain rfl:=hs.out
 clear hv hs
 have HS:=Hd h
 obtain⟨b,hb⟩:∃ b,rNu ts s 0=b:=⟨_,rfl⟩
 cases b
 ·have h0:rSmB ts s=false:=by unfold rSmB;rw[hb];rfl
  unfold rSmV rSmS
  rw[h0,if_neg (by decide),if_neg (by decide)]
  obtain⟨A,c,c0,c1,c2,_,_,_,_,_,ht,hi,hl,he⟩:=h.cells
  clear h0 c2 he
  rcases rat_cases ts s 0 with hf | ⟨hf,hlt⟩ | ⟨hf,hlt⟩
  ·have hok:=fun w h=>zAn ts en p s false hf w h
   clear ht c0 c1 hb hf
   go_enter Tryz.func20,Tryz.ntmps20
   go_wp2_with fail
   go_quiet ((go_at_call 17;exact Calls.quiet_of_same (hok _ h)))
   go_wp2_with fail
   refine (zB4 ts en p s _ (HS.out.drewN _)).mono ?_
   rintro e w2 ⟨rfl,hg,hp⟩
   go_wp2_with fail
   go_ret
   exact raccP rfl (grown_to (zAa (below_drewN (Below.refl _ _) _) _) hg) hp
  ·have hok:=fun w h=>zAn ts en p s true hf w h
   obtain⟨n,hn⟩:∃ n,ts.length=n:=⟨_,rfl⟩
   rw[hn] at c0 hlt hl hi
   clear ht hn hb hf
   obtain⟨i,hsi⟩:∃ i,s.i=i:=⟨_,rfl⟩
   rw[hsi] at c1 hi hlt
   clear hsi
   have h1:decide (n≤i)=true:=decide_eq_true (by omega)
   have h2:(n:Int)≤(i:Int):=by omega
   clear hi hl hlt
   go_enter Tryz.func20,Tryz.ntmps20
   go_wp2_with fail
   go_quiet ((go_at_call 17;exact Calls.quiet_of_same (hok _ h)))
   go_wp2_with fail
   refine (zB4 ts en p s _ (HS.out.drewN _)).mono ?_
   rintro e w2 ⟨rfl,hg,hp⟩
   go_wp2_with fail
   go_ret
   exact raccP rfl (grown_to (zAa (below_drewN (Below.refl _ _) _) _) hg) hp
  ·obtain⟨g,rfl,hg,d0,_,_⟩:=zCm ht hlt
   rw[Nat.add_zero] at d0 hlt
   have hk2:(ts.getD s.i tk0).kind≠2:=by
    intro hk
    have:rNu ts s 0=true:=by unfold rNu inn tkk;rw[hf,Nat.add_zero,decide_eq_true hlt,hk];rfl
    rw[this] at hb;cases hb
   generalize ts.getD s.i tk0=t at d0 hk2
   obtain⟨kd,y,o⟩:=t
   dsimp only at d0 hk2
   have hok:=fun w h=>zAn ts en p s true hf w h
   obtain⟨n,hn⟩:∃ n,ts.length=n:=⟨_,rfl⟩
   rw[hn] at c0 hlt hl hi
   clear ht hn hb hf
   obtain⟨i,hsi⟩:∃ i,s.i=i:=⟨_,rfl⟩
   rw[hsi] at c1 hi hlt d0
   clear hsi
   obtain⟨kz,hkz⟩:∃ kz:Int,(kd:Int)=kz:=⟨_,rfl⟩
   rw[hkz] at d0
   have h1:decide (n≤i)=false:=decide_eq_false (by omega)
   have h2:¬ (n:Int)≤(i:Int):=by omega
   have h3:(i:Int) < (n:Int):=by omega
   have h6:(kz != 2)=true:=by rw[bne_iff_ne];omega
   clear hi hl hlt hkz hk2
   go_enter Tryz.func20,Tryz.ntmps20
   go_wp2_with fail
   go_quiet ((go_at_call 17;exact Calls.quiet_of_same (hok _ h)))
   go_wp2_with fail
   refine (zB4 ts en p s _ (HS.out.drewN _)).mono ?_
   rintro e w2 ⟨rfl,hg,hp⟩
   go_wp2_with fail
   go_ret
   exact raccP rfl (grown_to (zAa (below_drewN (Below.refl _ _) _) _) hg) hp
 ·have HI:=Hd (rNu_inn hb)
  have hlen:=zAo (rNu_inn hb)
  have hkk:(ts.getD s.i tk0).kind=2:=by unfold rNu at hb;rw[Bool.and_eq_true,decide_eq_true_eq] at hb;exact hb.2
  obtain⟨y,hy⟩:∃ y,(tkk ts s 0).text=y:=⟨_,rfl⟩
  have HY:=Hd hy
  have hyl:y.length≤20001:=by rw[←hy];have:=h.txt (s.i+0);exact Nat.le_succ_of_le this
  obtain⟨q,hq⟩:∃ q,numB y 1000000=q:=⟨_,rfl⟩
  obtain⟨z,hz⟩:∃ z:Int,(numV y 1000000:Int)=z:=⟨_,rfl⟩
  have hz0:0≤z∧z≤1000000:=by have:=numV_le y 1000000;omega
  have HNC:=Hd (fun w=>rn_call y hyl z q (Hd hq) (Hd hz) w)
  have h0:rSmB ts s=q:=by unfold rSmB;rw[hb,hy,hq];rfl
  have hval:q=true→(zA2 (tkk ts s 0).text:Int)=z:=fun e=>by rw[hy,←hz];unfold numV;rw[hq,if_pos e]
  unfold rSmV rSmS
  rw[h0]
  obtain⟨g,c,n,i,c0,c1,d1,h3⟩:=h.rd HI.out hy
  have hok:=fun w h=>zAn ts en p s true hlen.1 w h
  have hd0:w.cell? ⟨g,i * 3,none⟩=some (.int .i64 2):=by
   obtain⟨A,c',c0',c1',_,_,_,_,_,_,ht,_,_,_⟩:=h.cells
   obtain⟨g',hA,_,d0',_,_⟩:=zCm ht (i:=s.i) (by have:=hlen.2;omega)
   rw[c0] at c0'
   rw[c1] at c1'
   injection c0' with e1
   injection e1 with e1 _ _
   injection c1' with e2
   injection e2 with _ e2
   rw[hA] at e1
   injection e1 with e1
   injection e1 with e1 _ _
   obtain rfl:i=s.i:=by omega
   subst e1
   rw[d0',hkk]
   rfl
  have h1:decide (n≤i)=false:=decide_eq_false (by omega)
  have h2:¬ (n:Int)≤(i:Int):=by omega
  have HVAL:=Hd hval
  have hz1:=hz0.1
  have hz2:=hz0.2
  clear hkk hb hy hq hz h0 hval hyl hz0
  cases q
  ·rw[if_neg (by decide),if_neg (by decide)]
   go_enter Tryz.func20,Tryz.ntmps20
   go_wp2_with fail
   go_quiet ((go_at_call 17;exact Calls.quiet_of_same (hok _ h)))
   have hS:=HS.out.drewN nq
   have hB:Below w.heap.size w (w.drewN nq):=below_drewN (Below.refl _ _) nq
   have HB:=Hd hB
   clear c0 c1 d1 hd0 h3 h1 h2 hB
   generalize w.drewN nq=wq at hS HB ⊢
   obtain⟨g,c,n,i,c0,c1,d1,h3⟩:=hS.rd HI.out HY.out
   go_wp2_with fail
   go_quiet ((go_at_call 37;exact Calls.quiet_of_same (HNC.out _)))
   go_wp2_with fail
   refine (zB4 ts en p s _ (hS.drewN _)).mono ?_
   rintro e w2 ⟨rfl,hg,hp⟩
   go_wp2_with fail
   go_ret
   exact raccP rfl (grown_to (zAa (below_drewN HB.out _) _) hg) hp
  ·rw[if_pos rfl,if_pos rfl,HVAL.out rfl]
   go_enter Tryz.func20,Tryz.ntmps20
   go_wp2_with fail
   go_quiet ((go_at_call 17;exact Calls.quiet_of_same (hok _ h)))
   have hS:=HS.out.drewN nq
   have hB:Below w.heap.size w (w.drewN nq):=below_drewN (Below.refl _ _) nq
   have HB:=Hd hB
   clear c0 c1 d1 hd0 h3 h1 h2 hB
   generalize w.drewN nq=wq at hS HB ⊢
   obtain⟨g,c,n,i,c0,c1,d1,h3⟩:=hS.rd HI.out HY.out
   go_wp2_with fail
   go_quiet ((go_at_call 37;exact Calls.quiet_of_same (HNC.out _)))
   have hS2:=hS.drewN nq
   have hB2:=below_drewN HB.out nq
   have HB2:=Hd hB2
   clear c0 c1 d1 h3 hB2
   generalize wq.drewN nq=wr at hS2 HB2 ⊢
   obtain⟨_,_,_,k1,_,_,_,f1,_,_,_,_,hl,_⟩:=hS2.cells
   go_wp2_with fail
   go_ret
   obtain⟨hg,hp⟩:=radv hS2 hlen
   exact raccP rfl (grown_to (zAa HB2.out _) hg) hp
theorem rnumber_false (ts:List Tk)(en p:Nat)(s:PS)(q:PE × PS)(hq:Hid (rnF ts false s=q))(hi:Hid (inn ts s 0=true))(w:World)(h:RSt ts en p s w) :
 Calls Tryz.prog 158 #[.pointer (some ⟨p,0,none⟩),.bool false] w (RExP ts en p q w):=by
 obtain rfl:=hq.out
 have hlen:=zAo hi.out
 obtain⟨y,hy⟩:∃ y,(tkk ts s 0).text=y:=⟨_,rfl⟩
 have hyl:y.length≤20001:=by rw[←hy];have:=h.txt (s.i+0);exact Nat.le_succ_of_le this
 obtain⟨b,hb⟩:∃ b,zA0 y=b:=⟨_,rfl⟩
 obtain⟨z,hz⟩:∃ z,zBb y=z:=⟨_,rfl⟩
 have HC:=Hd (fun w=>rp_call y hyl z b (Hd hb) (Hd hz) w)
 have hr:rnF ts false s=(if b=true then (numE z,adv s) else (emE,fl s)):=by unfold rnF rnB rnV;rw[hy];simp only[Bool.false_eq_true,if_false];rw[hb,hz]
 cases b
 ·rw[hr]
  have o:=ROwn.start h 36 ex0
  obtain⟨g,c,n,i,c0,c1,d1,h3⟩:=o.s.rd hi.out hy
  clear hy hyl hb hz hr hq h
  rw[if_neg (by decide)]
  go_enter Tryz.func158,Tryz.ntmps158
  go_wp2_with fail
  go_quiet ((go_at_call 198;exact Calls.quiet_of_same (HC.out _)))
  replace o:=o.low (below_drewN (Below.refl _ _) nq)
  clear c0 c1 d1 h3 HC
  generalize hwq:(w.alloc (.cells ex0 36)).drewN nq=wq at *
  clear hwq
  go_wp2_with fail
  refine (zB4 ts en p s _ o.s).mono ?_
  rintro e w2 ⟨rfl,hg,hp⟩
  replace o:=o.acc hg hp
  clear hg hp
  obtain⟨r0,r1,r2,r3,r4,f0,f1,f2,f3,f4⟩:=o.ok
  go_wp2_with fail
  obtain⟨hk,hx⟩:=o.fin (repE_leaf _ _ 0 0 [] 0 none 0)
  obtain⟨q0,q1,q2,q3,q4,_⟩:=hk.cells5
  exact bodyPost_ret (v:=exV 0 0 [] 0 none 0 0) (by simp[results,Tryz.results158,go_sem,q0,q1,q2,q3,q4]) rfl hx
 ·rw[hr]
  have o:=ROwn.start h 36 ex0
  obtain⟨g,c,n,i,c0,c1,d1,h3⟩:=o.s.rd hi.out hy
  clear hy hyl hb hz hr hq h
  rw[if_pos rfl]
  go_enter Tryz.func158,Tryz.ntmps158
  go_wp2_with fail
  go_quiet ((go_at_call 198;exact Calls.quiet_of_same (HC.out _)))
  replace o:=o.low (below_drewN (Below.refl _ _) nq)
  clear c0 c1 d1 h3 HC
  generalize hwq:(w.alloc (.cells ex0 36)).drewN nq=wq at *
  clear hwq
  obtain⟨_,_,_,c1,_,_,_,f1',_,_,_,hi',hl,_⟩:=o.s.cells
  obtain⟨r0,r1,r2,r3,r4,f0,f1,f2,f3,f4⟩:=o.ok
  have hne:w.heap.size≠p:=Nat.ne_of_gt o.p
  go_wp2_with fail
  obtain⟨hg,hp⟩:=radv o.s hlen
  obtain⟨hk,hx⟩:=(o.acc hg hp).fin (repE_leaf _ _ 1 z [] 0 none 0)
  obtain⟨q0,q1,q2,q3,q4,_⟩:=hk.cells5
  exact bodyPost_ret (v:=exV 1 z [] 0 none 0 0) (by simp[results,Tryz.results158,go_sem,q0,q1,q2,q3,q4]) rfl hx
theorem rnumber_true (ts:List Tk)(en p:Nat)(s:PS)(q:PE × PS)(hq:Hid (rnF ts true s=q))(hi:Hid (inn ts s 0=true))(w:World)(h:RSt ts en p s w) :
 Calls Tryz.prog 158 #[.pointer (some ⟨p,0,none⟩),.bool true] w (RExP ts en p q w):=by
 obtain rfl:=hq.out
 have hlen:=zAo hi.out
 obtain⟨y,hy⟩:∃ y,(tkk ts s 0).text=y:=⟨_,rfl⟩
 have hyl:y.length≤20000:=by rw[←hy];exact h.txt (s.i+0)
 obtain⟨b,hb⟩:∃ b,zA0 y=b:=⟨_,rfl⟩
 obtain⟨z,hz⟩:∃ z,zBb y=z:=⟨_,rfl⟩
 obtain⟨b2,hb2⟩:∃ b,zA0 (45 :: y)=b:=⟨_,rfl⟩
 obtain⟨z2,hz2⟩:∃ z,zBb (45 :: y)=z:=⟨_,rfl⟩
 have hsum:(⟨#[45]⟩:ByteArray)++⟨y.toArray⟩=⟨(45 :: y).toArray⟩:=by
  apply ByteArray.ext;simp[ByteArray.data_append]
 have HC:=Hd (fun w=>rp_call y (Nat.le_succ_of_le hyl) z b (Hd hb) (Hd hz) w)
 have HC2:=Hd (fun w=>rp_call' (45 :: y) (by simp;omega) _ (Hd hsum) z2 b2 (Hd hb2) (Hd hz2) w)
 obtain⟨b3,hb3⟩:∃ b3,(y==[48])=b3:=⟨_,rfl⟩
 have hr:rnF ts true s=(if (b3||b2)=true then (numE (if b3=true then 0 else z2),adv s) else (emE,fl s)):=by
  unfold rnF rnB rnV
  rw[hy]
  simp only[if_true]
  rw[hb2,hz2,←hb3]
  by_cases e:y=[48]
  ·simp[e]
  ·simp[e]
 cases b3
 ·cases b2
  ·rw[hr,if_neg (by decide)]
   have o:=ROwn.start h 36 ex0
   obtain⟨g,c,n,i,c0,c1,d1,h3⟩:=o.s.rd hi.out hy
   have HY:=Hd hy
   have HB3:=Hd hb3
   clear hy hb hz hr hq h hb2 hz2 hsum hb3
   go_enter Tryz.func158,Tryz.ntmps158
   go_wp2_with fail
   go_quiet ((go_at_call 198;exact Calls.quiet_of_same (HC.out _)))
   replace o:=o.low (below_drewN (Below.refl _ _) nq)
   clear c0 c1 d1 h3 HC
   generalize hwq:(w.alloc (.cells ex0 36)).drewN nq=wq at *
   clear hwq
   obtain⟨g,c,n,i,c0,c1,d1,h3⟩:=o.s.rd hi.out HY.out
   go_wp2_with fail
   go_quiet ((go_at_call 198;exact Calls.quiet_of_same (HC2.out _)))
   replace o:=o.low (below_drewN (Below.refl _ _) nq)
   clear c0 c1 d1 h3 HC2
   generalize hwq:wq.drewN nq=wr at *
   clear hwq
   obtain⟨g,c,n,i,c0,c1,d1,h3⟩:=o.s.rd hi.out HY.out
   have hb3:=HB3.out
   go_wp2_with fail
   go_quiet (fail)
   replace o:=o.low (below_drewN (Below.refl _ _) nq)
   clear c0 c1 d1 h3 hb3
   generalize hwq:wr.drewN nq=ws at *
   clear hwq
   go_wp2_with fail
   refine (zB4 ts en p s _ o.s).mono ?_
   rintro e w2 ⟨rfl,hg,hp⟩
   replace o:=o.acc hg hp
   clear hg hp
   obtain⟨r0,r1,r2,r3,r4,f0,f1,f2,f3,f4⟩:=o.ok
   go_wp2_with fail
   obtain⟨hk,hx⟩:=o.fin (repE_leaf _ _ 0 0 [] 0 none 0)
   obtain⟨q0,q1,q2,q3,q4,_⟩:=hk.cells5
   exact bodyPost_ret (v:=exV 0 0 [] 0 none 0 0) (by simp[results,Tryz.results158,go_sem,q0,q1,q2,q3,q4]) rfl hx
  ·rw[hr,if_pos (by decide),if_neg (by decide)]
   have o:=ROwn.start h 36 ex0
   obtain⟨g,c,n,i,c0,c1,d1,h3⟩:=o.s.rd hi.out hy
   have HY:=Hd hy
   have HB3:=Hd hb3
   clear hy hb hz hr hq h hb2 hz2 hsum hb3
   go_enter Tryz.func158,Tryz.ntmps158
   go_wp2_with fail
   go_quiet ((go_at_call 198;exact Calls.quiet_of_same (HC.out _)))
   replace o:=o.low (below_drewN (Below.refl _ _) nq)
   clear c0 c1 d1 h3 HC
   generalize hwq:(w.alloc (.cells ex0 36)).drewN nq=wq at *
   clear hwq
   obtain⟨g,c,n,i,c0,c1,d1,h3⟩:=o.s.rd hi.out HY.out
   go_wp2_with fail
   go_quiet ((go_at_call 198;exact Calls.quiet_of_same (HC2.out _)))
   replace o:=o.low (below_drewN (Below.refl _ _) nq)
   clear c0 c1 d1 h3 HC2
   generalize hwq:wq.drewN nq=wr at *
   clear hwq
   obtain⟨g,c,n,i,c0,c1,d1,h3⟩:=o.s.rd hi.out HY.out
   have hb3:=HB3.out
   go_wp2_with fail
   go_quiet (fail)
   replace o:=o.low (below_drewN (Below.refl _ _) nq)
   clear c0 c1 d1 h3 hb3
   generalize hwq:wr.drewN nq=ws at *
   clear hwq
   obtain⟨_,_,_,c1,_,_,_,f1',_,_,_,hi',hl,_⟩:=o.s.cells
   obtain⟨r0,r1,r2,r3,r4,f0,f1,f2,f3,f4⟩:=o.ok
   have hne:w.heap.size≠p:=Nat.ne_of_gt o.p
   go_wp2_with fail
   obtain⟨hg,hp⟩:=radv o.s hlen
   obtain⟨hk,hx⟩:=(o.acc hg hp).fin (repE_leaf _ _ 1 z2 [] 0 none 0)
   obtain⟨q0,q1,q2,q3,q4,_⟩:=hk.cells5
   exact bodyPost_ret (v:=exV 1 z2 [] 0 none 0 0) (by simp[results,Tryz.results158,go_sem,q0,q1,q2,q3,q4]) rfl hx
 ·rw[hr,if_pos (by simp),if_pos rfl]
  have o:=ROwn.start h 36 ex0
  obtain⟨g,c,n,i,c0,c1,d1,h3⟩:=o.s.rd hi.out hy
  have HY:=Hd hy
  have HB3:=Hd hb3
  clear hy hb hz hr hq h hb2 hz2 hsum hb3
  go_enter Tryz.func158,Tryz.ntmps158
  go_wp2_with fail
  go_quiet ((go_at_call 198;exact Calls.quiet_of_same (HC.out _)))
  replace o:=o.low (below_drewN (Below.refl _ _) nq)
  clear c0 c1 d1 h3 HC
  generalize hwq:(w.alloc (.cells ex0 36)).drewN nq=wq at *
  clear hwq
  obtain⟨g,c,n,i,c0,c1,d1,h3⟩:=o.s.rd hi.out HY.out
  go_wp2_with fail
  go_quiet ((go_at_call 198;exact Calls.quiet_of_same (HC2.out _)))
  replace o:=o.low (below_drewN (Below.refl _ _) nq)
  clear c0 c1 d1 h3 HC2
  generalize hwq:wq.drewN nq=wr at *
  clear hwq
  obtain⟨g,c,n,i,c0,c1,d1,h3⟩:=o.s.rd hi.out HY.out
  have hb3:=HB3.out
  go_wp2_with fail
  go_quiet (fail)
  replace o:=o.low (below_drewN (Below.refl _ _) nq)
  clear c0 c1 d1 h3 hb3
  generalize hwq:wr.drewN nq=ws at *
  clear hwq
  obtain⟨_,_,_,c1,_,_,_,f1',_,_,_,hi',hl,_⟩:=o.s.cells
  obtain⟨r0,r1,r2,r3,r4,f0,f1,f2,f3,f4⟩:=o.ok
  have hne:w.heap.size≠p:=Nat.ne_of_gt o.p
  go_wp2_with fail
  obtain⟨hg,hp⟩:=radv o.s hlen
  obtain⟨hk,hx⟩:=(o.acc hg hp).fin (repE_leaf _ _ 1 0 [] 0 none 0)
  obtain⟨q0,q1,q2,q3,q4,_⟩:=hk.cells5
  exact bodyPost_ret (v:=exV 1 0 [] 0 none 0 0) (by simp[results,Tryz.results158,go_sem,q0,q1,q2,q3,q4]) rfl hx
theorem rnumber_any (ts:List Tk)(en p:Nat)(b:Bool)(s:PS)(q:PE × PS)(hq:Hid (rnF ts b s=q))(hi:Hid (inn ts s 0=true))(w:World)(h:RSt ts en p s w) :
 Calls Tryz.prog 158 #[.pointer (some ⟨p,0,none⟩),.bool b] w (RExP ts en p q w):=by
 cases b
 ·exact rnumber_false ts en p s q hq hi w h
 ·exact rnumber_true ts en p s q hq hi w h
end Go.Proofs.YtpgnlfdindmopaaGreatDoor
namespace Go.Proofs.YtpgnlfdindmopaaGreatDoor
open Go.RowKit (wrap64 intOf)
open Go Go.RowKit WM LX PX
set_option maxRecDepth 100000
set_option maxHeartbeats 4000000
def RWEx (ts:List Tk)(en p n:Nat):Prop:=∀ (s:PS)(q:PE × PS)(w:World),Hid (rexF ts n s=q)→20 * ms ts s+14≤n→RSt ts en p s w→Calls Tryz.prog 42 #[.pointer (some ⟨p,0,none⟩)] w (RExP ts en p q w)
def RWBi (ts:List Tk)(en p n:Nat):Prop:=∀ (k:Nat)(s:PS)(q:PE × PS)(w:World),k≤8→Hid (rbiF ts n k s=q)→20 * ms ts s+13≤n+k→RSt ts en p s w→Calls Tryz.prog 66 #[.pointer (some ⟨p,0,none⟩),.int .i64 (k:Int)] w (RExP ts en p q w)
def RWUn (ts:List Tk)(en p n:Nat):Prop:=∀ (s:PS)(q:PE × PS)(w:World),Hid (runF ts n s=q)→20 * ms ts s+4≤n→RSt ts en p s w→Calls Tryz.prog 109 #[.pointer (some ⟨p,0,none⟩)] w (RExP ts en p q w)
def RWPi (ts:List Tk)(en p n:Nat):Prop:=∀ (s:PS)(q:PE × PS)(w:World),Hid (rpiF ts n s=q)→20 * ms ts s+3≤n→RSt ts en p s w→Calls Tryz.prog 159 #[.pointer (some ⟨p,0,none⟩)] w (RExP ts en p q w)
theorem rbin0 {ts:List Tk}{en p n:Nat}(h:RWBi ts en p n)(s:PS)(q:PE × PS)(w:World)(hq:Hid (rbiF ts n 0 s=q))(hm:20 * ms ts s+13≤n)(hp:RSt ts en p s w) :
 Calls Tryz.prog 66 #[.pointer (some ⟨p,0,none⟩),.int .i64 0] w (RExP ts en p q w):=h 0 s q w (by decide) hq hm hp
theorem rexpr_step (ts:List Tk)(en p n:Nat)(hbi:RWBi ts en p n)(hex:RWEx ts en p n):RWEx ts en p (n+1):=by
 intro s q w hq hm h
 have hq:=hq.out
 rw[rexF_eq] at hq
 obtain⟨⟨cpe,s1⟩,hc⟩:∃ x,rbiF ts n 0 s=x:=⟨_,rfl⟩
 have HC:=Hd hc
 have hm1:=(rms_all (ts:=ts) n).2.1 0 s
 rw[hc] at hq hm1
 dsimp only at hq hm1
 have o:=ROwn.start h 36 ex0
 have HBI:=Hd hbi
 have HEX:=Hd hex
 have hms:20 * ms ts s+13≤n:=by omega
 clear hbi hex hc h
 obtain⟨b,hb⟩:∃ b,rAt ts s1 0 cQuest=b:=⟨_,rfl⟩
 have HX:=Hd hb
 cases b
 ·rw[hb,if_neg (by decide)] at hq
  subst hq
  clear hb hm1 hm
  go_enter Tryz.func42,Tryz.ntmps42
  go_wp2_with fail
  refine (rbin0 HBI.out s _ _ HC hms o.s).mono ?_
  rintro e w1 ⟨kd,nn,nm,op,A,L,c,rfl,hr,hg,hp⟩
  have x1:=Hold.rstart hr o hg.size 36
  replace o:=(o.acc hg hp).al (.cells #[.int .i64 kd,.int .i64 nn,.string ⟨nm.toArray⟩,.int .i64 op,.slice A L c] 36)
  clear hg hp hr
  go_wp2_with fail
  refine (zAe ts en p s1 0 (by decide) cQuest false HX _ o.s).mono ?_
  rintro e w2 ⟨rfl,hb⟩
  have hg:=zAa hb (some p)
  have hp:=o.s.keep hb
  clear hb
  replace o:=o.acc hg hp
  replace x1:=x1.acc hg
  clear hg hp
  obtain⟨r0,r1,r2,r3,r4,f0,f1,f2,f3,f4⟩:=o.ok
  obtain⟨k0,k1,k2,k3,k4,_⟩:=x1.k.cells5
  go_wp2_with fail
  obtain⟨hk,hx⟩:=o.fin x1.out
  obtain⟨q0,q1,q2,q3,q4,_⟩:=hk.cells5
  exact bodyPost_ret (v:=exV kd nn nm op A L c) (by simp[results,Tryz.results42,go_sem,q0,q1,q2,q3,q4]) rfl hx
 ·rw[hb,if_pos rfl] at hq
  have hmv:=zBa hb
  have hlen:=zAo (zBd hb)
  obtain⟨⟨ape,s2⟩,ha⟩:∃ x,rexF ts n (adv s1)=x:=⟨_,rfl⟩
  have HA:=Hd ha
  have hm2:=ms_rex (ts:=ts) n (adv s1)
  rw[ha] at hq hm2
  dsimp only at hq hm2
  obtain⟨s3,hs3⟩:∃ x,rEx ts s2 zCb=x:=⟨_,rfl⟩
  have HS3:=Hd hs3
  have hm3:=zAt (ts:=ts) s2 zCb
  rw[hs3] at hq hm3
  obtain⟨⟨bpe,s4⟩,hb4⟩:∃ x,rexF ts n s3=x:=⟨_,rfl⟩
  have HB:=Hd hb4
  rw[hb4] at hq
  dsimp only at hq
  subst hq
  have hA:20 * ms ts (adv s1)+14≤n:=by omega
  have hB:20 * ms ts s3+14≤n:=by omega
  clear ha hs3 hb4 hm2 hm3 hm1 hmv hm hb
  go_enter Tryz.func42,Tryz.ntmps42
  go_wp2_with fail
  refine (rbin0 HBI.out s _ _ HC hms o.s).mono ?_
  rintro e w1 ⟨kd,nn,nm,op,A,L,c,rfl,hr,hg,hp⟩
  have x1:=Hold.rstart hr o hg.size 36
  replace o:=(o.acc hg hp).al (.cells #[.int .i64 kd,.int .i64 nn,.string ⟨nm.toArray⟩,.int .i64 op,.slice A L c] 36)
  clear hg hp hr
  go_wp2_with fail
  refine (zAe ts en p s1 0 (by decide) cQuest true HX _ o.s).mono ?_
  rintro e w2 ⟨rfl,hb⟩
  have hg:=zAa hb (some p)
  have hp:=o.s.keep hb
  clear hb
  replace o:=o.acc hg hp
  replace x1:=x1.acc hg
  clear hg hp
  obtain⟨_,_,_,c1,_,_,_,f1,_,_,_,hi,hl,_⟩:=o.s.cells
  go_wp2_with fail
  obtain⟨hg,hp⟩:=radv o.s hlen
  clear c1 f1 hi hl
  replace o:=o.acc hg hp
  replace x1:=x1.acc hg
  clear hg hp
  refine (HEX.out (adv s1) _ _ HA hA o.s).mono ?_
  rintro e w3 ⟨kd2,nn2,nm2,op2,A2,L2,c2,rfl,hr,hg,hp⟩
  have x2:=Hold.rstart hr o hg.size 36
  replace o:=(o.acc hg hp).al (.cells #[.int .i64 kd2,.int .i64 nn2,.string ⟨nm2.toArray⟩,.int .i64 op2,.slice A2 L2 c2] 36)
  replace x1:=(x1.acc hg).al (.cells #[.int .i64 kd2,.int .i64 nn2,.string ⟨nm2.toArray⟩,.int .i64 op2,.slice A2 L2 c2] 36)
  clear hg hp hr
  go_wp2_with fail
  refine (zAc ts en p s2 s3 zCb HS3 _ o.s).mono ?_
  rintro e w4 ⟨rfl,hg,hp⟩
  replace o:=o.acc hg hp
  replace x1:=x1.acc hg
  replace x2:=x2.acc hg
  clear hg hp
  go_wp2_with fail
  refine (HEX.out s3 _ _ HB hB o.s).mono ?_
  rintro e w5 ⟨kd3,nn3,nm3,op3,A3,L3,c3,rfl,hr,hg,hp⟩
  have hl3:=o.sz
  have x3:=Hold.rstart hr o hg.size 36
  replace o:=(o.acc hg hp).al (.cells #[.int .i64 kd3,.int .i64 nn3,.string ⟨nm3.toArray⟩,.int .i64 op3,.slice A3 L3 c3] 36)
  replace x1:=(x1.acc hg).al (.cells #[.int .i64 kd3,.int .i64 nn3,.string ⟨nm3.toArray⟩,.int .i64 op3,.slice A3 L3 c3] 36)
  replace x2:=(x2.acc hg).al (.cells #[.int .i64 kd3,.int .i64 nn3,.string ⟨nm3.toArray⟩,.int .i64 op3,.slice A3 L3 c3] 36)
  clear hg hp hr
  obtain⟨r0,r1,r2,r3,r4,f0,f1,f2,f3,f4⟩:=o.ok
  obtain⟨a0,a1,a2,a3,a4,_⟩:=x1.k.cells5
  obtain⟨b0,b1,b2,b3,b4,_⟩:=x2.k.cells5
  obtain⟨d0,d1,d2,d3,d4,_⟩:=x3.k.cells5
  have hlt:=o.sz
  have hl1:=x1.k.lt
  have hl2:=x2.k.lt
  generalize hwz:w5.alloc (.cells #[.int .i64 kd3,.int .i64 nn3,.string ⟨nm3.toArray⟩,.int .i64 op3,.slice A3 L3 c3] 36)=wz at *
  go_wp2_with fail
  have e0:=zBj wz w.heap.size (.int .i64 5) (.int .i64 0) (.string ⟨#[]⟩) (.int .i64 0) (.slice (some ⟨wz.heap.size,0,none⟩) 3 3)
  replace o:=o.put (.int .i64 5) (.int .i64 0) (.string ⟨#[]⟩) (.int .i64 0) (.slice (some ⟨wz.heap.size,0,none⟩) 3 3)
  replace x1:=x1.put (.int .i64 5) (.int .i64 0) (.string ⟨#[]⟩) (.int .i64 0) (.slice (some ⟨wz.heap.size,0,none⟩) 3 3)
  replace x2:=x2.put (.int .i64 5) (.int .i64 0) (.string ⟨#[]⟩) (.int .i64 0) (.slice (some ⟨wz.heap.size,0,none⟩) 3 3)
  replace x3:=x3.put (.int .i64 5) (.int .i64 0) (.string ⟨#[]⟩) (.int .i64 0) (.slice (some ⟨wz.heap.size,0,none⟩) 3 3)
  obtain⟨hk,hx⟩:=(o.al (.cells #[.int .i64 kd,.int .i64 nn,.string ⟨nm.toArray⟩,.int .i64 op,.slice A L c,.int .i64 kd2,.int .i64 nn2,.string ⟨nm2.toArray⟩,.int .i64 op2,.slice A2 L2 c2,.int .i64 kd3,.int .i64 nn3,.string ⟨nm3.toArray⟩,.int .i64 op3,.slice A3 L3 c3] 36)).done (repE_3 (c:=3) (blk_at e0 _ _) rfl ⟨by omega,by rw[World.size_alloc,e0];omega⟩ (x1.al _).out (x2.al _).out (x3.al _).out rfl rfl rfl 5 0 [] 0)
  obtain⟨q0,q1,q2,q3,q4,_⟩:=hk.cells5
  exact bodyPost_ret (v:=exV 5 0 [] 0 (some ⟨wz.heap.size,0,none⟩) 3 3) (by simp[results,Tryz.results42,go_sem,q0,q1,q2,q3,q4]) rfl hx
theorem rprim_step (ts:List Tk)(en p n:Nat)(hex:RWEx ts en p n):RWPi ts en p (n+1):=by
 intro s q w hq hm h
 have hq:=hq.out
 rw[rpiF_eq] at hq
 have o:=ROwn.start h 36 ex0
 have HEX:=Hd hex
 clear hex h
 obtain⟨b,hb⟩:∃ b,rNu ts s 0=b:=⟨_,rfl⟩
 have HN:=Hd hb
 cases b
 rotate_left
 ·rw[hb,if_pos rfl] at hq
  have HQ:=Hd hq
  have HI:=Hd (rNu_inn hb)
  clear hq hb
  go_enter Tryz.func159,Tryz.ntmps159
  go_wp2_with fail
  refine (rnu_any ts en p s 0 (by decide) true HN _ o.s).mono ?_
  rintro e w1 ⟨rfl,hb⟩
  have hg:=zAa hb (some p)
  have hp:=o.s.keep hb
  clear hb
  replace o:=o.acc hg hp
  clear hg hp
  go_wp2_with fail
  refine (rnumber_any ts en p false s q HQ HI _ o.s).mono ?_
  rintro e w2 ⟨kd,nn,nm,op,A,L,c,rfl,hr,hg,hp⟩
  have hl:=o.sz
  replace o:=o.acc hg hp
  clear hg hp
  have HR:=Hd (hr.mono (lo':=w.heap.size+1) hl (Lr _))
  clear hr
  obtain⟨r0,r1,r2,r3,r4,f0,f1,f2,f3,f4⟩:=o.ok
  go_wp2_with fail
  obtain⟨hk,hx⟩:=o.fin HR.out
  obtain⟨q0,q1,q2,q3,q4,_⟩:=hk.cells5
  exact bodyPost_ret (v:=exV kd nn nm op A L c) (by simp[results,Tryz.results159,go_sem,q0,q1,q2,q3,q4]) rfl hx
 ·rw[hb,if_neg (by decide)] at hq
  clear hb
  obtain⟨b,hb⟩:∃ b,rAt ts s 0 cLp=b:=⟨_,rfl⟩
  have HX:=Hd hb
  cases b
  rotate_left
  ·rw[hb,if_pos rfl] at hq
   have hmv:=zBa hb
   have hlen:=zAo (zBd hb)
   obtain⟨⟨cpe,s1⟩,hc⟩:∃ x,rexF ts n (adv s)=x:=⟨_,rfl⟩
   have HC:=Hd hc
   rw[hc] at hq
   dsimp only at hq
   obtain⟨s2,hs2⟩:∃ x,rEx ts s1 cRp=x:=⟨_,rfl⟩
   have HS2:=Hd hs2
   rw[hs2] at hq
   subst hq
   have hA:20 * ms ts (adv s)+14≤n:=by omega
   clear hb hc hs2 hmv hm
   go_enter Tryz.func159,Tryz.ntmps159
   go_wp2_with fail
   refine (rnu_any ts en p s 0 (by decide) false HN _ o.s).mono ?_
   rintro e w1 ⟨rfl,hb⟩
   have hg:=zAa hb (some p)
   have hp:=o.s.keep hb
   clear hb
   replace o:=o.acc hg hp
   clear hg hp
   go_wp2_with fail
   refine (zAe ts en p s 0 (by decide) cLp true HX _ o.s).mono ?_
   rintro e w2 ⟨rfl,hb⟩
   have hg:=zAa hb (some p)
   have hp:=o.s.keep hb
   clear hb
   replace o:=o.acc hg hp
   clear hg hp
   obtain⟨_,_,_,c1,_,_,_,f1,_,_,_,hi,hl,_⟩:=o.s.cells
   go_wp2_with fail
   obtain⟨hg,hp⟩:=radv o.s hlen
   clear c1 f1 hi hl
   replace o:=o.acc hg hp
   clear hg hp
   refine (HEX.out (adv s) _ _ HC hA o.s).mono ?_
   rintro e w3 ⟨kd,nn,nm,op,A,L,c,rfl,hr,hg,hp⟩
   have x1:=Hold.rstart hr o hg.size 36
   replace o:=(o.acc hg hp).al (.cells #[.int .i64 kd,.int .i64 nn,.string ⟨nm.toArray⟩,.int .i64 op,.slice A L c] 36)
   clear hg hp hr
   go_wp2_with fail
   refine (zAc ts en p s1 s2 cRp HS2 _ o.s).mono ?_
   rintro e w4 ⟨rfl,hg,hp⟩
   replace o:=o.acc hg hp
   replace x1:=x1.acc hg
   clear hg hp
   obtain⟨r0,r1,r2,r3,r4,f0,f1,f2,f3,f4⟩:=o.ok
   obtain⟨k0,k1,k2,k3,k4,_⟩:=x1.k.cells5
   go_wp2_with fail
   obtain⟨hk,hx⟩:=o.fin x1.out
   obtain⟨q0,q1,q2,q3,q4,_⟩:=hk.cells5
   exact bodyPost_ret (v:=exV kd nn nm op A L c) (by simp[results,Tryz.results159,go_sem,q0,q1,q2,q3,q4]) rfl hx
  ·rw[hb,if_neg (by decide)] at hq
   obtain⟨nm0,hv⟩:∃ x,rNmV ts s=x:=⟨_,rfl⟩
   obtain⟨s1,hs1⟩:∃ x,rNmS ts s=x:=⟨_,rfl⟩
   have HV:=Hd hv
   have HS1:=Hd hs1
   have hm1:=zBr (ts:=ts) s
   rw[hv,hs1] at hq
   rw[hs1] at hm1
   clear hb hv hs1
   obtain⟨b,hb⟩:∃ b,rAt ts s1 0 cLb=b:=⟨_,rfl⟩
   have HY:=Hd hb
   cases b
   rotate_left
   ·rw[hb,if_pos rfl] at hq
    have hmv:=zBa hb
    have hlen:=zAo (zBd hb)
    obtain⟨⟨cpe,s2⟩,hc⟩:∃ x,rexF ts n (adv s1)=x:=⟨_,rfl⟩
    have HC:=Hd hc
    rw[hc] at hq
    dsimp only at hq
    obtain⟨s3,hs3⟩:∃ x,rEx ts s2 cRb=x:=⟨_,rfl⟩
    have HS3:=Hd hs3
    rw[hs3] at hq
    subst hq
    have hA:20 * ms ts (adv s1)+14≤n:=by omega
    clear hb hc hs3 hmv hm hm1
    go_enter Tryz.func159,Tryz.ntmps159
    go_wp2_with fail
    refine (rnu_any ts en p s 0 (by decide) false HN _ o.s).mono ?_
    rintro e w1 ⟨rfl,hb⟩
    have hg:=zAa hb (some p)
    have hp:=o.s.keep hb
    clear hb
    replace o:=o.acc hg hp
    clear hg hp
    go_wp2_with fail
    refine (zAe ts en p s 0 (by decide) cLp false HX _ o.s).mono ?_
    rintro e w2 ⟨rfl,hb⟩
    have hg:=zAa hb (some p)
    have hp:=o.s.keep hb
    clear hb
    replace o:=o.acc hg hp
    clear hg hp
    go_wp2_with fail
    refine (zA9 ts en p s s1 nm0 HV HS1 _ o.s).mono ?_
    rintro e w3 ⟨rfl,hg,hp⟩
    replace o:=o.acc hg hp
    clear hg hp
    go_wp2_with fail
    refine (zAe ts en p s1 0 (by decide) cLb true HY _ o.s).mono ?_
    rintro e w4 ⟨rfl,hb⟩
    have hg:=zAa hb (some p)
    have hp:=o.s.keep hb
    clear hb
    replace o:=o.acc hg hp
    clear hg hp
    obtain⟨_,_,_,c1,_,_,_,f1,_,_,_,hi,hl,_⟩:=o.s.cells
    go_wp2_with fail
    obtain⟨hg,hp⟩:=radv o.s hlen
    clear c1 f1 hi hl
    replace o:=o.acc hg hp
    clear hg hp
    refine (HEX.out (adv s1) _ _ HC hA o.s).mono ?_
    rintro e w5 ⟨kd,nn,nm,op,A,L,c,rfl,hr,hg,hp⟩
    have x1:=Hold.rstart hr o hg.size 36
    replace o:=(o.acc hg hp).al (.cells #[.int .i64 kd,.int .i64 nn,.string ⟨nm.toArray⟩,.int .i64 op,.slice A L c] 36)
    clear hg hp hr
    go_wp2_with fail
    refine (zAc ts en p s2 s3 cRb HS3 _ o.s).mono ?_
    rintro e w6 ⟨rfl,hg,hp⟩
    replace o:=o.acc hg hp
    replace x1:=x1.acc hg
    clear hg hp
    obtain⟨r0,r1,r2,r3,r4,f0,f1,f2,f3,f4⟩:=o.ok
    obtain⟨k0,k1,k2,k3,k4,_⟩:=x1.k.cells5
    have hlt:=o.sz
    have hl1:=x1.k.lt
    go_wp2_with fail
    have e0:=zBj w6 w.heap.size (.int .i64 3) (.int .i64 0) (.string ⟨nm0.toArray⟩) (.int .i64 0) (.slice (some ⟨w6.heap.size,0,none⟩) 1 1)
    replace o:=o.put (.int .i64 3) (.int .i64 0) (.string ⟨nm0.toArray⟩) (.int .i64 0) (.slice (some ⟨w6.heap.size,0,none⟩) 1 1)
    replace x1:=x1.put (.int .i64 3) (.int .i64 0) (.string ⟨nm0.toArray⟩) (.int .i64 0) (.slice (some ⟨w6.heap.size,0,none⟩) 1 1)
    obtain⟨hk,hx⟩:=(o.al (.cells #[.int .i64 kd,.int .i64 nn,.string ⟨nm.toArray⟩,.int .i64 op,.slice A L c] 36)).done (repE_1 (c:=1) (blk_at e0 _ _) rfl ⟨by omega,by rw[World.size_alloc,e0];omega⟩ (x1.al _).out rfl 3 0 nm0 0)
    obtain⟨q0,q1,q2,q3,q4,_⟩:=hk.cells5
    exact bodyPost_ret (v:=exV 3 0 nm0 0 (some ⟨w6.heap.size,0,none⟩) 1 1) (by simp[results,Tryz.results159,go_sem,q0,q1,q2,q3,q4]) rfl hx
   ·rw[hb,if_neg (by decide)] at hq
    subst hq
    clear hb hm hm1
    go_enter Tryz.func159,Tryz.ntmps159
    go_wp2_with fail
    refine (rnu_any ts en p s 0 (by decide) false HN _ o.s).mono ?_
    rintro e w1 ⟨rfl,hb⟩
    have hg:=zAa hb (some p)
    have hp:=o.s.keep hb
    clear hb
    replace o:=o.acc hg hp
    clear hg hp
    go_wp2_with fail
    refine (zAe ts en p s 0 (by decide) cLp false HX _ o.s).mono ?_
    rintro e w2 ⟨rfl,hb⟩
    have hg:=zAa hb (some p)
    have hp:=o.s.keep hb
    clear hb
    replace o:=o.acc hg hp
    clear hg hp
    go_wp2_with fail
    refine (zA9 ts en p s s1 nm0 HV HS1 _ o.s).mono ?_
    rintro e w3 ⟨rfl,hg,hp⟩
    replace o:=o.acc hg hp
    clear hg hp
    go_wp2_with fail
    refine (zAe ts en p s1 0 (by decide) cLb false HY _ o.s).mono ?_
    rintro e w4 ⟨rfl,hb⟩
    have hg:=zAa hb (some p)
    have hp:=o.s.keep hb
    clear hb
    replace o:=o.acc hg hp
    clear hg hp
    obtain⟨r0,r1,r2,r3,r4,f0,f1,f2,f3,f4⟩:=o.ok
    go_wp2_with fail
    obtain⟨hk,hx⟩:=o.fin (repE_leaf _ _ 2 0 nm0 0 none 0)
    obtain⟨q0,q1,q2,q3,q4,_⟩:=hk.cells5
    exact bodyPost_ret (v:=exV 2 0 nm0 0 none 0 0) (by simp[results,Tryz.results159,go_sem,q0,q1,q2,q3,q4]) rfl hx
theorem runary_step (ts:List Tk)(en p n:Nat)(hun:RWUn ts en p n)(hpi:RWPi ts en p n):RWUn ts en p (n+1):=by
 intro s q w hq hm h
 have hq:=hq.out
 rw[runF_eq] at hq
 have o:=ROwn.start h 36 ex0
 have HUN:=Hd hun
 have HPI:=Hd hpi
 clear hun hpi h
 obtain⟨b,hb⟩:∃ b,rAt ts s 0 zBs=b:=⟨_,rfl⟩
 have HX:=Hd hb
 cases b
 rotate_left
 ·rw[hb,if_pos rfl] at hq
  have hmv:=zBa hb
  have hlen:=zAo (zBd hb)
  clear hb
  obtain⟨b,hb⟩:∃ b,rNu ts s 1=b:=⟨_,rfl⟩
  have HN:=Hd hb
  cases b
  rotate_left
  ·rw[hb,if_pos rfl] at hq
   have HQ:=Hd hq
   have hi1:inn ts (adv s) 0=true:=by
    have h3:=zAo (rNu_inn hb)
    unfold inn;simp[adv,h3.1];omega
   have HI:=Hd hi1
   clear hq hb hi1 hmv hm
   go_enter Tryz.func109,Tryz.ntmps109
   go_wp2_with fail
   refine (zAe ts en p s 0 (by decide) zBs true HX _ o.s).mono ?_
   rintro e w1 ⟨rfl,hb⟩
   have hg:=zAa hb (some p)
   have hp:=o.s.keep hb
   clear hb
   replace o:=o.acc hg hp
   clear hg hp
   go_wp2_with fail
   refine (rnu_any ts en p s 1 (by decide) true HN _ o.s).mono ?_
   rintro e w2 ⟨rfl,hb⟩
   have hg:=zAa hb (some p)
   have hp:=o.s.keep hb
   clear hb
   replace o:=o.acc hg hp
   clear hg hp
   obtain⟨_,_,_,c1,_,_,_,f1,_,_,_,hi,hl,_⟩:=o.s.cells
   go_wp2_with fail
   obtain⟨hg,hp⟩:=radv o.s hlen
   clear c1 f1 hi hl
   replace o:=o.acc hg hp
   clear hg hp
   refine (rnumber_any ts en p true (adv s) q HQ HI _ o.s).mono ?_
   rintro e w3 ⟨kd,nn,nm,op,A,L,c,rfl,hr,hg,hp⟩
   have hl:=o.sz
   replace o:=o.acc hg hp
   clear hg hp
   have HR:=Hd (hr.mono (lo':=w.heap.size+1) hl (Lr _))
   clear hr
   obtain⟨r0,r1,r2,r3,r4,f0,f1,f2,f3,f4⟩:=o.ok
   go_wp2_with fail
   obtain⟨hk,hx⟩:=o.fin HR.out
   obtain⟨q0,q1,q2,q3,q4,_⟩:=hk.cells5
   exact bodyPost_ret (v:=exV kd nn nm op A L c) (by simp[results,Tryz.results109,go_sem,q0,q1,q2,q3,q4]) rfl hx
  ·rw[hb,if_neg (by decide)] at hq
   obtain⟨⟨cpe,s1⟩,hc⟩:∃ x,runF ts n (adv s)=x:=⟨_,rfl⟩
   have HC:=Hd hc
   rw[hc] at hq
   dsimp only at hq
   subst hq
   have hA:20 * ms ts (adv s)+4≤n:=by omega
   clear hb hc hmv hm
   go_enter Tryz.func109,Tryz.ntmps109
   go_wp2_with fail
   refine (zAe ts en p s 0 (by decide) zBs true HX _ o.s).mono ?_
   rintro e w1 ⟨rfl,hb⟩
   have hg:=zAa hb (some p)
   have hp:=o.s.keep hb
   clear hb
   replace o:=o.acc hg hp
   clear hg hp
   go_wp2_with fail
   refine (rnu_any ts en p s 1 (by decide) false HN _ o.s).mono ?_
   rintro e w2 ⟨rfl,hb⟩
   have hg:=zAa hb (some p)
   have hp:=o.s.keep hb
   clear hb
   replace o:=o.acc hg hp
   clear hg hp
   go_wp2_with fail
   refine (zAe ts en p s 0 (by decide) zBs true HX _ o.s).mono ?_
   rintro e w3 ⟨rfl,hb⟩
   have hg:=zAa hb (some p)
   have hp:=o.s.keep hb
   clear hb
   replace o:=o.acc hg hp
   clear hg hp
   obtain⟨_,_,_,c1,_,_,_,f1,_,_,_,hi,hl,_⟩:=o.s.cells
   go_wp2_with fail
   obtain⟨hg,hp⟩:=radv o.s hlen
   clear c1 f1 hi hl
   replace o:=o.acc hg hp
   clear hg hp
   refine (HUN.out (adv s) _ _ HC hA o.s).mono ?_
   rintro e w4 ⟨kd,nn,nm,op,A,L,c,rfl,hr,hg,hp⟩
   have hl:=o.sz
   have hz:=hg.size
   replace o:=o.acc hg hp
   clear hg hp
   replace hr:=hr.mono (lo':=w.heap.size+1) hl (Lr _)
   have HR:=Hd (repE_1 (c:=1) (Blk.new w4 36 _) rfl (ok:=Rg (w.heap.size+1) (w4.alloc (.cells #[.int .i64 kd,.int .i64 nn,.string ⟨nm.toArray⟩,.int .i64 op,.slice A L c] 36)).heap.size) ⟨by omega,by simp⟩ ((hr.alloc (Lr _) (.cells #[.int .i64 kd,.int .i64 nn,.string ⟨nm.toArray⟩,.int .i64 op,.slice A L c] 36)).mono (Lr _) (by simp)) rfl 4 0 [] 20)
   clear hr hz hl
   replace o:=o.al (.cells #[.int .i64 kd,.int .i64 nn,.string ⟨nm.toArray⟩,.int .i64 op,.slice A L c] 36)
   obtain⟨r0,r1,r2,r3,r4,f0,f1,f2,f3,f4⟩:=o.ok
   have hlt:=o.sz
   go_wp2_with fail
   obtain⟨hk,hx⟩:=o.fin HR.out
   obtain⟨q0,q1,q2,q3,q4,_⟩:=hk.cells5
   exact bodyPost_ret (v:=exV 4 0 [] 20 (some ⟨w4.heap.size,0,none⟩) 1 1) (by simp[results,Tryz.results109,go_sem,q0,q1,q2,q3,q4]) rfl hx
 ·rw[hb,if_neg (by decide)] at hq
  clear hb
  obtain⟨b,hb⟩:∃ b,rAt ts s 0 cTilde=b:=⟨_,rfl⟩
  have HY:=Hd hb
  cases b
  rotate_left
  ·rw[hb,if_pos rfl] at hq
   have hmv:=zBa hb
   have hlen:=zAo (zBd hb)
   obtain⟨⟨cpe,s1⟩,hc⟩:∃ x,runF ts n (adv s)=x:=⟨_,rfl⟩
   have HC:=Hd hc
   rw[hc] at hq
   dsimp only at hq
   subst hq
   have hA:20 * ms ts (adv s)+4≤n:=by omega
   clear hb hc hmv hm
   go_enter Tryz.func109,Tryz.ntmps109
   go_wp2_with fail
   refine (zAe ts en p s 0 (by decide) zBs false HX _ o.s).mono ?_
   rintro e w1 ⟨rfl,hb⟩
   have hg:=zAa hb (some p)
   have hp:=o.s.keep hb
   clear hb
   replace o:=o.acc hg hp
   clear hg hp
   go_wp2_with fail
   refine (zAe ts en p s 0 (by decide) zBs false HX _ o.s).mono ?_
   rintro e w2 ⟨rfl,hb⟩
   have hg:=zAa hb (some p)
   have hp:=o.s.keep hb
   clear hb
   replace o:=o.acc hg hp
   clear hg hp
   go_wp2_with fail
   refine (zAe ts en p s 0 (by decide) cTilde true HY _ o.s).mono ?_
   rintro e w3 ⟨rfl,hb⟩
   have hg:=zAa hb (some p)
   have hp:=o.s.keep hb
   clear hb
   replace o:=o.acc hg hp
   clear hg hp
   obtain⟨_,_,_,c1,_,_,_,f1,_,_,_,hi,hl,_⟩:=o.s.cells
   go_wp2_with fail
   obtain⟨hg,hp⟩:=radv o.s hlen
   clear c1 f1 hi hl
   replace o:=o.acc hg hp
   clear hg hp
   refine (HUN.out (adv s) _ _ HC hA o.s).mono ?_
   rintro e w4 ⟨kd,nn,nm,op,A,L,c,rfl,hr,hg,hp⟩
   have hl:=o.sz
   have hz:=hg.size
   replace o:=o.acc hg hp
   clear hg hp
   replace hr:=hr.mono (lo':=w.heap.size+1) hl (Lr _)
   have HR:=Hd (repE_1 (c:=1) (Blk.new w4 36 _) rfl (ok:=Rg (w.heap.size+1) (w4.alloc (.cells #[.int .i64 kd,.int .i64 nn,.string ⟨nm.toArray⟩,.int .i64 op,.slice A L c] 36)).heap.size) ⟨by omega,by simp⟩ ((hr.alloc (Lr _) (.cells #[.int .i64 kd,.int .i64 nn,.string ⟨nm.toArray⟩,.int .i64 op,.slice A L c] 36)).mono (Lr _) (by simp)) rfl 4 0 [] 21)
   clear hr hz hl
   replace o:=o.al (.cells #[.int .i64 kd,.int .i64 nn,.string ⟨nm.toArray⟩,.int .i64 op,.slice A L c] 36)
   obtain⟨r0,r1,r2,r3,r4,f0,f1,f2,f3,f4⟩:=o.ok
   have hlt:=o.sz
   go_wp2_with fail
   obtain⟨hk,hx⟩:=o.fin HR.out
   obtain⟨q0,q1,q2,q3,q4,_⟩:=hk.cells5
   exact bodyPost_ret (v:=exV 4 0 [] 21 (some ⟨w4.heap.size,0,none⟩) 1 1) (by simp[results,Tryz.results109,go_sem,q0,q1,q2,q3,q4]) rfl hx
  ·rw[hb,if_neg (by decide)] at hq
   clear hb
   obtain⟨b,hb⟩:∃ b,rAt ts s 0 cBang=b:=⟨_,rfl⟩
   have HZ:=Hd hb
   cases b
   rotate_left
   ·rw[hb,if_pos rfl] at hq
    have hmv:=zBa hb
    have hlen:=zAo (zBd hb)
    obtain⟨⟨cpe,s1⟩,hc⟩:∃ x,runF ts n (adv s)=x:=⟨_,rfl⟩
    have HC:=Hd hc
    rw[hc] at hq
    dsimp only at hq
    subst hq
    have hA:20 * ms ts (adv s)+4≤n:=by omega
    clear hb hc hmv hm
    go_enter Tryz.func109,Tryz.ntmps109
    go_wp2_with fail
    refine (zAe ts en p s 0 (by decide) zBs false HX _ o.s).mono ?_
    rintro e w1 ⟨rfl,hb⟩
    have hg:=zAa hb (some p)
    have hp:=o.s.keep hb
    clear hb
    replace o:=o.acc hg hp
    clear hg hp
    go_wp2_with fail
    refine (zAe ts en p s 0 (by decide) zBs false HX _ o.s).mono ?_
    rintro e w2 ⟨rfl,hb⟩
    have hg:=zAa hb (some p)
    have hp:=o.s.keep hb
    clear hb
    replace o:=o.acc hg hp
    clear hg hp
    go_wp2_with fail
    refine (zAe ts en p s 0 (by decide) cTilde false HY _ o.s).mono ?_
    rintro e w3 ⟨rfl,hb⟩
    have hg:=zAa hb (some p)
    have hp:=o.s.keep hb
    clear hb
    replace o:=o.acc hg hp
    clear hg hp
    go_wp2_with fail
    refine (zAe ts en p s 0 (by decide) cBang true HZ _ o.s).mono ?_
    rintro e w4 ⟨rfl,hb⟩
    have hg:=zAa hb (some p)
    have hp:=o.s.keep hb
    clear hb
    replace o:=o.acc hg hp
    clear hg hp
    obtain⟨_,_,_,c1,_,_,_,f1,_,_,_,hi,hl,_⟩:=o.s.cells
    go_wp2_with fail
    obtain⟨hg,hp⟩:=radv o.s hlen
    clear c1 f1 hi hl
    replace o:=o.acc hg hp
    clear hg hp
    refine (HUN.out (adv s) _ _ HC hA o.s).mono ?_
    rintro e w5 ⟨kd,nn,nm,op,A,L,c,rfl,hr,hg,hp⟩
    have hl:=o.sz
    have hz:=hg.size
    replace o:=o.acc hg hp
    clear hg hp
    replace hr:=hr.mono (lo':=w.heap.size+1) hl (Lr _)
    have HR:=Hd (repE_2 (c:=2) (ca:=exC kd nn nm op A L c) (cb:=exC 1 0 [] 0 none 0 0) (Blk.new w5 36 _) rfl (ok:=Rg (w.heap.size+1) (w5.alloc (.cells #[.int .i64 kd,.int .i64 nn,.string ⟨nm.toArray⟩,.int .i64 op,.slice A L c,.int .i64 1,.int .i64 0,.string ⟨#[]⟩,.int .i64 0,.slice none 0 0] 36)).heap.size) ⟨by omega,by simp⟩ ((hr.alloc (Lr _) (.cells #[.int .i64 kd,.int .i64 nn,.string ⟨nm.toArray⟩,.int .i64 op,.slice A L c,.int .i64 1,.int .i64 0,.string ⟨#[]⟩,.int .i64 0,.slice none 0 0] 36)).mono (Lr _) (by simp)) (repE_leaf _ _ 1 0 [] 0 none 0) rfl rfl 4 0 [] 15)
    clear hr hz hl
    replace o:=o.al (.cells #[.int .i64 kd,.int .i64 nn,.string ⟨nm.toArray⟩,.int .i64 op,.slice A L c,.int .i64 1,.int .i64 0,.string ⟨#[]⟩,.int .i64 0,.slice none 0 0] 36)
    obtain⟨r0,r1,r2,r3,r4,f0,f1,f2,f3,f4⟩:=o.ok
    have hlt:=o.sz
    go_wp2_with fail
    obtain⟨hk,hx⟩:=o.fin HR.out
    obtain⟨q0,q1,q2,q3,q4,_⟩:=hk.cells5
    exact bodyPost_ret (v:=exV 4 0 [] 15 (some ⟨w5.heap.size,0,none⟩) 2 2) (by simp[results,Tryz.results109,go_sem,q0,q1,q2,q3,q4]) rfl hx
   ·rw[hb,if_neg (by decide)] at hq
    have HQ:=Hd hq
    have hA:20 * ms ts s+3≤n:=by omega
    clear hq hb hm
    go_enter Tryz.func109,Tryz.ntmps109
    go_wp2_with fail
    refine (zAe ts en p s 0 (by decide) zBs false HX _ o.s).mono ?_
    rintro e w1 ⟨rfl,hb⟩
    have hg:=zAa hb (some p)
    have hp:=o.s.keep hb
    clear hb
    replace o:=o.acc hg hp
    clear hg hp
    go_wp2_with fail
    refine (zAe ts en p s 0 (by decide) zBs false HX _ o.s).mono ?_
    rintro e w2 ⟨rfl,hb⟩
    have hg:=zAa hb (some p)
    have hp:=o.s.keep hb
    clear hb
    replace o:=o.acc hg hp
    clear hg hp
    go_wp2_with fail
    refine (zAe ts en p s 0 (by decide) cTilde false HY _ o.s).mono ?_
    rintro e w3 ⟨rfl,hb⟩
    have hg:=zAa hb (some p)
    have hp:=o.s.keep hb
    clear hb
    replace o:=o.acc hg hp
    clear hg hp
    go_wp2_with fail
    refine (zAe ts en p s 0 (by decide) cBang false HZ _ o.s).mono ?_
    rintro e w4 ⟨rfl,hb⟩
    have hg:=zAa hb (some p)
    have hp:=o.s.keep hb
    clear hb
    replace o:=o.acc hg hp
    clear hg hp
    go_wp2_with fail
    refine (HPI.out s q _ HQ hA o.s).mono ?_
    rintro e w5 ⟨kd,nn,nm,op,A,L,c,rfl,hr,hg,hp⟩
    have hl:=o.sz
    replace o:=o.acc hg hp
    clear hg hp
    have HR:=Hd (hr.mono (lo':=w.heap.size+1) hl (Lr _))
    clear hr
    obtain⟨r0,r1,r2,r3,r4,f0,f1,f2,f3,f4⟩:=o.ok
    go_wp2_with fail
    obtain⟨hk,hx⟩:=o.fin HR.out
    obtain⟨q0,q1,q2,q3,q4,_⟩:=hk.cells5
    exact bodyPost_ret (v:=exV kd nn nm op A L c) (by simp[results,Tryz.results109,go_sem,q0,q1,q2,q3,q4]) rfl hx
end Go.Proofs.YtpgnlfdindmopaaGreatDoor
