/- Words and walks for the laws of the interpreter. -/
import Derived.Test.YtpgnlfdindmopaaGreatDoorK5
import Derived.BigGuard
namespace Go.Proofs.YtpgnlfdindmopaaGreatDoor
open Go.RowKit (wrap64 intOf)
open Go Go.RowKit WM LX PX CX
set_option maxRecDepth 100000
def flatF:{ f:Go.Func // Tryz.f117=f }:=by
 refine⟨?f,?h⟩
 case h =>
  unfold Tryz.f117
  dsimp only[List.append]
  exact rfl
theorem flat_func:Tryz.prog.funcs[117]?=some flatF.1:=by rw[←flatF.2];exact Tryz.func117
theorem flat_ntmps:flatF.1.ntmps=90:=by rw[←flatF.2];rfl
set_option maxHeartbeats 4000000
structure Bx3 (S0 E0 U0 B:Nat)(cs:Array Value)(us:Array Value)(w:World):Prop where
 s:Blk w S0 149 #[.map (some B)]
 e:Blk w E0 40 cs
 u:Blk w U0 212 us
theorem Bx3.kp {S0 E0 U0 B:Nat}{cs us:Array Value}{w w':World}(h:Bx3 S0 E0 U0 B cs us w)(hk:Kp (some B) w w')(h1:B≠S0)(h2:B≠E0)(h3:B≠U0):Bx3 S0 E0 U0 B cs us w' :=
 ⟨h.s.kp hk (fun b hb e=>by injection hb with hb;omega),h.e.kp hk (fun b hb e=>by injection hb with hb;omega),h.u.kp hk (fun b hb e=>by injection hb with hb;omega)⟩
def usA:Option (Bool × Bool × Bool × Bool × Bool × Bool × Bool × Bool)→Array Value
 | none=>#[.bool false,.bool false,.bool false,.bool false,.bool false,.bool false,.bool false,.bool false]
 | some (a,b,c,d,e,f,g,h)=>#[.bool a,.bool b,.bool c,.bool d,.bool e,.bool f,.bool g,.bool h]
theorem stUV_us (r:Option (Bool × Bool × Bool × Bool × Bool × Bool × Bool × Bool)):stUV r=.tuple #[.agg (usA r),.bool r.isSome]:=by
 cases r with
 | none=>rfl
 | some u=>rfl
theorem us_size (r:Option (Bool × Bool × Bool × Bool × Bool × Bool × Bool × Bool)):(usA r).size=8:=by
 cases r with
 | none=>rfl
 | some u=>rfl
theorem us_ones (r:Option (Bool × Bool × Bool × Bool × Bool × Bool × Bool × Bool)):(usA r).all (·.oneCell')=true:=by
 cases r with
 | none=>simp[usA,Value.oneCell']
 | some u=>obtain⟨a,b,c,d,e,f,g,h⟩:=u;simp[usA,Value.oneCell']
abbrev sf0:Array Value:=#[.bool false,.bool false,.bool false,.bool false,.bool false,.bool false,.bool false,.bool false]
theorem us_info:(Tryz.prog.info? 212).map (·.size)=some 8:=by kernel_rfl
def ownS:ST→Nat
 | .mk _ _ _ _ pos value args _ _=>1+2 * szE pos+2 * szE value+2 * sumL szE args
theorem ownS_eq (kd:Int)(nm tn:List UInt8)(n:Int)(pos value:PE)(args:List PE)(thn els:List ST):ownS (.mk kd nm tn n pos value args thn els)=1+2 * szE pos+2 * szE value+2 * sumL szE args:=rfl
theorem stm_any (b B:Nat)(hbB:b≤B)(w0:World)(ok:Nat→Prop)(hok:∀ x,ok x→x < w0.heap.size∧x≠B)(s:ST)(hs:szS s≤1000000000) :
 Tst Tryz.prog RepS ok (ShI b B w0) (some B) 117 #[.agg #[.map (some B)]] #[] stmB ownS s:=by
 intro cs w c hc hw hr
 rw[app_r]
 have hI:=inv_sh b B w0 hbB ok hok
 cases s with
 | mk kd nm tn n pos value args thn els =>
  have hr0:=hr.keep (w':=w0) (fun _ h=>h) (fun x hx=>(hI.ok c w hw x hx).2.symm)
  obtain⟨k1,n1,x1,o1,A1,L1,c1,k2,n2,x2,o2,A2,L2,c2,A3,c3,A4,c4,A5,c5,hcs,rp,rv,ra,rt,re⟩:=zBo hr0
  have hc':c+(1+ownS (.mk kd nm tn n pos value args thn els))≤1000000000000:=hc
  have hsz:=hs
  rw[szS_eq] at hsz
  rw[ownS_eq] at hc'
  have f1:=sumL_len szE args
  have f2:=sumL_len szS thn
  have f3:=sumL_len szS els
  obtain⟨la,hla⟩:∃ la,args.length=la:=⟨_,rfl⟩
  obtain⟨lt,hlt⟩:∃ lt,thn.length=lt:=⟨_,rfl⟩
  obtain⟨le,hle⟩:∃ le,els.length=le:=⟨_,rfl⟩
  have f4:=cost_kids args
  obtain⟨fin,hfin⟩:∃ fin,c+(1+ownS (ST.mk kd nm tn n pos value args thn els))=fin:=⟨_,rfl⟩
  have htotal:∀ d,d≤c+(1+1)+2 * szE pos+2 * szE value+sumL (fun x=>2 * szE x) args→d≤fin:=fun d hd=>by rw[←hfin,ownS_eq];omega
  rw[hfin]
  have hmono:=fun d w (h:ShI b B w0 d w) hd=>hI.mono d fin w h (htotal d hd)
  have m1:nm.length≤1000000000:=by omega
  have m2:tn.length≤1000000000:=by omega
  have m3:la≤1000000000:=by omega
  have m4:lt≤1000000000:=by omega
  have m5:le≤1000000000:=by omega
  have hcA:=fun used W d (hd:d=c+(1+1)) (h:ShI b B w0 d W)=>ef_any b B hbB w0 ok hok pos used (by omega) _ W d (by omega) h (rp.keep (fun _ h=>h) (fun x hx=>(hI.ok d W h x hx).2))
  have hcV:=fun used W d (hd:d=c+(1+1)+2 * szE pos) (h:ShI b B w0 d W)=>ef_any b B hbB w0 ok hok value used (by omega) _ W d (by omega) h (rv.keep (fun _ h=>h) (fun x hx=>(hI.ok d W h x hx).2))
  have hcG:=fun W d (hd:d=c+(1+1)+2 * szE pos+2 * szE value) (h:ShI b B w0 d W)=>every_E keepsE onesE args _ w0 ok ra (by omega) (allE nodeB) (some B) 118 #[.agg #[.map (some B)]] #[] (enters_of Tryz.func118 (by kernel_rfl) rfl)
   (ShI b B w0) hI (fun x=>2 * szE x) (fun i x hx cs' W' c' hc' hI' hr'=>by
    rw[app_r]
    have hsx:=zA6 szE args i x hx
    have hc'':c'+(1+2 * szE x)≤1000000000000:=hc'
    exact (expr_any b B hbB w0 ok hok x (by omega) cs' W' c' (by omega) hI' hr').mono fun _ _ k=>⟨k.1,hI.mono _ _ _ k.2.1 (by dsimp only;omega),k.2.2⟩) d (by omega) W h
  have hcN:=fun used W (h:ShI b B w0 c W)=>nf_any b B hbB w0 nm m1 used c (by omega) W h
  have hcT:=fun used W (h:ShI b B w0 (c+1) W)=>nf_any b B hbB w0 tn m2 used (c+1) (by omega) W h
  have hBw:B < w.heap.size:=hw.1.lt
  have hex:∀ W d,d=c→ShI b B w0 d W→True:=fun _ _ _ _=>trivial
  clear hex
  -- the statement's cells,one fact for each
  have d0:cs.toArray[0]?=some (.int .i64 kd):=by rw[hcs];rfl
  have d1:cs.toArray[1]?=some (.string ⟨nm.toArray⟩):=by rw[hcs];rfl
  have d2:cs.toArray[2]?=some (.string ⟨tn.toArray⟩):=by rw[hcs];rfl
  have d3:cs.toArray[3]?=some (.int .i64 n):=by rw[hcs];rfl
  have d4:cs.toArray[4]?=some (.int .i64 k1):=by rw[hcs];rfl
  have d5:cs.toArray[5]?=some (.int .i64 n1):=by rw[hcs];rfl
  have d6:cs.toArray[6]?=some (.string ⟨x1.toArray⟩):=by rw[hcs];rfl
  have d7:cs.toArray[7]?=some (.int .i64 o1):=by rw[hcs];rfl
  have d8:cs.toArray[8]?=some (.slice A1 L1 c1):=by rw[hcs];rfl
  have d9:cs.toArray[9]?=some (.int .i64 k2):=by rw[hcs];rfl
  have d10:cs.toArray[10]?=some (.int .i64 n2):=by rw[hcs];rfl
  have d11:cs.toArray[11]?=some (.string ⟨x2.toArray⟩):=by rw[hcs];rfl
  have d12:cs.toArray[12]?=some (.int .i64 o2):=by rw[hcs];rfl
  have d13:cs.toArray[13]?=some (.slice A2 L2 c2):=by rw[hcs];rfl
  have d14:cs.toArray[14]?=some (.slice A3 la c3):=by rw[hcs,←hla];rfl
  have d15:cs.toArray[15]?=some (.slice A4 lt c4):=by rw[hcs,←hlt];rfl
  have d16:cs.toArray[16]?=some (.slice A5 le c5):=by rw[hcs,←hle];rfl
  have DD:=Hd (Ai d0 (Ai d1 (Ai d2 (Ai d3 (Ai d4 (Ai d5 (Ai d6 (Ai d7 (Ai d8 (Ai d9 (Ai d10 (Ai d11 (Ai d12 (Ai d13 (Ai d14 (Ai d15 d16))))))))))))))))
  clear d0 d1 d2 d3 d4 d5 d6 d7 d8 d9 d10 d11 d12 d13 d14 d15 d16 hcs
  obtain⟨W1,hW1⟩:∃ W1,(w.alloc (.cells #[.map (some B)] 149)).alloc (.cells cs.toArray 40)=W1:=⟨_,rfl⟩
  have hb1:Below w.heap.size w W1:=by rw[←hW1];exact ((Below.refl _ _).alloc (Lr _) _).alloc (by simp) _
  have j1:Blk W1 w.heap.size 149 #[.map (some B)]:=by rw[←hW1];exact (Blk.new _ _ _).alloc _
  have j2:Blk W1 (w.heap.size+1) 40 cs.toArray:=by rw[←hW1];exact blk_at (by simp) _ _
  have h1:=hI.easy c w W1 hw hb1
  have hstm:stmB (.mk kd nm tn n pos value args thn els)=(match stU kd with
   | none=>false
   | some (un,ut,uz,ua,uv,ug,uh,ue)=>nmFB nm un&&(nmFB tn ut&&(trFB n uz&&(exFB pos ua&&(exFB value uv&&((ug||decide (la=0))&&(args.all (allE nodeB)&&((uh||decide (lt=0))&&(ue||decide (le=0)))))))))):=by rw[←hla,←hlt,←hle];rfl
  rw[hla] at hcG
  obtain⟨ga,hga⟩:∃ ga,args.all (allE nodeB)=ga:=⟨_,rfl⟩
  rw[hga] at hcG
  rw[hga] at hstm
  rw[hstm]
  obtain⟨cc,hcc⟩:∃ cc,c+(1+1)+2 * szE pos+2 * szE value+sumL (fun x=>2 * szE x) args=cc:=⟨_,rfl⟩
  have HMONO:=Hd hmono
  have HCN:=Hd hcN
  have HCT:=Hd hcT
  have HCA:=Hd hcA
  have HCV:=Hd hcV
  have HCG:=Hd hcG
  have HI:=Hd hI
  have H1:=Hd h1
  have HB:=Hd (Ai hb1 (Ai hW1 (Ai j1 j2)))
  have hfs:=fs_any kd W1
  rw[stUV_us] at hfs
  have huz:=us_size (stU kd)
  have huo:=us_ones (stU kd)
  have huk:∀ un ut uz ua uv ug uh ue,stU kd=some (un,ut,uz,ua,uv,ug,uh,ue)→usA (stU kd)=#[.bool un,.bool ut,.bool uz,.bool ua,.bool uv,.bool ug,.bool uh,.bool ue]:=fun _ _ _ _ _ _ _ _ h=>by rw[h];rfl
  obtain⟨us,hus⟩:∃ us,usA (stU kd)=us:=⟨_,rfl⟩
  rw[hus] at hfs huz huo huk
  obtain⟨su,hsu⟩:∃ su,stU kd=su:=⟨_,rfl⟩
  rw[hsu] at hfs huk ⊢
  obtain⟨tot,htot⟩:∃ tot,(match su with
   | none=>false
   | some (un,ut,uz,ua,uv,ug,uh,ue)=>nmFB nm un&&(nmFB tn ut&&(trFB n uz&&(exFB pos ua&&(exFB value uv&&((ug||decide (la=0))&&(ga&&((uh||decide (lt=0))&&(ue||decide (le=0))))))))))=tot:=⟨_,rfl⟩
  rw[htot]
  have HTO:=Hd htot
  clear htot
  have HF:=Hd hfs
  have HU:=Hd (Ai huz (Ai huo huk))
  have x0:cs[0]?=some (.int .i64 kd):=by have:=DD.out.1;rwa [List.getElem?_toArray] at this
  clear hmono hcN hcT hcA hcV hcG hI h1 hb1 hW1 j1 j2 hfs hstm hla hlt hle hga hr hr0 rp rv ra rt re hs hsz hc hc' hfin htotal f1 f2 f3 f4 hok hw hcc huz huo huk hus hsu
  go_enter flat_func,flat_ntmps
  go_wp2_with fail
  rw[HB.out.2.1]
  refine HF.out.mono ?_
  rintro e w2 ⟨rfl,hb2⟩
  have HB2:=Hd hb2
  clear hb2 x0
  go_wp2_with (refine wpList_store_row rfl _ _ _ rfl w2.heap.size us rfl rfl _ _ (Blk.new w2 _ _) (by rw[HU.out.1];exact us_info) (by rw[HU.out.1];rfl) HU.out.2.1 ?_;refine Hid.out ?_)
  have kS:Blk ((w2.alloc (.cells sf0 212)).setRow w2.heap.size us) w.heap.size 149 #[.map (some B)]:=(zBi _ _ _ _ (Nat.ne_of_lt (HB.out.2.2.1.on HB2.out HB.out.2.2.1.lt).lt)).trans ((HB.out.2.2.1.on HB2.out HB.out.2.2.1.lt).alloc _)
  have kE:Blk ((w2.alloc (.cells sf0 212)).setRow w2.heap.size us) (w.heap.size+1) 40 cs.toArray:=(zBi _ _ _ _ (Nat.ne_of_lt (HB.out.2.2.2.on HB2.out HB.out.2.2.2.lt).lt)).trans ((HB.out.2.2.2.on HB2.out HB.out.2.2.2.lt).alloc _)
  have kU:Blk ((w2.alloc (.cells sf0 212)).setRow w2.heap.size us) w2.heap.size 212 us:=blk_row (Blk.new w2 _ _) _
  have hbV:Below w2.heap.size w2 ((w2.alloc (.cells sf0 212)).setRow w2.heap.size us):=below_row ((Below.refl _ _).alloc (Lr _) _) (Lr _) _
  have hkV:Kp (some B) w ((w2.alloc (.cells sf0 212)).setRow w2.heap.size us):=kp_to (kp_below HB.out.1 _) (kp_to (kp_below HB2.out _) (kp_below hbV _))
  have hiV:ShI b B w0 c ((w2.alloc (.cells sf0 212)).setRow w2.heap.size us):=HI.out.easy _ _ _ (HI.out.easy _ _ _ H1.out HB2.out) hbV
  have l1:=(HB.out.2.2.1.on HB2.out HB.out.2.2.1.lt).lt
  have l2:=(HB.out.2.2.2.on HB2.out HB.out.2.2.2.lt).lt
  have HX:=Hd (Bx3.mk kS kE kU)
  have H3:=Hd (Ai hiV hkV)
  have p1:B≠w.heap.size:=Nat.ne_of_lt hBw
  have p2:B≠w.heap.size+1:=by omega
  have p3:B≠w2.heap.size:=by omega
  clear kS kE kU hbV hkV hiV HB HB2 H1 HF
  generalize (w2.alloc (.cells sf0 212)).setRow w2.heap.size us=V at *
  cases su with
  | none =>
   refine Hd ?_
   go_wp2_with fail
   go_ret
   exact retK (by rw[←HTO.out];rfl) (HMONO.out _ _ H3.out.1 (by omega)) H3.out.2
  | some u =>
   obtain⟨un,ut,uz,ua,uv,ug,uh,ue⟩:=u
   obtain rfl:=HU.out.2.2 _ _ _ _ _ _ _ _ rfl
   clear HU
   have htot:=HTO.out
   dsimp only at htot
   clear HTO
   obtain⟨q1,hq1⟩:∃ q,nmFB nm un=q:=⟨_,rfl⟩
   obtain⟨q2,hq2⟩:∃ q,nmFB tn ut=q:=⟨_,rfl⟩
   obtain⟨q3,hq3⟩:∃ q,trFB n uz=q:=⟨_,rfl⟩
   obtain⟨q4,hq4⟩:∃ q,exFB pos ua=q:=⟨_,rfl⟩
   obtain⟨q5,hq5⟩:∃ q,exFB value uv=q:=⟨_,rfl⟩
   have HN:=Hd (HCN.out un)
   have HTT:=Hd (HCT.out ut)
   have HZ:=Hd (fun W=>tf_any n uz W)
   have HA:=Hd (HCA.out ua)
   have HV:=Hd (HCV.out uv)
   rw[hq1,hq2,hq3,hq4,hq5] at htot
   rw[hq1] at HN
   rw[hq2] at HTT
   rw[hq3] at HZ
   rw[hq4] at HA
   rw[hq5] at HV
   have HT:=Hd htot
   have y0:V.cell? ⟨w.heap.size,0,none⟩=some (.map (some B)):=HX.out.s.cell 0
   have y1:V.cell? ⟨w.heap.size+1,1,none⟩=some (.string ⟨nm.toArray⟩):=(HX.out.e.cell 1).trans DD.out.2.1
   have u0:V.cell? ⟨w2.heap.size,0,none⟩=some (.bool un):=HX.out.u.cell 0
   clear htot hq1 hq2 hq3 hq4 hq5 HCN HCT HCA HCV
   refine Hd ?_
   go_wp2_with fail
   refine (HN.out _ H3.out.1).mono ?_
   rintro e w4 ⟨rfl,hi,hk⟩
   have HX4:=Hd (HX.out.kp hk p1 p2 p3)
   have H4:=Hd (Ai hi (kp_to H3.out.2 hk))
   clear hi hk y0 y1 u0
   cases q1 with
   | false =>
    go_wp2_with fail
    go_ret
    exact retK (by rw[←HT.out];simp) (HMONO.out _ _ H4.out.1 (by omega)) H4.out.2
   | true =>
    have y0:w4.cell? ⟨w.heap.size,0,none⟩=some (.map (some B)):=HX4.out.s.cell 0
    have e2:w4.cell? ⟨w.heap.size+1,2,none⟩=some (.string ⟨tn.toArray⟩):=(HX4.out.e.cell 2).trans DD.out.2.2.1
    have u1:w4.cell? ⟨w2.heap.size,1,none⟩=some (.bool ut):=HX4.out.u.cell 1
    go_wp2_with fail
    refine (HTT.out _ H4.out.1).mono ?_
    rintro e w5 ⟨rfl,hi,hk⟩
    have HX5:=Hd (HX4.out.kp hk p1 p2 p3)
    have H5:=Hd (Ai hi (kp_to H4.out.2 hk))
    clear hi hk y0 e2 u1
    cases q2 with
    | false =>
     go_wp2_with fail
     go_ret
     exact retK (by rw[←HT.out];simp) (HMONO.out _ _ H5.out.1 (by omega)) H5.out.2
    | true =>
     have e3:w5.cell? ⟨w.heap.size+1,3,none⟩=some (.int .i64 n):=(HX5.out.e.cell 3).trans DD.out.2.2.2.1
     have u2:w5.cell? ⟨w2.heap.size,2,none⟩=some (.bool uz):=HX5.out.u.cell 2
     go_wp2_with fail
     refine (HZ.out _).mono ?_
     rintro e w6 ⟨rfl,hb⟩
     have HX6:=Hd (HX5.out.kp (kp_below hb _) p1 p2 p3)
     have H6:=Hd (Ai (HI.out.easy _ _ _ H5.out.1 hb) (kp_to H5.out.2 (kp_below hb _)))
     clear hb e3 u2
     cases q3 with
     | false =>
      go_wp2_with fail
      go_ret
      exact retK (by rw[←HT.out];simp) (HMONO.out _ _ H6.out.1 (by omega)) H6.out.2
     | true =>
      have y0:w6.cell? ⟨w.heap.size,0,none⟩=some (.map (some B)):=HX6.out.s.cell 0
      obtain⟨_,_,_,_,dd4,dd5,dd6,dd7,dd8,_⟩:=DD.out
      have e4:w6.cell? ⟨w.heap.size+1,4,none⟩=some (.int .i64 k1):=(HX6.out.e.cell 4).trans dd4
      have e5:w6.cell? ⟨w.heap.size+1,5,none⟩=some (.int .i64 n1):=(HX6.out.e.cell 5).trans dd5
      have e6:w6.cell? ⟨w.heap.size+1,6,none⟩=some (.string ⟨x1.toArray⟩):=(HX6.out.e.cell 6).trans dd6
      have e7:w6.cell? ⟨w.heap.size+1,7,none⟩=some (.int .i64 o1):=(HX6.out.e.cell 7).trans dd7
      have e8:w6.cell? ⟨w.heap.size+1,8,none⟩=some (.slice A1 L1 c1):=(HX6.out.e.cell 8).trans dd8
      have u3:w6.cell? ⟨w2.heap.size,3,none⟩=some (.bool ua):=HX6.out.u.cell 3
      clear dd4 dd5 dd6 dd7 dd8
      go_wp2_with fail
      refine (HA.out _ _ rfl H6.out.1).mono ?_
      rintro e w7 ⟨rfl,hi,hk⟩
      have HX7:=Hd (HX6.out.kp hk p1 p2 p3)
      have H7:=Hd (Ai hi (kp_to H6.out.2 hk))
      clear hi hk y0 e4 e5 e6 e7 e8 u3
      cases q4 with
      | false =>
       go_wp2_with fail
       go_ret
       exact retK (by rw[←HT.out];simp) (HMONO.out _ _ H7.out.1 (by omega)) H7.out.2
      | true =>
       have y0:w7.cell? ⟨w.heap.size,0,none⟩=some (.map (some B)):=HX7.out.s.cell 0
       obtain⟨_,_,_,_,_,_,_,_,_,dd9,dd10,dd11,dd12,dd13,_⟩:=DD.out
       have e9:w7.cell? ⟨w.heap.size+1,9,none⟩=some (.int .i64 k2):=(HX7.out.e.cell 9).trans dd9
       have e10:w7.cell? ⟨w.heap.size+1,10,none⟩=some (.int .i64 n2):=(HX7.out.e.cell 10).trans dd10
       have e11:w7.cell? ⟨w.heap.size+1,11,none⟩=some (.string ⟨x2.toArray⟩):=(HX7.out.e.cell 11).trans dd11
       have e12:w7.cell? ⟨w.heap.size+1,12,none⟩=some (.int .i64 o2):=(HX7.out.e.cell 12).trans dd12
       have e13:w7.cell? ⟨w.heap.size+1,13,none⟩=some (.slice A2 L2 c2):=(HX7.out.e.cell 13).trans dd13
       have u4:w7.cell? ⟨w2.heap.size,4,none⟩=some (.bool uv):=HX7.out.u.cell 4
       clear dd9 dd10 dd11 dd12 dd13
       go_wp2_with fail
       refine (HV.out _ _ rfl H7.out.1).mono ?_
       rintro e w8 ⟨rfl,hi,hk⟩
       have HX8:=Hd (HX7.out.kp hk p1 p2 p3)
       have H8:=Hd (Ai hi (kp_to H7.out.2 hk))
       clear hi hk y0 e9 e10 e11 e12 e13 u4
       cases q5 with
       | false =>
        go_wp2_with fail
        go_ret
        exact retK (by rw[←HT.out];simp) (HMONO.out _ _ H8.out.1 (by omega)) H8.out.2
       | true =>
        obtain⟨_,_,_,_,_,_,_,_,_,_,_,_,_,_,dd14,dd15,dd16⟩:=DD.out
        have D15:=Hd (Ai dd15 dd16)
        have y0:w8.cell? ⟨w.heap.size,0,none⟩=some (.map (some B)):=HX8.out.s.cell 0
        have e14:w8.cell? ⟨w.heap.size+1,14,none⟩=some (.slice A3 la c3):=(HX8.out.e.cell 14).trans dd14
        have u5:w8.cell? ⟨w2.heap.size,5,none⟩=some (.bool ug):=HX8.out.u.cell 5
        clear dd14 dd15 dd16
        by_cases hg:(ug||decide (la=0))=false
        ·obtain⟨rfl,hn0⟩:=Bool.or_eq_false_iff.1 hg
         have hn1:((la:Int)==0)=false:=by rw[beq_eq_false_iff_ne];have:=of_decide_eq_false hn0;omega
         have HG:=Hd hg
         clear hg hn0
         go_wp2_with fail
         go_ret
         exact retK (by rw[←HT.out,HG.out];simp) (HMONO.out _ _ H8.out.1 (by omega)) H8.out.2
        ·have hg:(ug||decide (la=0))=true:=by
          cases hx:(ug||decide (la=0))
          ·exact absurd hx hg
          ·rfl
         have HG:=Hd hg
         have hn:ug=true∨(ug=false∧la=0):=by
          cases ug
          ·exact Or.inr ⟨rfl,of_decide_eq_true (by rw[Bool.false_or] at hg;exact hg)⟩
          ·exact Or.inl rfl
         clear hg
         rcases hn with rfl | ⟨rfl,rfl⟩
         all_goals
          go_wp2_with fail
          refine (HCG.out _ _ rfl H8.out.1).mono ?_
          rintro e w9 ⟨rfl,hi,hk⟩
          have HX9:=Hd (HX8.out.kp hk p1 p2 p3)
          have H9:=Hd (Ai hi (kp_to H8.out.2 hk))
          clear hi hk y0 e14 u5
          cases ga with
          | false =>
           go_wp2_with fail
           go_ret
           exact retK (by rw[←HT.out];simp) (HMONO.out _ _ H9.out.1 (by omega)) H9.out.2
          | true =>
           have e15:w9.cell? ⟨w.heap.size+1,15,none⟩=some (.slice A4 lt c4):=(HX9.out.e.cell 15).trans D15.out.1
           have e16:w9.cell? ⟨w.heap.size+1,16,none⟩=some (.slice A5 le c5):=(HX9.out.e.cell 16).trans D15.out.2
           have u6:w9.cell? ⟨w2.heap.size,6,none⟩=some (.bool uh):=HX9.out.u.cell 6
           have u7:w9.cell? ⟨w2.heap.size,7,none⟩=some (.bool ue):=HX9.out.u.cell 7
           have ht:uh=true∨(uh=false∧lt=0)∨(uh=false∧((lt:Int)==0)=false∧decide (lt=0)=false):=by
            cases uh
            ·by_cases h:lt=0
             ·exact Or.inr (Or.inl ⟨rfl,h⟩)
             ·exact Or.inr (Or.inr ⟨rfl,by rw[beq_eq_false_iff_ne];omega,decide_eq_false h⟩)
            ·exact Or.inl rfl
           have he:ue=true∨(ue=false∧le=0)∨(ue=false∧((le:Int)==0)=false∧decide (le=0)=false):=by
            cases ue
            ·by_cases h:le=0
             ·exact Or.inr (Or.inl ⟨rfl,h⟩)
             ·exact Or.inr (Or.inr ⟨rfl,by rw[beq_eq_false_iff_ne];omega,decide_eq_false h⟩)
            ·exact Or.inl rfl
           have HE:=Hd he
           clear he
           rcases ht with rfl | ⟨rfl,rfl⟩ | ⟨rfl,ht2,ht3⟩
           iterate 2
            ·rcases HE.out with rfl | ⟨rfl,rfl⟩ | ⟨rfl,he2,he3⟩
             all_goals
              clear HE
              first | (have HE3:=Hd he3;clear he3) | skip
              go_wp2_with fail
              go_ret
              first
               | exact retK (by rw[←HT.out,HG.out];rfl) (HMONO.out _ _ H9.out.1 (by omega)) H9.out.2
               | exact retK (by rw[←HT.out,HG.out,HE3.out];rfl) (HMONO.out _ _ H9.out.1 (by omega)) H9.out.2
           ·have HT3:=Hd ht3
            clear ht3 HE
            go_wp2_with fail
            go_ret
            exact retK (by rw[←HT.out,HG.out,HT3.out];simp) (HMONO.out _ _ H9.out.1 (by omega)) H9.out.2
end Go.Proofs.YtpgnlfdindmopaaGreatDoor
namespace Go.Proofs.YtpgnlfdindmopaaGreatDoor
open Go.RowKit (wrap64 intOf)
open Go Go.RowKit WM LX PX CX
set_option maxRecDepth 100000
set_option maxHeartbeats 4000000
theorem sumL_four {α:Type}(f:α→Nat)(l:List α):sumL (fun x=>4 * f x) l≤4 * sumL f l:=by
 induction l with
 | nil=>exact Lr _
 | cons a r ih=>rw[sumL,sumL];omega
theorem szS_pos (s:ST):1≤szS s:=by cases s;rw[szS_eq];omega
abbrev EvLs (m:Option Nat)(g:Nat)(pre lb:Array Value)(I:Nat→World→Prop)(w0:World)(ok:Nat→Prop)(p:ST→Bool)(N:Nat):Prop:=∀ (l:List ST),(∀ (i:Nat)(x:ST),l[i]?=some x→szS x≤N)→sumL szS l≤1000000000→EvL m g pre lb I w0 ok p l
theorem evS_cl (m:Option Nat)(g:Nat)(pre lb:Array Value)(I:Nat→World→Prop)(ok:Nat→Prop)(w0:World)(hI:Inv I ok m w0)(p:ST→Bool)
 (hp:∀ x,szS x≤1000000000→Tst Tryz.prog RepS ok I m g pre lb p ownS x) (eg:∀ args w,(callFunc g args).run Tryz.prog w=.ok (.enter g args) w) (N:Nat) (ih:EvLs m g pre lb I w0 ok p N) (B:Nat) (s:ST) (cs:List Value) (w:World) (c:Nat) (hs:szS s≤N+1) (hN:N+1≤1000000000)
 (hc:c+(1+4 * szS s)≤1000000000000) (hw:I c w) (hr:RepS w ok s cs) (hm:∀ b,m=some b→b≠B) (hf:Blk w B 156 #[.func (.func g) pre lb]) :
 Calls Tryz.prog 122 #[.agg cs.toArray,.pointer (some ⟨B,0,none⟩)] w (RetK (.bool (allS p s)) m w (I (c+(1+4 * szS s)))):=by
 have hml:∀ b,m=some b→b < w.heap.size:=hI.lo c w hw
 have hr0:=hr.keep (w':=w0) (fun _ h=>h) (fun x hx=>(hI.ok c w hw x hx).2.symm)
 obtain⟨W1,hW1⟩:∃ W1,w.alloc (.cells cs.toArray 40)=W1:=⟨_,rfl⟩
 have hb1:Below w.heap.size w W1:=by rw[←hW1];exact (Below.refl _ _).alloc (Lr _) _
 have k1:Blk W1 w.heap.size 40 cs.toArray:=by rw[←hW1];exact Blk.new _ _ _
 have kf:Blk W1 B 156 #[.func (.func g) pre lb]:=hf.on hb1 hf.lt
 have h1:=hI.easy c w W1 hw hb1
 have hp1:=hp s (by omega)
 have hr1:=hr.keep (w':=W1) (fun _ h=>h) (fun b hb=>hb1.block b (hI.ok c w hw b hb).1)
 obtain⟨h17,_⟩:=zCn _ _ _ _ hr
 have HS:Hid ((Tryz.prog.info? 40).map (·.size)=some cs.toArray.size):=by
  have:cs.toArray.size=17:=by simpa using h17
  rw[this];exact zAf
 cases s with
 | mk kd nm tn n pos value args thn els =>
  obtain⟨k1',n1,x1,o1,A1,L1,c1,k2,n2,x2,o2,A2,L2,c2,A3,c3,A4,c4,A5,c5,hcs,rp,rv,ra,rt,re⟩:=zBo hr0
  have hsz:=hs
  have hcc:=hc
  rw[szS_eq] at hsz hcc
  have hoS:=ownS_eq kd nm tn n pos value args thn els
  have hc1:=hp1 cs W1 c (by rw[hoS];omega) h1 hr1
  have hT:=fun W (h:I (c+(1+ownS (.mk kd nm tn n pos value args thn els))) W)=>ih thn (fun i x hx=>by have:=zA6 szS thn i x hx;omega) (by omega) _ W _ rt (by rw[hoS];omega) h
  have hE:=fun W (h:I (c+(1+ownS (.mk kd nm tn n pos value args thn els))+4 * sumL szS thn) W)=>ih els (fun i x hx=>by have:=zA6 szS els i x hx;omega) (by omega) _ W _ re (by rw[hoS];omega) h
  obtain⟨fin,hfin⟩:∃ fin,c+(1+4 * szS (.mk kd nm tn n pos value args thn els))=fin:=⟨_,rfl⟩
  have hfl:∀ d,d≤c+(1+ownS (.mk kd nm tn n pos value args thn els))+4 * sumL szS thn+4 * sumL szS els→d≤fin:=fun d hd=>by rw[←hfin,szS_eq];rw[hoS] at hd;omega
  have hmono:=fun d W (h:I d W) hd=>hI.mono d fin W h (hfl d hd)
  rw[hfin,allS_eq]
  obtain⟨q0,hq0⟩:∃ q,p (.mk kd nm tn n pos value args thn els)=q:=⟨_,rfl⟩
  obtain⟨q1,hq1⟩:∃ q,thn.all (allS p)=q:=⟨_,rfl⟩
  obtain⟨q2,hq2⟩:∃ q,els.all (allS p)=q:=⟨_,rfl⟩
  rw[hq0] at hc1
  rw[hq1] at hT
  rw[hq2] at hE
  rw[hq0,hq1,hq2]
  have d15:cs.toArray[15]?=some (.slice A4 thn.length c4):=by rw[hcs];rfl
  have d16:cs.toArray[16]?=some (.slice A5 els.length c5):=by rw[hcs];rfl
  obtain⟨t4,ht4⟩:∃ t,Value.slice A4 thn.length c4=t:=⟨_,rfl⟩
  obtain⟨t5,ht5⟩:∃ t,Value.slice A5 els.length c5=t:=⟨_,rfl⟩
  rw[ht4] at hT d15
  rw[ht5] at hE d16
  obtain⟨tot,htot⟩:∃ tot,(q0&&(q1&&q2))=tot:=⟨_,rfl⟩
  rw[htot]
  have HC1:=Hd hc1
  have HT:=Hd hT
  have HE:=Hd hE
  have HM:=Hd hmono
  have HB:=Hd (Ai hb1 (Ai hW1 (Ai k1 kf)))
  have HD:=Hd (Ai d15 d16)
  have HML:=Hd (Ai hm hml)
  have HTO:=Hd htot
  have x0:w.cell? ⟨B,0,none⟩=some (.func (.func g) pre lb):=hf.cell 0
  have hBw:=hf.lt
  clear hc1 hT hE hmono hb1 hW1 k1 kf d15 d16 hm hml htot hf hr hr0 hr1 rp rv ra rt re hcs hsz hcc hoS hfin hfl hq0 hq1 hq2 ht4 ht5 ih hp hp1 h1 hI hw hs hc h17
  go_enter Tryz.func122,Tryz.ntmps122
  go_wp2_with (refine wpList_load_row rfl _ _ rfl w.heap.size rfl 40 cs.toArray (0,0) _ (Blk.new w _ _) Tryz.underlying40 rfl HS.out ?_)
  rw[HB.out.2.1]
  refine HC1.out.mono ?_
  rintro e w2 ⟨rfl,hi,hk⟩
  have ks:=HB.out.2.2.1.kp hk (fun b hb=>by have:=HML.out.2 b hb;omega)
  have kb:=HB.out.2.2.2.kp hk (fun b hb=>HML.out.1 b hb)
  have y0:w2.cell? ⟨B,0,none⟩=some (.func (.func g) pre lb):=kb.cell 0
  have y1:w2.cell? ⟨w.heap.size,15,none⟩=some t4:=(ks.cell 15).trans HD.out.1
  have H2:=Hd (Ai hi (Ai (kp_to (kp_below HB.out.1 m) hk) (Ai ks kb)))
  clear hi hk ks kb x0
  cases q0 with
  | false =>
   go_wp2_with fail
   go_ret
   exact retK (by rw[←HTO.out];rfl) (HM.out _ _ H2.out.1 (by omega)) H2.out.2.1
  | true =>
   go_wp2_with fail
   refine (HT.out _ H2.out.1).mono ?_
   rintro e w3 ⟨rfl,hi,hk⟩
   have ks:=H2.out.2.2.1.kp hk (fun b hb=>by have:=HML.out.2 b hb;omega)
   have kb:=H2.out.2.2.2.kp hk (fun b hb=>HML.out.1 b hb)
   have z0:w3.cell? ⟨B,0,none⟩=some (.func (.func g) pre lb):=kb.cell 0
   have z1:w3.cell? ⟨w.heap.size,16,none⟩=some t5:=(ks.cell 16).trans HD.out.2
   have H3:=Hd (Ai hi (kp_to H2.out.2.1 hk))
   clear hi hk ks kb y0 y1
   cases q1 with
   | false =>
    go_wp2_with fail
    go_ret
    exact retK (by rw[←HTO.out];rfl) (HM.out _ _ H3.out.1 (by omega)) H3.out.2
   | true =>
    go_wp2_with fail
    refine (HE.out _ H3.out.1).mono ?_
    rintro e w4 ⟨rfl,hi,hk⟩
    have H4:=Hd (Ai hi (kp_to H3.out.2 hk))
    clear hi hk z0 z1
    go_wp2_with fail
    go_ret
    exact retK (by rw[←HTO.out];rfl) (HM.out _ _ H4.out.1 (by omega)) H4.out.2
theorem evLs_any (m:Option Nat)(g:Nat)(pre lb:Array Value)(I:Nat→World→Prop)(ok:Nat→Prop)(w0:World)(hI:Inv I ok m w0)(p:ST→Bool)
 (hp:∀ x,szS x≤1000000000→Tst Tryz.prog RepS ok I m g pre lb p ownS x) (eg:∀ args w,(callFunc g args).run Tryz.prog w=.ok (.enter g args) w) (N:Nat):N≤1000000000→EvLs m g pre lb I w0 ok p N:=by
 induction N with
 | zero =>
  intro _ l hl _
  cases l with
  | nil=>exact evL_nil m g pre lb I w0 ok hI p
  | cons a r=>have h1:=hl 0 a rfl;have h2:=szS_pos a;omega
 | succ N ih =>
  intro hN l hl hsl v w c hv hc hw
  have ih:=ih (by omega)
  have hml:∀ b,m=some b→b < w.heap.size:=hI.lo c w hw
  obtain⟨W1,hW1⟩:∃ W1,w.alloc (.cells #[.func (.func g) pre lb] 156)=W1:=⟨_,rfl⟩
  have hb1:Below w.heap.size w W1:=by rw[←hW1];exact (Below.refl _ _).alloc (Lr _) _
  have k1:Blk W1 w.heap.size 156 #[.func (.func g) pre lb]:=by rw[←hW1];exact Blk.new _ _ _
  have h4:=sumL_four szS l
  have hfew:=sumL_len szS l
  have hcall:=every_S (p:=allS p) keepsS zCn l v w0 ok hv (by omega) m 122 #[] #[.pointer (some ⟨w.heap.size,0,none⟩)] (enters_of Tryz.func122 (by kernel_rfl) rfl)
   (fun c W=>I c W∧Kp m W1 W) (hI.and W1) (fun s=>4 * szS s) (fun i x hx cs' W c' hc' hI' hr'=>by
    rw[app_l]
    have hk3:=k1.kp hI'.2 (fun b hb=>by have:=hml b hb;omega)
    exact (evS_cl m g pre lb I ok w0 hI p hp eg N ih w.heap.size x cs' W c' (hl i x hx) hN hc' hI'.1 hr' (fun b hb=>by have:=hml b hb;omega) hk3).mono fun _ _ h=>⟨h.1,⟨h.2.1,kp_to hI'.2 h.2.2⟩,h.2.2⟩)
   c (by omega) W1 ⟨hI.easy c w W1 hw hb1,grown_id _ _⟩
  have HC:=Hd (Ai hcall (Ai hb1 hW1))
  have HI:=Hd (fun W (h:I (c+sumL (fun s=>4 * szS s) l) W)=>hI.mono _ (c+4 * sumL szS l) W h (by omega))
  clear hcall hl hc hw hb1 hW1 hI hv k1 h4 hfew hml ih hp eg hsl
  go_enter Tryz.func82,Tryz.ntmps82
  go_wp2_with fail
  rw[HC.out.2.2]
  refine HC.out.1.mono ?_
  rintro e w2 ⟨rfl,hi,hk⟩
  have HK:=Hd (Ai hi.1 hk)
  clear hi hk
  go_wp2_with fail
  go_ret
  exact retK rfl (HI.out _ HK.out.1) (kp_to (kp_below HC.out.2.1 _) HK.out.2)
theorem evL_any (m:Option Nat)(g:Nat)(pre lb:Array Value)(I:Nat→World→Prop)(ok:Nat→Prop)(w0:World)(hI:Inv I ok m w0)(p:ST→Bool)
 (hp:∀ x,szS x≤1000000000→Tst Tryz.prog RepS ok I m g pre lb p ownS x) (eg:∀ args w,(callFunc g args).run Tryz.prog w=.ok (.enter g args) w) (l:List ST) (hs:sumL szS l≤1000000000):EvL m g pre lb I w0 ok p l :=
 evLs_any m g pre lb I ok w0 hI p hp eg 1000000000 (Lr _) l (fun i x hx=>by have:=zA6 szS l i x hx;omega) hs
end Go.Proofs.YtpgnlfdindmopaaGreatDoor
namespace Go.Proofs.YtpgnlfdindmopaaGreatDoor
open Go.RowKit (wrap64 intOf)
open Go Go.RowKit WM LX PX CX
set_option maxRecDepth 100000
set_option maxHeartbeats 4000000
theorem wf2_any (p:PG)(va vf:Value)(w:World)(ok:Nat→Prop)(h:RepP w ok p va vf)(hok:∀ g,ok g→g < w.heap.size)(hs:szP p≤1000000000)(he:PEnv w) :
 Calls Tryz.prog 44 #[.agg #[va,vf]] w (RetN (.bool (shpB p)) w):=by
 obtain⟨A,c,rfl,_⟩:=h.1.at
 obtain⟨A',c',rfl,_⟩:=h.2.at
 obtain⟨W1,hW1⟩:∃ W1,((w.alloc (.cells #[.slice A p.arrays.length c,.slice A' p.funcs.length c'] 26)).alloc (.map #[] 0)).alloc (.cells #[.map (some (w.heap.size+1))] 149)=W1:=⟨_,rfl⟩
 have hb0:Below w.heap.size w ((w.alloc (.cells #[.slice A p.arrays.length c,.slice A' p.funcs.length c'] 26)).alloc (.map #[] 0)):=((Below.refl _ _).alloc (Lr _) _).alloc (by simp) _
 have hb1:Below w.heap.size w W1:=by rw[←hW1];exact hb0.alloc (by simp;omega) _
 have k1:Blk W1 w.heap.size 26 #[.slice A p.arrays.length c,.slice A' p.funcs.length c']:=by rw[←hW1];exact ((Blk.new _ _ _).alloc _).alloc _
 have k2:Blk W1 (w.heap.size+1+1) 149 #[.map (some (w.heap.size+1))]:=by rw[←hW1];exact blk_at (by simp) _ _
 have hnm:NMp (w.heap.size+1) 0 W1:=by
  have:=nm_made (w.alloc (.cells #[.slice A p.arrays.length c,.slice A' p.funcs.length c'] 26))
  rw[show (w.alloc (.cells #[.slice A p.arrays.length c,.slice A' p.funcs.length c'] 26)).heap.size=w.heap.size+1 by simp] at this
  rw[←hW1]
  exact this.on ((Below.refl _ _).alloc (Lr _) _) (Lr _)
 have hen:En w.heap.size W1:=En.on (show En w.heap.size w from he) hb1
 have hB:w.heap.size≤w.heap.size+1:=Nat.le_succ _
 have hok1:∀ x,ok x→x < W1.heap.size∧x≠w.heap.size+1:=fun x hx=>⟨Ll (hok x hx) hb1.size,by have:=hok x hx;omega⟩
 have hI:=inv_sh w.heap.size (w.heap.size+1) W1 hB ok hok1
 have h0:ShI w.heap.size (w.heap.size+1) W1 0 W1:=⟨hnm,hen,grown_id _ _⟩
 have h1:=h.keep (fun _ h=>h) (fun x hx=>hb1.block x (hok x hx))
 unfold szP at hs
 have l1:=sumL_len (fun a:List UInt8 × Int=>a.1.length) p.arrays
 have l2:=sumL_len szF p.funcs
 have hc4:sumL (fun f=>4 * szF f) p.funcs≤4 * sumL szF p.funcs:=by
  have:∀ l:List FN,sumL (fun f=>4 * szF f) l≤4 * sumL szF l:=fun l=>by
   induction l with
   | nil=>exact Lr _
   | cons a r ih=>rw[sumL,sumL];omega
  exact this _
 have ha:=every_A keepsA onesA p.arrays _ W1 ok h1.1 (by omega) (fun a=>zBx a.1) (some (w.heap.size+1)) 72 #[] #[.pointer (some ⟨w.heap.size+1+1,0,none⟩)] (enters_of Tryz.func72 (by kernel_rfl) rfl)
  (ShI w.heap.size (w.heap.size+1) W1) hI (fun a=>a.1.length) (fun i x hx cs W d hd hI' hr=>by
   rw[app_l]
   have hsx:=zA6 (fun a:List UInt8 × Int=>a.1.length) p.arrays i x hx
   have hd':d+(1+x.1.length)≤1000000000000:=hd
   exact (arr_cl w.heap.size (w.heap.size+1) (w.heap.size+1+1) hB W1 x (by omega) cs W d (by omega) hI' ok hr (k2.kp hI'.2.2 (fun b hb=>by injection hb with hb;omega))).mono fun _ _ k=>⟨k.1,hI.mono _ _ _ k.2.1 (by omega),k.2.2⟩) 0 (by omega) W1 h0
 have hf:=fun W (hW:ShI w.heap.size (w.heap.size+1) W1 (0+sumL (fun a:List UInt8 × Int=>a.1.length) p.arrays) W)=>every_F keepsF onesF p.funcs _ W1 ok h1.2 (by omega) funB (some (w.heap.size+1)) 75 #[.agg #[.map (some (w.heap.size+1))]] #[] (enters_of Tryz.func75 (by kernel_rfl) rfl)
  (ShI w.heap.size (w.heap.size+1) W1) hI (fun f=>4 * szF f) (fun i x hx=>func_any w.heap.size (w.heap.size+1) hB W1 ok hok1 x (by have:=zA6 szF p.funcs i x hx;omega) (evL_any _ 117 _ _ _ ok W1 hI stmB (fun y hy=>stm_any w.heap.size (w.heap.size+1) hB W1 ok hok1 y hy) (enters_of Tryz.func117 (by kernel_rfl) rfl) x.body (by have h1:=zA6 szF p.funcs i x hx;have h2:szF x=1+x.name.length+sumL List.length x.params+sumL List.length x.locals+sumL szS x.body+szE x.value:=rfl;omega))) _ (by omega) W hW
 obtain⟨q1,hq1⟩:∃ q,p.arrays.all (fun a=>zBx a.1)=q:=⟨_,rfl⟩
 obtain⟨q2,hq2⟩:∃ q,p.funcs.all funB=q:=⟨_,rfl⟩
 obtain⟨n1,hn1⟩:∃ n,p.arrays.length=n:=⟨_,rfl⟩
 obtain⟨n2,hn2⟩:∃ n,p.funcs.length=n:=⟨_,rfl⟩
 have hshp:shpB p=(q1&&q2):=by unfold shpB;rw[hq1,hq2]
 rw[hshp]
 rw[hq1,hn1] at ha
 rw[hq2,hn2] at hf
 rw[hn1,hn2] at k1 hW1 ⊢
 have HA:=Hd ha
 have HF:=Hd hf
 have HB:=Hd (Ai hb1 (Ai k1 (Ai k2 hW1)))
 have hmm:=@run_makeMap Tryz.prog
 clear ha hf hb0 hb1 k1 k2 hW1 hnm hen hB hok1 hI h0 h1 h hs l1 l2 hc4 hq1 hq2 hn1 hn2 hshp hok he
 go_enter Tryz.func44,Tryz.ntmps44
 go_wp2_with fail
 rw[HB.out.2.2.2]
 refine HA.out.mono ?_
 rintro e w2 ⟨rfl,hi,hk⟩
 have x1:w2.cell? ⟨w.heap.size,1,none⟩=some (.slice A' n2 c'):=(HB.out.2.1.kp hk (fun b hb=>by injection hb with hb;omega)).cell 1
 have x2:w2.cell? ⟨w.heap.size+1+1,0,none⟩=some (.map (some (w.heap.size+1))):=(HB.out.2.2.1.kp hk (fun b hb=>by injection hb with hb;omega)).cell 0
 have hu:∀ w',Kp (some (w.heap.size+1)) W1 w'→Below w.heap.size w w':=fun w' hk=>HB.out.1.trans (kp_under hk (fun y hy=>by injection hy with hy;omega) HB.out.1.size)
 have H2:=Hd (Ai hi (Ai hk hu))
 clear hi hk hu
 cases q1 with
 | false =>
  go_wp2_with fail
  go_ret
  exact retN rfl (H2.out.2.2 _ H2.out.2.1)
 | true =>
  go_wp2_with fail
  refine (HF.out w2 H2.out.1).mono ?_
  rintro e w3 ⟨rfl,hi,hk⟩
  have H3:=Hd (H2.out.2.2 _ (kp_to H2.out.2.1 hk))
  clear hi hk x1 x2
  go_wp2_with fail
  go_ret
  exact retN rfl H3.out
end Go.Proofs.YtpgnlfdindmopaaGreatDoor
