/- Words and walks for the laws of the interpreter. -/
import Derived.Test.YtpgnlfdindmopaaGreatDoorK4
import Derived.Test.YtpgnlfdindmopaaGreatDoorK5
import Derived.Deep.RegionHeld3
import Derived.Test.YtpgnlfdindmopaaGreatDoorK6
import Derived.Laws.EntriesVeiled
namespace Go.Proofs.YtpgnlfdindmopaaGreatDoor
open Go.RowKit (wrap64 intOf)
open Go Go.RowKit WM LX PX CX
set_option maxRecDepth 100000
set_option maxHeartbeats 4000000
def NmA (w:World)(ok:Nat→Prop)(ns:List (List UInt8))(A:Option Addr):Prop:=0 < ns.length→∃ g,A=some ⟨g,0,none⟩∧ok g∧∀ (i:Nat)(y:List UInt8),ns[i]?=some y→w.cell? ⟨g,i,none⟩=some (.string ⟨y.toArray⟩)
theorem NmA.keep {w w':World}{ok:Nat→Prop}{ns:List (List UInt8)}{A:Option Addr}(h:NmA w ok ns A)(hw:∀ g,ok g→w'.heap[g]?=w.heap[g]?):NmA w' ok ns A:=fun h0=>by
 obtain⟨g,h1,h2,h3⟩:=h h0
 exact⟨g,h1,h2,fun i y hy=>(Cb (hw g h2)).trans (h3 i y hy)⟩
theorem nmA_of {w:World}{ok:Nat→Prop}{ns:List (List UInt8)}{A:Option Addr}{L c:Nat}(h:RepL RepN 1 w ok ns (.slice A L c)):NmA w ok ns A:=fun h0=>by
 obtain⟨A',c',hv,hat⟩:=h.at
 injection hv with h1 h2 h3
 subst h1
 obtain⟨g,cs,rfl,hok,_⟩:=hat 0 _ (Ge h0)
 refine⟨g,rfl,hok,fun k z hz=>?_⟩
 obtain⟨g',cs',hg',_,hr,hc⟩:=hat k z hz
 injection hg' with hg'
 injection hg' with hg'
 subst hg'
 have:=hc 0 _ (by rw[show cs'=_ from hr];rfl)
 rwa [Nat.mul_one,Nat.add_zero] at this
theorem cont_all (ns:List (List UInt8))(x:List UInt8)(A:Option Addr)(c:Nat)(hl:ns.length≤1000000)(w:World)(ok:Nat→Prop)(h:NmA w ok ns A) :
 Calls Tryz.prog 119 #[.slice A ns.length c,.string ⟨x.toArray⟩] w fun e w'=>e=.returned (.bool (ns.contains x))∧w=w':=by
 have:=cont_any ns x A c ns.length (Lr _) hl w (fun h0=>by obtain⟨g,h1,_,h3⟩:=h h0;exact⟨g,h1,h3⟩)
 rwa [List.take_of_length_le (Lr _)] at this
theorem dfn_any (A V:List (List UInt8))(hA:A.length≤1000000)(hV:V.length≤1000000)(AA:Option Addr)(cA:Nat)(AF:Option Addr)(LF cF:Nat)(AV:Option Addr)(cV:Nat)(ok2:Nat→Prop)(e:PE)(cs:List Value)(w:World)(ok:Nat→Prop)(hr:RepE w ok e cs)
 (hok2:∀ g,ok2 g→g < w.heap.size) (h1:NmA w ok2 A AA) (h2:NmA w ok2 V AV) :
 Calls Tryz.prog 126 #[.agg #[.slice AA A.length cA,.slice AF LF cF,.slice AV V.length cV],.agg cs.toArray] w (RetN (.bool (dfN A V e)) w):=by
 cases e with
 | mk kd n nm op kids =>
  obtain⟨Ak,cp,rfl,_⟩:=exp_of hr
  obtain⟨len,hlen⟩:∃ len,kids.length=len:=⟨_,rfl⟩
  have hb1:Below w.heap.size w ((w.alloc (.cells #[.slice AA A.length cA,.slice AF LF cF,.slice AV V.length cV] 154)).alloc (.cells #[.int .i64 kd,.int .i64 n,.string ⟨nm.toArray⟩,.int .i64 op,.slice Ak len cp] 36)):=((Below.refl _ _).alloc (Lr _) _).alloc (by simp) _
  have c1:=cont_all A nm AA cA hA _ ok2 (h1.keep (fun g hg=>hb1.block g (hok2 g hg)))
  have c2:=cont_all V nm AV cV hV _ ok2 (h2.keep (fun g hg=>hb1.block g (hok2 g hg)))
  obtain⟨q1,hq1⟩:∃ q,A.contains nm=q:=⟨_,rfl⟩
  obtain⟨q2,hq2⟩:∃ q,V.contains nm=q:=⟨_,rfl⟩
  obtain⟨la,hla⟩:∃ la,A.length=la:=⟨_,rfl⟩
  obtain⟨lv,hlv⟩:∃ lv,V.length=lv:=⟨_,rfl⟩
  have hdf:dfN A V (.mk kd n nm op kids)=(if kd=2 then q2 else if kd=3 then q1 else true):=by rw[←hq1,←hq2];rfl
  rw[hdf,hlen,hla,hlv]
  rw[hla,hlv] at hb1 c1 c2
  rw[hq1] at c1
  rw[hq2] at c2
  have C1:=Hd c1
  have C2:=Hd c2
  have HB:=Hd hb1
  clear c1 c2 hb1 h1 h2 hr hok2 hdf hlen hla hlv hq1 hq2
  by_cases k2:kd=2
  ·subst k2
   rw[if_pos rfl]
   go_enter Tryz.func126,Tryz.ntmps126
   go_wp2_with fail
   refine C2.out.mono ?_
   rintro e w2 ⟨rfl,rfl⟩
   go_wp2_with fail
   go_ret
   exact retN rfl HB.out
  ·have e2:=neI k2
   rw[if_neg k2]
   by_cases k3:kd=3
   ·subst k3
    rw[if_pos rfl]
    go_enter Tryz.func126,Tryz.ntmps126
    go_wp2_with fail
    refine C1.out.mono ?_
    rintro e w2 ⟨rfl,rfl⟩
    go_wp2_with fail
    go_ret
    exact retN rfl HB.out
   ·have e3:=neI k3
    rw[if_neg k3]
    go_enter Tryz.func126,Tryz.ntmps126
    go_wp2_with fail
    go_ret
    exact retN rfl HB.out
theorem dfe_any (A V:List (List UInt8))(hA:A.length≤1000000)(hV:V.length≤1000000)(AA:Option Addr)(cA:Nat)(AF:Option Addr)(LF cF:Nat)(AV:Option Addr)(cV:Nat)(ok:Nat→Prop)(e:PE)(hs:szE e≤1000000000)(cs:List Value)(w:World)(hr:RepE w ok e cs)
 (hok:∀ g,ok g→g < w.heap.size) (h1:NmA w ok A AA) (h2:NmA w ok V AV) :
 Calls Tryz.prog 84 #[.agg #[.slice AA A.length cA,.slice AF LF cF,.slice AV V.length cV],.agg cs.toArray] w (RetN (.bool (allE (dfN A V) e)) w):=by
 obtain⟨W1,hW1⟩:∃ W1,(w.alloc (.cells #[.slice AA A.length cA,.slice AF LF cF,.slice AV V.length cV] 154)).alloc (.cells cs.toArray 36)=W1:=⟨_,rfl⟩
 have hb1:Below w.heap.size w W1:=by rw[←hW1];exact ((Below.refl _ _).alloc (Lr _) _).alloc (by simp) _
 have hcall:=evN_any none 126 #[.agg #[.slice AA A.length cA,.slice AF LF cF,.slice AV V.length cV]] #[] (enters_of Tryz.func126 (by kernel_rfl) rfl) (fun _=>Kp none W1) ok W1
  (inv_kp none W1 (fun _ h=>by cases h) ok (fun b hb=>⟨Ll (hok b hb) hb1.size,by simp⟩)) (dfN A V) (fun x _ cs' W c _ hI hr'=>by
   rw[app_r]
   have hkw:∀ g,ok g→W.heap[g]?=w.heap[g]?:=fun g hg=>(hI.block g (Ll (hok g hg) hb1.size) (by simp)).trans (hb1.block g (hok g hg))
   exact (dfn_any A V hA hV AA cA AF LF cF AV cV ok x cs' W ok hr' (fun g hg=>Ll (hok g hg) (Nat.le_trans hb1.size hI.size)) (h1.keep hkw) (h2.keep hkw)).mono fun _ _ h=>ret_kp h hI) 1000000000 (Lr _) e cs W1 0 hs (by omega) (grown_id _ _) (hr.keep (fun _ h=>h) (fun g hg=>hb1.block g (hok g hg)))
 obtain⟨h5,_⟩:=onesE _ _ _ _ hr
 have HS:Hid ((Tryz.prog.info? 36).map (·.size)=some cs.toArray.size):=by
  have:cs.toArray.size=5:=by simpa using h5
  rw[this];exact sizeE
 obtain⟨la,hla⟩:∃ la,A.length=la:=⟨_,rfl⟩
 obtain⟨lv,hlv⟩:∃ lv,V.length=lv:=⟨_,rfl⟩
 rw[hla,hlv] at hcall hW1 ⊢
 have HK2:Hid (Blk ((w.alloc (.cells #[.slice AA la cA,.slice AF LF cF,.slice AV lv cV] 154)).alloc (.cells cs.toArray 36)) (w.heap.size+1) 36 cs.toArray):=blk_at (by simp) _ _
 have HC:=Hd (Ai hcall (Ai hb1 hW1))
 clear hcall hr h5 hW1 hb1 hs hok h1 h2 hla hlv
 go_enter Tryz.func84,Tryz.ntmps84
 go_wp2_with (refine wpList_load_row rfl 36 _ rfl (w.heap.size+1) rfl 36 cs.toArray (0,0) _ HK2.out Tryz.underlying36 rfl HS.out ?_)
 rw[HC.out.2.2]
 refine HC.out.1.mono ?_
 rintro e w2 ⟨rfl,_,hk⟩
 have HK:=Hd (HC.out.2.1.trans (below_down (below_kp hk) HC.out.2.1.size))
 clear hk
 go_wp2_with fail
 go_ret
 exact retN rfl HK.out
end Go.Proofs.YtpgnlfdindmopaaGreatDoor
namespace Go.Proofs.YtpgnlfdindmopaaGreatDoor
open Go.RowKit (wrap64 intOf)
open Go Go.RowKit WM LX PX CX
set_option maxRecDepth 100000
set_option maxHeartbeats 4000000
theorem new3 {X w2:World}{t:TypeId}{cs:Array Value}(d:Below (X.alloc (.cells cs t)).heap.size (X.alloc (.cells cs t)) w2):Blk w2 X.heap.size t cs:=(Blk.new X t cs).on d (by simp)
end Go.Proofs.YtpgnlfdindmopaaGreatDoor
namespace Go.Proofs.YtpgnlfdindmopaaGreatDoor
open Go.RowKit (wrap64 intOf)
open Go Go.RowKit WM LX PX CX
set_option maxRecDepth 100000
set_option maxHeartbeats 4000000
theorem wpList_load_row_g {P:Program}{ops:Array Oper}{rest:List Oper}{o:Oper}{a:Act}{w:World}{Q:Exit→Act→World→Prop}(hw:Region.wanted o (yielded ops a.tmps)=true)(ty:TypeId)(x:Operand)(ho:o.op=.load ty x)
 (g:Nat) (hx:a.eval x=.pointer (some ⟨g,0,none⟩)) (t:TypeId) (cs:Array Value) (fr:Nat × Nat) (d:TypeDesc) (hg:w.heap[g]?=some (.cells cs t fr))
 (hu:P.underlying ty=some d) (hd:(match d with | .struct _ | .array _ _=>true | _=>false)=true) (hi:(P.info? ty).map (·.size)=some cs.size)
 (h:wpList P ops Q rest (a.put o.dst (.agg cs)) w):wpList P ops Q (o :: rest) a w :=
 wpList_step fun _ hK=>by rw[if_pos hw];exact wp_load_row ty x ho g hx t cs fr d hg hu hd hi (hK _ _ h)
theorem dft_any (A F V:List (List UInt8))(hA:A.length≤1000000)(hF:F.length≤1000000)(hV:V.length≤1000000)(AA:Option Addr)(cA:Nat)(AF:Option Addr)(cF:Nat)(AV:Option Addr)(cV:Nat)(s:ST)(cs:List Value)(w:World)(ok:Nat→Prop)(hr:RepS w ok s cs)
 (hok:∀ g,ok g→g < w.heap.size) (h1:NmA w ok A AA) (h2:NmA w ok F AF) (h3:NmA w ok V AV) :
 Calls Tryz.prog 123 #[.agg #[.slice AA A.length cA,.slice AF F.length cF,.slice AV V.length cV],.agg cs.toArray] w (RetN (.bool (dfT A F V s)) w):=by
 cases s with
 | mk kd nm tn n pos value args thn els =>
  obtain⟨k1,n1,x1,o1,A1,L1,c1,k2,n2,x2,o2,A2,L2,c2,A3,c3,A4,c4,A5,c5,hcs,_⟩:=zBo hr
  have d0:cs[0]?=some (.int .i64 kd):=by rw[hcs];rfl
  have d1:cs[1]?=some (.string ⟨nm.toArray⟩):=by rw[hcs];rfl
  have d2:cs[2]?=some (.string ⟨tn.toArray⟩):=by rw[hcs];rfl
  clear hcs
  have hb1:Below w.heap.size w ((w.alloc (.cells #[.slice AA A.length cA,.slice AF F.length cF,.slice AV V.length cV] 154)).alloc (.cells cs.toArray 40)):=((Below.refl _ _).alloc (Lr _) _).alloc (by simp) _
  have cA':=cont_all A nm AA cA hA _ ok (h1.keep (fun g hg=>hb1.block g (hok g hg)))
  have cV':=cont_all V nm AV cV hV _ ok (h3.keep (fun g hg=>hb1.block g (hok g hg)))
  have cF':=cont_all F tn AF cF hF _ ok (h2.keep (fun g hg=>hb1.block g (hok g hg)))
  obtain⟨q1,hq1⟩:∃ q,A.contains nm=q:=⟨_,rfl⟩
  obtain⟨q2,hq2⟩:∃ q,V.contains nm=q:=⟨_,rfl⟩
  obtain⟨q3,hq3⟩:∃ q,F.contains tn=q:=⟨_,rfl⟩
  obtain⟨la,hla⟩:∃ la,A.length=la:=⟨_,rfl⟩
  obtain⟨lv,hlv⟩:∃ lv,V.length=lv:=⟨_,rfl⟩
  obtain⟨lf,hlf⟩:∃ lf,F.length=lf:=⟨_,rfl⟩
  have hdf:dfT A F V (.mk kd nm tn n pos value args thn els)=(if kd=1 then q2 else if kd=2 then q1 else if kd=6 then q2&&q3 else true):=by rw[←hq1,←hq2,←hq3];rfl
  rw[hdf,hla,hlv,hlf]
  rw[hla,hlv,hlf] at hb1 cA' cV' cF'
  rw[hq1] at cA'
  rw[hq2] at cV'
  rw[hq3] at cF'
  have C1:=Hd cA'
  have C2:=Hd cV'
  have C3:=Hd cF'
  have HB:=Hd hb1
  clear cA' cV' cF' hb1 h1 h2 h3 hr hok hdf hla hlv hlf hq1 hq2 hq3
  by_cases k2:kd=1
  ·subst k2
   rw[if_pos rfl]
   go_enter Tryz.func123,Tryz.ntmps123
   go_wp2_with fail
   refine C2.out.mono ?_
   rintro e w2 ⟨rfl,rfl⟩
   go_wp2_with fail
   go_ret
   exact retN rfl HB.out
  ·have e2:=neI k2
   rw[if_neg k2]
   by_cases k3:kd=2
   ·subst k3
    rw[if_pos rfl]
    go_enter Tryz.func123,Tryz.ntmps123
    go_wp2_with fail
    refine C1.out.mono ?_
    rintro e w2 ⟨rfl,rfl⟩
    go_wp2_with fail
    go_ret
    exact retN rfl HB.out
   ·have e3:=neI k3
    rw[if_neg k3]
    by_cases k6:kd=6
    ·subst k6
     rw[if_pos rfl]
     cases q2 with
     | false =>
      go_enter Tryz.func123,Tryz.ntmps123
      go_wp2_with fail
      refine C2.out.mono ?_
      rintro e w2 ⟨rfl,rfl⟩
      go_wp2_with fail
      go_ret
      exact retN rfl HB.out
     | true =>
      go_enter Tryz.func123,Tryz.ntmps123
      go_wp2_with fail
      refine C2.out.mono ?_
      rintro e w2 ⟨rfl,rfl⟩
      go_wp2_with fail
      refine C3.out.mono ?_
      rintro e w2 ⟨rfl,rfl⟩
      go_wp2_with fail
      go_ret
      exact retN rfl HB.out
    ·have e6:=neI k6
     rw[if_neg k6]
     go_enter Tryz.func123,Tryz.ntmps123
     go_wp2_with fail
     go_ret
     exact retN rfl HB.out
theorem dfs_any (A F V:List (List UInt8))(hA:A.length≤1000000)(hF:F.length≤1000000)(hV:V.length≤1000000)(AA:Option Addr)(cA:Nat)(AF:Option Addr)(cF:Nat)(AV:Option Addr)(cV:Nat)(s:ST)(hs:szS s≤1000000000)(cs:List Value)(w:World)(ok:Nat→Prop)(hr:RepS w ok s cs)
 (hok:∀ g,ok g→g < w.heap.size) (h1:NmA w ok A AA) (h2:NmA w ok F AF) (h3:NmA w ok V AV) :
 Calls Tryz.prog 83 #[.agg #[.slice AA A.length cA,.slice AF F.length cF,.slice AV V.length cV],.agg cs.toArray] w (RetN (.bool (dfS A F V s)) w):=by
 obtain⟨h17,_⟩:=zCn _ _ _ _ hr
 have HS:Hid ((Tryz.prog.info? 40).map (·.size)=some cs.toArray.size):=by
  have:cs.toArray.size=17:=by simpa using h17
  rw[this];exact zAf
 obtain⟨W1,hW1⟩:∃ W1,(w.alloc (.cells #[.slice AA A.length cA,.slice AF F.length cF,.slice AV V.length cV] 154)).alloc (.cells cs.toArray 40)=W1:=⟨_,rfl⟩
 have hb1:Below w.heap.size w W1:=by rw[←hW1];exact ((Below.refl _ _).alloc (Lr _) _).alloc (by simp) _
 have j1:Blk W1 w.heap.size 154 #[.slice AA A.length cA,.slice AF F.length cF,.slice AV V.length cV]:=by rw[←hW1];exact (Blk.new _ _ _).alloc _
 have j2:Blk W1 (w.heap.size+1) 40 cs.toArray:=by rw[←hW1];exact blk_at (by simp) _ _
 have hk:=fun g hg=>hb1.block g (hok g hg)
 have hok1:∀ g,ok g→g < W1.heap.size:=fun g hg=>Ll (hok g hg) hb1.size
 have hr1:=hr.keep (w':=W1) (fun _ h=>h) hk
 have ct:=dft_any A F V hA hF hV AA cA AF cF AV cV s cs W1 ok hr1 hok1 (h1.keep hk) (h2.keep hk) (h3.keep hk)
 have cx:=fun W2 (hb2:Below W1.heap.size W1 W2)=>(show Calls Tryz.prog 124 #[.agg cs.toArray,.func (.func 84) #[.agg #[.slice AA A.length cA,.slice AF F.length cF,.slice AV V.length cV]] #[]] W2 (RetN (.bool (allX (allE (dfN A V)) s)) W2) from by
  have hk2:=fun g hg=>hb2.block g (hok1 g hg)
  have hr2:=hr1.keep (w':=W2) (fun _ h=>h) hk2
  cases s with
  | mk kd nm tn n pos value args thn els =>
   have hsz:=hs
   rw[szS_eq] at hsz
   have f1:=sumL_len szE args
   exact (every_X kd nm tn n pos value args thn els cs W2 ok hr2 (by omega) (allE (dfN A V)) none 84 #[.agg #[.slice AA A.length cA,.slice AF F.length cF,.slice AV V.length cV]] #[] (enters_of Tryz.func84 (by kernel_rfl) rfl) (fun _=>Kp none W2)
    (inv_kp none W2 (fun _ h=>by cases h) ok (fun b hb=>⟨Ll (hok1 b hb) hb2.size,by simp⟩)) (fun _=>0) (fun x hx cs' W c _ hI hr'=>by
     rw[app_r]
     have hxs:szE x≤1000000000:=by
      rcases hx with rfl | rfl | hx
      ·omega
      ·omega
      ·obtain⟨i,hi⟩:=List.getElem?_of_mem hx
       have:=zA6 szE args i x hi
       omega
     have hkw:∀ g,ok g→W.heap[g]?=W1.heap[g]?:=fun g hg=>(hI.block g (Ll (hok1 g hg) hb2.size) (by simp)).trans (hk2 g hg)
     exact (dfe_any A V hA hV AA cA AF F.length cF AV cV ok x hxs cs' W hr' (fun g hg=>Ll (hok1 g hg) (Nat.le_trans hb2.size hI.size)) ((h1.keep hk).keep hkw) ((h3.keep hk).keep hkw)).mono fun _ _ h=>ret_kp h hI) 0 (by show 0+((1+0)+((1+0)+sumL (fun _=>0) args))≤_;rw[zB3];omega) W2 (grown_id _ _)).mono fun _ _ h=>⟨h.1,below_kp h.2.2⟩)
 obtain⟨q1,hq1⟩:∃ q,dfT A F V s=q:=⟨_,rfl⟩
 obtain⟨q2,hq2⟩:∃ q,allX (allE (dfN A V)) s=q:=⟨_,rfl⟩
 have hd:dfS A F V s=(q1&&q2):=by rw[←hq1,←hq2];rfl
 rw[hd]
 rw[hq1] at ct
 rw[hq2] at cx
 obtain⟨la,hla⟩:∃ la,A.length=la:=⟨_,rfl⟩
 obtain⟨lv,hlv⟩:∃ lv,V.length=lv:=⟨_,rfl⟩
 obtain⟨lf,hlf⟩:∃ lf,F.length=lf:=⟨_,rfl⟩
 rw[hla,hlv,hlf] at ct cx hW1 j1 ⊢
 have HK2:Hid (Blk ((w.alloc (.cells #[.slice AA la cA,.slice AF lf cF,.slice AV lv cV] 154)).alloc (.cells cs.toArray 40)) (w.heap.size+1) 40 cs.toArray):=blk_at (by simp) _ _
 have HC:=Hd (Ai ct (Ai hb1 (Ai hW1 (Ai j1 j2))))
 have HX:=Hd cx
 clear ct cx hr hr1 h17 hW1 hb1 hs hok h1 h2 h3 hla hlv hlf hk hok1 hq1 hq2 hd j1 j2
 go_enter Tryz.func83,Tryz.ntmps83
 go_wp2_with (refine wpList_load_row rfl 40 _ rfl (w.heap.size+1) rfl 40 cs.toArray (0,0) _ HK2.out Tryz.underlying40 rfl HS.out ?_)
 rw[HC.out.2.2.1]
 refine HC.out.1.mono ?_
 rintro e w2 ⟨rfl,hb2⟩
 have k1:=HC.out.2.2.2.1.on hb2 HC.out.2.2.2.1.lt
 have k2:=HC.out.2.2.2.2.on hb2 HC.out.2.2.2.2.lt
 obtain⟨z0,z1,z2,_⟩:=k1.cells3
 have H2:=Hd (Ai hb2 (Ai (HC.out.2.1.trans (below_down hb2 HC.out.2.1.size)) k2))
 clear hb2 k1 k2
 cases q1 with
 | false =>
  go_wp2_with fail
  go_ret
  exact retN rfl H2.out.2.1
 | true =>
  go_wp2_with (refine wpList_load_row_g rfl 40 _ rfl (w.heap.size+1) rfl 40 cs.toArray (0,0) _ H2.out.2.2 Tryz.underlying40 rfl HS.out ?_)
  refine (HX.out _ H2.out.1).mono ?_
  rintro e w3 ⟨rfl,hb3⟩
  have H3:=Hd (H2.out.2.1.trans (below_down hb3 H2.out.2.1.size))
  clear hb3
  go_wp2_with fail
  go_ret
  exact retN rfl H3.out
end Go.Proofs.YtpgnlfdindmopaaGreatDoor
namespace Go.Proofs.YtpgnlfdindmopaaGreatDoor
open Go.RowKit (wrap64 intOf)
open Go Go.RowKit WM LX PX CX
set_option maxRecDepth 100000
set_option maxHeartbeats 4000000
def ScG (S:Nat)(AA:Option Addr)(LA cA:Nat)(AF:Option Addr)(LF cF:Nat)(w:World):Prop:=∃ AV LV cV,Blk w S 154 #[.slice AA LA cA,.slice AF LF cF,.slice AV LV cV]
theorem und2_cl (A0 F:List (List UInt8))(AA:Option Addr)(cA:Nat)(AF:Option Addr)(cF S:Nat)(hA0:A0.length≤1000000)(hF0:F.length≤1000000)(f:FN)(cs:List Value)(w:World)(ok:Nat→Prop)(hr:RepG w ok f cs)(hok:∀ g,ok g→g < w.heap.size∧g≠S)(hNA:NmA w ok A0 AA)(hNF:NmA w ok F AF)(hS:ScG S AA A0.length cA AF F.length cF w)(hs:szF f≤1000000) :
 Calls Tryz.prog 81 #[.agg cs.toArray,.pointer (some ⟨S,0,none⟩)] w fun e w'=>e=.returned (.bool (!f.body.all (allS (dfS A0 F (f.params++f.locals)))||!allE (dfN A0 (f.params++f.locals)) f.value))∧Kp (some S) w w'∧ScG S AA A0.length cA AF F.length cF w':=by
 obtain⟨hf,⟨v1,hv1,n1⟩,⟨v2,hv2,n2⟩⟩:=hr
 obtain⟨A1,c1,A2,c2,A3,c3,kd,nn,nm,op,A,L,c,rfl,r1,r2,r3,r4⟩:=fun_of hf
 obtain rfl:v1=.slice A1 f.params.length c1:=by simpa using hv1.symm
 obtain rfl:v2=.slice A2 f.locals.length c2:=by simpa using hv2.symm
 have hz:szF f=1+f.name.length+sumL List.length f.params+sumL List.length f.locals+sumL szS f.body+szE f.value:=rfl
 have p1:=sumL_len List.length f.params
 have p2:=sumL_len List.length f.locals
 obtain⟨l3,hl3⟩:∃ n,f.body.length=n:=⟨_,rfl⟩
 obtain⟨l1,hl1⟩:∃ n,f.params.length=n:=⟨_,rfl⟩
 obtain⟨l2,hl2⟩:∃ n,f.locals.length=n:=⟨_,rfl⟩
 obtain⟨xn,hxn⟩:∃ y,f.name=y:=⟨_,rfl⟩
 obtain⟨AV,LV,cV,kS⟩:=hS
 have hSw:=kS.lt
 obtain⟨W1,hW1⟩:∃ W1,(w.alloc (.cells #[.string ⟨xn.toArray⟩,.slice A1 l1 c1,.slice A2 l2 c2,.slice A3 l3 c3,.int .i64 kd,.int .i64 nn,.string ⟨nm.toArray⟩,.int .i64 op,.slice A L c] 38)).alloc (.cells #[.slice A1 l1 c1,.slice A2 l2 c2] 32)=W1:=⟨_,rfl⟩
 have hb1:Below w.heap.size w W1:=by rw[←hW1];exact ((Below.refl _ _).alloc (Lr _) _).alloc (by simp) _
 have k1:Blk W1 w.heap.size 38 #[.string ⟨xn.toArray⟩,.slice A1 l1 c1,.slice A2 l2 c2,.slice A3 l3 c3,.int .i64 kd,.int .i64 nn,.string ⟨nm.toArray⟩,.int .i64 op,.slice A L c]:=by rw[←hW1];exact (Blk.new _ _ _).alloc _
 have k2:Blk W1 (w.heap.size+1) 32 #[.slice A1 l1 c1,.slice A2 l2 c2]:=by rw[←hW1];exact blk_at (by simp) _ _
 have hN1:NmV W1 ok f.params (.slice A1 l1 c1):=NmV.keep ⟨hl1 ▸ r1,by rw[←hl1];exact n1⟩ (fun g hg=>hb1.block g (hok g hg).1)
 have hN2:NmV W1 ok f.locals (.slice A2 l2 c2):=NmV.keep ⟨hl2 ▸ r2,by rw[←hl2];exact n2⟩ (fun g hg=>hb1.block g (hok g hg).1)
 have hcon:=conc_any [f.params,f.locals] [.slice A1 l1 c1,.slice A2 l2 c2] (w.heap.size+1) 2 W1 ok (fun g hg=>Ll (hok g hg).1 hb1.size) k2.lt rfl (by show 2≤3;omega)
  (fun i v h=>by
    rw[k2.cell i]
    simpa using h)
  (fun i ys v hy hv=>by
    match i with
    | 0=>simp at hy hv;subst hy hv;exact hN1
    | 1=>simp at hy hv;subst hy hv;exact hN2
    | i+2=>simp at hy) (by simp;omega)
 have hfl:[f.params,f.locals].flatten=f.params++f.locals:=by simp
 rw[hfl] at hcon
 obtain⟨V,hV⟩:∃ V,f.params++f.locals=V:=⟨_,rfl⟩
 have hVl:V.length≤1000000:=by rw[←hV];simp;omega
 rw[hV] at hcon ⊢
 have hr4:=r4.keep (w':=W1) (ok':=ok) (fun _ h=>h) (fun g hg=>hb1.block g (hok g hg).1)
 have hr3:=r3.keep (w':=W1) (ok':=ok) keepsS (fun _ h=>h) (fun g hg=>hb1.block g (hok g hg).1)
 have hvl:szE f.value≤1000000000:=by omega
 obtain⟨fv,hfv⟩:∃ x,f.value=x:=⟨_,rfl⟩
 rw[hfv] at hr4 hvl ⊢
 obtain⟨bo,hbo⟩:∃ b,f.body=b:=⟨_,rfl⟩
 have hbl:sumL szS bo≤1000000000:=by rw[←hbo];omega
 rw[hbo] at hr3 hl3 ⊢
 obtain⟨q,hq⟩:∃ q,allE (dfN A0 V) fv=q:=⟨_,rfl⟩
 obtain⟨qb,hqb⟩:∃ q,bo.all (allS (dfS A0 F V))=q:=⟨_,rfl⟩
 rw[hq,hqb]
 have hNA1:=hNA.keep (fun g hg=>hb1.block g (hok g hg).1)
 have hNF1:=hNF.keep (fun g hg=>hb1.block g (hok g hg).1)
 obtain⟨LA,hLA⟩:∃ n,A0.length=n:=⟨_,rfl⟩
 obtain⟨LF,hLF⟩:∃ n,F.length=n:=⟨_,rfl⟩
 rw[hLA,hLF] at kS ⊢
 have kS1:=kS.on hb1 hSw
 have HX:=Hd (Ai hb1 (Ai hW1 (Ai k1 kS1)))
 have HC:=Hd hcon
 have HR:=Hd (Ai hr3 (Ai hr4 (Ai hok hq)))
 have HL:=Hd (Ai hVl (Ai hvl hbl))
 have hSl:S < w.heap.size:=hSw
 have HQ:=Hd (Ai hNA1 (Ai hNF1 (Ai hLA (Ai hLF (Ai hA0 (Ai hF0 (Ai hqb hl3)))))))
 obtain⟨s0,s1,s2,g0,g1,g2⟩:=(kS).cells3
 simp only[hl1,hl2,hl3,hxn]
 clear hcon hb1 hW1 k1 k2 kS kS1 hN1 hN2 hr3 hr4 hf hv1 hv2 n1 n2 r1 r2 r3 r4 hok hs hz p1 p2 hfl hV hVl hvl hfv hq hl1 hl2 hl3 hxn hNA hNF hNA1 hNF1 hLA hLF hA0 hF0 hqb hbo
 go_enter Tryz.func81,Tryz.ntmps81
 go_wp2_with fail
 rw[HX.out.2.1]
 refine HC.out.mono ?_
 rintro e w2 ⟨A9,c9,rfl,hcap,hl,hb2⟩
 have j1:=HX.out.2.2.1.on hb2 HX.out.2.2.1.lt
 have jS:=HX.out.2.2.2.on hb2 HX.out.2.2.2.lt
 have hw2:Below w.heap.size w w2:=HX.out.1.trans (below_down hb2 HX.out.1.size)
 obtain⟨W3,hW3⟩:∃ W3,w2.setCell ⟨S,2,none⟩ (.slice A9 V.length c9)=W3:=⟨_,rfl⟩
 have kS3:Blk W3 S 154 #[.slice AA LA cA,.slice AF LF cF,.slice A9 V.length c9]:=by rw[←hW3];exact jS.set 2 _
 have k13:Blk W3 w.heap.size 38 #[.string ⟨xn.toArray⟩,.slice A1 l1 c1,.slice A2 l2 c2,.slice A3 l3 c3,.int .i64 kd,.int .i64 nn,.string ⟨nm.toArray⟩,.int .i64 op,.slice A L c]:=by rw[←hW3];exact j1.far (p:=⟨S,2,none⟩) (by show S≠w.heap.size;omega) _
 have hk3:Kp (some S) w W3:=by rw[←hW3];exact zAz (kp_below hw2 (some S)) _
 have hk13:∀ g,g≠S→g < w2.heap.size→W3.heap[g]?=w2.heap[g]?:=fun g hg _=>by rw[←hW3];exact Below.heap_setCell _ _ _ _ hg
 have hz3:W3.heap.size=w2.heap.size:=by rw[←hW3];simp[World.setCell]
 have hs12:=hb2.size
 have hs01:=HX.out.1.size
 have hNV:NmA w2 (Rg W1.heap.size w2.heap.size) V A9:=nmA_of hl
 obtain⟨lv,hlv⟩:∃ lv,V.length=lv:=⟨_,rfl⟩
 have hkW3:∀ g,ok g→W3.heap[g]?=W1.heap[g]?:=fun g hg=>by
  have h1:=HR.out.2.2.1 g hg
  exact (hk13 g h1.2 (by omega)).trans (hb2.block g (by omega))
 have hlW3:∀ g,ok g→g < W3.heap.size:=fun g hg=>by have:=(HR.out.2.2.1 g hg).1;omega
 have up:∀ (ns:List (List UInt8)) (A:Option Addr),NmA W1 ok ns A→NmA W3 (fun g=>g < W3.heap.size) ns A:=fun ns A h h0=>by
  obtain⟨g,h1,h2,h3⟩:=h h0
  exact⟨g,h1,hlW3 g h2,fun i y hy=>(Cb (hkW3 g h2)).trans (h3 i y hy)⟩
 have nA:=up _ _ HQ.out.1
 have nF:=up _ _ HQ.out.2.1
 have nV:NmA W3 (fun g=>g < W3.heap.size) V A9:=fun h0=>by
  obtain⟨g,h1,h2,h3⟩:=hNV h0
  exact⟨g,h1,by have:=h2.2;omega,fun i y hy=>(Cb (hk13 g (by have:=h2.1;omega) h2.2)).trans (h3 i y hy)⟩
 have hkp:∀ W,Kp none W3 W→∀ g,g < W3.heap.size→W.heap[g]?=W3.heap[g]?:=fun W h g hg=>h.block g hg (by simp)
 have hev:=evL_any none 83 #[.agg #[.slice AA A0.length cA,.slice AF F.length cF,.slice A9 V.length c9]] #[] (fun _=>Kp none W3) (fun g=>g < W3.heap.size) W3 (inv_kp none W3 (fun _ h=>by cases h) _ (fun b hb=>⟨hb,by simp⟩)) (dfS A0 F V) (fun x hx cs' W c _ hI hr'=>by
  rw[app_r]
  exact (dfs_any A0 F V HQ.out.2.2.2.2.1 HQ.out.2.2.2.2.2.1 HL.out.1 AA cA AF cF A9 c9 x hx cs' W (fun g=>g < W3.heap.size) hr' (fun g hg=>Ll hg hI.size) (nA.keep (hkp W hI)) (nF.keep (hkp W hI)) (nV.keep (hkp W hI))).mono fun _ _ h=>ret_kp h hI)
  (enters_of Tryz.func83 (by kernel_rfl) rfl) bo HL.out.2.2 _ W3 0 (HR.out.1.keep (ok':=fun g=>g < W3.heap.size) keepsS hlW3 hkW3) (by have:=HL.out.2.2;omega) (grown_id _ _)
 have hde:=fun w4 (hk4:Kp none W3 w4)=>dfe_any A0 V HQ.out.2.2.2.2.1 HL.out.1 AA cA AF F.length cF A9 c9 (fun g=>g < W3.heap.size) fv HL.out.2.1 _ w4
  (HR.out.2.1.keep (ok':=fun g=>g < W3.heap.size) hlW3 (fun g hg=>(hkp w4 hk4 g (hlW3 g hg)).trans (hkW3 g hg)))
  (fun g hg=>Ll hg hk4.size) (nA.keep (hkp w4 hk4)) (nV.keep (hkp w4 hk4))
 rw[HQ.out.2.2.2.2.2.2.1,HQ.out.2.2.2.2.2.2.2] at hev
 rw[HQ.out.2.2.1,HQ.out.2.2.2.1] at hev hde
 rw[HR.out.2.2.2] at hde
 rw[hlv] at kS3 hev hde hW3 ⊢
 have hvm:lv≤1000000:=by rw[←hlv];exact HL.out.1
 obtain⟨s0,s1,s2,g0,g1,g2⟩:=jS.cells3
 have y3:w2.cell? ⟨w.heap.size,3,none⟩=some (.slice A3 l3 c3):=j1.cell 3
 have hne:S≠w.heap.size:=by omega
 have H3:=Hd (Ai kS3 (Ai k13 (Ai hk3 hW3)))
 have HE:=Hd hev
 have HD:=Hd hde
 clear hl hb2 j1 jS hw2 hW3 kS3 k13 hk3 hk13 hz3 hs12 hs01 hNV hev hde hlv hcap hkW3 hlW3 up nA nF nV hkp
 go_wp2_with fail
 rw[H3.out.2.2.2]
 refine HE.out.mono ?_
 rintro e w4 ⟨rfl,_,hk4⟩
 have kS4:=H3.out.1.kp hk4 (fun b hb=>by cases hb)
 have k14:=H3.out.2.1.kp hk4 (fun b hb=>by cases hb)
 obtain⟨t0,t1,t2,_⟩:=kS4.cells3
 obtain⟨v4,v5,v6,v7,v8⟩:w4.cell? ⟨w.heap.size,4,none⟩=some (.int .i64 kd)∧w4.cell? ⟨w.heap.size,5,none⟩=some (.int .i64 nn)∧w4.cell? ⟨w.heap.size,6,none⟩=some (.string ⟨nm.toArray⟩)∧w4.cell? ⟨w.heap.size,7,none⟩=some (.int .i64 op)∧w4.cell? ⟨w.heap.size,8,none⟩=some (.slice A L c):=⟨k14.cell 4,k14.cell 5,k14.cell 6,k14.cell 7,k14.cell 8⟩
 have H4:=Hd (Ai hk4 (Ai kS4 (kp_to H3.out.2.2.1 (kp_below (below_kp hk4) (some S)))))
 clear hk4 kS4 k14 s0 s1 s2 g0 g1 g2 y3
 cases qb with
 | false =>
  go_wp2_with fail
  go_ret
  exact⟨rfl,H4.out.2.2,_,_,_,H4.out.2.1⟩
 | true =>
  go_wp2_with fail
  refine (HD.out w4 H4.out.1).mono ?_
  rintro e w5 ⟨rfl,hb5⟩
  have H5:=Hd (Ai (kp_to H4.out.2.2 (kp_below hb5 (some S))) (H4.out.2.1.on hb5 H4.out.2.1.lt))
  clear hb5 t0 t1 t2 v4 v5 v6 v7 v8
  go_wp2_with fail
  go_ret
  exact⟨rfl,H5.out.1,_,_,_,H5.out.2⟩
end Go.Proofs.YtpgnlfdindmopaaGreatDoor
namespace Go.Proofs.YtpgnlfdindmopaaGreatDoor
open Go.RowKit (wrap64 intOf)
open Go Go.RowKit WM LX PX CX
set_option maxRecDepth 100000
set_option maxHeartbeats 4000000
theorem up_of {w2 X w3:World}(hX:Below w2.heap.size w2 X)(d:Below X.heap.size X w3):∀ g,g < w2.heap.size→w3.heap[g]?=w2.heap[g]? :=
 fun g hg=>(d.block g (Ll hg hX.size)).trans (hX.block g hg)
theorem below_dr {B:Nat}{a w:World}(h:Below B a w):Below B a w.drew:=⟨h.os,h.tape,h.output,h.size,h.block⟩
theorem nmA_al {w:World}{ns:List (List UInt8)}{A:Option Addr}(o:Obj)(h:NmA w (fun g=>g < w.heap.size∧g≠w.heap.size) ns A):NmA (w.alloc o) (fun g=>g < (w.alloc o).heap.size∧g≠w.heap.size) ns A:=fun h0=>by
 have hb:Below w.heap.size w (w.alloc o):=(Below.refl _ _).alloc (Lr _) _
 obtain⟨g,h1,h2,h3⟩:=h h0
 exact⟨g,h1,⟨Ll h2.1 hb.size,h2.2⟩,fun i y hy=>(Cb (hb.block g h2.1)).trans (h3 i y hy)⟩
theorem nmA_set {w:World}{S:Nat}{ns:List (List UInt8)}{A:Option Addr}(a b c:Value)(h:NmA w (fun g=>g < w.heap.size∧g≠S) ns A) :
 NmA (((w.setCell ⟨S,0,none⟩ a).setCell ⟨S,1,none⟩ b).setCell ⟨S,2,none⟩ c) (fun g=>g < (((w.setCell ⟨S,0,none⟩ a).setCell ⟨S,1,none⟩ b).setCell ⟨S,2,none⟩ c).heap.size∧g≠S) ns A:=fun h0=>by
 obtain⟨g,h1,h2,h3⟩:=h h0
 exact⟨g,h1,⟨by simpa[World.setCell] using h2.1,h2.2⟩,fun i y hy=>(Cb ((Below.heap_setCell _ _ _ _ h2.2).trans ((Below.heap_setCell _ _ _ _ h2.2).trans (Below.heap_setCell _ _ _ _ h2.2)))).trans (h3 i y hy)⟩
theorem und2_any (p:PG)(va vf:Value)(w:World)(ok:Nat→Prop)(h:RepQ w ok p va vf)(hok:∀ g,ok g→g < w.heap.size)(hs:szP p≤1000000) :
 Calls Tryz.prog 46 #[.agg #[va,vf]] w (RetN (.bool (undB p)) w):=by
 have hpP:=h.p
 obtain⟨A,c,rfl,_⟩:=h.1.at
 obtain⟨A',c',rfl,_⟩:=h.2.at
 unfold szP at hs
 have l2:=sumL_len szF p.funcs
 have l1:=sumL_len (fun a:List UInt8 × Int=>a.1.length) p.arrays
 have hnal:(anN p).length=p.arrays.length:=by simp[anN]
 have hnfl:(fnN p).length=p.funcs.length:=by simp[fnN]
 have hna:(anN p).length≤1000000:=by omega
 have hnf:(fnN p).length≤1000000:=by omega
 obtain⟨LA,hLA⟩:∃ n,(anN p).length=n:=⟨_,rfl⟩
 obtain⟨LF,hLF⟩:∃ n,(fnN p).length=n:=⟨_,rfl⟩
 obtain⟨n1,hn1⟩:∃ n,p.arrays.length=n:=⟨_,rfl⟩
 obtain⟨n2,hn2⟩:∃ n,p.funcs.length=n:=⟨_,rfl⟩
 obtain⟨W1,hW1⟩:∃ W1,w.alloc (.cells #[.slice A n1 c,.slice A' n2 c'] 26)=W1:=⟨_,rfl⟩
 have hb1:Below w.heap.size w W1:=by rw[←hW1];exact (Below.refl _ _).alloc (Lr _) _
 have k1:Blk W1 w.heap.size 26 #[.slice A n1 c,.slice A' n2 c']:=by rw[←hW1];exact Blk.new _ _ _
 have ha:=fun W (hW:Below w.heap.size w W)=>arrN2_any p _ _ W ok (hpP.keep (fun _ h=>h) (fun x hx=>hW.block x (hok x hx))) (fun g hg=>Ll (hok g hg) hW.size) (by omega)
 have hf:=fun W (hW:Below w.heap.size w W)=>fnN_any p _ _ W ok (hpP.keep (fun _ h=>h) (fun x hx=>hW.block x (hok x hx))) (fun g hg=>Ll (hok g hg) hW.size) (by omega)
 unfold NzP at ha
 unfold NsP at hf
 rw[hLA] at ha
 rw[hLF] at hf
 have hcf:=fun W S AA cA AF cF (hW:Below w.heap.size w W) (hS1:w.heap.size≤S) (kS:ScG S AA (anN p).length cA AF (fnN p).length cF W) (nA:NmA W (fun g=>g < W.heap.size∧g≠S) (anN p) AA) (nF:NmA W (fun g=>g < W.heap.size∧g≠S) (fnN p) AF)=>contains_F keepsG onesG p.funcs _ W ok (h.keep (fun _ h=>h) (fun x hx=>hW.block x (hok x hx))).2 (by omega)
  (fun f=>!f.body.all (allS (dfS (anN p) (fnN p) (f.params++f.locals)))||!allE (dfN (anN p) (f.params++f.locals)) f.value) (some S) 81 #[] #[.pointer (some ⟨S,0,none⟩)] (enters_of Tryz.func81 (by kernel_rfl) rfl)
  (fun _ W'=>Kp (some S) W W'∧ScG S AA (anN p).length cA AF (fnN p).length cF W') ⟨fun _ _ h b hb=>by injection hb with hb;obtain⟨_,_,_,h⟩:=h.2;rw[←hb];exact h.lt,fun _ _ _ h hb=>⟨kp_to h.1 (kp_below hb _),by obtain⟨a,b,c,h⟩:=h.2;exact⟨a,b,c,h.on hb h.lt⟩⟩,fun _ _ _ h _=>h,
   fun _ _ hI b hb=>⟨Ll (hok b hb) (Nat.le_trans hW.size hI.1.size),hI.1.block b (Ll (hok b hb) hW.size) (fun e=>by injection e with e;have:=hok b hb;omega)⟩⟩ (fun _=>0) (fun i x hx cs W' d _ hI hr=>by
   rw[app_l]
   have hsx:=zA6 szF p.funcs i x hx
   have hkw:∀ g,g < W.heap.size∧g≠S→W'.heap[g]?=W.heap[g]?:=fun g hg=>hI.1.block g hg.1 (fun e=>by injection e with e;exact hg.2 e)
   exact (und2_cl (anN p) (fnN p) AA cA AF cF S hna hnf x cs W' (fun g=>g < W.heap.size∧g≠S) (keepsG.k hr (fun g hg=>⟨Ll (hok g hg) hW.size,by have:=hok g hg;omega⟩) (fun _ _=>rfl)) (fun g hg=>⟨Ll hg.1 hI.1.size,hg.2⟩) (nA.keep hkw) (nF.keep hkw) hI.2 (by omega)).mono fun _ _ k=>⟨k.1,⟨kp_to hI.1 k.2.1,k.2.2⟩,k.2.1⟩) 0 (by rw[zB3];omega) W ⟨grown_id _ _,kS⟩
 rw[hLA,hLF] at hcf
 obtain⟨q,hq⟩:∃ q,undB p=q:=⟨_,rfl⟩
 rw[hq]
 unfold undB at hq
 rw[hn1,hn2] at ha hf
 rw[hn2,hq] at hcf
 rw[hn1,hn2]
 have hz1:W1.heap.size=w.heap.size+1:=by rw[←hW1];simp
 have hcell:∀ W w' (u:Value) (i:Nat),Below w.heap.size w W→w.heap.size < W.heap.size→Below W.heap.size W w'→W.cell? ⟨w.heap.size,i,none⟩=some u→w'.cell? ⟨w.heap.size,i,none⟩=some u:=fun W w' u i _ h2 h3 h4=>(Cb (h3.block _ h2)).trans h4
 have HA:Hid (∀ W,Below w.heap.size w W→w.heap.size < W.heap.size→W.cell? ⟨w.heap.size,0,none⟩=some (.slice A n1 c)→W.cell? ⟨w.heap.size,1,none⟩=some (.slice A' n2 c') →
  Calls Tryz.prog 76 #[.agg #[.slice A n1 c,.slice A' n2 c']] W fun e w'=>∃ AA cA,e=.returned (.slice AA LA cA)∧Hid (NmA w' (Rg W.heap.size w'.heap.size) (anN p) AA)∧Below w.heap.size w w'∧w.heap.size < w'.heap.size∧w'.cell? ⟨w.heap.size,0,none⟩=some (.slice A n1 c)∧w'.cell? ⟨w.heap.size,1,none⟩=some (.slice A' n2 c')∧Below W.heap.size W w') :=
  fun W h1 h2 h3 h4=>(ha W h1).mono fun _ _ k=>by
   obtain⟨AA,cA,he,_,hn,hb⟩:=k
   exact⟨AA,cA,he,nmA_of hn.1,h1.trans (below_down hb h1.size),Ll h2 hb.size,hcell W _ _ 0 h1 h2 hb h3,hcell W _ _ 1 h1 h2 hb h4,hb⟩
 have HF:Hid (∀ W,Below w.heap.size w W→w.heap.size < W.heap.size→W.cell? ⟨w.heap.size,0,none⟩=some (.slice A n1 c)→W.cell? ⟨w.heap.size,1,none⟩=some (.slice A' n2 c') →
  Calls Tryz.prog 78 #[.agg #[.slice A n1 c,.slice A' n2 c']] W fun e w'=>∃ AF cF,e=.returned (.slice AF LF cF)∧Hid (NmA w' (Rg W.heap.size w'.heap.size) (fnN p) AF)∧Below w.heap.size w w'∧w.heap.size < w'.heap.size∧w'.cell? ⟨w.heap.size,0,none⟩=some (.slice A n1 c)∧w'.cell? ⟨w.heap.size,1,none⟩=some (.slice A' n2 c')∧Below W.heap.size W w') :=
  fun W h1 h2 h3 h4=>(hf W h1).mono fun _ _ k=>by
   obtain⟨AF,cF,he,_,hn,hb⟩:=k
   exact⟨AF,cF,he,nmA_of hn,h1.trans (below_down hb h1.size),Ll h2 hb.size,hcell W _ _ 0 h1 h2 hb h3,hcell W _ _ 1 h1 h2 hb h4,hb⟩
 have HCF:=Hd hcf
 have HB:=Hd (Ai hb1 (Ai k1 (Ai hz1 hW1)))
 obtain⟨x0,x1,_⟩:=k1.cells2
 have o0:=World.new_ne W1 _ x0
 have bW:Below w.heap.size w W1:=hb1
 have sW:w.heap.size < W1.heap.size:=by omega
 clear ha hf hcf hb1 k1 hW1 h hpP hs l1 l2 hn1 hn2 hq hok hz1 hcell hnal hnfl hna hnf hLA hLF
 go_enter Tryz.func46,Tryz.ntmps46
 go_wp2_with fail
 rw[HB.out.2.2.2]
 go_region_held3 (fun w'=>w'.cell? ⟨w.heap.size,0,none⟩=some (.slice A n1 c)∧w'.cell? ⟨w.heap.size,1,none⟩=some (.slice A' n2 c')) (go_keep)
  (first
    | (go_at_call 76;refine (HA.out _ ?_ ?_ ?_ ?_).mono ?_;(first | assumption | exact below_drewN bW 1 | exact sW | exact (below_drewN bW 1).alloc (Nat.le_of_lt sW) _ | (simp;omega) | (simp[*]) | exact Below.alloc (by assumption) (Nat.le_of_lt (by assumption)) _);(first | assumption | exact below_drewN bW 1 | exact sW | exact (below_drewN bW 1).alloc (Nat.le_of_lt sW) _ | (simp;omega) | (simp[*]) | exact Below.alloc (by assumption) (Nat.le_of_lt (by assumption)) _);(first | assumption | exact below_drewN bW 1 | exact sW | exact (below_drewN bW 1).alloc (Nat.le_of_lt sW) _ | (simp;omega) | (simp[*]) | exact Below.alloc (by assumption) (Nat.le_of_lt (by assumption)) _);(first | assumption | exact below_drewN bW 1 | exact sW | exact (below_drewN bW 1).alloc (Nat.le_of_lt sW) _ | (simp;omega) | (simp[*]) | exact Below.alloc (by assumption) (Nat.le_of_lt (by assumption)) _);(rintro e w2 ⟨AA,cA,rfl,hnA,b2,s2,c20,c21,d2⟩;have ne2:=Nat.ne_of_gt s2;have ne2':=Nat.ne_of_lt s2);(try (first | (have zS:Blk w2 W1.heap.size 154 #[.slice none 0 0,.slice none 0 0,.slice none 0 0]:=new3 (X:=W1) ⟨d2.os,d2.tape,d2.output,d2.size,d2.block⟩;obtain⟨p0,p1,p2,f0,f1,f2⟩:=zS.cells3) | (have zS:=new3 d2;obtain⟨p0,p1,p2,f0,f1,f2⟩:=zS.cells3)));(try (have zT:=zS.on d2 zS.lt;obtain⟨p0,p1,p2,f0,f1,f2⟩:=zT.cells3)))
    | (go_at_call 78;refine (HF.out _ ?_ ?_ ?_ ?_).mono ?_;(first | assumption | exact below_drewN bW 1 | exact sW | exact (below_drewN bW 1).alloc (Nat.le_of_lt sW) _ | (simp;omega) | (simp[*]) | exact Below.alloc (by assumption) (Nat.le_of_lt (by assumption)) _);(first | assumption | exact below_drewN bW 1 | exact sW | exact (below_drewN bW 1).alloc (Nat.le_of_lt sW) _ | (simp;omega) | (simp[*]) | exact Below.alloc (by assumption) (Nat.le_of_lt (by assumption)) _);(first | assumption | exact below_drewN bW 1 | exact sW | exact (below_drewN bW 1).alloc (Nat.le_of_lt sW) _ | (simp;omega) | (simp[*]) | exact Below.alloc (by assumption) (Nat.le_of_lt (by assumption)) _);(first | assumption | exact below_drewN bW 1 | exact sW | exact (below_drewN bW 1).alloc (Nat.le_of_lt sW) _ | (simp;omega) | (simp[*]) | exact Below.alloc (by assumption) (Nat.le_of_lt (by assumption)) _);(rintro e w3 ⟨AF,cF,rfl,hnF,b3,s3,c30,c31,d3⟩;have ne3:=Nat.ne_of_gt s3;have ne3':=Nat.ne_of_lt s3);(try (first | (have zS:Blk w3 W1.heap.size 154 #[.slice none 0 0,.slice none 0 0,.slice none 0 0]:=new3 (X:=W1) ⟨d3.os,d3.tape,d3.output,d3.size,d3.block⟩;obtain⟨p0,p1,p2,f0,f1,f2⟩:=zS.cells3) | (have zS:=new3 d3;obtain⟨p0,p1,p2,f0,f1,f2⟩:=zS.cells3)));(try (have zT:=zS.on d3 zS.lt;obtain⟨p0,p1,p2,f0,f1,f2⟩:=zT.cells3))))
 ·have hW:Below w.heap.size w (w3.alloc (.cells #[.slice AA LA cA,.slice AF LF cF,.slice none 0 0] 154)):=b3.alloc (Nat.le_of_lt s3) _
  have kS:Blk (w3.alloc (.cells #[.slice AA LA cA,.slice AF LF cF,.slice none 0 0] 154)) (w3.heap.size) 154 #[.slice AA LA cA,.slice AF LF cF,.slice none 0 0]:=Blk.new _ _ _
  have hx1:(w3.alloc (.cells #[.slice AA LA cA,.slice AF LF cF,.slice none 0 0] 154)).cell? ⟨w.heap.size,1,none⟩=some (.slice A' n2 c'):=by
   simp[*]
  have hup:∀ g,g < w2.heap.size→w3.heap[g]?=w2.heap[g]?:=up_of (by first | exact Below.refl _ _ | exact (Below.refl _ _).alloc (Lr _) _ | exact below_dr (Below.refl _ _) | exact below_dr ((Below.refl _ _).alloc (Lr _) _)) d3
  have hsz23:w2.heap.size≤w3.heap.size:=Nat.le_trans (by first | exact Lr _ | (simp;done)) d3.size
  have nA3:NmA w3 (fun g=>g < w3.heap.size∧g≠w3.heap.size) (anN p) AA:=fun h0=>by
   obtain⟨g,h1,h2,h3⟩:=hnA.out h0
   have h4:=h2.1
   have h5:=h2.2
   have h6:=d2.size
   try simp at h4
   try simp at h6
   exact⟨g,h1,⟨by omega,by omega⟩,fun i y hy=>(Cb (hup g h5)).trans (h3 i y hy)⟩
  have nF3:NmA w3 (fun g=>g < w3.heap.size∧g≠w3.heap.size) (fnN p) AF:=fun h0=>by
   obtain⟨g,h1,h2,h3⟩:=hnF.out h0
   have h4:=h2.1
   have h5:=h2.2
   have h6:=d2.size
   try simp at h4
   try simp at h6
   exact⟨g,h1,⟨by omega,by omega⟩,h3⟩
  have hS:w.heap.size≤w3.heap.size:=by omega
  have HW:=Hd (Ai hW hS)
  have HK:=Hd (HCF.out _ (w3.heap.size) AA cA AF cF hW hS ⟨_,_,_,kS⟩ (nmA_al _ nA3) (nmA_al _ nF3))
  have hlS:w3.heap.size < (w3.alloc (.cells #[.slice AA LA cA,.slice AF LF cF,.slice none 0 0] 154)).heap.size:=kS.lt
  clear hW kS hS nA3 nF3 hup hsz23 hnA hnF
  generalize w3.alloc (.cells #[.slice AA LA cA,.slice AF LF cF,.slice none 0 0] 154)=W at *
  go_wp2_with fail
  refine HK.out.mono ?_
  rintro e w6 ⟨rfl,_,hk⟩
  have H6:=Hd (HW.out.1.trans (kp_under hk (fun y hy=>by injection hy with hy;have:=HW.out.2;omega) HW.out.1.size))
  clear hk
  go_wp2_with fail
  go_ret
  exact retN rfl H6.out
 ·have hW:Below w.heap.size w (((w3.setCell ⟨w2.heap.size,0,none⟩ (.slice AA LA cA)).setCell ⟨w2.heap.size,1,none⟩ (.slice AF LF cF)).setCell ⟨w2.heap.size,2,none⟩ (.slice none 0 0)):=((b3.setCell (p:=⟨w2.heap.size,0,none⟩) (Nat.le_of_lt s2) _).setCell (p:=⟨w2.heap.size,1,none⟩) (Nat.le_of_lt s2) _).setCell (p:=⟨w2.heap.size,2,none⟩) (Nat.le_of_lt s2) _
  have kS:Blk (((w3.setCell ⟨w2.heap.size,0,none⟩ (.slice AA LA cA)).setCell ⟨w2.heap.size,1,none⟩ (.slice AF LF cF)).setCell ⟨w2.heap.size,2,none⟩ (.slice none 0 0)) (w2.heap.size) 154 #[.slice AA LA cA,.slice AF LF cF,.slice none 0 0]:=((zS.set 0 _).set 1 _).set 2 _
  have hx1:(((w3.setCell ⟨w2.heap.size,0,none⟩ (.slice AA LA cA)).setCell ⟨w2.heap.size,1,none⟩ (.slice AF LF cF)).setCell ⟨w2.heap.size,2,none⟩ (.slice none 0 0)).cell? ⟨w.heap.size,1,none⟩=some (.slice A' n2 c'):=by
   simp[*]
  have hup:∀ g,g < w2.heap.size→w3.heap[g]?=w2.heap[g]?:=up_of (by first | exact Below.refl _ _ | exact (Below.refl _ _).alloc (Lr _) _ | exact below_dr (Below.refl _ _) | exact below_dr ((Below.refl _ _).alloc (Lr _) _)) d3
  have hsz23:w2.heap.size≤w3.heap.size:=Nat.le_trans (by first | exact Lr _ | (simp;done)) d3.size
  have nA3:NmA w3 (fun g=>g < w3.heap.size∧g≠w2.heap.size) (anN p) AA:=fun h0=>by
   obtain⟨g,h1,h2,h3⟩:=hnA.out h0
   have h4:=h2.1
   have h5:=h2.2
   have h6:=d2.size
   try simp at h4
   try simp at h6
   exact⟨g,h1,⟨by omega,by omega⟩,fun i y hy=>(Cb (hup g h5)).trans (h3 i y hy)⟩
  have nF3:NmA w3 (fun g=>g < w3.heap.size∧g≠w2.heap.size) (fnN p) AF:=fun h0=>by
   obtain⟨g,h1,h2,h3⟩:=hnF.out h0
   have h4:=h2.1
   have h5:=h2.2
   have h6:=d2.size
   try simp at h4
   try simp at h6
   exact⟨g,h1,⟨by omega,by omega⟩,h3⟩
  have hS:w.heap.size≤w2.heap.size:=by omega
  have HW:=Hd (Ai hW hS)
  have HK:=Hd (HCF.out _ (w2.heap.size) AA cA AF cF hW hS ⟨_,_,_,kS⟩ (nmA_set _ _ _ nA3) (nmA_set _ _ _ nF3))
  have hlS:w2.heap.size < (((w3.setCell ⟨w2.heap.size,0,none⟩ (.slice AA LA cA)).setCell ⟨w2.heap.size,1,none⟩ (.slice AF LF cF)).setCell ⟨w2.heap.size,2,none⟩ (.slice none 0 0)).heap.size:=kS.lt
  clear hW kS hS nA3 nF3 hup hsz23 hnA hnF
  generalize ((w3.setCell ⟨w2.heap.size,0,none⟩ (.slice AA LA cA)).setCell ⟨w2.heap.size,1,none⟩ (.slice AF LF cF)).setCell ⟨w2.heap.size,2,none⟩ (.slice none 0 0)=W at *
  go_wp2_with fail
  refine HK.out.mono ?_
  rintro e w6 ⟨rfl,_,hk⟩
  have H6:=Hd (HW.out.1.trans (kp_under hk (fun y hy=>by injection hy with hy;have:=HW.out.2;omega) HW.out.1.size))
  clear hk
  go_wp2_with fail
  go_ret
  exact retN rfl H6.out
 ·have hW:Below w.heap.size w (((w3.setCell ⟨W1.heap.size,0,none⟩ (.slice AA LA cA)).setCell ⟨W1.heap.size,1,none⟩ (.slice AF LF cF)).setCell ⟨W1.heap.size,2,none⟩ (.slice none 0 0)):=((b3.setCell (p:=⟨W1.heap.size,0,none⟩) (Nat.le_of_lt sW) _).setCell (p:=⟨W1.heap.size,1,none⟩) (Nat.le_of_lt sW) _).setCell (p:=⟨W1.heap.size,2,none⟩) (Nat.le_of_lt sW) _
  have kS:Blk (((w3.setCell ⟨W1.heap.size,0,none⟩ (.slice AA LA cA)).setCell ⟨W1.heap.size,1,none⟩ (.slice AF LF cF)).setCell ⟨W1.heap.size,2,none⟩ (.slice none 0 0)) (W1.heap.size) 154 #[.slice AA LA cA,.slice AF LF cF,.slice none 0 0]:=((zT.set 0 _).set 1 _).set 2 _
  have hx1:(((w3.setCell ⟨W1.heap.size,0,none⟩ (.slice AA LA cA)).setCell ⟨W1.heap.size,1,none⟩ (.slice AF LF cF)).setCell ⟨W1.heap.size,2,none⟩ (.slice none 0 0)).cell? ⟨w.heap.size,1,none⟩=some (.slice A' n2 c'):=by
   simp[*]
  have hup:∀ g,g < w2.heap.size→w3.heap[g]?=w2.heap[g]?:=up_of (by first | exact Below.refl _ _ | exact (Below.refl _ _).alloc (Lr _) _ | exact below_dr (Below.refl _ _) | exact below_dr ((Below.refl _ _).alloc (Lr _) _)) d3
  have hsz23:w2.heap.size≤w3.heap.size:=Nat.le_trans (by first | exact Lr _ | (simp;done)) d3.size
  have nA3:NmA w3 (fun g=>g < w3.heap.size∧g≠W1.heap.size) (anN p) AA:=fun h0=>by
   obtain⟨g,h1,h2,h3⟩:=hnA.out h0
   have h4:=h2.1
   have h5:=h2.2
   have h6:=d2.size
   try simp at h4
   try simp at h6
   exact⟨g,h1,⟨by omega,by omega⟩,fun i y hy=>(Cb (hup g h5)).trans (h3 i y hy)⟩
  have nF3:NmA w3 (fun g=>g < w3.heap.size∧g≠W1.heap.size) (fnN p) AF:=fun h0=>by
   obtain⟨g,h1,h2,h3⟩:=hnF.out h0
   have h4:=h2.1
   have h5:=h2.2
   have h6:=d2.size
   try simp at h4
   try simp at h6
   exact⟨g,h1,⟨by omega,by omega⟩,h3⟩
  have hS:w.heap.size≤W1.heap.size:=by omega
  have HW:=Hd (Ai hW hS)
  have HK:=Hd (HCF.out _ (W1.heap.size) AA cA AF cF hW hS ⟨_,_,_,kS⟩ (nmA_set _ _ _ nA3) (nmA_set _ _ _ nF3))
  have hlS:W1.heap.size < (((w3.setCell ⟨W1.heap.size,0,none⟩ (.slice AA LA cA)).setCell ⟨W1.heap.size,1,none⟩ (.slice AF LF cF)).setCell ⟨W1.heap.size,2,none⟩ (.slice none 0 0)).heap.size:=kS.lt
  clear hW kS hS nA3 nF3 hup hsz23 hnA hnF
  generalize ((w3.setCell ⟨W1.heap.size,0,none⟩ (.slice AA LA cA)).setCell ⟨W1.heap.size,1,none⟩ (.slice AF LF cF)).setCell ⟨W1.heap.size,2,none⟩ (.slice none 0 0)=W at *
  go_wp2_with fail
  refine HK.out.mono ?_
  rintro e w6 ⟨rfl,_,hk⟩
  have H6:=Hd (HW.out.1.trans (kp_under hk (fun y hy=>by injection hy with hy;have:=HW.out.2;omega) HW.out.1.size))
  clear hk
  go_wp2_with fail
  go_ret
  exact retN rfl H6.out
end Go.Proofs.YtpgnlfdindmopaaGreatDoor
namespace Go.Proofs.YtpgnlfdindmopaaGreatDoor
open Go.RowKit (wrap64 intOf)
open Go Go.RowKit WM LX PX CX
set_option maxRecDepth 100000
set_option maxHeartbeats 4000000
end Go.Proofs.YtpgnlfdindmopaaGreatDoor
namespace Go.Proofs.YtpgnlfdindmopaaGreatDoor
open Go.RowKit (wrap64 intOf)
open Go Go.RowKit WM LX PX CX
set_option maxRecDepth 100000
set_option maxHeartbeats 4000000
def PMp (B c:Nat)(g:List UInt8→Int)(w:World):Prop :=
 ∃ (n:Nat) (D:DataW Unit),n≤c∧w.ownsMap Tryz.prog 9 (plainElem Tryz.prog 3) B n D∧Maps.IsMap D∧∀ x:List UInt8,D.atKey (.string x) (.lit (.int .i64 0))=.lit (.int .i64 (g x))
theorem PMp.lt {B c:Nat}{g:List UInt8→Int}{w:World}(h:PMp B c g w):B < w.heap.size:=by
 obtain⟨n,D,_,h,_⟩:=h
 exact h.lt
theorem PMp.kp {B c:Nat}{g:List UInt8→Int}{w w':World}(h:PMp B c g w)(hb:Kp none w w'):PMp B c g w':=by
 obtain⟨n,D,hn,h,hm,hx⟩:=h
 exact⟨n,D,hn,h.kept hb (by simp),hm,hx⟩
theorem mapI:Tryz.prog.underlying 133=some (.map 9 3):=Tryz.underlying133
theorem look_pm {B c:Nat}{g:List UInt8→Int}{w:World}(h:PMp B c g w)(x:List UInt8)(hx:x.length≤1000000000) :
 (Instr.lookup 133 (.map (some B)) (.string ⟨x.toArray⟩) false).run Tryz.prog w=.ok (.int .i64 (g x)) w:=by
 obtain⟨n,D,hn,h,hm,hD⟩:=h
 obtain⟨v,hrun,hat,_⟩:=h.lookup_int lawS mapI Tryz.underlying3 (by kernel_rfl) (keyS x hx)
 rw[hD x] at hat
 injection hat with hat
 injection hat with _ hat
 rw[hrun,hat]
theorem put_pm {B c:Nat}{g:List UInt8→Int}{w:World}(h:PMp B c g w)(hc:c < maxLen)(x:List UInt8)(hx:x.length≤1000000000)(a:Int)(ha:(Lit.int .i64 a).wf=true) :
 ∃ w',(Instr.mapUpdate 133 (.map (some B)) (.string ⟨x.toArray⟩) (.int .i64 a)).run Tryz.prog w=.ok () w'∧PMp B (c+1) (fun y=>if x=y then a else g y) w'∧w.grownBy w' (some B):=by
 obtain⟨n,D,hn,h,hm,hD⟩:=h
 obtain⟨w',r1,r2,r3⟩:=h.update lawS mapI (by omega) (keyS x hx) (plainElem_int Tryz.underlying3 ha)
 refine⟨w',r1,⟨n+1,_,by omega,r2,hm.put _ _,fun y=>?_⟩,r3⟩
 show _=DataW.lit (Lit.int IntKind.i64 (if x=y then a else g y))
 by_cases hxy:x=y
 ·subst hxy
  rw[Maps.atKey_put_same hm (lawS.key (keyS x hx)),if_pos rfl]
 ·rw[Maps.atKey_put_other (fun e=>hxy (by injection e with e;exact e.symm)),if_neg hxy]
  exact hD y
theorem ar1_any (fs:List FN)(B n Pm:Nat)(s:ST)(hs:szS s≤1000000000)(cs:List Value)(w:World)(ok:Nat→Prop)(hr:RepS w ok s cs)(hP:PMp B n (parN fs) w)(hk:Blk w Pm 133 #[.map (some B)]) :
 Calls Tryz.prog 85 #[.agg cs.toArray,.pointer (some ⟨Pm,0,none⟩)] w (RetN (.bool (arS fs s)) w):=by
 cases s with
 | mk kd nm tn n' pos value args thn els =>
  obtain⟨k1,n1,x1,o1,A1,L1,c1,k2,n2,x2,o2,A2,L2,c2,A3,c3,A4,c4,A5,c5,hcs,_⟩:=zBo hr
  rw[szS_eq] at hs
  obtain⟨la,hla⟩:∃ la,args.length=la:=⟨_,rfl⟩
  obtain⟨sx,hsx⟩:∃ sx:ByteArray,(⟨tn.toArray⟩:ByteArray)=sx:=⟨_,rfl⟩
  have d0:cs[0]?=some (.int .i64 kd):=by rw[hcs];rfl
  have d2:cs[2]?=some (.string sx):=by rw[hcs,←hsx];rfl
  have d14:cs[14]?=some (.slice A3 la c3):=by rw[hcs,←hla];rfl
  clear hcs
  have hb1:Below w.heap.size w (w.alloc (.cells cs.toArray 40)):=(Below.refl _ _).alloc (Lr _) _
  have hrun:=look_pm (hP.kp (kp_below hb1 none)) tn (by omega)
  obtain⟨v,hv⟩:∃ v,parN fs tn=v:=⟨_,rfl⟩
  rw[hv,hsx] at hrun
  have har:arS fs (.mk kd nm tn n' pos value args thn els)=(decide (kd≠6)||decide ((la:Int)=v)):=by rw[←hla,←hv];rfl
  rw[har]
  have x0:w.cell? ⟨Pm,0,none⟩=some (.map (some B)):=hk.cell 0
  have hPl:=hk.lt
  have HB:=Hd hb1
  clear hb1 har hla hsx hv hr hP hk hs
  by_cases h6:kd=6
  ·subst h6
   go_enter Tryz.func85,Tryz.ntmps85
   go_wp2_with fail
   go_ret
   exact retN (by rw[beqI];simp) HB.out
  ·have e6:=neI h6
   go_enter Tryz.func85,Tryz.ntmps85
   go_wp2_with fail
   go_ret
   exact retN (by simp[h6]) HB.out
theorem ar2_any (fs:List FN)(B n Pm Q:Nat)(f:FN)(hs:szF f≤1000000000)(cs:List Value)(w:World)(ok:Nat→Prop)(hr:RepF w ok f cs)(hok:∀ g,ok g→g < w.heap.size)(hP:PMp B n (parN fs) w)(hk:Blk w Pm 133 #[.map (some B)])(hQ:Blk w Q 156 #[.func (.func 85) #[] #[.pointer (some ⟨Pm,0,none⟩)]]) :
 Calls Tryz.prog 86 #[.agg cs.toArray,.pointer (some ⟨Q,0,none⟩)] w (RetN (.bool (f.body.all (allS (arS fs)))) w):=by
 obtain⟨A1,c1,A2,c2,A3,c3,kd,nn,nm,op,A,L,c,hcs,r1,r2,r3,r4⟩:=fun_of hr
 have hz:szF f=1+f.name.length+sumL List.length f.params+sumL List.length f.locals+sumL szS f.body+szE f.value:=rfl
 obtain⟨W1,hW1⟩:∃ W1,w.alloc (.cells cs.toArray 38)=W1:=⟨_,rfl⟩
 have hb1:Below w.heap.size w W1:=by rw[←hW1];exact (Below.refl _ _).alloc (Lr _) _
 have hP1:=hP.kp (kp_below hb1 none)
 have hk1:=hk.on hb1 hk.lt
 have hev:=evL_any none 85 #[] #[.pointer (some ⟨Pm,0,none⟩)] (fun _=>Kp none W1) ok W1 (inv_kp none W1 (fun _ h=>by cases h) ok (fun b hb=>⟨Ll (hok b hb) hb1.size,by simp⟩)) (arS fs) (fun x hx cs' W c _ hI hr'=>by
  rw[app_l]
  exact (ar1_any fs B n Pm x hx cs' W ok hr' (hP1.kp hI) (hk1.kp hI (fun b hb=>by cases hb))).mono fun _ _ h=>ret_kp h hI)
  (enters_of Tryz.func85 (by kernel_rfl) rfl) f.body (by omega) _ W1 0 (r3.keep keepsS (fun _ h=>h) (fun g hg=>hb1.block g (hok g hg))) (by omega) (grown_id _ _)
 obtain⟨q,hq⟩:∃ q,f.body.all (allS (arS fs))=q:=⟨_,rfl⟩
 obtain⟨t3,ht3⟩:∃ t,Value.slice A3 f.body.length c3=t:=⟨_,rfl⟩
 have d3:cs[3]?=some t3:=by rw[hcs,←ht3];rfl
 rw[hq,ht3] at hev
 rw[hq]
 have x0:w.cell? ⟨Q,0,none⟩=some (.func (.func 85) #[] #[.pointer (some ⟨Pm,0,none⟩)]):=hQ.cell 0
 have hQl:=hQ.lt
 have HC:=Hd (Ai hev (Ai hb1 hW1))
 clear hev hb1 hW1 hP1 hk1 hr r1 r2 r3 r4 hok hP hk hQ hz hs hcs ht3 hq
 go_enter Tryz.func86,Tryz.ntmps86
 go_wp2_with fail
 rw[HC.out.2.2]
 refine HC.out.1.mono ?_
 rintro e w2 ⟨rfl,_,hk⟩
 have HK:=Hd (HC.out.2.1.trans (below_down (below_kp hk) HC.out.2.1.size))
 clear hk
 go_wp2_with fail
 go_ret
 exact retN rfl HK.out
end Go.Proofs.YtpgnlfdindmopaaGreatDoor
namespace Go.Proofs.YtpgnlfdindmopaaGreatDoor
open Go.RowKit (wrap64 intOf)
open Go Go.RowKit WM LX PX CX
set_option maxRecDepth 100000
set_option maxHeartbeats 4000000
def ArR (fs:List FN)(len:Nat)(S:Nat)(W1:World)(k:Nat)(i:Value)(wr:World):Prop :=
 ∃ j:Nat,j+k=len∧i=.int .i64 (j:Int)∧Hid (PMp (S+1) j (parN (fs.take j)) wr)∧Hid (Kp (some (S+1)) W1 wr)
theorem parN_snoc (l:List FN)(f:FN)(x:List UInt8):parN (l++[f]) x=(if f.name=x then (f.params.length:Int) else parN l x):=by
 unfold parN
 rw[List.foldl_append]
 rfl
theorem PMp.eq {B c:Nat}{g g':List UInt8→Int}{w:World}(h:PMp B c g w)(hg:∀ x,g x=g' x):PMp B c g' w:=by
 obtain⟨n,D,hn,h,hm,hx⟩:=h
 exact⟨n,D,hn,h,hm,fun x=>by rw[hx x,hg x]⟩
theorem take_nx {α:Type}{l:List α}{j:Nat}{x:α}(h:l[j]?=some x):l.take (j+1)=l.take j++[x]:=by
 obtain⟨hj,rfl⟩:=Gs.1 h
 exact List.take_succ_eq_append_getElem hj
theorem pm_made (w:World):PMp w.heap.size 0 (fun _=>0) (w.alloc (.map #[] 0)) :=
 ⟨0,.map [],Lr _,World.ownsMap_made w _ _ _,Maps.isMap_empty,fun _=>rfl⟩
theorem ari2_all (p:PG)(va vf:Value)(w:World)(ok:Nat→Prop)(h:RepP w ok p va vf)(hok:∀ g,ok g→g < w.heap.size)(hs:szP p≤1000000000) :
 Calls Tryz.prog 47 #[.agg #[va,vf]] w (RetN (.bool (ariB p)) w):=by
 obtain⟨A,c,rfl,_⟩:=h.1.at
 obtain⟨A',c',rfl,hat⟩:=h.2.at
 unfold szP at hs
 have l2:=sumL_len szF p.funcs
 obtain⟨n1,hn1⟩:∃ n,p.arrays.length=n:=⟨_,rfl⟩
 obtain⟨len,hlen⟩:∃ n,p.funcs.length=n:=⟨_,rfl⟩
 obtain⟨W1,hW1⟩:∃ W1,((w.alloc (.cells #[.slice A n1 c,.slice A' len c'] 26)).alloc (.map #[] 0)).alloc (.cells #[.map (some (w.heap.size+1))] 133)=W1:=⟨_,rfl⟩
 have hb0:Below w.heap.size w ((w.alloc (.cells #[.slice A n1 c,.slice A' len c'] 26)).alloc (.map #[] 0)):=((Below.refl _ _).alloc (Lr _) _).alloc (by simp) _
 have hb1:Below w.heap.size w W1:=by rw[←hW1];exact hb0.alloc (by simp;omega) _
 have k1:Blk W1 w.heap.size 26 #[.slice A n1 c,.slice A' len c']:=by rw[←hW1];exact ((Blk.new _ _ _).alloc _).alloc _
 have k2:Blk W1 (w.heap.size+1+1) 133 #[.map (some (w.heap.size+1))]:=by rw[←hW1];exact blk_at (by simp) _ _
 have hz1:W1.heap.size=w.heap.size+1+1+1:=by rw[←hW1];simp
 have hp0:PMp (w.heap.size+1) 0 (parN (p.funcs.take 0)) W1:=by
  have h0:=pm_made (w.alloc (.cells #[.slice A n1 c,.slice A' len c'] 26))
  rw[show (w.alloc (.cells #[.slice A n1 c,.slice A' len c'] 26)).heap.size=w.heap.size+1 by simp] at h0
  have h1:=h0.kp (kp_below ((Below.refl _ _).alloc (Lr _) (.cells #[.map (some (w.heap.size+1))] 133)) none)
  rw[hW1] at h1
  exact h1.eq fun x=>rfl
 have hcf:=fun W Q (hW:Below w.heap.size w W) (hp:PMp (w.heap.size+1) len (parN p.funcs) W) (kk:Blk W (w.heap.size+1+1) 133 #[.map (some (w.heap.size+1))]) (kQ:Blk W Q 156 #[.func (.func 85) #[] #[.pointer (some ⟨w.heap.size+1+1,0,none⟩)]]) =>
  every_F keepsF onesF p.funcs _ W ok (h.keep (w':=W) (fun _ h=>h) (fun x hx=>hW.block x (hok x hx))).2 (by omega) (fun f=>f.body.all (allS (arS p.funcs))) none 86 #[] #[.pointer (some ⟨Q,0,none⟩)] (enters_of Tryz.func86 (by kernel_rfl) rfl)
   (fun _=>Kp none W) (inv_kp none W (fun _ h=>by cases h) ok (fun b hb=>⟨Ll (hok b hb) hW.size,by simp⟩)) (fun _=>0) (fun i x hx cs' W' c _ hI hr'=>by
    rw[app_l]
    have hsx:=zA6 szF p.funcs i x hx
    exact (ar2_any p.funcs (w.heap.size+1) len (w.heap.size+1+1) Q x (by omega) cs' W' ok hr' (fun g hg=>Ll (hok g hg) (Nat.le_trans hW.size hI.size)) (hp.kp hI) (kk.kp hI (fun b hb=>by cases hb)) (kQ.kp hI (fun b hb=>by cases hb))).mono fun _ _ h=>ret_kp h hI) 0 (by rw[zB3];omega) W (grown_id _ _)
 obtain⟨q,hq⟩:∃ q,(p.funcs.all fun f=>f.body.all (allS (arS p.funcs)))=q:=⟨_,rfl⟩
 have har:ariB p=!q:=by rw[←hq];rfl
 rw[har,hn1]
 rw[hlen,hq] at hcf
 rw[hlen]
 have hll:len≤1000000000:=by omega
 have hsz:∀ (j:Nat) (f:FN),p.funcs[j]?=some f→f.name.length≤1000000000∧f.params.length≤1000000000:=fun j f hf=>by
  have h1:=zA6 szF p.funcs j f hf
  have h2:szF f=1+f.name.length+sumL List.length f.params+sumL List.length f.locals+sumL szS f.body+szE f.value:=rfl
  have h3:=sumL_len List.length f.params
  omega
 have H:=Hd (Ai hat (Ai hok (Ai hlen hsz)))
 have HCF:=Hd hcf
 have HB:=Hd (Ai hb1 (Ai k1 (Ai k2 (Ai hz1 hW1))))
 have HP0:=Hd hp0
 have hmm:=@run_makeMap Tryz.prog
 clear hcf hat h hok hb0 hb1 k1 k2 hz1 hW1 hp0 hs l2 hn1 hq har hsz hlen
 go_enter Tryz.func47,Tryz.ntmps47
 go_wp2_with fail
 rw[HB.out.2.2.2.2]
 go_loopg [11] len (fun k i wr=>ArR p.funcs len w.heap.size W1 k i wr)
 case atStart=>exact⟨0,Nat.zero_add _,rfl,HP0,Hd (grown_id _ _)⟩
 case round =>
  obtain⟨j,hj,rfl,HP,HK⟩:=hrel
  have hb1s:=HB.out.1.size
  have hz1:=HB.out.2.2.2.1
  have hws:=HK.out.size
  by_cases hlt:j < len
  ·obtain⟨x,hx⟩:∃ x,p.funcs[j]?=some x:=⟨_,Ge (by rw[H.out.2.2.1];exact hlt)⟩
   obtain⟨g,cs,rfl,hg,hrep,hcell⟩:=H.out.1 j x hx
   have hgw:=H.out.2.1 g hg
   have hwk:wr.heap[g]?=w.heap[g]?:=(HK.out.block g (Ll hgw hb1s) (fun e=>by injection e with e;omega)).trans (HB.out.1.block g hgw)
   obtain⟨A1,c1,A2,c2,A3,c3,kd,nn,nm,op,A0,L0,c0,rfl,_⟩:=fun_of hrep
   obtain⟨m1,m2⟩:=H.out.2.2.2 j x hx
   obtain⟨l1,hl1⟩:∃ n,x.params.length=n:=⟨_,rfl⟩
   obtain⟨l2,hl2⟩:∃ n,x.locals.length=n:=⟨_,rfl⟩
   obtain⟨l3,hl3⟩:∃ n,x.body.length=n:=⟨_,rfl⟩
   obtain⟨sx,hsx⟩:∃ sx:ByteArray,(⟨x.name.toArray⟩:ByteArray)=sx:=⟨_,rfl⟩
   rw[hl1,hl2,hl3,hsx] at hcell
   rw[hl1] at m2
   have hc:=fun i u hu=>(Cb hwk).trans (hcell i u hu)
   have z0:wr.cell? ⟨g,j * 9,none⟩=some (.string sx):=hc 0 _ rfl
   have z1:wr.cell? ⟨g,j * 9+1,none⟩=some (.slice A1 l1 c1):=hc 1 _ rfl
   have z2:wr.cell? ⟨g,j * 9+2,none⟩=some (.slice A2 l2 c2):=hc 2 _ rfl
   have z3:wr.cell? ⟨g,j * 9+3,none⟩=some (.slice A3 l3 c3):=hc 3 _ rfl
   have z4:wr.cell? ⟨g,j * 9+4,none⟩=some (.int .i64 kd):=hc 4 _ rfl
   have z5:wr.cell? ⟨g,j * 9+5,none⟩=some (.int .i64 nn):=hc 5 _ rfl
   have z6:wr.cell? ⟨g,j * 9+6,none⟩=some (.string ⟨nm.toArray⟩):=hc 6 _ rfl
   have z7:wr.cell? ⟨g,j * 9+7,none⟩=some (.int .i64 op):=hc 7 _ rfl
   have z8:wr.cell? ⟨g,j * 9+8,none⟩=some (.slice A0 L0 c0):=hc 8 _ rfl
   have kk:Blk wr (w.heap.size+1+1) 133 #[.map (some (w.heap.size+1))]:=HB.out.2.2.1.kp HK.out (fun b hb=>by injection hb with hb;omega)
   have y0:wr.cell? ⟨w.heap.size+1+1,0,none⟩=some (.map (some (w.heap.size+1))):=kk.cell 0
   have hgr:g < wr.heap.size:=by omega
   have hpr:w.heap.size+1+1 < wr.heap.size:=kk.lt
   have e1:(j:Int) < (len:Int):=by omega
   obtain⟨wa,hwa⟩:∃ wa,wr.alloc (.cells #[.string sx,.slice A1 l1 c1,.slice A2 l2 c2,.slice A3 l3 c3,.int .i64 kd,.int .i64 nn,.string ⟨nm.toArray⟩,.int .i64 op,.slice A0 L0 c0] 38)=wa:=⟨_,rfl⟩
   have hba:Below wr.heap.size wr wa:=by rw[←hwa];exact (Below.refl _ _).alloc (Lr _) _
   obtain⟨w4,r1,r2,r3⟩:=put_pm (HP.out.kp (kp_below hba none)) (by unfold maxLen;omega) x.name m1 (l1:Int) (by simp[Lit.wf,IntKind.min,IntKind.max,IntKind.signed,IntKind.bits];omega)
   rw[hsx,←hwa] at r1
   have hr2:PMp (w.heap.size+1) (j+1) (parN (p.funcs.take (j+1))) w4:=r2.eq fun y=>by rw[take_nx hx,parN_snoc,hl1]
   have hr3:Kp (some (w.heap.size+1)) W1 w4:=kp_to HK.out (kp_to (kp_below hba _) r3)
   have H4:=Hd (Ai hr2 hr3)
   clear hx hcell hc hwk hg hrep hl1 hl2 hl3 hsx m1 m2 hba hwa r2 r3 hr2 hr3 kk
   go_wp2_with fail
   go_roundg (gk - 1)
   case measure=>omega
   case rel=>exact⟨j+1,by omega,by go_num,Hd H4.out.1,Hd H4.out.2⟩
  ·obtain rfl:j=len:=by omega
   have hall:p.funcs.take j=p.funcs:=List.take_of_length_le (by rw[H.out.2.2.1];exact Lr _)
   have hpf:=HP.out
   rw[hall] at hpf
   obtain⟨V,hV⟩:∃ V,wr.alloc (.cells #[.func (.func 85) #[] #[.pointer (some ⟨w.heap.size+1+1,0,none⟩)]] 156)=V:=⟨_,rfl⟩
   have hbV:Below wr.heap.size wr V:=by rw[←hV];exact (Below.refl _ _).alloc (Lr _) _
   have kV:Blk V wr.heap.size 156 #[.func (.func 85) #[] #[.pointer (some ⟨w.heap.size+1+1,0,none⟩)]]:=by rw[←hV];exact Blk.new _ _ _
   have hwV:Below w.heap.size w V:=(HB.out.1.trans (kp_under HK.out (fun y hy=>by injection hy with hy;omega) hb1s)).trans (below_down hbV (by omega))
   have kk:Blk wr (w.heap.size+1+1) 133 #[.map (some (w.heap.size+1))]:=HB.out.2.2.1.kp HK.out (fun b hb=>by injection hb with hb;omega)
   have kp1:Blk wr w.heap.size 26 #[.slice A n1 c,.slice A' j c']:=HB.out.2.1.kp HK.out (fun b hb=>by injection hb with hb;omega)
   have hcall:=HCF.out V wr.heap.size hwV (hpf.kp (kp_below hbV none)) (kk.on hbV kk.lt) kV
   have y1:wr.cell? ⟨w.heap.size,1,none⟩=some (.slice A' j c'):=kp1.cell 1
   have hpr:w.heap.size < wr.heap.size:=kp1.lt
   have HC:=Hd (Ai hcall (Ai hwV hV))
   clear hcall hwV hV kV hbV kk kp1 hpf hall
   go_wp2_with fail
   rw[HC.out.2.2]
   refine HC.out.1.mono ?_
   rintro e w2 ⟨rfl,_,hk⟩
   have HKK:=Hd (HC.out.2.1.trans (below_down (below_kp hk) HC.out.2.1.size))
   clear hk
   go_wp2_with fail
   go_ret
   exact retN rfl HKK.out
end Go.Proofs.YtpgnlfdindmopaaGreatDoor
namespace Go.Proofs.YtpgnlfdindmopaaGreatDoor
open Go.RowKit (wrap64 intOf)
open Go Go.RowKit WM LX PX CX
set_option maxRecDepth 100000
set_option maxHeartbeats 4000000
theorem chk2_any (p:PG)(va vf:Value)(w:World)(ok:Nat→Prop)(h:RepQ w ok p va vf)(hok:∀ g,ok g→g < w.heap.size)(hs:szP p≤1000000)(he:PEnv w) :
 Calls Tryz.prog 23 #[.agg #[va,vf]] w (RetN (.int .i64 (chkF p:Int)) w):=by
 have hpP:=h.p
 obtain⟨A,c,rfl,_⟩:=h.1.at
 obtain⟨A',c',rfl,_⟩:=h.2.at
 obtain⟨n1,hn1⟩:∃ n,p.arrays.length=n:=⟨_,rfl⟩
 obtain⟨n2,hn2⟩:∃ n,p.funcs.length=n:=⟨_,rfl⟩
 obtain⟨W1,hW1⟩:∃ W1,w.alloc (.cells #[.slice A n1 c,.slice A' n2 c'] 26)=W1:=⟨_,rfl⟩
 have hb1:Below w.heap.size w W1:=by rw[←hW1];exact (Below.refl _ _).alloc (Lr _) _
 have k1:Blk W1 w.heap.size 26 #[.slice A n1 c,.slice A' n2 c']:=by rw[←hW1];exact Blk.new _ _ _
 have hokW:∀ W,Below w.heap.size w W→∀ g,ok g→g < W.heap.size:=fun W hW g hg=>Ll (hok g hg) hW.size
 have hrep:=fun W (hW:Below w.heap.size w W)=>hpP.keep (w':=W) (fun _ h=>h) (fun x hx=>hW.block x (hok x hx))
 have hrepQ:=fun W (hW:Below w.heap.size w W)=>h.keep (w':=W) (fun _ h=>h) (fun x hx=>hW.block x (hok x hx))
 have c1:=fun W (hW:Below w.heap.size w W)=>lim_any p _ _ W ok (hrep W hW) (hokW W hW) (by omega)
 have c2:=fun W (hW:Below w.heap.size w W)=>wf2_any p _ _ W ok (hrep W hW) (hokW W hW) (by omega) (he.on hW)
 have c3:=fun W (hW:Below w.heap.size w W)=>dup2_any p _ _ W ok (hrepQ W hW) (hokW W hW) hs
 have c4:=fun W (hW:Below w.heap.size w W)=>und2_any p _ _ W ok (hrepQ W hW) (hokW W hW) hs
 have c5:=fun W (hW:Below w.heap.size w W)=>ari2_all p _ _ W ok (hrep W hW) (hokW W hW) (by omega)
 obtain⟨q1,hq1⟩:∃ q,limB p=q:=⟨_,rfl⟩
 obtain⟨q2,hq2⟩:∃ q,shpB p=q:=⟨_,rfl⟩
 obtain⟨q3,hq3⟩:∃ q,dupB p=q:=⟨_,rfl⟩
 obtain⟨q4,hq4⟩:∃ q,undB p=q:=⟨_,rfl⟩
 obtain⟨q5,hq5⟩:∃ q,ariB p=q:=⟨_,rfl⟩
 have hchk:chkF p=(if q1=true then 6 else if q2=false then 2 else if q3=true then 4 else if q4=true then 3 else if q5=true then 5 else 0):=by unfold chkF;rw[hq1,hq2,hq3,hq4,hq5]
 obtain⟨res,hres⟩:∃ res:Nat,(if q1=true then 6 else if q2=false then 2 else if q3=true then 4 else if q4=true then 3 else if q5=true then 5 else 0)=res:=⟨_,rfl⟩
 rw[hchk,hres]
 have HRES:=Hd hres
 rw[hn1,hn2,hq1] at c1
 rw[hn1,hn2,hq2] at c2
 rw[hn1,hn2,hq3] at c3
 rw[hn1,hn2,hq4] at c4
 rw[hn1,hn2,hq5] at c5
 rw[hn1,hn2]
 have C1:=Hd c1
 have C2:=Hd c2
 have C3:=Hd c3
 have C4:=Hd c4
 have C5:=Hd c5
 have HB:=Hd (Ai hb1 (Ai k1 hW1))
 clear c1 c2 c3 c4 c5 hb1 k1 hW1 hokW hrep hrepQ hpP h hn1 hn2 hq1 hq2 hq3 hq4 hq5 hchk hres hs he hok
 go_enter Tryz.func23,Tryz.ntmps23
 go_wp2_with fail
 rw[HB.out.2.2]
 refine (C1.out W1 HB.out.1).mono ?_
 rintro e w2 ⟨rfl,hb⟩
 have k2:=(HB.out.2.1).on hb (HB.out.2.1).lt
 obtain⟨x2,y2,_⟩:=k2.cells2
 have H2:=Hd (Ai ((HB.out.1).trans (below_down hb (HB.out.1).size)) k2)
 clear hb k2
 cases q1 with
 | true =>
  go_wp2_with fail
  go_ret
  exact retN (by rw[←HRES.out];rfl) H2.out.1
 | false =>
  go_wp2_with fail
  refine (C2.out w2 H2.out.1).mono ?_
  rintro e w3 ⟨rfl,hb⟩
  have k3:=(H2.out.2).on hb (H2.out.2).lt
  obtain⟨x3,y3,_⟩:=k3.cells2
  have H3:=Hd (Ai ((H2.out.1).trans (below_down hb (H2.out.1).size)) k3)
  clear hb k3 x2 y2
  cases q2 with
  | false =>
   go_wp2_with fail
   go_ret
   exact retN (by rw[←HRES.out];rfl) H3.out.1
  | true =>
   go_wp2_with fail
   refine (C3.out w3 H3.out.1).mono ?_
   rintro e w4 ⟨rfl,hb⟩
   have k4:=(H3.out.2).on hb (H3.out.2).lt
   obtain⟨x4,y4,_⟩:=k4.cells2
   have H4:=Hd (Ai ((H3.out.1).trans (below_down hb (H3.out.1).size)) k4)
   clear hb k4 x3 y3
   cases q3 with
   | true =>
    go_wp2_with fail
    go_ret
    exact retN (by rw[←HRES.out];rfl) H4.out.1
   | false =>
    go_wp2_with fail
    refine (C4.out w4 H4.out.1).mono ?_
    rintro e w5 ⟨rfl,hb⟩
    have k5:=(H4.out.2).on hb (H4.out.2).lt
    obtain⟨x5,y5,_⟩:=k5.cells2
    have H5:=Hd (Ai ((H4.out.1).trans (below_down hb (H4.out.1).size)) k5)
    clear hb k5 x4 y4
    cases q4 with
    | true =>
     go_wp2_with fail
     go_ret
     exact retN (by rw[←HRES.out];rfl) H5.out.1
    | false =>
     go_wp2_with fail
     refine (C5.out w5 H5.out.1).mono ?_
     rintro e w9 ⟨rfl,hb⟩
     have H9:=Hd ((H5.out.1).trans (below_down hb (H5.out.1).size))
     clear hb x5 y5
     cases q5 with
     | true =>
      go_wp2_with fail
      go_ret
      exact retN (by rw[←HRES.out];rfl) H9.out
     | false =>
      go_wp2_with fail
      go_ret
      exact retN (by rw[←HRES.out];rfl) H9.out
end Go.Proofs.YtpgnlfdindmopaaGreatDoor
