/- Words and walks for the laws of the interpreter. -/
import Derived.Test.YtpgnlfdindmopaaGreatDoorK1
import Derived.Deep.LoopGhost
import Derived.Outline
import Derived.Test.YtpgnlfdindmopaaGreatDoorJ5
namespace Go.Proofs.YtpgnlfdindmopaaGreatDoor
open Go.RowKit (wrap64 intOf)
open Go Go.RowKit WM LX PX CX
set_option maxRecDepth 100000
set_option maxHeartbeats 4000000
theorem sizeE:(Tryz.prog.info? 36).map (·.size)=some 5:=by kernel_rfl
theorem every0_E {α:Type}{Rep:World→(Nat→Prop)→α→List Value→Prop}(hk:Keeps Rep)(hone:Ones Rep 5)
 (xs:List α) (v:Value) (w0:World) (ok:Nat→Prop) (hl:RepL Rep 5 w0 ok xs v) (hfew:xs.length≤1000000000) (p:α→Bool) (m:Option Nat) (g:Nat) (pre lb:Array Value)
 (eg:∀ args w,(callFunc g args).run Tryz.prog w=.ok (.enter g args) w) (I:Nat→World→Prop) (hI:Inv I ok m w0) (f:α→Nat)
 (hp:∀ (i:Nat) (x:α),xs[i]?=some x→Tst Tryz.prog Rep ok I m g pre lb p f x) (c:Nat) (hbud:c+sumL f xs≤1000000000000) (w:World) (hw:I c w) :
 Calls Tryz.prog 168 #[v,.func (.func g) pre lb] w (RetI (.bool (xs.all p)) (I (c+sumL f xs))):=by
 obtain⟨A,cp,rfl,hat⟩:=hl.at
 obtain⟨len,hlen⟩:∃ len,xs.length=len:=⟨_,rfl⟩
 have HL:=Hd hlen
 have H:=Hd (Ai hat (Ai hI hp))
 rw[hlen] at hfew ⊢
 clear hlen hat hI hp hl
 have HW:=Hd hw
 clear hw
 go_enter Tryz.func168,Tryz.ntmps168
 go_wp2_with fail
 go_loopg [9] len (fun k i wr=>EvR I f c (fun x=>p x=true) xs len k i wr)
 case atStart=>exact evR (Nat.zero_add _) HW.out (fun m x h=>absurd h (Nat.not_lt_zero _))
 case round =>
  obtain⟨j,hj,rfl,HI,HQ⟩:=hrel
  by_cases hlt:j < len
  ·obtain⟨x,hx⟩:∃ x,xs[j]?=some x:=⟨_,Ge (by rw[HL.out];exact hlt)⟩
   obtain⟨h1,h2,h3⟩:=H.out
   obtain⟨b,cs,rfl,hb,hrep,hcell⟩:=h1 j x hx
   have hbw:=h2.ok _ wr HI.out b hb
   have hc:∀ i u,cs[i]?=some u→wr.cell? ⟨b,j * 5+i,none⟩=some u:=fun i u hu=>(Cb hbw.2).trans (hcell i u hu)
   have hr2:=hk.k (w':=wr) (ok':=ok) hrep (fun _ h=>h) (fun b' hb'=>(h2.ok _ wr HI.out b' hb').2)
   obtain⟨h5,h6⟩:=hone _ _ _ _ hrep
   have hlb:b < wr.heap.size:=hbw.1
   have e1:(j:Int) < (len:Int):=by omega
   have HC:=Hd hc
   have H6:=Hd h6
   have HS:Hid ((Tryz.prog.info? 36).map (·.size)=some cs.length):=by rw[h5];exact sizeE
   have hcall:∀ W',Below wr.heap.size wr W'→Calls Tryz.prog g (pre.push (.agg cs.toArray)++lb) W' (RetI (.bool (p x)) (I (c+sumL f (xs.take (j+1))))):=fun W' hW'=>by
    rw[zAs f xs j x hx,Nat.add_assoc,←Nat.add_assoc c]
    exact (h3 j x hx cs W' _ (by have:=zAs f xs j x hx;have:=zAr f xs (j+1);omega) (h2.easy _ _ _ HI.out hW') (hk.k hr2 (fun _ h=>h) (fun b' hb'=>hW'.block b' (h2.ok _ wr HI.out b' hb').1))).mono fun _ _ k=>⟨k.1,k.2.1⟩
   have hdone:=zAr f xs (j+1)
   have HX:=Hd hx
   have H5:=Hd h5
   clear h1 h2 h3 hcell hbw hrep hr2 hc h6 hx h5
   cases hq:p x with
   | true =>
    rw[hq] at hcall
    go_wp2_with (first | (refine wpList_load_at rfl 36 _ rfl b (j * 5) rfl cs HC.out _ Tryz.underlying36 rfl HS.out ?_) | (refine wpList_store_row rfl _ _ _ rfl wr.heap.size cs.toArray rfl rfl _ _ (Blk.new wr _ _) (by simpa using HS.out) (by simp[H5.out]) H6.out ?_) | ((refine wpList_load_row rfl _ _ rfl wr.heap.size rfl 36 cs.toArray (0,0) _ (blk_row (Blk.new wr _ _) _) Tryz.underlying36 rfl (by simpa using HS.out) ?_)))
    refine (hcall _ (below_row ((Below.refl _ _).alloc (Lr _) _) (Lr _) _)).mono ?_
    rintro e w2 ⟨rfl,hi⟩
    go_wp2_with fail
    go_roundg (gk - 1)
    case measure=>omega
    case rel=>exact⟨j+1,by omega,by go_num,Hd hi,Hd (ev_step HQ.out HX.out hq)⟩
   | false =>
    rw[hq] at hcall
    rw[all_upto p xs j x HX.out hq]
    go_wp2_with (first | (refine wpList_load_at rfl 36 _ rfl b (j * 5) rfl cs HC.out _ Tryz.underlying36 rfl HS.out ?_) | (refine wpList_store_row rfl _ _ _ rfl wr.heap.size cs.toArray rfl rfl _ _ (Blk.new wr _ _) (by simpa using HS.out) (by simp[H5.out]) H6.out ?_) | ((refine wpList_load_row rfl _ _ rfl wr.heap.size rfl 36 cs.toArray (0,0) _ (blk_row (Blk.new wr _ _) _) Tryz.underlying36 rfl (by simpa using HS.out) ?_)))
    refine (hcall _ (below_row ((Below.refl _ _).alloc (Lr _) _) (Lr _) _)).mono ?_
    rintro e w2 ⟨rfl,hi⟩
    go_wp2_with fail
    go_ret
    exact retI rfl ((H.out.2.1).mono _ _ _ hi (by omega))
  ·obtain rfl:j=len:=by omega
   have hall:=all_done p xs (fun m x hm=>HQ.out m x (by rw[←HL.out];exact (Gs.1 hm).1) hm)
   have hin:I (c+sumL f xs) wr:=by
    have:=HI.out
    rwa [List.take_of_length_le (by rw[HL.out];exact Lr _)] at this
   have HN:=Hd (Ai hall hin)
   clear hall hin
   go_wp2_with fail
   go_ret
   exact retI (by rw[HN.out.1];rfl) HN.out.2
theorem every_E {α:Type}{Rep:World→(Nat→Prop)→α→List Value→Prop}(hk:Keeps Rep)(hone:Ones Rep 5)
 (xs:List α) (v:Value) (w0:World) (ok:Nat→Prop) (hl:RepL Rep 5 w0 ok xs v) (hfew:xs.length≤1000000000) (p:α→Bool) (m:Option Nat) (g:Nat) (pre lb:Array Value)
 (eg:∀ args w,(callFunc g args).run Tryz.prog w=.ok (.enter g args) w) (I:Nat→World→Prop) (hI:Inv I ok m w0) (f:α→Nat)
 (hp:∀ (i:Nat) (x:α),xs[i]?=some x→Tst Tryz.prog Rep ok I m g pre lb p f x) (c:Nat) (hbud:c+sumL f xs≤1000000000000) (w:World) (hw:I c w) :
 Calls Tryz.prog 168 #[v,.func (.func g) pre lb] w (RetK (.bool (xs.all p)) m w (I (c+sumL f xs))) :=
 every0_E hk hone xs v w0 ok hl hfew p m g pre lb eg _ (hI.and w) f (fun i x hx=>(hp i x hx).and w) c hbud w ⟨hw,grown_id _ _⟩
theorem index_E {α:Type}{Rep:World→(Nat→Prop)→α→List Value→Prop}(hk:Keeps Rep)(hone:Ones Rep 5)
 (xs:List α) (v:Value) (w0:World) (ok:Nat→Prop) (hl:RepL Rep 5 w0 ok xs v) (hfew:xs.length≤1000000000) (p:α→Bool) (m:Option Nat) (g:Nat) (pre lb:Array Value)
 (eg:∀ args w,(callFunc g args).run Tryz.prog w=.ok (.enter g args) w) (I:Nat→World→Prop) (hI:Inv I ok m w0) (f:α→Nat)
 (hp:∀ (i:Nat) (x:α),xs[i]?=some x→Tst Tryz.prog Rep ok I m g pre lb p f x) (c:Nat) (hbud:c+sumL f xs≤1000000000000) (w:World) (hw:I c w) :
 Calls Tryz.prog 200 #[v,.func (.func g) pre lb] w (IdxP (xs.any p) (I (c+sumL f xs))):=by
 obtain⟨A,cp,rfl,hat⟩:=hl.at
 obtain⟨len,hlen⟩:∃ len,xs.length=len:=⟨_,rfl⟩
 have HL:=Hd hlen
 have H:=Hd (Ai hat (Ai hI hp))
 rw[hlen] at hfew ⊢
 clear hlen hat hI hp hl
 have HW:=Hd hw
 clear hw
 go_enter Tryz.func200,Tryz.ntmps200
 go_wp2_with fail
 go_loopg [8] len (fun k i wr=>EvR I f c (fun x=>p x=false) xs len k i wr)
 case atStart=>exact evR (Nat.zero_add _) HW.out (fun m x h=>absurd h (Nat.not_lt_zero _))
 case round =>
  obtain⟨j,hj,rfl,HI,HQ⟩:=hrel
  by_cases hlt:j < len
  ·obtain⟨x,hx⟩:∃ x,xs[j]?=some x:=⟨_,Ge (by rw[HL.out];exact hlt)⟩
   obtain⟨h1,h2,h3⟩:=H.out
   obtain⟨b,cs,rfl,hb,hrep,hcell⟩:=h1 j x hx
   have hbw:=h2.ok _ wr HI.out b hb
   have hc:∀ i u,cs[i]?=some u→wr.cell? ⟨b,j * 5+i,none⟩=some u:=fun i u hu=>(Cb hbw.2).trans (hcell i u hu)
   have hr2:=hk.k (w':=wr) (ok':=ok) hrep (fun _ h=>h) (fun b' hb'=>(h2.ok _ wr HI.out b' hb').2)
   obtain⟨h5,h6⟩:=hone _ _ _ _ hrep
   have e1:(j:Int) < (len:Int):=by omega
   have HC:=Hd hc
   have HS:Hid ((Tryz.prog.info? 36).map (·.size)=some cs.length):=by rw[h5];exact sizeE
   have hcall:∀ W',Below wr.heap.size wr W'→Calls Tryz.prog g (pre.push (.agg cs.toArray)++lb) W' (RetI (.bool (p x)) (I (c+sumL f (xs.take (j+1))))):=fun W' hW'=>by
    rw[zAs f xs j x hx,Nat.add_assoc,←Nat.add_assoc c]
    exact (h3 j x hx cs W' _ (by have:=zAs f xs j x hx;have:=zAr f xs (j+1);omega) (h2.easy _ _ _ HI.out hW') (hk.k hr2 (fun _ h=>h) (fun b' hb'=>hW'.block b' (h2.ok _ wr HI.out b' hb').1))).mono fun _ _ k=>⟨k.1,k.2.1⟩
   have hdone:=zAr f xs (j+1)
   have HX:=Hd hx
   clear h1 h2 h3 hcell hbw hrep hr2 hc h6 hx h5
   cases hq:p x with
   | false =>
    rw[hq] at hcall
    go_wp2_with (refine wpList_load_at rfl 36 _ rfl b (j * 5) rfl cs HC.out _ Tryz.underlying36 rfl HS.out ?_)
    refine (hcall _ (Below.refl _ _)).mono ?_
    rintro e w2 ⟨rfl,hi⟩
    go_wp2_with fail
    go_roundg (gk - 1)
    case measure=>omega
    case rel=>exact⟨j+1,by omega,by go_num,Hd hi,Hd (ev_step HQ.out HX.out hq)⟩
   | true =>
    rw[hq] at hcall
    have hany:=any_upto p xs j x HX.out hq
    have HA:=Hd hany
    clear hany
    go_wp2_with (refine wpList_load_at rfl 36 _ rfl b (j * 5) rfl cs HC.out _ Tryz.underlying36 rfl HS.out ?_)
    refine (hcall _ (Below.refl _ _)).mono ?_
    rintro e w2 ⟨rfl,hi⟩
    go_wp2_with fail
    go_ret
    exact⟨(j:Int),rfl,by rw[HA.out];exact decide_eq_true (by omega),(H.out.2.1).mono _ _ _ hi (by omega)⟩
  ·obtain rfl:j=len:=by omega
   have hall:=any_done p xs (fun m x hm=>HQ.out m x (by rw[←HL.out];exact (Gs.1 hm).1) hm)
   have hin:I (c+sumL f xs) wr:=by
    have:=HI.out
    rwa [List.take_of_length_le (by rw[HL.out];exact Lr _)] at this
   have HN:=Hd (Ai hall hin)
   clear hall hin
   go_wp2_with fail
   go_ret
   exact⟨-1,rfl,by rw[HN.out.1];rfl,HN.out.2⟩
theorem contains0_E {α:Type}{Rep:World→(Nat→Prop)→α→List Value→Prop}(hk:Keeps Rep)(hone:Ones Rep 5)
 (xs:List α) (v:Value) (w0:World) (ok:Nat→Prop) (hl:RepL Rep 5 w0 ok xs v) (hfew:xs.length≤1000000000) (p:α→Bool) (m:Option Nat) (g:Nat) (pre lb:Array Value)
 (eg:∀ args w,(callFunc g args).run Tryz.prog w=.ok (.enter g args) w) (I:Nat→World→Prop) (hI:Inv I ok m w0) (f:α→Nat)
 (hp:∀ (i:Nat) (x:α),xs[i]?=some x→Tst Tryz.prog Rep ok I m g pre lb p f x) (c:Nat) (hbud:c+sumL f xs≤1000000000000) (w:World) (hw:I c w) :
 Calls Tryz.prog 161 #[v,.func (.func g) pre lb] w (RetI (.bool (xs.any p)) (I (c+sumL f xs))):=by
 have HC:=Hd (index_E hk hone xs v w0 ok hl hfew p m g pre lb eg I hI f hp c hbud w hw)
 clear hl hI hp hw
 cases ha:xs.any p
 all_goals
  rw[ha] at HC
  go_enter Tryz.func161,Tryz.ntmps161
  go_wp2_with fail
  refine HC.out.mono ?_
  rintro e w2 ⟨n,rfl,hn,hi⟩
  have HI:=Hd hi
  clear hi
  first
   | (go_wp2_with fail
      go_ret
      exact retI rfl HI.out)
   | (have hn':0≤n:=of_decide_eq_true hn
      clear hn
      go_wp2_with fail
      go_ret
      exact retI rfl HI.out)
theorem contains_E {α:Type}{Rep:World→(Nat→Prop)→α→List Value→Prop}(hk:Keeps Rep)(hone:Ones Rep 5)
 (xs:List α) (v:Value) (w0:World) (ok:Nat→Prop) (hl:RepL Rep 5 w0 ok xs v) (hfew:xs.length≤1000000000) (p:α→Bool) (m:Option Nat) (g:Nat) (pre lb:Array Value)
 (eg:∀ args w,(callFunc g args).run Tryz.prog w=.ok (.enter g args) w) (I:Nat→World→Prop) (hI:Inv I ok m w0) (f:α→Nat)
 (hp:∀ (i:Nat) (x:α),xs[i]?=some x→Tst Tryz.prog Rep ok I m g pre lb p f x) (c:Nat) (hbud:c+sumL f xs≤1000000000000) (w:World) (hw:I c w) :
 Calls Tryz.prog 161 #[v,.func (.func g) pre lb] w (RetK (.bool (xs.any p)) m w (I (c+sumL f xs))) :=
 contains0_E hk hone xs v w0 ok hl hfew p m g pre lb eg _ (hI.and w) f (fun i x hx=>(hp i x hx).and w) c hbud w ⟨hw,grown_id _ _⟩
end Go.Proofs.YtpgnlfdindmopaaGreatDoor
namespace Go.Proofs.YtpgnlfdindmopaaGreatDoor
open Go.RowKit (wrap64 intOf)
open Go Go.RowKit WM LX PX CX
set_option maxRecDepth 100000
set_option maxHeartbeats 4000000
theorem sizeS:(Tryz.prog.info? 40).map (·.size)=some 17:=by kernel_rfl
theorem every0_S {α:Type}{Rep:World→(Nat→Prop)→α→List Value→Prop}(hk:Keeps Rep)(hone:Ones Rep 17)
 (xs:List α) (v:Value) (w0:World) (ok:Nat→Prop) (hl:RepL Rep 17 w0 ok xs v) (hfew:xs.length≤1000000000) (p:α→Bool) (m:Option Nat) (g:Nat) (pre lb:Array Value)
 (eg:∀ args w,(callFunc g args).run Tryz.prog w=.ok (.enter g args) w) (I:Nat→World→Prop) (hI:Inv I ok m w0) (f:α→Nat)
 (hp:∀ (i:Nat) (x:α),xs[i]?=some x→Tst Tryz.prog Rep ok I m g pre lb p f x) (c:Nat) (hbud:c+sumL f xs≤1000000000000) (w:World) (hw:I c w) :
 Calls Tryz.prog 121 #[v,.func (.func g) pre lb] w (RetI (.bool (xs.all p)) (I (c+sumL f xs))):=by
 obtain⟨A,cp,rfl,hat⟩:=hl.at
 obtain⟨len,hlen⟩:∃ len,xs.length=len:=⟨_,rfl⟩
 have HL:=Hd hlen
 have H:=Hd (Ai hat (Ai hI hp))
 rw[hlen] at hfew ⊢
 clear hlen hat hI hp hl
 have HW:=Hd hw
 clear hw
 go_enter Tryz.func121,Tryz.ntmps121
 go_wp2_with fail
 go_loopg [9] len (fun k i wr=>EvR I f c (fun x=>p x=true) xs len k i wr)
 case atStart=>exact evR (Nat.zero_add _) HW.out (fun m x h=>absurd h (Nat.not_lt_zero _))
 case round =>
  obtain⟨j,hj,rfl,HI,HQ⟩:=hrel
  by_cases hlt:j < len
  ·obtain⟨x,hx⟩:∃ x,xs[j]?=some x:=⟨_,Ge (by rw[HL.out];exact hlt)⟩
   obtain⟨h1,h2,h3⟩:=H.out
   obtain⟨b,cs,rfl,hb,hrep,hcell⟩:=h1 j x hx
   have hbw:=h2.ok _ wr HI.out b hb
   have hc:∀ i u,cs[i]?=some u→wr.cell? ⟨b,j * 17+i,none⟩=some u:=fun i u hu=>(Cb hbw.2).trans (hcell i u hu)
   have hr2:=hk.k (w':=wr) (ok':=ok) hrep (fun _ h=>h) (fun b' hb'=>(h2.ok _ wr HI.out b' hb').2)
   obtain⟨h5,h6⟩:=hone _ _ _ _ hrep
   have hlb:b < wr.heap.size:=hbw.1
   have e1:(j:Int) < (len:Int):=by omega
   have HC:=Hd hc
   have H6:=Hd h6
   have HS:Hid ((Tryz.prog.info? 40).map (·.size)=some cs.length):=by rw[h5];exact sizeS
   have hcall:∀ W',Below wr.heap.size wr W'→Calls Tryz.prog g (pre.push (.agg cs.toArray)++lb) W' (RetI (.bool (p x)) (I (c+sumL f (xs.take (j+1))))):=fun W' hW'=>by
    rw[zAs f xs j x hx,Nat.add_assoc,←Nat.add_assoc c]
    exact (h3 j x hx cs W' _ (by have:=zAs f xs j x hx;have:=zAr f xs (j+1);omega) (h2.easy _ _ _ HI.out hW') (hk.k hr2 (fun _ h=>h) (fun b' hb'=>hW'.block b' (h2.ok _ wr HI.out b' hb').1))).mono fun _ _ k=>⟨k.1,k.2.1⟩
   have hdone:=zAr f xs (j+1)
   have HX:=Hd hx
   have H5:=Hd h5
   clear h1 h2 h3 hcell hbw hrep hr2 hc h6 hx h5
   cases hq:p x with
   | true =>
    rw[hq] at hcall
    go_wp2_with (first | (refine wpList_load_at rfl 40 _ rfl b (j * 17) rfl cs HC.out _ Tryz.underlying40 rfl HS.out ?_) | (refine wpList_store_row rfl _ _ _ rfl wr.heap.size cs.toArray rfl rfl _ _ (Blk.new wr _ _) (by simpa using HS.out) (by simp[H5.out]) H6.out ?_) | ((refine wpList_load_row rfl _ _ rfl wr.heap.size rfl 40 cs.toArray (0,0) _ (blk_row (Blk.new wr _ _) _) Tryz.underlying40 rfl (by simpa using HS.out) ?_)))
    refine (hcall _ (below_row ((Below.refl _ _).alloc (Lr _) _) (Lr _) _)).mono ?_
    rintro e w2 ⟨rfl,hi⟩
    go_wp2_with fail
    go_roundg (gk - 1)
    case measure=>omega
    case rel=>exact⟨j+1,by omega,by go_num,Hd hi,Hd (ev_step HQ.out HX.out hq)⟩
   | false =>
    rw[hq] at hcall
    rw[all_upto p xs j x HX.out hq]
    go_wp2_with (first | (refine wpList_load_at rfl 40 _ rfl b (j * 17) rfl cs HC.out _ Tryz.underlying40 rfl HS.out ?_) | (refine wpList_store_row rfl _ _ _ rfl wr.heap.size cs.toArray rfl rfl _ _ (Blk.new wr _ _) (by simpa using HS.out) (by simp[H5.out]) H6.out ?_) | ((refine wpList_load_row rfl _ _ rfl wr.heap.size rfl 40 cs.toArray (0,0) _ (blk_row (Blk.new wr _ _) _) Tryz.underlying40 rfl (by simpa using HS.out) ?_)))
    refine (hcall _ (below_row ((Below.refl _ _).alloc (Lr _) _) (Lr _) _)).mono ?_
    rintro e w2 ⟨rfl,hi⟩
    go_wp2_with fail
    go_ret
    exact retI rfl ((H.out.2.1).mono _ _ _ hi (by omega))
  ·obtain rfl:j=len:=by omega
   have hall:=all_done p xs (fun m x hm=>HQ.out m x (by rw[←HL.out];exact (Gs.1 hm).1) hm)
   have hin:I (c+sumL f xs) wr:=by
    have:=HI.out
    rwa [List.take_of_length_le (by rw[HL.out];exact Lr _)] at this
   have HN:=Hd (Ai hall hin)
   clear hall hin
   go_wp2_with fail
   go_ret
   exact retI (by rw[HN.out.1];rfl) HN.out.2
theorem every_S {α:Type}{Rep:World→(Nat→Prop)→α→List Value→Prop}(hk:Keeps Rep)(hone:Ones Rep 17)
 (xs:List α) (v:Value) (w0:World) (ok:Nat→Prop) (hl:RepL Rep 17 w0 ok xs v) (hfew:xs.length≤1000000000) (p:α→Bool) (m:Option Nat) (g:Nat) (pre lb:Array Value)
 (eg:∀ args w,(callFunc g args).run Tryz.prog w=.ok (.enter g args) w) (I:Nat→World→Prop) (hI:Inv I ok m w0) (f:α→Nat)
 (hp:∀ (i:Nat) (x:α),xs[i]?=some x→Tst Tryz.prog Rep ok I m g pre lb p f x) (c:Nat) (hbud:c+sumL f xs≤1000000000000) (w:World) (hw:I c w) :
 Calls Tryz.prog 121 #[v,.func (.func g) pre lb] w (RetK (.bool (xs.all p)) m w (I (c+sumL f xs))) :=
 every0_S hk hone xs v w0 ok hl hfew p m g pre lb eg _ (hI.and w) f (fun i x hx=>(hp i x hx).and w) c hbud w ⟨hw,grown_id _ _⟩
end Go.Proofs.YtpgnlfdindmopaaGreatDoor
namespace Go.Proofs.YtpgnlfdindmopaaGreatDoor
open Go.RowKit (wrap64 intOf)
open Go Go.RowKit WM LX PX CX
set_option maxRecDepth 100000
set_option maxHeartbeats 4000000
theorem sizeF:(Tryz.prog.info? 38).map (·.size)=some 9:=by kernel_rfl
theorem every0_F {α:Type}{Rep:World→(Nat→Prop)→α→List Value→Prop}(hk:Keeps Rep)(hone:Ones Rep 9)
 (xs:List α) (v:Value) (w0:World) (ok:Nat→Prop) (hl:RepL Rep 9 w0 ok xs v) (hfew:xs.length≤1000000000) (p:α→Bool) (m:Option Nat) (g:Nat) (pre lb:Array Value)
 (eg:∀ args w,(callFunc g args).run Tryz.prog w=.ok (.enter g args) w) (I:Nat→World→Prop) (hI:Inv I ok m w0) (f:α→Nat)
 (hp:∀ (i:Nat) (x:α),xs[i]?=some x→Tst Tryz.prog Rep ok I m g pre lb p f x) (c:Nat) (hbud:c+sumL f xs≤1000000000000) (w:World) (hw:I c w) :
 Calls Tryz.prog 74 #[v,.func (.func g) pre lb] w (RetI (.bool (xs.all p)) (I (c+sumL f xs))):=by
 obtain⟨A,cp,rfl,hat⟩:=hl.at
 obtain⟨len,hlen⟩:∃ len,xs.length=len:=⟨_,rfl⟩
 have HL:=Hd hlen
 have H:=Hd (Ai hat (Ai hI hp))
 rw[hlen] at hfew ⊢
 clear hlen hat hI hp hl
 have HW:=Hd hw
 clear hw
 go_enter Tryz.func74,Tryz.ntmps74
 go_wp2_with fail
 go_loopg [9] len (fun k i wr=>EvR I f c (fun x=>p x=true) xs len k i wr)
 case atStart=>exact evR (Nat.zero_add _) HW.out (fun m x h=>absurd h (Nat.not_lt_zero _))
 case round =>
  obtain⟨j,hj,rfl,HI,HQ⟩:=hrel
  by_cases hlt:j < len
  ·obtain⟨x,hx⟩:∃ x,xs[j]?=some x:=⟨_,Ge (by rw[HL.out];exact hlt)⟩
   obtain⟨h1,h2,h3⟩:=H.out
   obtain⟨b,cs,rfl,hb,hrep,hcell⟩:=h1 j x hx
   have hbw:=h2.ok _ wr HI.out b hb
   have hc:∀ i u,cs[i]?=some u→wr.cell? ⟨b,j * 9+i,none⟩=some u:=fun i u hu=>(Cb hbw.2).trans (hcell i u hu)
   have hr2:=hk.k (w':=wr) (ok':=ok) hrep (fun _ h=>h) (fun b' hb'=>(h2.ok _ wr HI.out b' hb').2)
   obtain⟨h5,h6⟩:=hone _ _ _ _ hrep
   have hlb:b < wr.heap.size:=hbw.1
   have e1:(j:Int) < (len:Int):=by omega
   have HC:=Hd hc
   have H6:=Hd h6
   have HS:Hid ((Tryz.prog.info? 38).map (·.size)=some cs.length):=by rw[h5];exact sizeF
   have hcall:∀ W',Below wr.heap.size wr W'→Calls Tryz.prog g (pre.push (.agg cs.toArray)++lb) W' (RetI (.bool (p x)) (I (c+sumL f (xs.take (j+1))))):=fun W' hW'=>by
    rw[zAs f xs j x hx,Nat.add_assoc,←Nat.add_assoc c]
    exact (h3 j x hx cs W' _ (by have:=zAs f xs j x hx;have:=zAr f xs (j+1);omega) (h2.easy _ _ _ HI.out hW') (hk.k hr2 (fun _ h=>h) (fun b' hb'=>hW'.block b' (h2.ok _ wr HI.out b' hb').1))).mono fun _ _ k=>⟨k.1,k.2.1⟩
   have hdone:=zAr f xs (j+1)
   have HX:=Hd hx
   have H5:=Hd h5
   clear h1 h2 h3 hcell hbw hrep hr2 hc h6 hx h5
   cases hq:p x with
   | true =>
    rw[hq] at hcall
    go_wp2_with (first | (refine wpList_load_at rfl 38 _ rfl b (j * 9) rfl cs HC.out _ Tryz.underlying38 rfl HS.out ?_) | (refine wpList_store_row rfl _ _ _ rfl wr.heap.size cs.toArray rfl rfl _ _ (Blk.new wr _ _) (by simpa using HS.out) (by simp[H5.out]) H6.out ?_) | ((refine wpList_load_row rfl _ _ rfl wr.heap.size rfl 38 cs.toArray (0,0) _ (blk_row (Blk.new wr _ _) _) Tryz.underlying38 rfl (by simpa using HS.out) ?_)))
    refine (hcall _ (below_row ((Below.refl _ _).alloc (Lr _) _) (Lr _) _)).mono ?_
    rintro e w2 ⟨rfl,hi⟩
    go_wp2_with fail
    go_roundg (gk - 1)
    case measure=>omega
    case rel=>exact⟨j+1,by omega,by go_num,Hd hi,Hd (ev_step HQ.out HX.out hq)⟩
   | false =>
    rw[hq] at hcall
    rw[all_upto p xs j x HX.out hq]
    go_wp2_with (first | (refine wpList_load_at rfl 38 _ rfl b (j * 9) rfl cs HC.out _ Tryz.underlying38 rfl HS.out ?_) | (refine wpList_store_row rfl _ _ _ rfl wr.heap.size cs.toArray rfl rfl _ _ (Blk.new wr _ _) (by simpa using HS.out) (by simp[H5.out]) H6.out ?_) | ((refine wpList_load_row rfl _ _ rfl wr.heap.size rfl 38 cs.toArray (0,0) _ (blk_row (Blk.new wr _ _) _) Tryz.underlying38 rfl (by simpa using HS.out) ?_)))
    refine (hcall _ (below_row ((Below.refl _ _).alloc (Lr _) _) (Lr _) _)).mono ?_
    rintro e w2 ⟨rfl,hi⟩
    go_wp2_with fail
    go_ret
    exact retI rfl ((H.out.2.1).mono _ _ _ hi (by omega))
  ·obtain rfl:j=len:=by omega
   have hall:=all_done p xs (fun m x hm=>HQ.out m x (by rw[←HL.out];exact (Gs.1 hm).1) hm)
   have hin:I (c+sumL f xs) wr:=by
    have:=HI.out
    rwa [List.take_of_length_le (by rw[HL.out];exact Lr _)] at this
   have HN:=Hd (Ai hall hin)
   clear hall hin
   go_wp2_with fail
   go_ret
   exact retI (by rw[HN.out.1];rfl) HN.out.2
theorem every_F {α:Type}{Rep:World→(Nat→Prop)→α→List Value→Prop}(hk:Keeps Rep)(hone:Ones Rep 9)
 (xs:List α) (v:Value) (w0:World) (ok:Nat→Prop) (hl:RepL Rep 9 w0 ok xs v) (hfew:xs.length≤1000000000) (p:α→Bool) (m:Option Nat) (g:Nat) (pre lb:Array Value)
 (eg:∀ args w,(callFunc g args).run Tryz.prog w=.ok (.enter g args) w) (I:Nat→World→Prop) (hI:Inv I ok m w0) (f:α→Nat)
 (hp:∀ (i:Nat) (x:α),xs[i]?=some x→Tst Tryz.prog Rep ok I m g pre lb p f x) (c:Nat) (hbud:c+sumL f xs≤1000000000000) (w:World) (hw:I c w) :
 Calls Tryz.prog 74 #[v,.func (.func g) pre lb] w (RetK (.bool (xs.all p)) m w (I (c+sumL f xs))) :=
 every0_F hk hone xs v w0 ok hl hfew p m g pre lb eg _ (hI.and w) f (fun i x hx=>(hp i x hx).and w) c hbud w ⟨hw,grown_id _ _⟩
theorem index_F {α:Type}{Rep:World→(Nat→Prop)→α→List Value→Prop}(hk:Keeps Rep)(hone:Ones Rep 9)
 (xs:List α) (v:Value) (w0:World) (ok:Nat→Prop) (hl:RepL Rep 9 w0 ok xs v) (hfew:xs.length≤1000000000) (p:α→Bool) (m:Option Nat) (g:Nat) (pre lb:Array Value)
 (eg:∀ args w,(callFunc g args).run Tryz.prog w=.ok (.enter g args) w) (I:Nat→World→Prop) (hI:Inv I ok m w0) (f:α→Nat)
 (hp:∀ (i:Nat) (x:α),xs[i]?=some x→Tst Tryz.prog Rep ok I m g pre lb p f x) (c:Nat) (hbud:c+sumL f xs≤1000000000000) (w:World) (hw:I c w) :
 Calls Tryz.prog 112 #[v,.func (.func g) pre lb] w (IdxP (xs.any p) (I (c+sumL f xs))):=by
 obtain⟨A,cp,rfl,hat⟩:=hl.at
 obtain⟨len,hlen⟩:∃ len,xs.length=len:=⟨_,rfl⟩
 have HL:=Hd hlen
 have H:=Hd (Ai hat (Ai hI hp))
 rw[hlen] at hfew ⊢
 clear hlen hat hI hp hl
 have HW:=Hd hw
 clear hw
 go_enter Tryz.func112,Tryz.ntmps112
 go_wp2_with fail
 go_loopg [8] len (fun k i wr=>EvR I f c (fun x=>p x=false) xs len k i wr)
 case atStart=>exact evR (Nat.zero_add _) HW.out (fun m x h=>absurd h (Nat.not_lt_zero _))
 case round =>
  obtain⟨j,hj,rfl,HI,HQ⟩:=hrel
  by_cases hlt:j < len
  ·obtain⟨x,hx⟩:∃ x,xs[j]?=some x:=⟨_,Ge (by rw[HL.out];exact hlt)⟩
   obtain⟨h1,h2,h3⟩:=H.out
   obtain⟨b,cs,rfl,hb,hrep,hcell⟩:=h1 j x hx
   have hbw:=h2.ok _ wr HI.out b hb
   have hc:∀ i u,cs[i]?=some u→wr.cell? ⟨b,j * 9+i,none⟩=some u:=fun i u hu=>(Cb hbw.2).trans (hcell i u hu)
   have hr2:=hk.k (w':=wr) (ok':=ok) hrep (fun _ h=>h) (fun b' hb'=>(h2.ok _ wr HI.out b' hb').2)
   obtain⟨h5,h6⟩:=hone _ _ _ _ hrep
   have e1:(j:Int) < (len:Int):=by omega
   have HC:=Hd hc
   have HS:Hid ((Tryz.prog.info? 38).map (·.size)=some cs.length):=by rw[h5];exact sizeF
   have hcall:∀ W',Below wr.heap.size wr W'→Calls Tryz.prog g (pre.push (.agg cs.toArray)++lb) W' (RetI (.bool (p x)) (I (c+sumL f (xs.take (j+1))))):=fun W' hW'=>by
    rw[zAs f xs j x hx,Nat.add_assoc,←Nat.add_assoc c]
    exact (h3 j x hx cs W' _ (by have:=zAs f xs j x hx;have:=zAr f xs (j+1);omega) (h2.easy _ _ _ HI.out hW') (hk.k hr2 (fun _ h=>h) (fun b' hb'=>hW'.block b' (h2.ok _ wr HI.out b' hb').1))).mono fun _ _ k=>⟨k.1,k.2.1⟩
   have hdone:=zAr f xs (j+1)
   have HX:=Hd hx
   clear h1 h2 h3 hcell hbw hrep hr2 hc h6 hx h5
   cases hq:p x with
   | false =>
    rw[hq] at hcall
    go_wp2_with (refine wpList_load_at rfl 38 _ rfl b (j * 9) rfl cs HC.out _ Tryz.underlying38 rfl HS.out ?_)
    refine (hcall _ (Below.refl _ _)).mono ?_
    rintro e w2 ⟨rfl,hi⟩
    go_wp2_with fail
    go_roundg (gk - 1)
    case measure=>omega
    case rel=>exact⟨j+1,by omega,by go_num,Hd hi,Hd (ev_step HQ.out HX.out hq)⟩
   | true =>
    rw[hq] at hcall
    have hany:=any_upto p xs j x HX.out hq
    have HA:=Hd hany
    clear hany
    go_wp2_with (refine wpList_load_at rfl 38 _ rfl b (j * 9) rfl cs HC.out _ Tryz.underlying38 rfl HS.out ?_)
    refine (hcall _ (Below.refl _ _)).mono ?_
    rintro e w2 ⟨rfl,hi⟩
    go_wp2_with fail
    go_ret
    exact⟨(j:Int),rfl,by rw[HA.out];exact decide_eq_true (by omega),(H.out.2.1).mono _ _ _ hi (by omega)⟩
  ·obtain rfl:j=len:=by omega
   have hall:=any_done p xs (fun m x hm=>HQ.out m x (by rw[←HL.out];exact (Gs.1 hm).1) hm)
   have hin:I (c+sumL f xs) wr:=by
    have:=HI.out
    rwa [List.take_of_length_le (by rw[HL.out];exact Lr _)] at this
   have HN:=Hd (Ai hall hin)
   clear hall hin
   go_wp2_with fail
   go_ret
   exact⟨-1,rfl,by rw[HN.out.1];rfl,HN.out.2⟩
theorem contains0_F {α:Type}{Rep:World→(Nat→Prop)→α→List Value→Prop}(hk:Keeps Rep)(hone:Ones Rep 9)
 (xs:List α) (v:Value) (w0:World) (ok:Nat→Prop) (hl:RepL Rep 9 w0 ok xs v) (hfew:xs.length≤1000000000) (p:α→Bool) (m:Option Nat) (g:Nat) (pre lb:Array Value)
 (eg:∀ args w,(callFunc g args).run Tryz.prog w=.ok (.enter g args) w) (I:Nat→World→Prop) (hI:Inv I ok m w0) (f:α→Nat)
 (hp:∀ (i:Nat) (x:α),xs[i]?=some x→Tst Tryz.prog Rep ok I m g pre lb p f x) (c:Nat) (hbud:c+sumL f xs≤1000000000000) (w:World) (hw:I c w) :
 Calls Tryz.prog 69 #[v,.func (.func g) pre lb] w (RetI (.bool (xs.any p)) (I (c+sumL f xs))):=by
 have HC:=Hd (index_F hk hone xs v w0 ok hl hfew p m g pre lb eg I hI f hp c hbud w hw)
 clear hl hI hp hw
 cases ha:xs.any p
 all_goals
  rw[ha] at HC
  go_enter Tryz.func69,Tryz.ntmps69
  go_wp2_with fail
  refine HC.out.mono ?_
  rintro e w2 ⟨n,rfl,hn,hi⟩
  have HI:=Hd hi
  clear hi
  first
   | (go_wp2_with fail
      go_ret
      exact retI rfl HI.out)
   | (have hn':0≤n:=of_decide_eq_true hn
      clear hn
      go_wp2_with fail
      go_ret
      exact retI rfl HI.out)
theorem contains_F {α:Type}{Rep:World→(Nat→Prop)→α→List Value→Prop}(hk:Keeps Rep)(hone:Ones Rep 9)
 (xs:List α) (v:Value) (w0:World) (ok:Nat→Prop) (hl:RepL Rep 9 w0 ok xs v) (hfew:xs.length≤1000000000) (p:α→Bool) (m:Option Nat) (g:Nat) (pre lb:Array Value)
 (eg:∀ args w,(callFunc g args).run Tryz.prog w=.ok (.enter g args) w) (I:Nat→World→Prop) (hI:Inv I ok m w0) (f:α→Nat)
 (hp:∀ (i:Nat) (x:α),xs[i]?=some x→Tst Tryz.prog Rep ok I m g pre lb p f x) (c:Nat) (hbud:c+sumL f xs≤1000000000000) (w:World) (hw:I c w) :
 Calls Tryz.prog 69 #[v,.func (.func g) pre lb] w (RetK (.bool (xs.any p)) m w (I (c+sumL f xs))) :=
 contains0_F hk hone xs v w0 ok hl hfew p m g pre lb eg _ (hI.and w) f (fun i x hx=>(hp i x hx).and w) c hbud w ⟨hw,grown_id _ _⟩
theorem sizeA:(Tryz.prog.info? 75).map (·.size)=some 2:=by kernel_rfl
theorem every0_A {α:Type}{Rep:World→(Nat→Prop)→α→List Value→Prop}(hk:Keeps Rep)(hone:Ones Rep 2)
 (xs:List α) (v:Value) (w0:World) (ok:Nat→Prop) (hl:RepL Rep 2 w0 ok xs v) (hfew:xs.length≤1000000000) (p:α→Bool) (m:Option Nat) (g:Nat) (pre lb:Array Value)
 (eg:∀ args w,(callFunc g args).run Tryz.prog w=.ok (.enter g args) w) (I:Nat→World→Prop) (hI:Inv I ok m w0) (f:α→Nat)
 (hp:∀ (i:Nat) (x:α),xs[i]?=some x→Tst Tryz.prog Rep ok I m g pre lb p f x) (c:Nat) (hbud:c+sumL f xs≤1000000000000) (w:World) (hw:I c w) :
 Calls Tryz.prog 71 #[v,.func (.func g) pre lb] w (RetI (.bool (xs.all p)) (I (c+sumL f xs))):=by
 obtain⟨A,cp,rfl,hat⟩:=hl.at
 obtain⟨len,hlen⟩:∃ len,xs.length=len:=⟨_,rfl⟩
 have HL:=Hd hlen
 have H:=Hd (Ai hat (Ai hI hp))
 rw[hlen] at hfew ⊢
 clear hlen hat hI hp hl
 have HW:=Hd hw
 clear hw
 go_enter Tryz.func71,Tryz.ntmps71
 go_wp2_with fail
 go_loopg [9] len (fun k i wr=>EvR I f c (fun x=>p x=true) xs len k i wr)
 case atStart=>exact evR (Nat.zero_add _) HW.out (fun m x h=>absurd h (Nat.not_lt_zero _))
 case round =>
  obtain⟨j,hj,rfl,HI,HQ⟩:=hrel
  by_cases hlt:j < len
  ·obtain⟨x,hx⟩:∃ x,xs[j]?=some x:=⟨_,Ge (by rw[HL.out];exact hlt)⟩
   obtain⟨h1,h2,h3⟩:=H.out
   obtain⟨b,cs,rfl,hb,hrep,hcell⟩:=h1 j x hx
   have hbw:=h2.ok _ wr HI.out b hb
   have hc:∀ i u,cs[i]?=some u→wr.cell? ⟨b,j * 2+i,none⟩=some u:=fun i u hu=>(Cb hbw.2).trans (hcell i u hu)
   have hr2:=hk.k (w':=wr) (ok':=ok) hrep (fun _ h=>h) (fun b' hb'=>(h2.ok _ wr HI.out b' hb').2)
   obtain⟨h5,h6⟩:=hone _ _ _ _ hrep
   have hlb:b < wr.heap.size:=hbw.1
   have e1:(j:Int) < (len:Int):=by omega
   have HC:=Hd hc
   have H6:=Hd h6
   have HS:Hid ((Tryz.prog.info? 75).map (·.size)=some cs.length):=by rw[h5];exact sizeA
   have hcall:∀ W',Below wr.heap.size wr W'→Calls Tryz.prog g (pre.push (.agg cs.toArray)++lb) W' (RetI (.bool (p x)) (I (c+sumL f (xs.take (j+1))))):=fun W' hW'=>by
    rw[zAs f xs j x hx,Nat.add_assoc,←Nat.add_assoc c]
    exact (h3 j x hx cs W' _ (by have:=zAs f xs j x hx;have:=zAr f xs (j+1);omega) (h2.easy _ _ _ HI.out hW') (hk.k hr2 (fun _ h=>h) (fun b' hb'=>hW'.block b' (h2.ok _ wr HI.out b' hb').1))).mono fun _ _ k=>⟨k.1,k.2.1⟩
   have hdone:=zAr f xs (j+1)
   have HX:=Hd hx
   have H5:=Hd h5
   clear h1 h2 h3 hcell hbw hrep hr2 hc h6 hx h5
   cases hq:p x with
   | true =>
    rw[hq] at hcall
    go_wp2_with (first | (refine wpList_load_at rfl 75 _ rfl b (j * 2) rfl cs HC.out _ Tryz.underlying75 rfl HS.out ?_) | (refine wpList_store_row rfl _ _ _ rfl wr.heap.size cs.toArray rfl rfl _ _ (Blk.new wr _ _) (by simpa using HS.out) (by simp[H5.out]) H6.out ?_) | ((refine wpList_load_row rfl _ _ rfl wr.heap.size rfl 75 cs.toArray (0,0) _ (blk_row (Blk.new wr _ _) _) Tryz.underlying75 rfl (by simpa using HS.out) ?_)))
    refine (hcall _ (below_row ((Below.refl _ _).alloc (Lr _) _) (Lr _) _)).mono ?_
    rintro e w2 ⟨rfl,hi⟩
    go_wp2_with fail
    go_roundg (gk - 1)
    case measure=>omega
    case rel=>exact⟨j+1,by omega,by go_num,Hd hi,Hd (ev_step HQ.out HX.out hq)⟩
   | false =>
    rw[hq] at hcall
    rw[all_upto p xs j x HX.out hq]
    go_wp2_with (first | (refine wpList_load_at rfl 75 _ rfl b (j * 2) rfl cs HC.out _ Tryz.underlying75 rfl HS.out ?_) | (refine wpList_store_row rfl _ _ _ rfl wr.heap.size cs.toArray rfl rfl _ _ (Blk.new wr _ _) (by simpa using HS.out) (by simp[H5.out]) H6.out ?_) | ((refine wpList_load_row rfl _ _ rfl wr.heap.size rfl 75 cs.toArray (0,0) _ (blk_row (Blk.new wr _ _) _) Tryz.underlying75 rfl (by simpa using HS.out) ?_)))
    refine (hcall _ (below_row ((Below.refl _ _).alloc (Lr _) _) (Lr _) _)).mono ?_
    rintro e w2 ⟨rfl,hi⟩
    go_wp2_with fail
    go_ret
    exact retI rfl ((H.out.2.1).mono _ _ _ hi (by omega))
  ·obtain rfl:j=len:=by omega
   have hall:=all_done p xs (fun m x hm=>HQ.out m x (by rw[←HL.out];exact (Gs.1 hm).1) hm)
   have hin:I (c+sumL f xs) wr:=by
    have:=HI.out
    rwa [List.take_of_length_le (by rw[HL.out];exact Lr _)] at this
   have HN:=Hd (Ai hall hin)
   clear hall hin
   go_wp2_with fail
   go_ret
   exact retI (by rw[HN.out.1];rfl) HN.out.2
theorem every_A {α:Type}{Rep:World→(Nat→Prop)→α→List Value→Prop}(hk:Keeps Rep)(hone:Ones Rep 2)
 (xs:List α) (v:Value) (w0:World) (ok:Nat→Prop) (hl:RepL Rep 2 w0 ok xs v) (hfew:xs.length≤1000000000) (p:α→Bool) (m:Option Nat) (g:Nat) (pre lb:Array Value)
 (eg:∀ args w,(callFunc g args).run Tryz.prog w=.ok (.enter g args) w) (I:Nat→World→Prop) (hI:Inv I ok m w0) (f:α→Nat)
 (hp:∀ (i:Nat) (x:α),xs[i]?=some x→Tst Tryz.prog Rep ok I m g pre lb p f x) (c:Nat) (hbud:c+sumL f xs≤1000000000000) (w:World) (hw:I c w) :
 Calls Tryz.prog 71 #[v,.func (.func g) pre lb] w (RetK (.bool (xs.all p)) m w (I (c+sumL f xs))) :=
 every0_A hk hone xs v w0 ok hl hfew p m g pre lb eg _ (hI.and w) f (fun i x hx=>(hp i x hx).and w) c hbud w ⟨hw,grown_id _ _⟩
theorem index_A {α:Type}{Rep:World→(Nat→Prop)→α→List Value→Prop}(hk:Keeps Rep)(hone:Ones Rep 2)
 (xs:List α) (v:Value) (w0:World) (ok:Nat→Prop) (hl:RepL Rep 2 w0 ok xs v) (hfew:xs.length≤1000000000) (p:α→Bool) (m:Option Nat) (g:Nat) (pre lb:Array Value)
 (eg:∀ args w,(callFunc g args).run Tryz.prog w=.ok (.enter g args) w) (I:Nat→World→Prop) (hI:Inv I ok m w0) (f:α→Nat)
 (hp:∀ (i:Nat) (x:α),xs[i]?=some x→Tst Tryz.prog Rep ok I m g pre lb p f x) (c:Nat) (hbud:c+sumL f xs≤1000000000000) (w:World) (hw:I c w) :
 Calls Tryz.prog 111 #[v,.func (.func g) pre lb] w (IdxP (xs.any p) (I (c+sumL f xs))):=by
 obtain⟨A,cp,rfl,hat⟩:=hl.at
 obtain⟨len,hlen⟩:∃ len,xs.length=len:=⟨_,rfl⟩
 have HL:=Hd hlen
 have H:=Hd (Ai hat (Ai hI hp))
 rw[hlen] at hfew ⊢
 clear hlen hat hI hp hl
 have HW:=Hd hw
 clear hw
 go_enter Tryz.func111,Tryz.ntmps111
 go_wp2_with fail
 go_loopg [8] len (fun k i wr=>EvR I f c (fun x=>p x=false) xs len k i wr)
 case atStart=>exact evR (Nat.zero_add _) HW.out (fun m x h=>absurd h (Nat.not_lt_zero _))
 case round =>
  obtain⟨j,hj,rfl,HI,HQ⟩:=hrel
  by_cases hlt:j < len
  ·obtain⟨x,hx⟩:∃ x,xs[j]?=some x:=⟨_,Ge (by rw[HL.out];exact hlt)⟩
   obtain⟨h1,h2,h3⟩:=H.out
   obtain⟨b,cs,rfl,hb,hrep,hcell⟩:=h1 j x hx
   have hbw:=h2.ok _ wr HI.out b hb
   have hc:∀ i u,cs[i]?=some u→wr.cell? ⟨b,j * 2+i,none⟩=some u:=fun i u hu=>(Cb hbw.2).trans (hcell i u hu)
   have hr2:=hk.k (w':=wr) (ok':=ok) hrep (fun _ h=>h) (fun b' hb'=>(h2.ok _ wr HI.out b' hb').2)
   obtain⟨h5,h6⟩:=hone _ _ _ _ hrep
   have e1:(j:Int) < (len:Int):=by omega
   have HC:=Hd hc
   have HS:Hid ((Tryz.prog.info? 75).map (·.size)=some cs.length):=by rw[h5];exact sizeA
   have hcall:∀ W',Below wr.heap.size wr W'→Calls Tryz.prog g (pre.push (.agg cs.toArray)++lb) W' (RetI (.bool (p x)) (I (c+sumL f (xs.take (j+1))))):=fun W' hW'=>by
    rw[zAs f xs j x hx,Nat.add_assoc,←Nat.add_assoc c]
    exact (h3 j x hx cs W' _ (by have:=zAs f xs j x hx;have:=zAr f xs (j+1);omega) (h2.easy _ _ _ HI.out hW') (hk.k hr2 (fun _ h=>h) (fun b' hb'=>hW'.block b' (h2.ok _ wr HI.out b' hb').1))).mono fun _ _ k=>⟨k.1,k.2.1⟩
   have hdone:=zAr f xs (j+1)
   have HX:=Hd hx
   clear h1 h2 h3 hcell hbw hrep hr2 hc h6 hx h5
   cases hq:p x with
   | false =>
    rw[hq] at hcall
    go_wp2_with (refine wpList_load_at rfl 75 _ rfl b (j * 2) rfl cs HC.out _ Tryz.underlying75 rfl HS.out ?_)
    refine (hcall _ (Below.refl _ _)).mono ?_
    rintro e w2 ⟨rfl,hi⟩
    go_wp2_with fail
    go_roundg (gk - 1)
    case measure=>omega
    case rel=>exact⟨j+1,by omega,by go_num,Hd hi,Hd (ev_step HQ.out HX.out hq)⟩
   | true =>
    rw[hq] at hcall
    have hany:=any_upto p xs j x HX.out hq
    have HA:=Hd hany
    clear hany
    go_wp2_with (refine wpList_load_at rfl 75 _ rfl b (j * 2) rfl cs HC.out _ Tryz.underlying75 rfl HS.out ?_)
    refine (hcall _ (Below.refl _ _)).mono ?_
    rintro e w2 ⟨rfl,hi⟩
    go_wp2_with fail
    go_ret
    exact⟨(j:Int),rfl,by rw[HA.out];exact decide_eq_true (by omega),(H.out.2.1).mono _ _ _ hi (by omega)⟩
  ·obtain rfl:j=len:=by omega
   have hall:=any_done p xs (fun m x hm=>HQ.out m x (by rw[←HL.out];exact (Gs.1 hm).1) hm)
   have hin:I (c+sumL f xs) wr:=by
    have:=HI.out
    rwa [List.take_of_length_le (by rw[HL.out];exact Lr _)] at this
   have HN:=Hd (Ai hall hin)
   clear hall hin
   go_wp2_with fail
   go_ret
   exact⟨-1,rfl,by rw[HN.out.1];rfl,HN.out.2⟩
theorem contains0_A {α:Type}{Rep:World→(Nat→Prop)→α→List Value→Prop}(hk:Keeps Rep)(hone:Ones Rep 2)
 (xs:List α) (v:Value) (w0:World) (ok:Nat→Prop) (hl:RepL Rep 2 w0 ok xs v) (hfew:xs.length≤1000000000) (p:α→Bool) (m:Option Nat) (g:Nat) (pre lb:Array Value)
 (eg:∀ args w,(callFunc g args).run Tryz.prog w=.ok (.enter g args) w) (I:Nat→World→Prop) (hI:Inv I ok m w0) (f:α→Nat)
 (hp:∀ (i:Nat) (x:α),xs[i]?=some x→Tst Tryz.prog Rep ok I m g pre lb p f x) (c:Nat) (hbud:c+sumL f xs≤1000000000000) (w:World) (hw:I c w) :
 Calls Tryz.prog 67 #[v,.func (.func g) pre lb] w (RetI (.bool (xs.any p)) (I (c+sumL f xs))):=by
 have HC:=Hd (index_A hk hone xs v w0 ok hl hfew p m g pre lb eg I hI f hp c hbud w hw)
 clear hl hI hp hw
 cases ha:xs.any p
 all_goals
  rw[ha] at HC
  go_enter Tryz.func67,Tryz.ntmps67
  go_wp2_with fail
  refine HC.out.mono ?_
  rintro e w2 ⟨n,rfl,hn,hi⟩
  have HI:=Hd hi
  clear hi
  first
   | (go_wp2_with fail
      go_ret
      exact retI rfl HI.out)
   | (have hn':0≤n:=of_decide_eq_true hn
      clear hn
      go_wp2_with fail
      go_ret
      exact retI rfl HI.out)
theorem contains_A {α:Type}{Rep:World→(Nat→Prop)→α→List Value→Prop}(hk:Keeps Rep)(hone:Ones Rep 2)
 (xs:List α) (v:Value) (w0:World) (ok:Nat→Prop) (hl:RepL Rep 2 w0 ok xs v) (hfew:xs.length≤1000000000) (p:α→Bool) (m:Option Nat) (g:Nat) (pre lb:Array Value)
 (eg:∀ args w,(callFunc g args).run Tryz.prog w=.ok (.enter g args) w) (I:Nat→World→Prop) (hI:Inv I ok m w0) (f:α→Nat)
 (hp:∀ (i:Nat) (x:α),xs[i]?=some x→Tst Tryz.prog Rep ok I m g pre lb p f x) (c:Nat) (hbud:c+sumL f xs≤1000000000000) (w:World) (hw:I c w) :
 Calls Tryz.prog 67 #[v,.func (.func g) pre lb] w (RetK (.bool (xs.any p)) m w (I (c+sumL f xs))) :=
 contains0_A hk hone xs v w0 ok hl hfew p m g pre lb eg _ (hI.and w) f (fun i x hx=>(hp i x hx).and w) c hbud w ⟨hw,grown_id _ _⟩
end Go.Proofs.YtpgnlfdindmopaaGreatDoor
namespace Go.Proofs.YtpgnlfdindmopaaGreatDoor
open Go.RowKit (wrap64 intOf)
open Go Go.RowKit WM LX PX CX
set_option maxRecDepth 100000
set_option maxHeartbeats 4000000
theorem every0_N (xs:List (List UInt8))(v:Value)(w0:World)(ok:Nat→Prop)(hl:RepL RepN 1 w0 ok xs v)(hfew:xs.length≤1000000000)(p:List UInt8→Bool)(m:Option Nat)(g:Nat)(pre lb:Array Value)
 (eg:∀ args w,(callFunc g args).run Tryz.prog w=.ok (.enter g args) w) (I:Nat→World→Prop) (hI:Inv I ok m w0)
 (hp:∀ (i:Nat) (x:List UInt8),xs[i]?=some x→TstN Tryz.prog I m g pre lb p x) (c:Nat) (hbud:c+sumL List.length xs≤1000000000000) (w:World) (hw:I c w) :
 Calls Tryz.prog 116 #[v,.func (.func g) pre lb] w (RetI (.bool (xs.all p)) (I (c+sumL List.length xs))):=by
 obtain⟨A,cp,rfl,hat⟩:=hl.at
 obtain⟨len,hlen⟩:∃ len,xs.length=len:=⟨_,rfl⟩
 have HL:=Hd hlen
 have H:=Hd (Ai hat (Ai hI hp))
 rw[hlen] at hfew ⊢
 clear hlen hat hI hp hl
 have HW:=Hd hw
 clear hw
 go_enter Tryz.func116,Tryz.ntmps116
 go_wp2_with fail
 go_loopg [9] len (fun k i wr=>EvR I List.length c (fun x=>p x=true) xs len k i wr)
 case atStart=>exact evR (Nat.zero_add _) HW.out (fun m x h=>absurd h (Nat.not_lt_zero _))
 case round =>
  obtain⟨j,hj,rfl,HI,HQ⟩:=hrel
  by_cases hlt:j < len
  ·obtain⟨x,hx⟩:∃ x,xs[j]?=some x:=⟨_,Ge (by rw[HL.out];exact hlt)⟩
   obtain⟨h1,h2,h3⟩:=H.out
   obtain⟨b,cs,rfl,hb,hrep,hcell⟩:=h1 j x hx
   have hbw:=h2.ok _ wr HI.out b hb
   have hc:wr.cell? ⟨b,j,none⟩=some (.string ⟨x.toArray⟩):=by
    have:=(Cb hbw.2).trans (hcell 0 (.string ⟨x.toArray⟩) (by rw[show cs=[.string ⟨x.toArray⟩] from hrep];rfl))
    rwa [Nat.mul_one,Nat.add_zero] at this
   have hlb:b < wr.heap.size:=hbw.1
   have hne:b≠wr.heap.size:=Nat.ne_of_lt hlb
   have e1:(j:Int) < (len:Int):=by omega
   have hcall:∀ W',Below wr.heap.size wr W'→Calls Tryz.prog g (pre.push (.string ⟨x.toArray⟩)++lb) W' (RetI (.bool (p x)) (I (c+sumL List.length (xs.take (j+1))))):=fun W' hW'=>by
    rw[zAs List.length xs j x hx,Nat.add_assoc,←Nat.add_assoc c]
    exact (h3 j x hx W' _ (by have:=zAs List.length xs j x hx;have:=zAr List.length xs (j+1);omega) (h2.easy _ _ _ HI.out hW')).mono fun _ _ k=>⟨k.1,k.2.1⟩
   have hdone:=zAr List.length xs (j+1)
   have HX:=Hd hx
   clear h1 h2 h3 hcell hbw hrep hx
   cases hq:p x with
   | true =>
    rw[hq] at hcall
    go_wp2_with fail
    refine (hcall _ (Below.refl _ _)).mono ?_
    rintro e w2 ⟨rfl,hi⟩
    go_wp2_with fail
    go_roundg (gk - 1)
    case measure=>omega
    case rel=>exact⟨j+1,by omega,by go_num,Hd hi,Hd (ev_step HQ.out HX.out hq)⟩
   | false =>
    rw[hq] at hcall
    have hall:=all_upto p xs j x HX.out hq
    have HA:=Hd hall
    clear hall
    go_wp2_with fail
    refine (hcall _ (Below.refl _ _)).mono ?_
    rintro e w2 ⟨rfl,hi⟩
    go_wp2_with fail
    go_ret
    exact retI (by rw[HA.out];rfl) ((H.out.2.1).mono _ _ _ hi (by omega))
  ·obtain rfl:j=len:=by omega
   have hall:=all_done p xs (fun m x hm=>HQ.out m x (by rw[←HL.out];exact (Gs.1 hm).1) hm)
   have hin:I (c+sumL List.length xs) wr:=by
    have:=HI.out
    rwa [List.take_of_length_le (by rw[HL.out];exact Lr _)] at this
   have HN:=Hd (Ai hall hin)
   clear hall hin
   go_wp2_with fail
   go_ret
   exact retI (by rw[HN.out.1];rfl) HN.out.2
theorem every_N (xs:List (List UInt8))(v:Value)(w0:World)(ok:Nat→Prop)(hl:RepL RepN 1 w0 ok xs v)(hfew:xs.length≤1000000000)(p:List UInt8→Bool)(m:Option Nat)(g:Nat)(pre lb:Array Value)
 (eg:∀ args w,(callFunc g args).run Tryz.prog w=.ok (.enter g args) w) (I:Nat→World→Prop) (hI:Inv I ok m w0)
 (hp:∀ (i:Nat) (x:List UInt8),xs[i]?=some x→TstN Tryz.prog I m g pre lb p x) (c:Nat) (hbud:c+sumL List.length xs≤1000000000000) (w:World) (hw:I c w) :
 Calls Tryz.prog 116 #[v,.func (.func g) pre lb] w (RetK (.bool (xs.all p)) m w (I (c+sumL List.length xs))) :=
 every0_N xs v w0 ok hl hfew p m g pre lb eg _ (hI.and w) (fun i x hx=>(hp i x hx).and w) c hbud w ⟨hw,grown_id _ _⟩
end Go.Proofs.YtpgnlfdindmopaaGreatDoor
namespace Go.Proofs.YtpgnlfdindmopaaGreatDoor
open Go.RowKit (wrap64 intOf)
open Go Go.RowKit WM LX PX CX
set_option maxRecDepth 100000
set_option maxHeartbeats 4000000
theorem app_1 (a:Value):((#[]:Array Value).push a++#[])=#[a]:=by simp
theorem app_l (a b:Value):((#[]:Array Value).push a++#[b])=#[a,b]:=by simp
theorem app_r (a b:Value):((#[b]:Array Value).push a++#[])=#[b,a]:=by simp
theorem exC_of {w:World}{ok:Nat→Prop}{e:PE}{cs:List Value}(h:RepE w ok e cs):∃ kd nn nm op A L c,cs=exC kd nn nm op A L c:=by
 cases h with
 | mk kind n name op kids A c g F hA hc hk=>exact⟨_,_,_,_,_,_,_,rfl⟩
theorem onesE:Ones RepE 5:=fun _ _ _ _ h=>by
 cases h with
 | mk kind n name op kids A c g F hA hc hk=>exact⟨rfl,by simp[Value.oneCell']⟩
theorem exp_of {w:World}{ok:Nat→Prop}{kd n:Int}{nm:List UInt8}{op:Int}{kids:List PE}{cs:List Value}(h:RepE w ok (.mk kd n nm op kids) cs) :
 ∃ A c,cs=exC kd n nm op A kids.length c∧RepL RepE 5 w ok kids (.slice A kids.length c):=by
 cases h with
 | mk _ _ _ _ _ A c g F hA hc hk =>
  refine⟨A,c,rfl,F,⟨A,c,rfl,fun h0=>?_⟩,hk⟩
  have hne:kids≠[]:=fun h=>by rw[h] at h0;exact absurd h0 (Nat.lt_irrefl _)
  exact⟨g,(hA hne).1,(hA hne).2,fun i j u hi hu=>hc i j u hi hu,fun h=>absurd h (by decide)⟩
theorem inv_kp (m:Option Nat)(w0:World)(hm:∀ b,m=some b→b < w0.heap.size)(ok:Nat→Prop)(hok:∀ b,ok b→b < w0.heap.size∧some b≠m):Inv (fun _=>Kp m w0) ok m w0 :=
 ⟨fun _ _ h b hb=>Ll (hm b hb) h.size,fun _=>easy_kp m w0,fun _ _ _ h _=>h,fun _ _ h b hb=>⟨Ll (hok b hb).1 h.size,h.block b (hok b hb).1 (hok b hb).2⟩⟩
theorem ret_kp {v:Value}{m:Option Nat}{w0 w:World}{e:Ending}{w':World}(h:RetN v w e w')(hI:Kp m w0 w):RetK v m w (Kp m w0) e w':=⟨h.1,kp_to hI (kp_below h.2 m),kp_below h.2 m⟩
abbrev DeepC (d:Nat):Prop:=∀ (e:PE)(cs:List Value)(w:World)(ok:Nat→Prop),RepE w ok e cs→(∀ g,ok g→g < w.heap.size)→szE e≤1000000000 →
 Calls Tryz.prog 114 #[.agg cs.toArray,.int .i64 (d:Int)] w (RetN (.bool (deepE d e)) w)
theorem deep_cl (d:Nat)(hd:d≤20)(h:DeepC (d+1))(B:Nat)(e:PE)(cs:List Value)(w:World)(ok:Nat→Prop)(hr:RepE w ok e cs)(hok:∀ g,ok g→g < w.heap.size)(hs:szE e≤1000000000)
 (hB:B < w.heap.size) (hc:w.cell? ⟨B,0,none⟩=some (.int .i64 (d:Int))) :
 Calls Tryz.prog 162 #[.agg cs.toArray,.pointer (some ⟨B,0,none⟩)] w (RetN (.bool (deepE (d+1) e)) w):=by
 obtain⟨kd,n,nm,op,A,L,c,rfl⟩:=exC_of hr
 have hcall:=h e _ (w.alloc (.cells #[.int .i64 kd,.int .i64 n,.string ⟨nm.toArray⟩,.int .i64 op,.slice A L c] 36)) ok (hr.keep (fun _ h=>h) (fun g hg=>Below.heap_alloc _ _ _ (hok g hg))) (fun g hg=>by rw[World.size_alloc];have:=hok g hg;omega) hs
 have e1:((d+1:Nat):Int)=(d:Int)+1:=by omega
 rw[e1] at hcall
 have HC:=Hd hcall
 clear hcall h e1
 go_enter Tryz.func162,Tryz.ntmps162
 go_wp2_with fail
 refine HC.out.mono ?_
 rintro e w2 ⟨rfl,hb⟩
 go_wp2_with fail
 go_ret
 exact retN rfl (((Below.refl _ _).alloc (Lr _) _).trans (below_down hb (by simp)))
theorem deep_any (m:Nat):∀ d,d+m=21→DeepC d:=by
 induction m with
 | zero =>
  intro d hd e cs w ok hr hok hs
  obtain rfl:d=21:=by omega
  obtain⟨kd,n,nm,op,A,L,c,rfl⟩:=exC_of hr
  cases e with
  | mk kd' n' nm' op' kids =>
   rw[deepE_eq,if_pos (by omega)]
   clear hs hr
   go_enter Tryz.func114,Tryz.ntmps114
   go_wp2_with fail
   go_ret
   exact retN rfl (((Below.refl _ _).alloc (Lr _) _).alloc (by simp) _)
 | succ m ih =>
  intro d hd e cs w ok hr hok hs
  have IH:=Hd (ih (d+1) (by omega))
  clear ih
  cases e with
  | mk kd n nm op kids =>
   rw[deepE_eq,if_neg (by omega)]
   obtain⟨A,c,rfl,hl⟩:=exp_of hr
   rw[szE_eq] at hs
   have hfew:=sumL_len szE kids
   obtain⟨W1,hW1⟩:∃ W1,(w.alloc (.cells #[.int .i64 kd,.int .i64 n,.string ⟨nm.toArray⟩,.int .i64 op,.slice A kids.length c] 36)).alloc (.cells #[.int .i64 (d:Int)] 3)=W1:=⟨_,rfl⟩
   have hb1:Below w.heap.size w W1:=by rw[←hW1];exact ((Below.refl _ _).alloc (Lr _) _).alloc (by simp) _
   have hk1:Blk W1 (w.heap.size+1) 3 #[.int .i64 (d:Int)]:=by rw[←hW1];exact blk_at (by simp) _ _
   have hl1:RepL RepE 5 W1 ok kids (.slice A kids.length c):=hl.keep keepsE (fun _ h=>h) (fun g hg=>hb1.block g (hok g hg))
   have hcall:=contains_E keepsE onesE kids _ W1 ok hl1 (by omega) (deepE (d+1)) none 162 #[] #[.pointer (some ⟨w.heap.size+1,0,none⟩)] (enters_of Tryz.func162 (by kernel_rfl) rfl)
    (fun _=>Kp none W1) (inv_kp none W1 (fun _ h=>by cases h) ok (fun b hb=>⟨Ll (hok b hb) hb1.size,by simp⟩)) (fun _=>0) (fun i x hx cs W c _ hI hr'=>by
     rw[app_l]
     have hlt:=hk1.lt
     exact (deep_cl d (by omega) IH.out (w.heap.size+1) x cs W ok hr' (fun g hg=>Ll (hok g hg) (Nat.le_trans hb1.size hI.size)) (by have:=zA6 szE kids i x hx;omega) (Ll hlt hI.size) ((Cb (hI.block _ hlt (by simp))).trans (hk1.cell 0))).mono fun _ _ h=>ret_kp h hI) 0 (by rw[zB3];omega) W1 (grown_id _ _)
   have HC:=Hd hcall
   have HB:=Hd hb1
   have hne:¬ (20:Int) < (d:Int):=by omega
   obtain⟨len,hlen⟩:∃ len,kids.length=len:=⟨_,rfl⟩
   clear hcall hb1 hk1 hl1 hl hs hr hfew IH
   rw[hlen] at HC hW1 ⊢
   clear hlen
   have HW1:=Hd hW1
   clear hW1
   go_enter Tryz.func114,Tryz.ntmps114
   go_wp2_with fail
   rw[HW1.out]
   refine HC.out.mono ?_
   rintro e w2 ⟨rfl,_,hb⟩
   go_wp2_with fail
   go_ret
   exact retN rfl (HB.out.trans (below_down (below_kp hb) HB.out.size))
end Go.Proofs.YtpgnlfdindmopaaGreatDoor
namespace Go.Proofs.YtpgnlfdindmopaaGreatDoor
open Go.RowKit (wrap64 intOf)
open Go Go.RowKit WM LX PX CX
set_option maxRecDepth 100000
set_option maxHeartbeats 4000000
theorem zBo {w:World}{ok:Nat→Prop}{kd:Int}{nm to:List UInt8}{n:Int}{pos value:PE}{args:List PE}{thn els:List ST}{cs:List Value}(h:RepS w ok (.mk kd nm to n pos value args thn els) cs) :
 ∃ k1 n1 x1 o1 A1 L1 c1 k2 n2 x2 o2 A2 L2 c2 A3 c3 A4 c4 A5 c5,cs=stC kd nm to n k1 n1 x1 o1 A1 L1 c1 k2 n2 x2 o2 A2 L2 c2 A3 args.length c3 A4 thn.length c4 A5 els.length c5 ∧
  RepE w ok pos (exC k1 n1 x1 o1 A1 L1 c1)∧RepE w ok value (exC k2 n2 x2 o2 A2 L2 c2)∧RepL RepE 5 w ok args (.slice A3 args.length c3)∧RepL RepS 17 w ok thn (.slice A4 thn.length c4)∧RepL RepS 17 w ok els (.slice A5 els.length c5):=by
 cases h with
 | mk _ _ _ _ _ _ _ _ _ cp cv va vt ve F G hp hv ha ht he hkt hke =>
  obtain⟨k1,n1,x1,o1,A1,L1,c1,rfl⟩:=exC_of hp
  obtain⟨k2,n2,x2,o2,A2,L2,c2,rfl⟩:=exC_of hv
  obtain⟨F1,⟨A3,c3,rfl,h3⟩,h3'⟩:=ha
  obtain⟨A4,c4,rfl,h4⟩:=ht
  obtain⟨A5,c5,rfl,h5⟩:=he
  exact⟨k1,n1,x1,o1,A1,L1,c1,k2,n2,x2,o2,A2,L2,c2,A3,c3,A4,c4,A5,c5,rfl,hp,hv,⟨F1,⟨A3,c3,rfl,h3⟩,h3'⟩,⟨F,⟨A4,c4,rfl,h4⟩,hkt⟩,⟨G,⟨A5,c5,rfl,h5⟩,hke⟩⟩
theorem zCn:Ones RepS 17:=fun _ _ s _ h=>by
 cases s with
 | mk kd nm to n pos value args thn els =>
  obtain⟨k1,n1,x1,o1,A1,L1,c1,k2,n2,x2,o2,A2,L2,c2,A3,c3,A4,c4,A5,c5,rfl,_⟩:=zBo h
  exact⟨rfl,by simp[Value.oneCell']⟩
theorem Blk.kp {w w':World}{g:Nat}{t:TypeId}{cs:Array Value}{m:Option Nat}(h:Blk w g t cs)(hk:Kp m w w')(hm:∀ b,m=some b→b≠g):Blk w' g t cs :=
 (hk.block g h.lt (fun e=>hm g e.symm rfl)).trans h
def costX (f:PE→Nat):ST→Nat
 | .mk _ _ _ _ pos value args _ _=>(1+f pos)+((1+f value)+sumL f args)
theorem every_X (kd:Int)(nm to:List UInt8)(n:Int)(pos value:PE)(args:List PE)(thn els:List ST)(cs:List Value)(w0:World)(ok:Nat→Prop)(hr:RepS w0 ok (.mk kd nm to n pos value args thn els) cs)(hfew:args.length≤1000000000)
 (p:PE→Bool) (m:Option Nat) (g:Nat) (pre lb:Array Value) (eg:∀ args w,(callFunc g args).run Tryz.prog w=.ok (.enter g args) w) (I:Nat→World→Prop) (hI:Inv I ok m w0) (f:PE→Nat)
 (hp:∀ x,x=pos∨x=value∨x∈args→Tst Tryz.prog RepE ok I m g pre lb p f x) (c:Nat) (hbud:c+costX f (.mk kd nm to n pos value args thn els)≤1000000000000) (w:World) (hw:I c w) :
 Calls Tryz.prog 124 #[.agg cs.toArray,.func (.func g) pre lb] w (RetK (.bool (allX p (.mk kd nm to n pos value args thn els))) m w (I (c+costX f (.mk kd nm to n pos value args thn els)))):=by
 obtain⟨k1,n1,x1,o1,A1,L1,c1,k2,n2,x2,o2,A2,L2,c2,A3,c3,A4,c4,A5,c5,rfl,rp,rv,ra,_,_⟩:=zBo hr
 obtain⟨W1,hW1⟩:∃ W1,w.alloc (.cells (stC kd nm to n k1 n1 x1 o1 A1 L1 c1 k2 n2 x2 o2 A2 L2 c2 A3 args.length c3 A4 thn.length c4 A5 els.length c5).toArray 40)=W1:=⟨_,rfl⟩
 have hk1:Blk W1 w.heap.size 40 (stC kd nm to n k1 n1 x1 o1 A1 L1 c1 k2 n2 x2 o2 A2 L2 c2 A3 args.length c3 A4 thn.length c4 A5 els.length c5).toArray:=by rw[←hW1];exact Blk.new _ _ _
 have hb1:Below w.heap.size w W1:=by rw[←hW1];exact (Below.refl _ _).alloc (Lr _) _
 have hm:∀ b,m=some b→b≠w.heap.size:=fun b hb=>Nat.ne_of_lt (hI.lo c w hw b hb)
 have hI1:=hI.easy c w W1 hw hb1
 have hbud':c+((1+f pos)+((1+f value)+sumL f args))≤1000000000000:=hbud
 have hc1:=hp pos (Or.inl rfl) _ W1 c (by omega) hI1 (rp.keep (fun _ h=>h) (fun b hb=>(hI.ok c W1 hI1 b hb).2))
 have hc2:=fun W2 c' (hc':c'=c+(1+f pos)) (h:I c' W2)=>hp value (Or.inr (Or.inl rfl)) _ W2 c' (by omega) h (rv.keep (fun _ h=>h) (fun b hb=>(hI.ok c' W2 h b hb).2))
 have hc3:=fun W3 c' (hc':c'=c+(1+f pos)+(1+f value)) (h:I c' W3)=>every_E keepsE onesE args _ w0 ok ra hfew p m g pre lb eg I hI f (fun i x hx=>hp x (Or.inr (Or.inr (List.mem_of_getElem? hx)))) c' (by omega) W3 h
 have HC:=Hd (Ai hc1 (Ai hc2 hc3))
 have HK:=Hd (Ai hk1 (Ai hb1 (Ai hm hW1)))
 have HI:=Hd hI
 obtain⟨la,hla⟩:∃ la,args.length=la:=⟨_,rfl⟩
 obtain⟨lt,hlt⟩:∃ lt,thn.length=lt:=⟨_,rfl⟩
 obtain⟨le,hle⟩:∃ le,els.length=le:=⟨_,rfl⟩
 rw[hla,hlt,hle] at HK
 rw[hla] at HC
 simp only[hla,hlt,hle]
 clear hbud hbud' hr rp rv ra hk1 hb1 hm hI1 hc1 hc2 hc3 hW1 hI hp hla hlt hle
 cases hq1:p pos with
 | false =>
  have hall:allX p (.mk kd nm to n pos value args thn els)=false:=by simp[allX,hq1]
  rw[hall]
  have hc1:=HC.out.1
  rw[hq1] at hc1
  have HC1:=Hd hc1
  clear hc1 hq1 hall
  go_enter Tryz.func124,Tryz.ntmps124
  go_wp2_with fail
  rw[HK.out.2.2.2]
  refine HC1.out.mono ?_
  rintro e w2 ⟨rfl,hi,hk⟩
  go_wp2_with fail
  go_ret
  exact retK rfl (HI.out.mono _ _ _ hi (by unfold costX;dsimp only;omega)) (kp_to (kp_below HK.out.2.1 m) hk)
 | true =>
  cases hq2:p value with
  | false =>
   have hall:allX p (.mk kd nm to n pos value args thn els)=false:=by simp[allX,hq1,hq2]
   rw[hall]
   have hc1:=HC.out.1
   rw[hq1] at hc1
   have hc2:=HC.out.2.1
   rw[hq2] at hc2
   have HC1:=Hd hc1
   have HC2:=Hd hc2
   clear hc1 hc2 hq1 hq2 hall
   go_enter Tryz.func124,Tryz.ntmps124
   go_wp2_with fail
   rw[HK.out.2.2.2]
   refine HC1.out.mono ?_
   rintro e w2 ⟨rfl,hi,hk⟩
   have k2:=HK.out.1.kp hk HK.out.2.2.1
   have y0:=k2.cell 9
   have y1:=k2.cell 10
   have y2:=k2.cell 11
   have y3:=k2.cell 12
   have y4:=k2.cell 13
   have HH:=Hd (Ai hi hk)
   clear hi hk k2
   go_wp2_with fail
   refine (HC2.out _ _ rfl HH.out.1).mono ?_
   rintro e w3 ⟨rfl,hi,hk⟩
   have HI3:=Hd (Ai hi hk)
   clear hi hk
   go_wp2_with fail
   go_ret
   exact retK rfl (HI.out.mono _ _ _ HI3.out.1 (by unfold costX;dsimp only;omega)) (kp_to (kp_below HK.out.2.1 m) (kp_to HH.out.2 HI3.out.2))
  | true =>
   have hall:allX p (.mk kd nm to n pos value args thn els)=args.all p:=by simp[allX,hq1,hq2]
   rw[hall]
   have hc1:=HC.out.1
   rw[hq1] at hc1
   have hc2:=HC.out.2.1
   rw[hq2] at hc2
   have HC1:=Hd hc1
   have HC2:=Hd hc2
   obtain⟨r,hr⟩:∃ r,args.all p=r:=⟨_,rfl⟩
   have hc3:=HC.out.2.2
   rw[hr] at hc3 ⊢
   have HC3:=Hd hc3
   clear hc1 hc2 hq1 hq2 hall hc3 hr
   go_enter Tryz.func124,Tryz.ntmps124
   go_wp2_with fail
   rw[HK.out.2.2.2]
   refine HC1.out.mono ?_
   rintro e w2 ⟨rfl,hi,hk⟩
   have k2:=HK.out.1.kp hk HK.out.2.2.1
   have y0:=k2.cell 9
   have y1:=k2.cell 10
   have y2:=k2.cell 11
   have y3:=k2.cell 12
   have y4:=k2.cell 13
   have HH:=Hd (Ai hi (Ai hk k2))
   clear hi hk k2
   go_wp2_with fail
   refine (HC2.out _ _ rfl HH.out.1).mono ?_
   rintro e w3 ⟨rfl,hi,hk⟩
   have y5:=(HH.out.2.2.kp hk HK.out.2.2.1).cell 14
   have HI3:=Hd (Ai hi hk)
   clear hi hk y0 y1 y2 y3 y4
   go_wp2_with fail
   refine (HC3.out _ _ rfl HI3.out.1).mono ?_
   rintro e w4 ⟨rfl,hi,hk⟩
   have HI4:=Hd (Ai hi hk)
   clear hi hk y5
   go_wp2_with fail
   go_ret
   exact retK rfl (HI.out.mono _ _ _ HI4.out.1 (by unfold costX;dsimp only;omega)) (kp_to (kp_below HK.out.2.1 m) (kp_to HH.out.2.1 (kp_to HI3.out.2 HI4.out.2)))
theorem deep_0 (e:PE)(cs:List Value)(w:World)(ok:Nat→Prop)(hr:RepE w ok e cs)(hok:∀ g,ok g→g < w.heap.size)(hs:szE e≤1000000000) :
 Calls Tryz.prog 199 #[.agg cs.toArray] w (RetN (.bool (!deepE 0 e)) w):=by
 obtain⟨kd,n,nm,op,A,L,c,rfl⟩:=exC_of hr
 have hcall:=deep_any 21 0 rfl e _ (w.alloc (.cells #[.int .i64 kd,.int .i64 n,.string ⟨nm.toArray⟩,.int .i64 op,.slice A L c] 36)) ok (hr.keep (fun _ h=>h) (fun g hg=>Below.heap_alloc _ _ _ (hok g hg))) (fun g hg=>by rw[World.size_alloc];have:=hok g hg;omega) hs
 cases hq:deepE 0 e
 all_goals
  rw[hq] at hcall
  have HC:=Hd hcall
  clear hcall hq
  go_enter Tryz.func199,Tryz.ntmps199
  go_wp2_with fail
  refine HC.out.mono ?_
  rintro e w2 ⟨rfl,hb⟩
  go_wp2_with fail
  go_ret
  exact retN rfl (((Below.refl _ _).alloc (Lr _) _).trans (below_down hb (by simp)))
theorem deepX_any (kd:Int)(nm to:List UInt8)(n:Int)(pos value:PE)(args:List PE)(thn els:List ST)(cs:List Value)(w:World)(ok:Nat→Prop)(hr:RepS w ok (.mk kd nm to n pos value args thn els) cs)(hok:∀ g,ok g→g < w.heap.size)
 (hs:szS (.mk kd nm to n pos value args thn els)≤1000000000) :
 Calls Tryz.prog 160 #[.agg cs.toArray] w (RetN (.bool (deepX (.mk kd nm to n pos value args thn els))) w):=by
 have hsz:=hs
 rw[szS_eq] at hsz
 have hla:=sumL_len szE args
 obtain⟨h17,hone⟩:=zCn _ _ _ _ hr
 obtain⟨W1,hW1⟩:∃ W1,w.alloc (.cells cs.toArray 40)=W1:=⟨_,rfl⟩
 have hb1:Below w.heap.size w W1:=by rw[←hW1];exact (Below.refl _ _).alloc (Lr _) _
 have hk1:Blk W1 w.heap.size 40 cs.toArray:=by rw[←hW1];exact Blk.new _ _ _
 have hcall:=every_X kd nm to n pos value args thn els cs W1 ok (hr.keep (fun _ h=>h) (fun g hg=>hb1.block g (hok g hg))) (by omega) (fun e=>!deepE 0 e) none 199 #[] #[] (enters_of Tryz.func199 (by kernel_rfl) rfl)
  (fun _=>Kp none W1) (inv_kp none W1 (fun _ h=>by cases h) ok (fun b hb=>⟨Ll (hok b hb) hb1.size,by simp⟩)) (fun _=>0) (fun x hx cs' W c _ hI hr'=>by
   rw[app_1]
   have hsx:szE x≤1000000000:=by
    rcases hx with rfl | rfl | h
    ·omega
    ·omega
    ·obtain⟨i,hi⟩:=List.getElem?_of_mem h
     have:=zA6 szE args i x hi
     omega
   exact (deep_0 x cs' W ok hr' (fun g hg=>Ll (hok g hg) (Nat.le_trans hb1.size hI.size)) hsx).mono fun _ _ h=>ret_kp h hI) 0 (by unfold costX;dsimp only;rw[zB3];omega) W1 (grown_id _ _)
 have HK:=Hd (Ai hk1 (Ai hb1 hW1))
 have HS:Hid ((Tryz.prog.info? 40).map (·.size)=some cs.toArray.size):=by
  have:cs.toArray.size=17:=by simpa using h17
  rw[this];exact zAf
 unfold deepX
 cases hq:allX (fun e=>!deepE 0 e) (.mk kd nm to n pos value args thn els)
 all_goals
  rw[hq] at hcall
  have HC:=Hd hcall
  clear hcall hq hr hs hsz hla h17 hone hb1 hk1 hW1
  go_enter Tryz.func160,Tryz.ntmps160
  go_wp2_with (refine wpList_load_row rfl _ _ rfl w.heap.size rfl 40 cs.toArray (0,0) _ (Blk.new w _ _) Tryz.underlying40 rfl HS.out ?_)
  rw[HK.out.2.2]
  refine HC.out.mono ?_
  rintro e w2 ⟨rfl,_,hk⟩
  go_wp2_with fail
  go_ret
  exact retN rfl (HK.out.2.1.trans (below_down (below_kp hk) HK.out.2.1.size))
end Go.Proofs.YtpgnlfdindmopaaGreatDoor
