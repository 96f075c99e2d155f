/- Words and walks for the laws of the interpreter. -/
import Derived.Test.YtpgnlfdindmopaaGreatDoorJ1
import Derived.Test.YtpgnlfdindmopaaGreatDoorChecked
import Derived.WalkKit
import Derived.Lib.Hide
import Derived.Test.YtpgnlfdindmopaaGreatDoorJ2
import Derived.Test.YtpgnlfdindmopaaGreatDoorJ0
import Derived.Deep.LoopGhost
import Derived.Deep.RegionWith
namespace Go.Proofs.YtpgnlfdindmopaaGreatDoor
open Go.RowKit (wrap64 intOf)
open Go Go.RowKit WM
abbrev TabP (B:Nat)(w:World):Prop:=Lib.TabBelow Tryz.prog B w "internal/strconv.uint64pow10" .u64 Lib.pow10Tab
theorem cut_any (s d:ByteArray)(neg:Bool)(hd:d=⟨(Lib.trimPrefix s.data.toList [45]).toArray⟩)(hn:neg=Lib.hasPrefix s.data.toList [45])(w:World) :
 Calls Tryz.prog 262 #[.string s,.string ⟨#[45]⟩] w fun e w'=>e=.returned (.tuple #[.string d,.bool neg])∧w=w':=by
 subst hd hn
 exact (Tryz.strings_CutPrefix s ⟨#[45]⟩ w).mono fun e w' ⟨h1,h2⟩=>⟨h1,h2.symm⟩
theorem wtext_any (n:Int)(hn:inW n)(B:Nat)(w:World)(hB:B≤w.heap.size)(ht:TabP B w) :
 Calls Tryz.prog 263 #[.int .i64 n] w fun e w'=>e=.returned (.string ⟨(Lib.itoa n).toArray⟩)∧Below B w w':=by
 have h1:=hn.1
 have h2:=hn.2
 have htab:=ht.here
 go_enter Tryz.func263,Tryz.ntmps263
 go_wp2_with (go_at_call 280;refine (Tryz.strconv_FormatInt_10 n h1 h2 _ htab).mono ?_;rintro e w' ⟨rfl,k,os,rfl⟩)
 go_ret
 exact⟨rfl,Lib.below_grow B w hB k os⟩
theorem itoa_test (n:Int)(s:ByteArray):(Lib.itoa n==s.toList)=(Lib.itoa n==s.data.toList):=by rw[Lib.toList_data]
set_option maxHeartbeats 400000 in
theorem parse_loop (s d:ByteArray)(neg:Bool)(v:Int)(hd:d=⟨(Lib.trimPrefix s.data.toList [45]).toArray⟩)(hn:neg=Lib.hasPrefix s.data.toList [45])
 (hv:v=if neg then wrap64 (-dfold d.data.toList) else dfold d.data.toList) (b:Bool) (hb:(Lib.itoa v==s.toList)=b)
 (hm:d.size≤9223372036854775807) (w:World) (B:Nat) (hB:B≤w.heap.size) (ht:TabP B w) :
 Calls Tryz.prog 252 #[.string s] w fun e w'=>e=.returned (.tuple #[.int .i64 (if b then v else 0),.bool b])∧Below B w w':=by
 have HD:=Hd hd
 have HN:=Hd hn
 have HV:=Hd hv
 have hvin:inW v:=by rw[hv];exact ite_in (wrap_in _) (dfold_in _)
 have hfull:d.data.toList.take d.size=d.data.toList:=List.take_of_length_le (by simp)
 have HF:=Hd hfull
 clear hd hn hv hfull
 go_enter Tryz.func252,Tryz.ntmps252
 go_wp2_with (go_at_call 262;refine (cut_any s d neg HD.out HN.out _).mono ?_;rintro e w' ⟨rfl,rfl⟩)
 go_loop [6,7] (fun n i=>∃ k:Nat,k≤d.size∧i=.int .i64 k∧n=.int .i64 (dfold (d.data.toList.take k))) (fun _ i=>d.size - (intOf i).toNat)
 case atStart=>exact⟨0,Nat.zero_le _,rfl,rfl⟩
 case round =>
  obtain⟨k,hk,rfl,rfl⟩:=hrel
  by_cases hlt:k < d.size
  ·have hsn:dfold (d.data.toList.take (k+1))=wrap64 (wrap64 (wrap64 (10 * dfold (d.data.toList.take k))+wrap64 (d[k].toNat:Int)) - 48):=by rw[take_snoc d k hlt,dfold_snoc];rfl
   have HS:=Hd hsn
   clear hsn
   go_wp2_with fail
   go_round
   case rel=>exact⟨k+1,by omega,by go_num,by rw[HS.out]⟩
   case measure=>simp[intOf];omega
  ·obtain rfl:k=d.size:=by omega
   rw[HF.out]
   cases neg
   ·have hv:=HV.out
    simp only[Bool.false_eq_true,if_false] at hv
    subst hv
    cases b
    all_goals
     go_wp2_with (go_at_call 263;refine (wtext_any _ hvin B _ hB ht).mono ?_;rintro e w' ⟨rfl,hbel⟩)
     go_ret2
     exact⟨rfl,hbel⟩
   ·have hv:=HV.out
    simp only[if_true] at hv
    subst hv
    cases b
    all_goals
     go_wp2_with (go_at_call 263;refine (wtext_any _ hvin B _ hB ht).mono ?_;rintro e w' ⟨rfl,hbel⟩)
     go_ret2
     exact⟨rfl,hbel⟩
theorem wparse_any (s:ByteArray)(hs:s.size≤9223372036854775807)(w:World)(B:Nat)(hB:B≤w.heap.size)(ht:TabP B w) :
 Calls Tryz.prog 252 #[.string s] w fun e w'=>e=.returned (.tuple #[.int .i64 (zBb s.data.toList),.bool (zA0 s.data.toList)])∧Below B w w':=by
 refine parse_loop s ⟨(Lib.trimPrefix s.data.toList [45]).toArray⟩ _ (valF s.data.toList) rfl rfl ?_ (zA0 s.data.toList) ?_ ?_ w B hB ht
 ·unfold valF;rfl
 ·unfold zA0;exact itoa_test _ _
 ·have:=Lib.trimPrefix_le s.data.toList [45]
  have e:(ByteArray.size ⟨(Lib.trimPrefix s.data.toList [45]).toArray⟩)=(Lib.trimPrefix s.data.toList [45]).length:=rfl
  have e2:s.data.toList.length=s.size:=rfl
  omega
end Go.Proofs.YtpgnlfdindmopaaGreatDoor
namespace Go.Proofs.YtpgnlfdindmopaaGreatDoor
open Go.RowKit (wrap64 intOf)
open Go Go.RowKit WM LX PX
abbrev zCv:Array Value:=#[.string ⟨#[97,114,114,97,121]⟩,.string ⟨#[102,117,110,99]⟩,.string ⟨#[118,97,114]⟩,.string ⟨#[114,101,116,117,114,110]⟩,.string ⟨#[105,102]⟩,.string ⟨#[101,108,115,101]⟩,.string ⟨#[119,104,105,108,101]⟩,.string ⟨#[111,117,116]⟩,.string ⟨#[116,114,97,112]⟩]
def opC (o:List UInt8 × Nat × Nat × Bool):List Value:=[.string ⟨o.1.toArray⟩,.int .i64 (o.2.1:Int),.int .i64 (o.2.2.1:Int),.bool o.2.2.2]
abbrev opsCells:Array Value:=#[.string ⟨#[124]⟩,.int .i64 1,.int .i64 10,.bool false,.string ⟨#[94]⟩,.int .i64 2,.int .i64 11,.bool false,.string ⟨#[38]⟩,.int .i64 3,.int .i64 9,.bool false,.string ⟨#[61,61]⟩,.int .i64 4,.int .i64 15,.bool false,.string ⟨#[33,61]⟩,.int .i64 4,.int .i64 16,.bool false,
 .string ⟨#[60]⟩,.int .i64 5,.int .i64 17,.bool false,.string ⟨#[60,61]⟩,.int .i64 5,.int .i64 18,.bool false,.string ⟨#[62]⟩,.int .i64 5,.int .i64 17,.bool true,.string ⟨#[62,61]⟩,.int .i64 5,.int .i64 18,.bool true,.string ⟨#[60,60]⟩,.int .i64 6,.int .i64 12,.bool false,.string ⟨#[62,62]⟩,.int .i64 6,.int .i64 14,.bool false,
 .string ⟨#[62,62,62]⟩,.int .i64 6,.int .i64 13,.bool false,.string ⟨#[43]⟩,.int .i64 7,.int .i64 4,.bool false,.string ⟨#[45]⟩,.int .i64 7,.int .i64 5,.bool false,.string ⟨#[42]⟩,.int .i64 8,.int .i64 6,.bool false,.string ⟨#[47]⟩,.int .i64 8,.int .i64 7,.bool false,.string ⟨#[37]⟩,.int .i64 8,.int .i64 8,.bool false]
theorem opsCells_eq:opsCells=(opsT.flatMap opC).toArray:=by rfl
def Env (B:Nat)(w:World):Prop:=FR.TabAt 2 zCv B w∧FR.TabAt 3 opsCells B w∧TabP B w
theorem Env.on {B:Nat}{w w':World}(h:Env B w)(hb:Below B w w'):Env B w':=⟨h.1.on hb,h.2.1.on hb,h.2.2.on hb⟩
def PSt (ts:List Tk)(p:Nat)(s:PS)(w:World):Prop :=
 ∃ A c,Blk w p 243 #[.slice A ts.length c,.int .i64 (s.i:Int),.bool s.f]∧Toks w p A ts∧Env p w∧s.i≤ts.length∧ts.length≤20000∧∀ t∈ts,t.text.length≤20000
theorem below_down {B B':Nat}{w w':World}(h:Below B w w')(hb:B'≤B):Below B' w w':=⟨h.os,h.tape,h.output,h.size,fun i hi=>h.block i (Ll hi hb)⟩
theorem grown_below' {w w':World}{p:Nat}(h:w.grownBy w' (some p))(hp:p≤w.heap.size):Below p w w':=⟨h.os,h.tape,h.output,h.size,fun i hi=>h.block i (Ll hi hp) (by intro e;injection e with e;omega)⟩
section
variable {ts:List Tk} {p:Nat} {s:PS} {w w':World}
theorem PSt.lt (h:PSt ts p s w):p < w.heap.size:=by
 obtain⟨A,c,hb,_⟩:=h
 exact hb.lt
theorem PSt.keep (h:PSt ts p s w)(hb:Below w.heap.size w w'):PSt ts p s w':=by
 have hp:=h.lt
 obtain⟨A,c,h1,h2,h3,h4⟩:=h
 exact⟨A,c,h1.on hb hp,h2.on (below_down hb (Nat.le_of_lt hp)),h3.on (below_down hb (Nat.le_of_lt hp)),h4⟩
theorem PSt.alloc (h:PSt ts p s w)(o:Obj):PSt ts p s (w.alloc o):=h.keep ((Below.refl _ _).alloc (Lr _) o)
theorem zCu {w:World}{B:Nat}{a:Addr}(ha:B≤a.block)(u:Value):Below B w (w.setCell a u) :=
 (Below.refl B w).setCell ha u
theorem PSt.far (h:PSt ts p s w){a:Addr}(ha:p < a.block)(u:Value):PSt ts p s (w.setCell a u):=by
 obtain⟨A,c,h1,h2,h3,h4⟩:=h
 have hb:=zCu (w:=w) (B:=p) (Nat.le_of_lt ha) u
 exact⟨A,c,h1.far (Nat.ne_of_gt ha) u,h2.on hb,h3.on hb,h4⟩
theorem PSt.setI (h:PSt ts p s w){i:Nat}(hi:i≤ts.length){u:Value}(hu:u=.int .i64 (i:Int)):PSt ts p ⟨i,s.f⟩ (w.setCell ⟨p,1,none⟩ u):=by
 subst hu
 obtain⟨A,c,h1,h2,h3,_,h5⟩:=h
 have hb:=zCu (w:=w) (B:=p) (a:=⟨p,1,none⟩) (Lr _) (.int .i64 (i:Int))
 exact⟨A,c,h1.set 1 _,h2.on hb,h3.on hb,hi,h5⟩
theorem PSt.setF (h:PSt ts p s w):PSt ts p (fl s) (w.setCell ⟨p,2,none⟩ (.bool true)):=by
 obtain⟨A,c,h1,h2,h3,h4⟩:=h
 have hb:=zCu (w:=w) (B:=p) (a:=⟨p,2,none⟩) (Lr _) (.bool true)
 exact⟨A,c,h1.set 2 _,h2.on hb,h3.on hb,h4⟩
theorem PSt.drewN (h:PSt ts p s w)(n:Nat):PSt ts p s (w.drewN n):=h.keep (below_drewN (Below.refl _ _) n)
end
theorem PSt.tok {ts:List Tk}{p:Nat}{s s':PS}{w:World}{t:Tk}(h:PSt ts p s w)(ht:pk ts s'=t):t.text.length≤20000:=by
 subst ht
 obtain⟨_,_,_,_,_,_,_,h6⟩:=h
 unfold pk
 split
 ·exact Nat.zero_le _
 ·by_cases hi:s'.i < ts.length
  ·rw[List.getD_eq_getElem?_getD,Ge hi]
   exact h6 _ (List.getElem_mem hi)
  ·rw[List.getD_eq_getElem?_getD,List.getElem?_eq_none (by omega)]
   exact Nat.zero_le _
theorem PSt.env {ts:List Tk}{p:Nat}{s:PS}{w:World}(h:PSt ts p s w):Env p w:=by
 obtain⟨_,_,_,_,h3,_⟩:=h
 exact h3
theorem PSt.cells {ts:List Tk}{p:Nat}{s:PS}{w:World}(h:PSt ts p s w):w.cell? ⟨p,1,none⟩=some (.int .i64 (s.i:Int))∧w.frozen? ⟨p,1,none⟩=false∧s.i≤20000:=by
 obtain⟨_,_,hb,_,_,h4,h5,_⟩:=h
 obtain⟨_,c1,_,_,f1,_⟩:=hb.cells3
 exact⟨c1,f1,by omega⟩
theorem tok_cells {ts:List Tk}{p:Nat}{w:World}{A:Option Addr}{i:Nat}(h:Toks w p A ts)(hi:i < ts.length):∃ g,A=some ⟨g,0,none⟩∧g < p ∧
 w.cell? ⟨g,i * 3,none⟩=some (.int .i64 ((ts.getD i tk0).kind:Int))∧w.cell? ⟨g,i * 3+1,none⟩=some (.string ⟨(ts.getD i tk0).text.toArray⟩)∧w.cell? ⟨g,i * 3+2,none⟩=some (.int .i64 ((ts.getD i tk0).pos:Int)):=by
 obtain⟨g,hA,hg,hc⟩:=h (by omega)
 have ht:ts[i]?=some (ts.getD i tk0):=by rw[List.getD_eq_getElem?_getD,Ge hi];rfl
 obtain⟨t0,t1,t2⟩:=tksC_get ts i _ ht
 exact⟨g,hA,hg,hc _ _ t0,hc _ _ t1,hc _ _ t2⟩
theorem below_set3 {w w1:World}{B g:Nat}(h:Below B w w1)(hg:B≤g)(a b c:Value):Below B w (((w1.setCell ⟨g,0,none⟩ a).setCell ⟨g,1,none⟩ b).setCell ⟨g,2,none⟩ c) :=
 ((h.setCell hg a).setCell hg b).setCell hg c
abbrev tokV (t:Tk):Value:=.agg #[.int .i64 (t.kind:Int),.string ⟨t.text.toArray⟩,.int .i64 (t.pos:Int)]
def RetN (v:Value)(w:World)(e:Ending)(w':World):Prop:=e=.returned v∧Below w.heap.size w w'
theorem retN {v v':Value}{w w':World}(h:v'=v)(hb:Below w.heap.size w w'):RetN v w (.returned v') w':=⟨by rw[h],hb⟩
set_option maxRecDepth 100000
theorem peek_none (ts:List Tk)(p:Nat)(s:PS)(h0:s.f=true∨ts.length≤s.i)(w:World)(h:PSt ts p s w) :
 Calls Tryz.prog 250 #[.pointer (some ⟨p,0,none⟩)] w (RetN (tokV tk0) w):=by
 obtain⟨A,c,hb,ht,he,hi,hl,_⟩:=h
 obtain⟨i,f⟩:=s
 obtain⟨c0,c1,c2,f0,f1,f2⟩:=hb.cells3
 have hlt:=hb.lt
 dsimp only at h0 hi c1 c2
 clear hb ht he
 generalize ts.length=n at *
 cases f
 ·have h0:n≤i:=by rcases h0 with h | h;exact absurd h (by decide);exact h
  have h1:decide ((n:Int)≤(i:Int))=true:=decide_eq_true (by omega)
  have h2:(n:Int)≤(i:Int):=by omega
  go_enter Tryz.func250,Tryz.ntmps250
  go_wp2_with fail
  go_quiet (fail)
  go_wp2_with fail
  exact bodyPost_ret (v:=.agg #[.int .i64 0,.string ⟨#[]⟩,.int .i64 0]) (by simp[results,Tryz.results250,go_sem]) rfl ⟨rfl,below_set3 (below_drewN ((Below.refl _ _).alloc (Lr _) _) _) (Lr _) _ _ _⟩
 ·clear h0
  go_enter Tryz.func250,Tryz.ntmps250
  go_wp2_with fail
  go_quiet (fail)
  go_wp2_with fail
  exact bodyPost_ret (v:=.agg #[.int .i64 0,.string ⟨#[]⟩,.int .i64 0]) (by simp[results,Tryz.results250,go_sem]) rfl ⟨rfl,below_set3 (below_drewN ((Below.refl _ _).alloc (Lr _) _) _) (Lr _) _ _ _⟩
theorem peek_tok (ts:List Tk)(p i:Nat)(hi:i < ts.length)(t:Tk)(ht:ts.getD i tk0=t)(w:World)(h:PSt ts p ⟨i,false⟩ w) :
 Calls Tryz.prog 250 #[.pointer (some ⟨p,0,none⟩)] w (RetN (.agg #[.int .i64 (t.kind:Int),.string ⟨t.text.toArray⟩,.int .i64 (t.pos:Int)]) w):=by
 obtain⟨A,c,hb,htk,he,_,hl,_⟩:=h
 obtain⟨c0,c1,c2,f0,f1,f2⟩:=hb.cells3
 have hlt:=hb.lt
 obtain⟨g,rfl,hg,d0,d1,d2⟩:=tok_cells htk hi
 rw[ht] at d0 d1 d2
 dsimp only at c1 c2
 clear hb htk he ht
 obtain⟨n,hn⟩:∃ n,ts.length=n:=⟨_,rfl⟩
 rw[hn] at c0 hi hl
 clear hn
 obtain⟨kd,x,o⟩:=t
 dsimp only at d0 d1 d2
 obtain⟨kz,hkz⟩:∃ kz:Int,(kd:Int)=kz:=⟨_,rfl⟩
 rw[hkz] at d0
 have HKD:=Hd hkz
 clear hkz
 have h1:decide ((n:Int)≤(i:Int))=false:=decide_eq_false (by omega)
 have h2:¬ (n:Int)≤(i:Int):=by omega
 have h3:(i:Int) < (n:Int):=by omega
 go_enter Tryz.func250,Tryz.ntmps250
 go_wp2_with fail
 go_quiet (fail)
 go_wp2_with fail
 have hB:=(Blk.new w 102 #[.int .i64 0,.string ⟨#[]⟩,.int .i64 0]).drewN nq
 have hW:Below w.heap.size w ((w.alloc (.cells #[.int .i64 0,.string ⟨#[]⟩,.int .i64 0] 102)).drewN nq):=below_drewN ((Below.refl _ _).alloc (Lr _) _) nq
 obtain⟨hcc,hff⟩:=bcell hW
 replace c0:=(hcc p 0 hlt).trans c0
 replace c1:=(hcc p 1 hlt).trans c1
 replace d0:=(hcc g (i * 3) (by omega)).trans d0
 replace d1:=(hcc g (i * 3+1) (by omega)).trans d1
 replace d2:=(hcc g (i * 3+2) (by omega)).trans d2
 clear hcc hff c2 f0 f1 f2
 generalize hwq:(w.alloc (.cells #[.int .i64 0,.string ⟨#[]⟩,.int .i64 0] 102)).drewN nq=wq at *
 obtain⟨k0,k1,k2,l0,l1,l2⟩:=hB.cells3
 have HB:=Hd hB
 have HW:=Hd hW
 clear hwq hB hW
 go_region
 all_goals
  go_wp2_with fail
  obtain⟨r0,r1,r2,_⟩:=((((HB.out.set 0 (.int .i64 kz)).set 1 (.string ⟨x.toArray⟩)).set 2 (.int .i64 (o:Int))).drewN 1).cells3
  exact bodyPost_ret (v:=.agg #[.int .i64 kz,.string ⟨x.toArray⟩,.int .i64 (o:Int)]) (by simp[results,Tryz.results250,go_sem,show ∀ w:World,w.drew=w.drewN 1 from fun _=>rfl,r0,r1,r2]) rfl ⟨by rw[←HKD.out],below_drewN (below_set3 HW.out (Lr _) _ _ _) 1⟩
theorem zAv (ts:List Tk)(p:Nat)(s:PS)(t:Tk)(ht:Hid (pk ts s=t))(w:World)(h:PSt ts p s w) :
 Calls Tryz.prog 250 #[.pointer (some ⟨p,0,none⟩)] w (RetN (.agg #[.int .i64 (t.kind:Int),.string ⟨t.text.toArray⟩,.int .i64 (t.pos:Int)]) w):=by
 have ht:=ht.out
 obtain⟨i,f⟩:=s
 unfold pk at ht
 cases f
 ·rw[if_neg (by simp)] at ht
  by_cases hi:i < ts.length
  ·exact peek_tok ts p i hi t ht w h
  ·have:ts.getD i tk0=tk0:=by rw[List.getD_eq_getElem?_getD,List.getElem?_eq_none (by omega)];rfl
   obtain rfl:tk0=t:=by rw[←this];exact ht
   exact peek_none ts p _ (Or.inr (by simpa using hi)) w h
 ·rw[if_pos rfl] at ht
  obtain rfl:=ht
  exact peek_none ts p _ (Or.inl rfl) w h
theorem tokF0 (a b c:Value)(w:World):(Instr.field 102 (.agg #[a,b,c]) 0).run Tryz.prog w=.ok a w:=by kernel_rfl
theorem tokF1 (a b c:Value)(w:World):(Instr.field 102 (.agg #[a,b,c]) 1).run Tryz.prog w=.ok b w:=by kernel_rfl
theorem beq_dec (a b:List UInt8):(a==b)=decide (a=b):=by rw[Bool.eq_iff_iff];simp
theorem zB0 (ts:List Tk)(p:Nat)(s:PS)(x:List UInt8)(b:Bool)(hb:Hid (nx ts s x=b))(w:World)(h:PSt ts p s w) :
 Calls Tryz.prog 233 #[.pointer (some ⟨p,0,none⟩),.string ⟨x.toArray⟩] w (RetN (.bool b) w):=by
 obtain⟨t,ht⟩:∃ t,pk ts s=t:=⟨_,rfl⟩
 have HT:=Hd ht
 clear ht
 have kf:=tokF1
 go_enter Tryz.func233,Tryz.ntmps233
 go_wp2_with fail
 refine (zAv ts p s t HT _ h).mono ?_
 rintro e w1 ⟨rfl,hb1⟩
 go_wp2_with fail
 go_ret
 refine retN ?_ hb1
 have e1:=hb.out
 have e2:=HT.out
 unfold nx at e1
 rw[e2] at e1
 rw[←e1]
 exact congrArg Value.bool (beq_dec _ _)
theorem fail_any (ts:List Tk)(p:Nat)(s:PS)(w:World)(h:PSt ts p s w) :
 Calls Tryz.prog 220 #[.pointer (some ⟨p,0,none⟩)] w fun e w'=>e=.returned (.tuple #[])∧w.setCell ⟨p,2,none⟩ (.bool true)=w':=by
 obtain⟨A,c,hb,_⟩:=h
 obtain⟨c0,c1,c2,f0,f1,f2⟩:=hb.cells3
 clear hb
 go_enter Tryz.func220,Tryz.ntmps220
 go_wp2_with fail
 go_end0
 exact⟨rfl,rfl⟩
def AccP (ts:List Tk)(p:Nat)(q:PS)(v:Value)(w:World)(e:Ending)(w':World):Prop:=e=.returned v∧w.grownBy w' (some p)∧PSt ts p q w'
theorem zAa {w w':World}(h:Below w.heap.size w w')(row:Option Nat):w.grownBy w' row:=⟨h.os,h.tape,h.output,h.size,fun i hi _=>h.block i hi⟩
theorem zAz {w w':World}{r i:Nat}(h:w.grownBy w' (some r))(u:Value):w.grownBy (w'.setCell ⟨r,i,none⟩ u) (some r) :=
 ⟨h.os,h.tape,h.output,by simpa[World.setCell] using h.size,fun k hk hne=>(Below.heap_setCell w' ⟨r,i,none⟩ u k (fun e=>hne (by rw[e]))).trans (h.block k hk hne)⟩
theorem accP {ts:List Tk}{p:Nat}{q:PS}{v v':Value}{w w':World}(hv:v'=v)(hg:w.grownBy w' (some p))(hp:PSt ts p q w'):AccP ts p q v w (.returned v') w':=⟨by rw[hv],hg,hp⟩
theorem zAd (ts:List Tk)(p:Nat)(s:PS)(x:List UInt8)(hb:Hid (nx ts s x=false))(w:World)(h:PSt ts p s w) :
 Calls Tryz.prog 217 #[.pointer (some ⟨p,0,none⟩),.string ⟨x.toArray⟩] w (AccP ts p s (.bool false) w):=by
 go_enter Tryz.func217,Tryz.ntmps217
 go_wp2_with fail
 refine (zB0 ts p s x false hb _ h).mono ?_
 rintro e w1 ⟨rfl,hb1⟩
 go_wp2_with fail
 go_ret
 exact accP rfl (zAa hb1 _) (h.keep hb1)
theorem zAi (ts:List Tk)(p:Nat)(s:PS)(x:List UInt8)(hx:x≠[])(hb:Hid (nx ts s x=true))(w:World)(h:PSt ts p s w) :
 Calls Tryz.prog 217 #[.pointer (some ⟨p,0,none⟩),.string ⟨x.toArray⟩] w (AccP ts p (adv s) (.bool true) w):=by
 obtain⟨_,hl⟩:=zA5 hx hb.out
 clear hx
 go_enter Tryz.func217,Tryz.ntmps217
 go_wp2_with fail
 refine (zB0 ts p s x true hb _ h).mono ?_
 rintro e w1 ⟨rfl,hb1⟩
 have h1:=h.keep hb1
 have H1:=Hd h1
 obtain⟨A,c,hc,_,_,_,h5,_⟩:=h1
 obtain⟨c0,c1,c2,f0,f1,f2⟩:=hc.cells3
 clear hc
 go_wp2_with fail
 go_ret
 exact accP rfl (zAz (zAa hb1 _) _) (H1.out.setI (by omega) rfl)
theorem expect_no (ts:List Tk)(p:Nat)(s:PS)(x:List UInt8)(hb:Hid (nx ts s x=false))(w:World)(h:PSt ts p s w) :
 Calls Tryz.prog 236 #[.pointer (some ⟨p,0,none⟩),.string ⟨x.toArray⟩] w (AccP ts p (fl s) (.tuple #[]) w):=by
 go_enter Tryz.func236,Tryz.ntmps236
 go_wp2_with fail
 refine (zAd ts p s x hb _ h).mono ?_
 rintro e w1 ⟨rfl,hg,hp⟩
 go_wp2_with fail
 refine (fail_any ts p s _ hp).mono ?_
 rintro e w2 ⟨rfl,rfl⟩
 go_wp2_with fail
 go_end0
 exact accP rfl (zAz hg _) hp.setF
theorem expect_yes (ts:List Tk)(p:Nat)(s:PS)(x:List UInt8)(hx:x≠[])(hb:Hid (nx ts s x=true))(w:World)(h:PSt ts p s w) :
 Calls Tryz.prog 236 #[.pointer (some ⟨p,0,none⟩),.string ⟨x.toArray⟩] w (AccP ts p (adv s) (.tuple #[]) w):=by
 have HX:=Hd hx
 clear hx
 go_enter Tryz.func236,Tryz.ntmps236
 go_wp2_with fail
 refine (zAi ts p s x HX.out hb _ h).mono ?_
 rintro e w1 ⟨rfl,hg,hp⟩
 go_wp2_with fail
 go_end0
 exact accP rfl hg hp
theorem zAg (ts:List Tk)(p:Nat)(s s':PS)(x:List UInt8)(hx:x≠[])(hs:Hid (exs ts s x=s'))(w:World)(h:PSt ts p s w) :
 Calls Tryz.prog 236 #[.pointer (some ⟨p,0,none⟩),.string ⟨x.toArray⟩] w (AccP ts p s' (.tuple #[]) w):=by
 obtain rfl:=hs.out
 unfold exs
 by_cases hb:nx ts s x=true
 ·rw[if_pos hb];exact expect_yes ts p s x hx (Hd hb) w h
 ·rw[if_neg hb];exact expect_no ts p s x (Hd (by simpa using hb)) w h
theorem rx (k:Nat)(hk:k < 9):∃ x:List UInt8,(∀ w:World,(Instr.index 294 (.agg zCv) (.int .i64 (k:Int))).run Tryz.prog w=.ok (.string ⟨x.toArray⟩) w)∧x=resW.getD k []:=by
 have hc:k=0∨k=1∨k=2∨k=3∨k=4∨k=5∨k=6∨k=7∨k=8:=by omega
 rcases hc with rfl | rfl | rfl | rfl | rfl | rfl | rfl | rfl | rfl
 all_goals exact⟨_,fun w=>by kernel_rfl,rfl⟩
theorem ret_b {a b:Bool}(h:a=b):Ending.returned (.bool a)=.returned (.bool b):=by rw[h]
theorem res_in (j:Nat)(hj:j < 9):resW.contains (resW.getD j [])=true:=by
 have hc:j=0∨j=1∨j=2∨j=3∨j=4∨j=5∨j=6∨j=7∨j=8:=by omega
 rcases hc with rfl | rfl | rfl | rfl | rfl | rfl | rfl | rfl | rfl <;> decide
theorem res_out {x:List UInt8}(h:∀ k,k < 9→resW.getD k []≠x):resW.contains x=false:=by
 cases hc:resW.contains x with
 | false=>rfl
 | true =>
  exfalso
  have hm:=List.contains_iff_mem.1 hc
  obtain⟨i,hi,he⟩:=List.mem_iff_getElem.1 hm
  refine h i hi ?_
  rw[List.getD_eq_getElem?_getD,Ge hi,←he];rfl
theorem isReserved_any (x:List UInt8)(b:Bool)(hb:Hid (resW.contains x=b))(B:Nat)(w:World)(ht:FR.TabAt 2 zCv B w) :
 Calls Tryz.prog 261 #[.string ⟨x.toArray⟩] w (fun e w'=>e=.returned (.bool b)∧w=w'):=by
 obtain⟨_,tt,fr,hg⟩:=ht
 have HG:=Hd hg
 clear hg
 go_enter Tryz.func261,Tryz.ntmps261
 go_wp2_with (refine wpList_load_row rfl 294 _ rfl 2 rfl tt _ fr _ HG.out Tryz.underlying294 rfl (by kernel_rfl) ?_)
 go_loop [6] (fun i=>∃ j:Nat,j≤9∧(∀ k,k < j→resW.getD k []≠x)∧i=.int .i64 j) (fun i=>9 - (intOf i).toNat)
 case atStart=>exact⟨0,Nat.zero_le _,fun i hi=>absurd hi (by omega),rfl⟩
 case round =>
  obtain⟨j,hj,hd,rfl⟩:=hrel
  have HD:=Hd hd
  clear hd
  by_cases hlt:j < 9
  ·obtain⟨y,hix,hy⟩:=rx j hlt
   have HY:=Hd hy
   clear hy
   by_cases he:x=y
   ·have he1:(x==y)=true:=by simp[he]
    have HE:=Hd he
    clear he
    go_wp2_with fail
    go_ret
    exact⟨ret_b (by rw[←hb.out,HE.out,HY.out];exact (res_in j hlt).symm),rfl⟩
   ·have he1:(x==y)=false:=by simp[he]
    have HE:=Hd he
    clear he
    go_wp2_with fail
    go_round
    case rel=>exact⟨j+1,by omega,fun k hk=>by
     by_cases e:k=j
     ·subst e;rw[←HY.out];exact fun e=>HE.out e.symm
     ·exact HD.out k (by omega),by go_num⟩
    case measure=>simp[intOf];omega
  ·obtain rfl:j=9:=by omega
   go_wp2_with fail
   go_ret
   exact⟨ret_b (by rw[←hb.out];exact (res_out HD.out).symm),rfl⟩
end Go.Proofs.YtpgnlfdindmopaaGreatDoor
namespace Go.Proofs.YtpgnlfdindmopaaGreatDoor
open Go.RowKit (wrap64 intOf)
open Go Go.RowKit WM LX PX
abbrev exV (kind n:Int)(name:List UInt8)(op:Int)(A:Option Addr)(L c:Nat):Value:=.agg #[.int .i64 kind,.int .i64 n,.string ⟨name.toArray⟩,.int .i64 op,.slice A L c]
abbrev exC (kind n:Int)(name:List UInt8)(op:Int)(A:Option Addr)(L c:Nat):List Value:=[.int .i64 kind,.int .i64 n,.string ⟨name.toArray⟩,.int .i64 op,.slice A L c]
abbrev Rg (lo hi g:Nat):Prop:=lo≤g∧g < hi
inductive RepE (w:World) (ok:Nat→Prop):PE→List Value→Prop where
 | mk (kind n:Int) (name:List UInt8) (op:Int) (kids:List PE) (A:Option Addr) (c g:Nat) (F:Nat→List Value)
  (hA:kids≠[]→A=some ⟨g,0,none⟩∧ok g)
  (hc:∀ i j u,i < kids.length→(F i)[j]?=some u→w.cell? ⟨g,i * 5+j,none⟩=some u)
  (hk:∀ i e,kids[i]?=some e→RepE w ok e (F i)) :
  RepE w ok (.mk kind n name op kids) (exC kind n name op A kids.length c)
theorem RepE.keep {w w':World}{ok ok':Nat→Prop}{e:PE}{cs:List Value}(h:RepE w ok e cs)(hok:∀ g,ok g→ok' g)(hw:∀ g,ok g→w'.heap[g]?=w.heap[g]?):RepE w' ok' e cs:=by
 induction h with
 | mk kind n name op kids A c g F hA hc hk ih =>
  refine RepE.mk kind n name op kids A c g F (fun h=>⟨(hA h).1,hok _ (hA h).2⟩) (fun i j u hi hu=>?_) ih
  have hne:kids≠[]:=fun h=>by rw[h] at hi;exact absurd hi (Nat.not_lt_zero i)
  exact (Cb (hw g (hA hne).2)).trans (hc i j u hi hu)
theorem repE_leaf (w:World)(ok:Nat→Prop)(kind n:Int)(name:List UInt8)(op:Int)(A:Option Addr)(c:Nat):RepE w ok (.mk kind n name op []) (exC kind n name op A 0 c) :=
 RepE.mk kind n name op [] A c 0 (fun _=>[]) (fun h=>absurd rfl h) (fun i _ _ hi=>absurd hi (Nat.not_lt_zero i)) (fun i e h=>by simp at h)
theorem flat_at (k:Nat):∀ (css:List (List Value)),(∀ cs∈css,cs.length=k)→∀ i j u cs,css[i]?=some cs→cs[j]?=some u→css.flatten[i * k+j]?=some u:=fun css=>by
 induction css with
 | nil=>intro _ i j u cs h;simp at h
 | cons a r ih =>
  intro h5 i j u cs hi hj
  have ha:=h5 a (by simp)
  rw[List.flatten_cons]
  cases i with
  | zero =>
   obtain rfl:a=cs:=by simpa using hi
   have:j < a.length:=(Gs.1 hj).1
   rw[Nat.zero_mul,Nat.zero_add,List.getElem?_append_left this];exact hj
  | succ i =>
   have:=ih (fun cs h=>h5 cs (by simp[h])) i j u cs (by simpa using hi) hj
   rw[List.getElem?_append_right (by rw[ha,Nat.add_mul];omega),show (i+1) * k+j - a.length=i * k+j by rw[ha,Nat.add_mul];omega];exact this
theorem repE_node {w:World}{ok:Nat→Prop}{kids:List PE}{css:List (List Value)}{g:Nat}(hl:kids.length=css.length)(h5:∀ cs∈css,cs.length=5)
 (hb:∀ (j:Nat) (u:Value),css.flatten[j]?=some u→w.cell? ⟨g,j,none⟩=some u) (hg:ok g) (hk:∀ (i:Nat) (e:PE) (cs:List Value),kids[i]?=some e→css[i]?=some cs→RepE w ok e cs) (kind n:Int) (name:List UInt8) (op:Int) (c:Nat) :
 RepE w ok (.mk kind n name op kids) (exC kind n name op (some ⟨g,0,none⟩) kids.length c):=by
 refine RepE.mk kind n name op kids _ c g (fun i=>css.getD i []) (fun _=>⟨rfl,hg⟩) (fun i j u hi hu=>?_) (fun i e he=>?_)
 ·have hi2:i < css.length:=by omega
  have hci:css[i]?=some (css.getD i []):=by rw[List.getD_eq_getElem?_getD,Ge hi2];rfl
  exact hb _ _ (flat_at 5 css h5 i j u _ hci hu)
 ·have hi2:i < css.length:=by have:=(Gs.1 he).1;omega
  exact hk i e _ he (by rw[List.getD_eq_getElem?_getD,Ge hi2];rfl)
theorem blk_cells {w:World}{g:Nat}{t:TypeId}{cs:Array Value}{l:List Value}(h:Blk w g t cs)(hl:cs=l.toArray)(j:Nat)(u:Value)(hu:l[j]?=some u):w.cell? ⟨g,j,none⟩=some u:=by
 rw[h.cell j,hl];simpa using hu
theorem repE_1 {w:World}{ok:Nat→Prop}{a:PE}{ca:List Value}{g c:Nat}{t:TypeId}{cs:Array Value}(hb:Blk w g t cs)(hcs:cs=ca.toArray)(hg:ok g)(ha:RepE w ok a ca)(h5:ca.length=5)(kind n:Int)(name:List UInt8)(op:Int) :
 RepE w ok (.mk kind n name op [a]) (exC kind n name op (some ⟨g,0,none⟩) 1 c) :=
 repE_node (kids:=[a]) (css:=[ca]) rfl (by simpa using h5) (fun j u hu=>blk_cells hb hcs j u (by simpa using hu)) hg (fun i e cs he hc=>by
  match i with
  | 0=>simp at he hc;subst he hc;exact ha
  | i+1=>simp at he) kind n name op c
theorem repE_2 {w:World}{ok:Nat→Prop}{a b:PE}{ca cb:List Value}{g c:Nat}{t:TypeId}{cs:Array Value}(hb:Blk w g t cs)(hcs:cs=(ca++cb).toArray)(hg:ok g)(ha:RepE w ok a ca)(hb':RepE w ok b cb)(h5:ca.length=5)(h6:cb.length=5)(kind n:Int)(name:List UInt8)(op:Int) :
 RepE w ok (.mk kind n name op [a,b]) (exC kind n name op (some ⟨g,0,none⟩) 2 c) :=
 repE_node (kids:=[a,b]) (css:=[ca,cb]) rfl (by simpa using ⟨h5,h6⟩) (fun j u hu=>blk_cells hb hcs j u (by simpa using hu)) hg (fun i e cs he hc=>by
  match i with
  | 0=>simp at he hc;subst he hc;exact ha
  | 1=>simp at he hc;subst he hc;exact hb'
  | i+2=>simp at he) kind n name op c
theorem repE_3 {w:World}{ok:Nat→Prop}{a b d:PE}{ca cb cd:List Value}{g c:Nat}{t:TypeId}{cs:Array Value}(hb:Blk w g t cs)(hcs:cs=(ca++cb++cd).toArray)(hg:ok g)(ha:RepE w ok a ca)(hb':RepE w ok b cb)(hd:RepE w ok d cd)(h5:ca.length=5)(h6:cb.length=5)(h7:cd.length=5)(kind n:Int)(name:List UInt8)(op:Int) :
 RepE w ok (.mk kind n name op [a,b,d]) (exC kind n name op (some ⟨g,0,none⟩) 3 c) :=
 repE_node (kids:=[a,b,d]) (css:=[ca,cb,cd]) rfl (by simpa using ⟨h5,h6,h7⟩) (fun j u hu=>blk_cells hb hcs j u (by simpa using hu)) hg (fun i e cs he hc=>by
  match i with
  | 0=>simp at he hc;subst he hc;exact ha
  | 1=>simp at he hc;subst he hc;exact hb'
  | 2=>simp at he hc;subst he hc;exact hd
  | i+3=>simp at he) kind n name op c
section
variable {w w':World} {lo hi p:Nat} {e:PE} {cs:List Value}
theorem RepE.mono {lo' hi':Nat}(h:RepE w (Rg lo hi) e cs)(h1:lo'≤lo)(h2:hi≤hi'):RepE w (Rg lo' hi') e cs:=h.keep (fun _ hg=>⟨Nat.le_trans h1 hg.1,Ll hg.2 h2⟩) (fun _ _=>rfl)
theorem RepE.grown (h:RepE w (Rg lo hi) e cs)(hg:w.grownBy w' (some p))(hp:p < lo)(hh:hi≤w.heap.size):RepE w' (Rg lo hi) e cs :=
 h.keep (fun _ h=>h) (fun g hr=>hg.block g (Ll hr.2 hh) (by intro e;injection e with e;have:=hr.1;omega))
theorem RepE.under (h:RepE w (Rg lo hi) e cs){B:Nat}(hg:Below B w w')(hh:hi≤B):RepE w' (Rg lo hi) e cs :=
 h.keep (fun _ h=>h) (fun g hr=>hg.block g (Ll hr.2 hh))
theorem RepE.alloc (h:RepE w (Rg lo hi) e cs)(hh:hi≤w.heap.size)(o:Obj):RepE (w.alloc o) (Rg lo hi) e cs:=h.under ((Below.refl _ _).alloc (Lr _) o) hh
theorem RepE.far (h:RepE w (Rg lo hi) e cs){a:Addr}(ha:a.block < lo∨hi≤a.block)(u:Value):RepE (w.setCell a u) (Rg lo hi) e cs :=
 h.keep (fun _ h=>h) (fun g hr=>Below.heap_setCell w a u g (by have:=hr.1;have:=hr.2;omega))
theorem RepE.drewN (h:RepE w (Rg lo hi) e cs)(n:Nat):RepE (w.drewN n) (Rg lo hi) e cs:=h.keep (fun _ h=>h) (fun _ _=>rfl)
end
def ExP (ts:List Tk)(p:Nat)(q:PE × PS)(w:World)(e:Ending)(w':World):Prop :=
 ∃ kind n name op A L c,e=.returned (exV kind n name op A L c)∧RepE w' (Rg w.heap.size w'.heap.size) q.1 (exC kind n name op A L c)∧w.grownBy w' (some p)∧PSt ts p q.2 w'
theorem exP {ts:List Tk}{p:Nat}{pe:PE}{q:PS}{w w':World}{kind n:Int}{name:List UInt8}{op:Int}{A:Option Addr}{L c:Nat}(hr:RepE w' (Rg w.heap.size w'.heap.size) pe (exC kind n name op A L c))(hg:w.grownBy w' (some p))(hp:PSt ts p q w') :
 ExP ts p (pe,q) w (.returned (exV kind n name op A L c)) w':=⟨_,_,_,_,_,_,_,rfl,hr,hg,hp⟩
abbrev ex0:Array Value:=#[.int .i64 0,.int .i64 0,.string ⟨#[]⟩,.int .i64 0,.slice none 0 0]
theorem Blk.cells5 {w:World}{g:Nat}{t:TypeId}{a b c d e:Value}(h:Blk w g t #[a,b,c,d,e]):w.cell? ⟨g,0,none⟩=some a∧w.cell? ⟨g,1,none⟩=some b∧w.cell? ⟨g,2,none⟩=some c∧w.cell? ⟨g,3,none⟩=some d∧w.cell? ⟨g,4,none⟩=some e ∧
 w.frozen? ⟨g,0,none⟩=false∧w.frozen? ⟨g,1,none⟩=false∧w.frozen? ⟨g,2,none⟩=false∧w.frozen? ⟨g,3,none⟩=false∧w.frozen? ⟨g,4,none⟩=false :=
 ⟨h.cell 0,h.cell 1,h.cell 2,h.cell 3,h.cell 4,h.free 0,h.free 1,h.free 2,h.free 3,h.free 4⟩
theorem grown_to {a b c:World}{row:Option Nat}(h:a.grownBy b row)(k:b.grownBy c row):a.grownBy c row :=
 ⟨k.os.trans h.os,k.tape.trans h.tape,k.output.trans h.output,Nat.le_trans h.size k.size,fun i hi hne=>(k.block i (Ll hi h.size) hne).trans (h.block i hi hne)⟩
theorem grown_id (w:World)(row:Option Nat):w.grownBy w row:=World.grownBy.refl w row
theorem grown_al {a w:World}{row:Option Nat}(h:a.grownBy w row)(o:Obj):a.grownBy (w.alloc o) row:=grown_to h (World.grownBy_alloc w o row)
theorem grown_fr {a w:World}{row:Option Nat}(h:a.grownBy w row){q:Addr}(hp:a.heap.size≤q.block)(u:Value):a.grownBy (w.setCell q u) row :=
 ⟨h.os,h.tape,h.output,by simpa[World.setCell] using h.size,fun k hk hne=>(Below.heap_setCell w q u k (fun e=>by omega)).trans (h.block k hk hne)⟩
theorem Blk.gr {w w':World}{g p:Nat}{t:TypeId}{cs:Array Value}(h:Blk w g t cs)(hb:w.grownBy w' (some p))(hr:p≠g):Blk w' g t cs:=h.grown hb (by simp;exact hr)
structure Own (ts:List Tk)(p:Nat)(q:PS)(t:TypeId)(cs:Array Value)(w w1:World):Prop where
 g:w.grownBy w1 (some p)
 s:PSt ts p q w1
 r:Blk w1 w.heap.size t cs
 p:p < w.heap.size
section
variable {ts:List Tk} {p:Nat} {q q':PS} {t:TypeId} {cs:Array Value} {w w1 w2:World}
theorem Own.start (h:PSt ts p q w)(t:TypeId)(cs:Array Value):Own ts p q t cs w (w.alloc (.cells cs t)):=⟨grown_al (grown_id _ _) _,h.alloc _,Blk.new _ _ _,h.lt⟩
theorem Own.sz (o:Own ts p q t cs w w1):w.heap.size < w1.heap.size:=o.r.lt
theorem Own.acc (o:Own ts p q t cs w w1)(hg:w1.grownBy w2 (some p))(hp:PSt ts p q' w2):Own ts p q' t cs w w2:=⟨grown_to o.g hg,hp,o.r.gr hg (Nat.ne_of_lt o.p),o.p⟩
theorem Own.low (o:Own ts p q t cs w w1)(hb:Below w1.heap.size w1 w2):Own ts p q t cs w w2:=o.acc (zAa hb _) (o.s.keep hb)
theorem Own.al (o:Own ts p q t cs w w1)(x:Obj):Own ts p q t cs w (w1.alloc x):=o.low ((Below.refl _ _).alloc (Lr _) x)
theorem Own.setI (o:Own ts p q t cs w w1){i:Nat}(hi:i≤ts.length){u:Value}(hu:u=.int .i64 (i:Int)):Own ts p ⟨i,q.f⟩ t cs w (w1.setCell ⟨p,1,none⟩ u) :=
 o.acc (zAz (grown_id _ _) _) (o.s.setI hi hu)
theorem Own.setF (o:Own ts p q t cs w w1):Own ts p (fl q) t cs w (w1.setCell ⟨p,2,none⟩ (.bool true)):=o.acc (zAz (grown_id _ _) _) o.s.setF
theorem Own.far (o:Own ts p q t cs w w1){a:Addr}(h:w.heap.size < a.block)(u:Value):Own ts p q t cs w (w1.setCell a u) :=
 ⟨grown_fr o.g (Nat.le_of_lt h) _,o.s.far (Nat.lt_trans o.p h) _,o.r.far (Nat.ne_of_gt h) _,o.p⟩
end
abbrev set5 (w1:World)(g:Nat)(a b c d e:Value):World:=((((w1.setCell ⟨g,0,none⟩ a).setCell ⟨g,1,none⟩ b).setCell ⟨g,2,none⟩ c).setCell ⟨g,3,none⟩ d).setCell ⟨g,4,none⟩ e
theorem zBj (w1:World)(g:Nat)(a b c d e:Value):(set5 w1 g a b c d e).heap.size=w1.heap.size:=by simp[World.setCell]
theorem zBp (w1:World)(g:Nat)(a b c d e:Value)(x:Nat)(hx:x≠g):(set5 w1 g a b c d e).heap[x]?=w1.heap[x]? :=
 (Below.heap_setCell _ _ _ _ hx).trans ((Below.heap_setCell _ _ _ _ hx).trans ((Below.heap_setCell _ _ _ _ hx).trans ((Below.heap_setCell _ _ _ _ hx).trans (Below.heap_setCell _ _ _ _ hx))))
theorem zB2 {w1:World}{g:Nat}{t:TypeId}{a0 b0 c0 d0 e0:Value}(h:Blk w1 g t #[a0,b0,c0,d0,e0])(a b c d e:Value):Blk (set5 w1 g a b c d e) g t #[a,b,c,d,e] :=
 ((((h.set 0 a).set 1 b).set 2 c).set 3 d).set 4 e
theorem set5_grown {w w1:World}{p g:Nat}(h:w.grownBy w1 (some p))(hg:w.heap.size≤g)(a b c d e:Value):w.grownBy (set5 w1 g a b c d e) (some p) :=
 grown_fr (grown_fr (grown_fr (grown_fr (grown_fr h hg _) hg _) hg _) hg _) hg _
theorem set5_pst {ts:List Tk}{p g:Nat}{q:PS}{w1:World}(h:PSt ts p q w1)(hg:p < g)(a b c d e:Value):PSt ts p q (set5 w1 g a b c d e) :=
 ((((h.far hg _).far hg _).far hg _).far hg _).far hg _
theorem set5_rep {w1:World}{lo hi g:Nat}{pe:PE}{cs:List Value}(h:RepE w1 (Rg lo hi) pe cs)(hg:g < lo∨hi≤g)(a b c d e:Value):RepE (set5 w1 g a b c d e) (Rg lo hi) pe cs :=
 h.keep (fun _ h=>h) (fun x hx=>zBp w1 g a b c d e x (by have:=hx.1;have:=hx.2;omega))
theorem Own.ok {ts:List Tk}{p:Nat}{q:PS}{t:TypeId}{w w1:World}(o:Own ts p q t ex0 w w1) :
 w1.cell? ⟨w.heap.size,0,none⟩=some (.int .i64 0)∧w1.cell? ⟨w.heap.size,1,none⟩=some (.int .i64 0)∧w1.cell? ⟨w.heap.size,2,none⟩=some (.string ⟨#[]⟩)∧w1.cell? ⟨w.heap.size,3,none⟩=some (.int .i64 0)∧w1.cell? ⟨w.heap.size,4,none⟩=some (.slice none 0 0) ∧
 w1.frozen? ⟨w.heap.size,0,none⟩=false∧w1.frozen? ⟨w.heap.size,1,none⟩=false∧w1.frozen? ⟨w.heap.size,2,none⟩=false∧w1.frozen? ⟨w.heap.size,3,none⟩=false∧w1.frozen? ⟨w.heap.size,4,none⟩=false:=o.r.cells5
theorem Own.fin {ts:List Tk}{p:Nat}{q:PS}{t:TypeId}{w w1:World}(o:Own ts p q t ex0 w w1){pe:PE}{kind n:Int}{name:List UInt8}{op:Int}{A:Option Addr}{L c:Nat}(hr:RepE w1 (Rg (w.heap.size+1) w1.heap.size) pe (exC kind n name op A L c)) :
 Blk (set5 w1 w.heap.size (.int .i64 kind) (.int .i64 n) (.string ⟨name.toArray⟩) (.int .i64 op) (.slice A L c)) w.heap.size t #[.int .i64 kind,.int .i64 n,.string ⟨name.toArray⟩,.int .i64 op,.slice A L c] ∧
 ExP ts p (pe,q) w (.returned (exV kind n name op A L c)) (set5 w1 w.heap.size (.int .i64 kind) (.int .i64 n) (.string ⟨name.toArray⟩) (.int .i64 op) (.slice A L c)) :=
 ⟨zB2 o.r _ _ _ _ _,exP ((set5_rep hr (Or.inl (Nat.lt_succ_self _)) _ _ _ _ _).mono (Nat.le_succ _) (by rw[zBj];exact Lr _)) (set5_grown o.g (Lr _) _ _ _ _ _) (set5_pst o.s o.p _ _ _ _ _)⟩
structure Hold (w1:World)(p B lo hi g:Nat)(t:TypeId)(pe:PE)(kd nn:Int)(nm:List UInt8)(op:Int)(A:Option Addr)(L c:Nat):Prop where
 r:RepE w1 (Rg lo hi) pe (exC kd nn nm op A L c)
 k:Blk w1 g t #[.int .i64 kd,.int .i64 nn,.string ⟨nm.toArray⟩,.int .i64 op,.slice A L c]
 h:hi≤g
 l:B < lo
 n:lo≤hi
 q:p < B
section
variable {w1 w2:World} {p B lo hi g:Nat} {t:TypeId} {pe:PE} {kd nn:Int} {nm:List UInt8} {op:Int} {A:Option Addr} {L c:Nat}
theorem Hold.start {ts:List Tk}{q:PS}{t':TypeId}{cs:Array Value}{w wp w1:World}{p:Nat}{pe:PE}{kd nn:Int}{nm:List UInt8}{op:Int}{A:Option Addr}{L c:Nat}(hr:RepE w1 (Rg wp.heap.size w1.heap.size) pe (exC kd nn nm op A L c))(o:Own ts p q t' cs w wp)(hn:wp.heap.size≤w1.heap.size)(t:TypeId) :
 Hold (w1.alloc (.cells #[.int .i64 kd,.int .i64 nn,.string ⟨nm.toArray⟩,.int .i64 op,.slice A L c] t)) p w.heap.size wp.heap.size w1.heap.size w1.heap.size t pe kd nn nm op A L c :=
 ⟨hr.alloc (Lr _) _,Blk.new _ _ _,Lr _,o.sz,hn,o.p⟩
theorem Hold.acc (x:Hold w1 p B lo hi g t pe kd nn nm op A L c)(hg:w1.grownBy w2 (some p)):Hold w2 p B lo hi g t pe kd nn nm op A L c :=
 ⟨x.r.grown hg (Nat.lt_trans x.q x.l) (Nat.le_trans x.h (Nat.le_of_lt x.k.lt)),x.k.gr hg (by have:=x.l;have:=x.h;have:=x.n;have:=x.q;omega),x.h,x.l,x.n,x.q⟩
theorem Hold.low (x:Hold w1 p B lo hi g t pe kd nn nm op A L c)(hb:Below w1.heap.size w1 w2):Hold w2 p B lo hi g t pe kd nn nm op A L c:=x.acc (zAa hb _)
theorem Hold.al (x:Hold w1 p B lo hi g t pe kd nn nm op A L c)(o:Obj):Hold (w1.alloc o) p B lo hi g t pe kd nn nm op A L c:=x.low ((Below.refl _ _).alloc (Lr _) o)
theorem Hold.out (x:Hold w1 p B lo hi g t pe kd nn nm op A L c):RepE w1 (Rg (B+1) w1.heap.size) pe (exC kd nn nm op A L c):=x.r.mono x.l (Nat.le_trans x.h (Nat.le_of_lt x.k.lt))
theorem Hold.put (x:Hold w1 p B lo hi g t pe kd nn nm op A L c)(a b c' d e:Value):Hold (set5 w1 B a b c' d e) p B lo hi g t pe kd nn nm op A L c :=
 ⟨set5_rep x.r (Or.inl x.l) _ _ _ _ _,(zBp _ _ _ _ _ _ _ _ (by have:=x.l;have:=x.n;have:=x.h;omega)).trans x.k,x.h,x.l,x.n,x.q⟩
end
theorem blk_at {W:World}{n:Nat}(h:W.heap.size=n)(t:TypeId)(cs:Array Value):Blk (W.alloc (.cells cs t)) n t cs:=by subst h;exact Blk.new W t cs
theorem Own.put {ts:List Tk}{p:Nat}{q:PS}{t:TypeId}{w w1:World}(o:Own ts p q t ex0 w w1)(a b c d e:Value):Own ts p q t #[a,b,c,d,e] w (set5 w1 w.heap.size a b c d e) :=
 ⟨set5_grown o.g (Lr _) _ _ _ _ _,set5_pst o.s o.p _ _ _ _ _,zB2 o.r _ _ _ _ _,o.p⟩
theorem Own.done {ts:List Tk}{p:Nat}{q:PS}{t:TypeId}{w w1:World}{pe:PE}{kind n:Int}{name:List UInt8}{op:Int}{A:Option Addr}{L c:Nat}(o:Own ts p q t #[.int .i64 kind,.int .i64 n,.string ⟨name.toArray⟩,.int .i64 op,.slice A L c] w w1)
 (hr:RepE w1 (Rg (w.heap.size+1) w1.heap.size) pe (exC kind n name op A L c)) :
 Blk w1 w.heap.size t #[.int .i64 kind,.int .i64 n,.string ⟨name.toArray⟩,.int .i64 op,.slice A L c]∧ExP ts p (pe,q) w (.returned (exV kind n name op A L c)) w1 :=
 ⟨o.r,exP (hr.mono (Nat.le_succ _) (Lr _)) o.g o.s⟩
end Go.Proofs.YtpgnlfdindmopaaGreatDoor
namespace Go.Proofs.YtpgnlfdindmopaaGreatDoor
open Go.RowKit (wrap64 intOf)
open Go Go.RowKit WM LX PX
set_option maxRecDepth 100000
theorem isNm_of {kd:Nat}{x:List UInt8}{o:Nat}{b:Bool}(h:isNm ⟨kd,x,o⟩=b)(hk:kd=1):(!resW.contains x)=b:=by
 subst hk;rw[←h];rfl
theorem zCs (t:Tk)(b:Bool)(hb:Hid (isNm t=b))(B:Nat)(w:World)(hB:B≤w.heap.size)(ht:FR.TabAt 2 zCv B w) :
 Calls Tryz.prog 251 #[.agg #[.int .i64 (t.kind:Int),.string ⟨t.text.toArray⟩,.int .i64 (t.pos:Int)]] w (RetN (.bool b) w):=by
 obtain⟨kd,x,o⟩:=t
 have ht2:=ht.on (B:=B) ((Below.refl _ _).alloc hB (.cells #[.int .i64 (kd:Int),.string ⟨x.toArray⟩,.int .i64 (o:Int)] 102))
 obtain⟨r,hr⟩:∃ r,resW.contains x=r:=⟨_,rfl⟩
 have HR:=Hd hr
 clear hr
 by_cases hk:kd=1
 ·have h1:((kd:Int)==1)=true:=by rw[beq_iff_eq];omega
  have HK:=Hd hk
  clear hk
  go_enter Tryz.func251,Tryz.ntmps251
  go_wp2_with (go_at_call 261;((with_reducible refine (isReserved_any x r HR B _ ht2).mono ?_);rintro e w' ⟨rfl,rfl⟩))
  go_ret
  refine retN ?_ ((Below.refl _ _).alloc (Lr _) _)
  have:=isNm_of hb.out HK.out
  rw[HR.out] at this
  exact congrArg Value.bool this
 ·have h1:((kd:Int)==1)=false:=by rw[beq_eq_false_iff_ne];omega
  have HK:=Hd hk
  clear hk
  go_enter Tryz.func251,Tryz.ntmps251
  go_wp2_with fail
  go_ret
  refine retN ?_ ((Below.refl _ _).alloc (Lr _) _)
  have:=hb.out
  unfold isNm at this
  rw[show decide ((⟨kd,x,o⟩:Tk).kind=1)=false from decide_eq_false HK.out] at this
  rw[←this];rfl
theorem zBw (ts:List Tk)(p:Nat)(s s1:PS)(nm:List UInt8)(hv:Hid (nmV ts s=nm))(hs:Hid (nmS ts s=s1))(w:World)(h:PSt ts p s w) :
 Calls Tryz.prog 234 #[.pointer (some ⟨p,0,none⟩)] w (AccP ts p s1 (.string ⟨nm.toArray⟩) w):=by
 obtain⟨t,ht⟩:∃ t,pk ts s=t:=⟨_,rfl⟩
 have HT:=Hd ht
 obtain⟨b,hb⟩:∃ b,isNm t=b:=⟨_,rfl⟩
 have HB:=Hd hb
 have hv:=hv.out
 have hs:=hs.out
 unfold nmV at hv
 unfold nmS at hs
 rw[ht,hb] at hv hs
 obtain⟨ty,hty⟩:∃ ty:Nat,102=ty:=⟨_,rfl⟩
 cases b
 ·rw[if_neg (by decide)] at hv hs
  subst hv hs
  clear ht hb
  go_enter Tryz.func234,Tryz.ntmps234
  go_wp2_with fail
  refine (zAv ts p s t HT _ h).mono ?_
  rintro e w1 ⟨rfl,hb1⟩
  have h1:=(h.keep hb1).alloc (.cells #[.int .i64 (t.kind:Int),.string ⟨t.text.toArray⟩,.int .i64 (t.pos:Int)] 102)
  have hg1:=(hb1.alloc hb1.size (.cells #[.int .i64 (t.kind:Int),.string ⟨t.text.toArray⟩,.int .i64 (t.pos:Int)] 102))
  clear hb1 hty
  go_wp2_with fail
  refine (zCs t false HB p _ (Nat.le_of_lt h1.lt) h1.env.1).mono ?_
  rintro e w2 ⟨rfl,hb2⟩
  have h2:=h1.keep hb2
  have hg2:=hg1.trans (below_down hb2 hg1.size)
  clear hb2 hg1 h1
  go_wp2_with fail
  refine (fail_any ts p s _ h2).mono ?_
  rintro e w3 ⟨rfl,rfl⟩
  go_wp2_with fail
  go_ret
  exact accP rfl (zAz (zAa hg2 _) _) h2.setF
 ·rw[if_pos rfl] at hv hs
  subst hv hs
  have hlen:=(zCr (ts:=ts) (s:=s) (Or.inr (by rw[ht,isNm_kind hb];decide))).2
  clear ht hb
  go_enter Tryz.func234,Tryz.ntmps234
  go_wp2_with fail
  refine (zAv ts p s t HT _ h).mono ?_
  rintro e w1 ⟨rfl,hb1⟩
  have h1:=(h.keep hb1).alloc (.cells #[.int .i64 (t.kind:Int),.string ⟨t.text.toArray⟩,.int .i64 (t.pos:Int)] 102)
  have hg1:=(hb1.alloc hb1.size (.cells #[.int .i64 (t.kind:Int),.string ⟨t.text.toArray⟩,.int .i64 (t.pos:Int)] 102))
  have hK:=Blk.new w1 102 #[.int .i64 (t.kind:Int),.string ⟨t.text.toArray⟩,.int .i64 (t.pos:Int)]
  have hne:w1.heap.size≠p:=by have:=h.lt;have:=hb1.size;omega
  clear hb1 hty
  go_wp2_with fail
  refine (zCs t true HB p _ (Nat.le_of_lt h1.lt) h1.env.1).mono ?_
  rintro e w2 ⟨rfl,hb2⟩
  have h2:=h1.keep hb2
  obtain⟨k0,k1,k2,_⟩:=(hK.on hb2 hK.lt).cells3
  have hg2:=hg1.trans (below_down hb2 hg1.size)
  obtain⟨c1,f1,hi⟩:=h2.cells
  clear hb2 hg1 h1 hK
  go_wp2_with fail
  go_ret
  exact accP rfl (zAz (zAa hg2 _) _) (h2.setI (by omega) rfl)
theorem pnumber_any (ts:List Tk)(p:Nat)(s s1:PS)(n:Int)(hv:Hid (nuV ts s=n))(hs:Hid (nuS ts s=s1))(w:World)(h:PSt ts p s w) :
 Calls Tryz.prog 235 #[.pointer (some ⟨p,0,none⟩)] w (AccP ts p s1 (.int .i64 n) w):=by
 obtain⟨t,ht⟩:∃ t,pk ts s=t:=⟨_,rfl⟩
 have hsz:=h.tok ht
 have HT:=Hd ht
 have hv:=hv.out
 have hs:=hs.out
 unfold nuV at hv
 unfold nuS at hs
 rw[ht] at hv hs
 obtain⟨b,hb⟩:∃ b,zA0 t.text=b:=⟨_,rfl⟩
 obtain⟨z,hz⟩:∃ z,zBb t.text=z:=⟨_,rfl⟩
 unfold nuB at hv hs
 rw[hb,hz] at hv hs
 have hpt:(pk ts s).text=t.text:=by rw[ht]
 have kf:=tokF1
 have hbig:b=true→t.text≠[]:=fun h1 h2=>by rw[h2,parseB_nil] at hb;rw[←hb] at h1;cases h1
 have HBIG:=Hd hbig
 have HPT:=Hd hpt
 have hcall:∀ w,PSt ts p s w→Calls Tryz.prog 252 #[.string ⟨t.text.toArray⟩] w (fun e w'=>e=.returned (.tuple #[.int .i64 z,.bool b])∧Below w.heap.size w w'):=fun w h=>by
  subst hb hz
  have hE:=h.env.2.2
  exact (wparse_any ⟨t.text.toArray⟩ (by show t.text.length≤_;omega) w w.heap.size (Lr _) (fun w' hb=>hE w' (below_down hb (Nat.le_of_lt h.lt)))).mono fun _ _ h=>h
 clear hb hz ht hbig hpt hsz
 cases b
 ·simp only[Bool.false_and,Bool.false_eq_true,if_false] at hv hs
  subst hv hs
  go_enter Tryz.func235,Tryz.ntmps235
  go_wp2_with fail
  refine (zAv ts p s t HT _ h).mono ?_
  rintro e w1 ⟨rfl,hb1⟩
  have h1:=h.keep hb1
  go_wp2_with fail
  refine (hcall _ h1).mono ?_
  rintro e w2 ⟨rfl,hb2⟩
  have h2:=h1.keep hb2
  have hg2:=hb1.trans (below_down hb2 hb1.size)
  clear hb1 hb2 h1 hcall
  go_wp2_with fail
  refine (fail_any ts p s _ h2).mono ?_
  rintro e w3 ⟨rfl,rfl⟩
  go_wp2_with fail
  go_ret
  exact accP rfl (zAz (zAa hg2 _) _) h2.setF
 ·by_cases hle:z≤1000000
  ·simp only[hle,decide_true,Bool.true_and,if_true] at hv hs
   subst hv hs
   have hlen:=(zCr (ts:=ts) (s:=s) (Or.inl (by rw[HPT.out];exact HBIG.out rfl))).2
   go_enter Tryz.func235,Tryz.ntmps235
   go_wp2_with fail
   refine (zAv ts p s t HT _ h).mono ?_
   rintro e w1 ⟨rfl,hb1⟩
   have h1:=h.keep hb1
   go_wp2_with fail
   refine (hcall _ h1).mono ?_
   rintro e w2 ⟨rfl,hb2⟩
   have h2:=h1.keep hb2
   have hg2:=hb1.trans (below_down hb2 hb1.size)
   obtain⟨c1,f1,hi⟩:=h2.cells
   clear hb1 hb2 h1 hcall
   go_wp2_with fail
   go_ret
   exact accP rfl (zAz (zAa hg2 _) _) (h2.setI (by omega) rfl)
  ·simp only[hle,decide_false,Bool.and_false,Bool.false_eq_true,if_false] at hv hs
   subst hv hs
   go_enter Tryz.func235,Tryz.ntmps235
   go_wp2_with fail
   refine (zAv ts p s t HT _ h).mono ?_
   rintro e w1 ⟨rfl,hb1⟩
   have h1:=h.keep hb1
   go_wp2_with fail
   refine (hcall _ h1).mono ?_
   rintro e w2 ⟨rfl,hb2⟩
   have h2:=h1.keep hb2
   have hg2:=hb1.trans (below_down hb2 hb1.size)
   clear hb1 hb2 h1 hcall
   go_wp2_with fail
   refine (fail_any ts p s _ h2).mono ?_
   rintro e w3 ⟨rfl,rfl⟩
   go_wp2_with fail
   go_ret
   exact accP rfl (zAz (zAa hg2 _) _) h2.setF
end Go.Proofs.YtpgnlfdindmopaaGreatDoor
namespace Go.Proofs.YtpgnlfdindmopaaGreatDoor
open Go.RowKit (wrap64 intOf)
open Go Go.RowKit WM LX PX
set_option maxRecDepth 100000
theorem zBv (op:Int)(A:Option Addr)(L c:Nat)(w:World) :
 Calls Tryz.prog 285 #[.int .i64 op,.slice A L c] w (RetN (exV 4 0 [] op A L c) w):=by
 go_enter Tryz.func285,Tryz.ntmps285
 go_wp2_with fail
 exact bodyPost_ret (v:=exV 4 0 [] op A L c) (by simp[results,Tryz.results285,go_sem]) rfl ⟨rfl,(Below.refl _ _).alloc (Lr _) _⟩
theorem word_call {ts:List Tk}{p:Nat}{s:PS}(x:List UInt8)(hx:x.length≤20001)(z:Int)(b:Bool)(hb:Hid (zA0 x=b))(hz:Hid (zBb x=z))(w:World)(h:PSt ts p s w) :
 Calls Tryz.prog 252 #[.string ⟨x.toArray⟩] w (RetN (.tuple #[.int .i64 z,.bool b]) w):=by
 obtain rfl:=hb.out
 obtain rfl:=hz.out
 have hE:=h.env.2.2
 exact (wparse_any ⟨x.toArray⟩ (by show x.length≤_;omega) w w.heap.size (Lr _) (fun w' hb=>hE w' (below_down hb (Nat.le_of_lt h.lt)))).mono fun _ _ h=>h
theorem word_call' {ts:List Tk}{p:Nat}{s:PS}(x:List UInt8)(hx:x.length≤20001)(y:ByteArray)(hy:Hid (y=⟨x.toArray⟩))(z:Int)(b:Bool)(hb:Hid (zA0 x=b))(hz:Hid (zBb x=z))(w:World)(h:PSt ts p s w) :
 Calls Tryz.prog 252 #[.string y] w (RetN (.tuple #[.int .i64 z,.bool b]) w):=by
 obtain rfl:=hy.out
 exact word_call x hx z b hb hz w h
theorem constant_any (ts:List Tk)(p:Nat)(s:PS)(q:PE × PS)(hq:Hid ((if zA0 (pk ts s).text=true then (numE (zBb (pk ts s).text),adv s) else (emE,fl s))=q))(w:World)(h:PSt ts p s w) :
 Calls Tryz.prog 289 #[.pointer (some ⟨p,0,none⟩)] w (ExP ts p q w):=by
 obtain rfl:=hq.out
 obtain⟨t,ht⟩:∃ t,pk ts s=t:=⟨_,rfl⟩
 have hsz:=h.tok ht
 have HT:=Hd ht
 obtain⟨b,hb⟩:∃ b,zA0 t.text=b:=⟨_,rfl⟩
 obtain⟨z,hz⟩:∃ z,zBb t.text=z:=⟨_,rfl⟩
 have HB:=Hd hb
 have HZ:=Hd hz
 rw[ht,hb,hz]
 have hlen:b=true→s.i < ts.length:=fun h1=>(zCr (ts:=ts) (s:=s) (Or.inl (by rw[ht];intro h2;rw[h2,parseB_nil] at hb;rw[←hb] at h1;cases h1))).2
 have kf:=tokF1
 have o:=Own.start h 36 ex0
 clear hb hz ht h hq
 have HL:=Hd hlen
 clear hlen
 cases b
 ·rw[if_neg (by decide)]
  go_enter Tryz.func289,Tryz.ntmps289
  go_wp2_with fail
  refine (zAv ts p s t HT _ o.s).mono ?_
  rintro e w1 ⟨rfl,hb1⟩
  replace o:=o.low hb1
  clear hb1
  go_wp2_with fail
  refine (word_call t.text (by omega) z false HB HZ _ o.s).mono ?_
  rintro e w2 ⟨rfl,hb2⟩
  replace o:=o.low hb2
  clear hb2
  go_wp2_with fail
  refine (fail_any ts p s _ o.s).mono ?_
  rintro e w3 ⟨rfl,hw3⟩
  replace o:=o.setF
  rw[hw3] at o
  clear hw3
  obtain⟨r0,r1,r2,r3,r4,f0,f1,f2,f3,f4⟩:=o.ok
  go_wp2_with fail
  obtain⟨hk,hx⟩:=o.fin (repE_leaf _ _ 0 0 [] 0 none 0)
  obtain⟨q0,q1,q2,q3,q4,_⟩:=hk.cells5
  exact bodyPost_ret (v:=exV 0 0 [] 0 none 0 0) (by simp[results,Tryz.results289,go_sem,q0,q1,q2,q3,q4]) rfl hx
 ·rw[if_pos rfl]
  have hlen:=HL.out rfl
  go_enter Tryz.func289,Tryz.ntmps289
  go_wp2_with fail
  refine (zAv ts p s t HT _ o.s).mono ?_
  rintro e w1 ⟨rfl,hb1⟩
  replace o:=o.low hb1
  clear hb1
  go_wp2_with fail
  refine (word_call t.text (by omega) z true HB HZ _ o.s).mono ?_
  rintro e w2 ⟨rfl,hb2⟩
  replace o:=o.low hb2
  clear hb2
  obtain⟨c1,g1,hi⟩:=o.s.cells
  obtain⟨r0,r1,r2,r3,r4,f0,f1,f2,f3,f4⟩:=o.ok
  have hne:w.heap.size≠p:=Nat.ne_of_gt o.p
  go_wp2_with fail
  obtain⟨hk,hx⟩:=(o.setI (i:=s.i+1) (by omega) (u:=.int .i64 ((s.i:Int)+1)) rfl).fin (repE_leaf _ _ 1 z [] 0 none 0)
  obtain⟨q0,q1,q2,q3,q4,_⟩:=hk.cells5
  exact bodyPost_ret (v:=exV 1 z [] 0 none 0 0) (by simp[results,Tryz.results289,go_sem,q0,q1,q2,q3,q4]) rfl hx
theorem beq_false {a b:List UInt8}(h:a≠b):(a==b)=false:=by simp[h]
theorem negative_any (ts:List Tk)(p:Nat)(s:PS)(t:Tk)(hkd:t.kind=2)(ht:Hid (pk ts s=t))(w:World)(h:PSt ts p s w) :
 Calls Tryz.prog 284 #[.pointer (some ⟨p,0,none⟩)] w (ExP ts p (numE (negV t.text),adv s) w):=by
 have HT:=ht
 have ht:=ht.out
 have hsz:=h.tok ht
 obtain⟨b,hb⟩:∃ b,zA0 (45 :: t.text)=b:=⟨_,rfl⟩
 obtain⟨z,hz⟩:∃ z,zBb (45 :: t.text)=z:=⟨_,rfl⟩
 have HB:=Hd hb
 have HZ:=Hd hz
 have hlen:=(zCr (ts:=ts) (s:=s) (Or.inr (by rw[ht,hkd];decide))).2
 have kf:=tokF1
 have o:=Own.start h 36 ex0
 unfold negV
 rw[hz]
 clear hb hz ht h hkd
 by_cases h0:t.text=[48]
 ·rw[if_pos h0]
  have hq:(t.text==[48])=true:=by rw[h0];rfl
  clear h0
  go_enter Tryz.func284,Tryz.ntmps284
  go_wp2_with fail
  refine (zAv ts p s t HT _ o.s).mono ?_
  rintro e w1 ⟨rfl,hb1⟩
  replace o:=o.low hb1
  clear hb1
  obtain⟨c1,g1,hi⟩:=o.s.cells
  obtain⟨r0,r1,r2,r3,r4,f0,f1,f2,f3,f4⟩:=o.ok
  have hne:w.heap.size≠p:=Nat.ne_of_gt o.p
  go_wp2_with fail
  obtain⟨hk,hx⟩:=(o.setI (i:=s.i+1) (by omega) (u:=.int .i64 ((s.i:Int)+1)) rfl).fin (repE_leaf _ _ 1 0 [] 0 none 0)
  obtain⟨q0,q1,q2,q3,q4,_⟩:=hk.cells5
  exact bodyPost_ret (v:=exV 1 0 [] 0 none 0 0) (by simp[results,Tryz.results284,go_sem,q0,q1,q2,q3,q4]) rfl hx
 ·rw[if_neg h0]
  have hq:=beq_false h0
  clear h0
  have hsum:(⟨#[45]⟩:ByteArray)++⟨t.text.toArray⟩=⟨(45 :: t.text).toArray⟩:=by
   apply ByteArray.ext;simp[ByteArray.data_append]
  have HSUM:=Hd hsum
  clear hsum
  go_enter Tryz.func284,Tryz.ntmps284
  go_wp2_with fail
  refine (zAv ts p s t HT _ o.s).mono ?_
  rintro e w1 ⟨rfl,hb1⟩
  replace o:=o.low hb1
  clear hb1
  obtain⟨c1,g1,hi⟩:=o.s.cells
  have hne:w.heap.size≠p:=Nat.ne_of_gt o.p
  go_wp2_with fail
  replace o:=o.setI (i:=s.i+1) (by omega) (u:=.int .i64 ((s.i:Int)+1)) rfl
  refine (word_call' (45 :: t.text) (by simp;omega) _ HSUM z b HB HZ _ o.s).mono ?_
  rintro e w2 ⟨rfl,hb2⟩
  replace o:=o.low hb2
  clear hb2 c1 g1
  obtain⟨r0,r1,r2,r3,r4,f0,f1,f2,f3,f4⟩:=o.ok
  go_wp2_with fail
  obtain⟨hk,hx⟩:=o.fin (repE_leaf _ _ 1 z [] 0 none 0)
  obtain⟨q0,q1,q2,q3,q4,_⟩:=hk.cells5
  exact bodyPost_ret (v:=exV 1 z [] 0 none 0 0) (by simp[results,Tryz.results284,go_sem,q0,q1,q2,q3,q4]) rfl hx
end Go.Proofs.YtpgnlfdindmopaaGreatDoor
namespace Go.Proofs.YtpgnlfdindmopaaGreatDoor
open Go.RowKit (wrap64 intOf)
open Go Go.RowKit WM LX PX
set_option maxRecDepth 100000
set_option maxHeartbeats 2000000
def WEx (ts:List Tk)(p n:Nat):Prop:=∀ (s:PS)(q:PE × PS)(w:World),Hid (exF ts n s=q)→5 * ms ts s+4≤n→PSt ts p s w→Calls Tryz.prog 240 #[.pointer (some ⟨p,0,none⟩)] w (ExP ts p q w)
def WBi (ts:List Tk)(p n:Nat):Prop:=∀ (lv:Nat)(s:PS)(q:PE × PS)(w:World),lv≤9→Hid (biF ts n lv s=q)→5 * ms ts s+3≤n→PSt ts p s w→Calls Tryz.prog 254 #[.pointer (some ⟨p,0,none⟩),.int .i64 (lv:Int)] w (ExP ts p q w)
def WPr (ts:List Tk)(p n:Nat):Prop:=∀ (s:PS)(q:PE × PS)(w:World),Hid (prF ts n s=q)→5 * ms ts s+2≤n→PSt ts p s w→Calls Tryz.prog 272 #[.pointer (some ⟨p,0,none⟩)] w (ExP ts p q w)
def WPi (ts:List Tk)(p n:Nat):Prop:=∀ (s:PS)(q:PE × PS)(w:World),Hid (piF ts n s=q)→5 * ms ts s+1≤n→PSt ts p s w→Calls Tryz.prog 286 #[.pointer (some ⟨p,0,none⟩)] w (ExP ts p q w)
theorem bin1 {ts:List Tk}{p n:Nat}(h:WBi ts p n)(s:PS)(q:PE × PS)(w:World)(hq:Hid (biF ts n 1 s=q))(hm:5 * ms ts s+3≤n)(hp:PSt ts p s w) :
 Calls Tryz.prog 254 #[.pointer (some ⟨p,0,none⟩),.int .i64 1] w (ExP ts p q w):=h 1 s q w (by decide) hq hm hp
theorem expression_step (ts:List Tk)(p n:Nat)(hbi:WBi ts p n)(hex:WEx ts p n):WEx ts p (n+1):=by
 intro s q w hq hm h
 have hq:=hq.out
 rw[exF] at hq
 obtain⟨⟨cpe,s1⟩,hc⟩:∃ x,biF ts n 1 s=x:=⟨_,rfl⟩
 have HC:=Hd hc
 have hm1:=(ms_all (ts:=ts) n).2.1 1 s
 rw[hc] at hq hm1
 have hms:5 * ms ts s+3≤n:=by omega
 have o:=Own.start h 36 ex0
 have HBI:=Hd hbi
 have HEX:=Hd hex
 clear hbi hex hc h
 dsimp only at hq hm1
 by_cases hx:nx ts s1 cQuest=true
 ·rw[if_pos hx] at hq
  obtain⟨⟨ape,s2⟩,ha⟩:∃ x,exF ts n (adv s1)=x:=⟨_,rfl⟩
  have HA:=Hd ha
  have hm2:=ms_ex (ts:=ts) n (adv s1)
  have hmv:=zAj (zA5 (by decide) hx)
  rw[ha] at hq hm2
  dsimp only at hq hm2
  obtain⟨s3,hs3⟩:∃ x,exs ts s2 zCb=x:=⟨_,rfl⟩
  have HS3:=Hd hs3
  have hm3:=zAp (ts:=ts) s2 (x:=zCb) (by decide)
  rw[hs3] at hq hm3
  obtain⟨⟨bpe,s4⟩,hb⟩:∃ x,exF ts n s3=x:=⟨_,rfl⟩
  have HB:=Hd hb
  rw[hb] at hq
  dsimp only at hq
  subst hq
  have HX:=Hd hx
  have hA:5 * ms ts (adv s1)+4≤n:=by omega
  have hB:5 * ms ts s3+4≤n:=by omega
  clear hb hs3 ha hx hm hm1 hm2 hm3 hmv
  go_enter Tryz.func240,Tryz.ntmps240
  go_wp2_with fail
  refine (bin1 HBI.out s _ _ HC hms o.s).mono ?_
  rintro e w1 ⟨kd,nn,nm,op,A,L,c,rfl,hr,hg,hp⟩
  have x1:=Hold.start hr o hg.size 36
  replace o:=(o.acc hg hp).al (.cells #[.int .i64 kd,.int .i64 nn,.string ⟨nm.toArray⟩,.int .i64 op,.slice A L c] 36)
  clear hg hp hr
  go_wp2_with fail
  refine (zAi ts p s1 cQuest (by decide) HX _ o.s).mono ?_
  rintro e w2 ⟨rfl,hg,hp⟩
  replace o:=o.acc hg hp
  replace x1:=x1.acc hg
  clear hg hp
  go_wp2_with fail
  refine (HEX.out (adv s1) _ _ HA hA o.s).mono ?_
  rintro e w3 ⟨kd2,nn2,nm2,op2,A2,L2,c2,rfl,hr,hg,hp⟩
  have x2:=Hold.start hr o hg.size 36
  replace x1:=(x1.acc hg).al (.cells #[.int .i64 kd2,.int .i64 nn2,.string ⟨nm2.toArray⟩,.int .i64 op2,.slice A2 L2 c2] 36)
  replace o:=(o.acc hg hp).al (.cells #[.int .i64 kd2,.int .i64 nn2,.string ⟨nm2.toArray⟩,.int .i64 op2,.slice A2 L2 c2] 36)
  clear hg hp hr
  go_wp2_with fail
  refine (zAg ts p s2 s3 zCb (by decide) HS3 _ o.s).mono ?_
  rintro e w4 ⟨rfl,hg,hp⟩
  replace o:=o.acc hg hp
  replace x1:=x1.acc hg
  replace x2:=x2.acc hg
  clear hg hp
  go_wp2_with fail
  refine (HEX.out s3 _ _ HB hB o.s).mono ?_
  rintro e w5 ⟨kd3,nn3,nm3,op3,A3,L3,c3,rfl,hr,hg,hp⟩
  have hl3:=o.sz
  replace o:=o.acc hg hp
  replace x1:=x1.acc hg
  replace x2:=x2.acc hg
  have hl4:=hg.size
  clear hg hp
  obtain⟨r0,r1,r2,r3,r4,f0,f1,f2,f3,f4⟩:=o.ok
  obtain⟨a0,a1,a2,a3,a4,_⟩:=x1.k.cells5
  obtain⟨b0,b1,b2,b3,b4,_⟩:=x2.k.cells5
  have hlt:=o.sz
  have hl1:=x1.k.lt
  have hl2:=x2.k.lt
  have HR:=Hd hr
  clear hr
  go_wp2_with fail
  have e0:=zBj w5 w.heap.size (.int .i64 5) (.int .i64 0) (.string ⟨#[]⟩) (.int .i64 0) (.slice (some ⟨w5.heap.size+1,0,none⟩) 3 3)
  have y3:=((set5_rep HR.out (Or.inl hl3) (.int .i64 5) (.int .i64 0) (.string ⟨#[]⟩) (.int .i64 0) (.slice (some ⟨w5.heap.size+1,0,none⟩) 3 3)).alloc (Nat.le_of_eq e0.symm) (.cells #[.int .i64 kd3,.int .i64 nn3,.string ⟨nm3.toArray⟩,.int .i64 op3,.slice A3 L3 c3] 36))
  replace o:=((o.put (.int .i64 5) (.int .i64 0) (.string ⟨#[]⟩) (.int .i64 0) (.slice (some ⟨w5.heap.size+1,0,none⟩) 3 3)).al (.cells #[.int .i64 kd3,.int .i64 nn3,.string ⟨nm3.toArray⟩,.int .i64 op3,.slice A3 L3 c3] 36))
  replace x1:=(x1.put (.int .i64 5) (.int .i64 0) (.string ⟨#[]⟩) (.int .i64 0) (.slice (some ⟨w5.heap.size+1,0,none⟩) 3 3)).al (.cells #[.int .i64 kd3,.int .i64 nn3,.string ⟨nm3.toArray⟩,.int .i64 op3,.slice A3 L3 c3] 36)
  replace x2:=(x2.put (.int .i64 5) (.int .i64 0) (.string ⟨#[]⟩) (.int .i64 0) (.slice (some ⟨w5.heap.size+1,0,none⟩) 3 3)).al (.cells #[.int .i64 kd3,.int .i64 nn3,.string ⟨nm3.toArray⟩,.int .i64 op3,.slice A3 L3 c3] 36)
  generalize hwz:(set5 w5 w.heap.size (.int .i64 5) (.int .i64 0) (.string ⟨#[]⟩) (.int .i64 0) (.slice (some ⟨w5.heap.size+1,0,none⟩) 3 3)).alloc (.cells #[.int .i64 kd3,.int .i64 nn3,.string ⟨nm3.toArray⟩,.int .i64 op3,.slice A3 L3 c3] 36)=wz at *
  have hz:wz.heap.size=w5.heap.size+1:=by rw[←hwz,World.size_alloc,e0]
  replace o:=o.al (.cells #[.int .i64 kd,.int .i64 nn,.string ⟨nm.toArray⟩,.int .i64 op,.slice A L c,.int .i64 kd2,.int .i64 nn2,.string ⟨nm2.toArray⟩,.int .i64 op2,.slice A2 L2 c2,.int .i64 kd3,.int .i64 nn3,.string ⟨nm3.toArray⟩,.int .i64 op3,.slice A3 L3 c3] 36)
  obtain⟨hk,hx⟩:=o.done (repE_3 (c:=3) (blk_at hz _ _) rfl ⟨by omega,by simp;omega⟩ (x1.al _).out (x2.al _).out ((y3.alloc (by omega) _).mono hl3 (by simp;omega)) rfl rfl rfl 5 0 [] 0)
  obtain⟨q0,q1,q2,q3,q4,_⟩:=hk.cells5
  exact bodyPost_ret (v:=exV 5 0 [] 0 (some ⟨w5.heap.size+1,0,none⟩) 3 3) (by simp[results,Tryz.results240,go_sem,q0,q1,q2,q3,q4]) rfl hx
 ·rw[if_neg hx] at hq
  subst hq
  have HX:=Hd (show nx ts s1 cQuest=false by simpa using hx)
  clear hx
  go_enter Tryz.func240,Tryz.ntmps240
  go_wp2_with fail
  refine (bin1 HBI.out s _ _ HC hms o.s).mono ?_
  rintro e w1 ⟨kd,nn,nm,op,A,L,c,rfl,hr,hg,hp⟩
  have x1:=Hold.start hr o hg.size 36
  replace o:=(o.acc hg hp).al (.cells #[.int .i64 kd,.int .i64 nn,.string ⟨nm.toArray⟩,.int .i64 op,.slice A L c] 36)
  clear hg hp hr
  go_wp2_with fail
  refine (zAd ts p s1 cQuest HX _ o.s).mono ?_
  rintro e w2 ⟨rfl,hg,hp⟩
  replace o:=o.acc hg hp
  replace x1:=x1.acc hg
  clear hg hp
  obtain⟨r0,r1,r2,r3,r4,f0,f1,f2,f3,f4⟩:=o.ok
  obtain⟨k0,k1,k2,k3,k4,_⟩:=x1.k.cells5
  go_wp2_with fail
  obtain⟨hk,hx⟩:=o.fin x1.out
  obtain⟨q0,q1,q2,q3,q4,_⟩:=hk.cells5
  exact bodyPost_ret (v:=exV kd nn nm op A L c) (by simp[results,Tryz.results240,go_sem,q0,q1,q2,q3,q4]) rfl hx
def elF (ts:List Tk)(n:Nat)(nm:List UInt8)(s:PS):PE × PS:=(idxE nm (exF ts n s).1,exs ts (exF ts n s).2 cRb)
theorem element_step (ts:List Tk)(p n:Nat)(hex:WEx ts p n)(nm:List UInt8)(s:PS)(q:PE × PS)(w:World)(hq:Hid (elF ts n nm s=q))(hm:5 * ms ts s+4≤n)(h:PSt ts p s w) :
 Calls Tryz.prog 290 #[.pointer (some ⟨p,0,none⟩),.string ⟨nm.toArray⟩] w (ExP ts p q w):=by
 have hq:=hq.out
 unfold elF at hq
 obtain⟨⟨cpe,s1⟩,hc⟩:∃ x,exF ts n s=x:=⟨_,rfl⟩
 have HC:=Hd hc
 rw[hc] at hq
 dsimp only at hq
 obtain⟨s2,hs2⟩:∃ x,exs ts s1 cRb=x:=⟨_,rfl⟩
 have HS2:=Hd hs2
 rw[hs2] at hq
 subst hq
 have o:=Own.start h 36 ex0
 have HEX:=Hd hex
 clear hex hc h hs2
 go_enter Tryz.func290,Tryz.ntmps290
 go_wp2_with fail
 refine (HEX.out s _ _ HC hm o.s).mono ?_
 rintro e w1 ⟨kd,nn,nm1,op,A,L,c,rfl,hr,hg,hp⟩
 have x1:=Hold.start hr o hg.size 36
 replace o:=(o.acc hg hp).al (.cells #[.int .i64 kd,.int .i64 nn,.string ⟨nm1.toArray⟩,.int .i64 op,.slice A L c] 36)
 clear hg hp hr
 go_wp2_with fail
 refine (zAg ts p s1 s2 cRb (by decide) HS2 _ o.s).mono ?_
 rintro e w2 ⟨rfl,hg,hp⟩
 replace o:=o.acc hg hp
 replace x1:=x1.acc hg
 clear hg hp
 obtain⟨r0,r1,r2,r3,r4,f0,f1,f2,f3,f4⟩:=o.ok
 obtain⟨k0,k1,k2,k3,k4,_⟩:=x1.k.cells5
 have hlt:=o.sz
 have hl1:=x1.k.lt
 go_wp2_with fail
 have e0:=zBj w2 w.heap.size (.int .i64 3) (.int .i64 0) (.string ⟨nm.toArray⟩) (.int .i64 0) (.slice (some ⟨w2.heap.size,0,none⟩) 1 1)
 replace o:=o.put (.int .i64 3) (.int .i64 0) (.string ⟨nm.toArray⟩) (.int .i64 0) (.slice (some ⟨w2.heap.size,0,none⟩) 1 1)
 replace x1:=x1.put (.int .i64 3) (.int .i64 0) (.string ⟨nm.toArray⟩) (.int .i64 0) (.slice (some ⟨w2.heap.size,0,none⟩) 1 1)
 obtain⟨hk,hx⟩:=(o.al (.cells #[.int .i64 kd,.int .i64 nn,.string ⟨nm1.toArray⟩,.int .i64 op,.slice A L c] 36)).done (repE_1 (c:=1) (blk_at e0 _ _) rfl ⟨by omega,by rw[World.size_alloc,e0];omega⟩ (x1.al _).out rfl 3 0 nm 0)
 obtain⟨q0,q1,q2,q3,q4,_⟩:=hk.cells5
 exact bodyPost_ret (v:=exV 3 0 nm 0 (some ⟨w2.heap.size,0,none⟩) 1 1) (by simp[results,Tryz.results290,go_sem,q0,q1,q2,q3,q4]) rfl hx
end Go.Proofs.YtpgnlfdindmopaaGreatDoor
namespace Go.Proofs.YtpgnlfdindmopaaGreatDoor
open Go.RowKit (wrap64 intOf)
open Go Go.RowKit WM LX PX
set_option maxRecDepth 100000
set_option maxHeartbeats 2000000
theorem primary_step (ts:List Tk)(p n:Nat)(hex:WEx ts p n):WPi ts p (n+1):=by
 intro s q w hq hm h
 have hq:=hq.out
 rw[piF] at hq
 have o:=Own.start h 36 ex0
 have HEX:=Hd hex
 have kf:=tokF0
 obtain⟨t,ht⟩:∃ t,pk ts s=t:=⟨_,rfl⟩
 have HT:=Hd ht
 rw[ht] at hq
 clear hex h
 by_cases hk2:t.kind=2
 ·rw[if_pos hk2] at hq
  have hk1:((t.kind:Int)==2)=true:=by rw[beq_iff_eq];omega
  have HQ:=Hd hq
  have HQ2:Hid ((if zA0 (pk ts s).text=true then (numE (zBb (pk ts s).text),adv s) else (emE,fl s))=q):=Hd (by rw[ht];exact HQ.out)
  clear hk2 hq ht
  go_enter Tryz.func286,Tryz.ntmps286
  go_wp2_with fail
  refine (zAv ts p s t HT _ o.s).mono ?_
  rintro e w1 ⟨rfl,hb1⟩
  replace o:=o.low hb1
  clear hb1
  go_wp2_with fail
  refine (constant_any ts p s q HQ2 _ o.s).mono ?_
  rintro e w2 ⟨kd,nn,nm,op,A,L,c,rfl,hr,hg,hp⟩
  have hl:=o.sz
  replace o:=o.acc hg hp
  replace hr:=hr.mono (lo':=w.heap.size+1) hl (Lr _)
  clear hg hp
  obtain⟨r0,r1,r2,r3,r4,f0,f1,f2,f3,f4⟩:=o.ok
  have HR:=Hd hr
  clear hr
  go_wp2_with fail
  obtain⟨hk,hx⟩:=o.fin HR.out
  obtain⟨q0,q1,q2,q3,q4,_⟩:=hk.cells5
  exact bodyPost_ret (v:=exV kd nn nm op A L c) (by simp[results,Tryz.results286,go_sem,q0,q1,q2,q3,q4]) rfl hx
 ·rw[if_neg hk2] at hq
  have hk1:((t.kind:Int)==2)=false:=by rw[beq_eq_false_iff_ne];omega
  clear hk2 ht
  by_cases hx:nx ts s cLp=true
  ·rw[if_pos hx] at hq
   have hmv:=zAj (zA5 (by decide) hx)
   have HX:=Hd hx
   obtain⟨⟨cpe,s1⟩,hc⟩:∃ x,exF ts n (adv s)=x:=⟨_,rfl⟩
   have HC:=Hd hc
   rw[hc] at hq
   dsimp only at hq
   obtain⟨s2,hs2⟩:∃ x,exs ts s1 cRp=x:=⟨_,rfl⟩
   have HS2:=Hd hs2
   rw[hs2] at hq
   subst hq
   have hA:5 * ms ts (adv s)+4≤n:=by omega
   clear hx hc hs2 hmv hm
   go_enter Tryz.func286,Tryz.ntmps286
   go_wp2_with fail
   refine (zAv ts p s t HT _ o.s).mono ?_
   rintro e w1 ⟨rfl,hb1⟩
   replace o:=o.low hb1
   clear hb1
   go_wp2_with fail
   refine (zAi ts p s cLp (by decide) HX _ o.s).mono ?_
   rintro e w2 ⟨rfl,hg,hp⟩
   replace o:=o.acc hg hp
   clear hg hp
   go_wp2_with fail
   refine (HEX.out (adv s) _ _ HC hA o.s).mono ?_
   rintro e w3 ⟨kd,nn,nm,op,A,L,c,rfl,hr,hg,hp⟩
   have x1:=Hold.start hr o hg.size 36
   replace o:=(o.acc hg hp).al (.cells #[.int .i64 kd,.int .i64 nn,.string ⟨nm.toArray⟩,.int .i64 op,.slice A L c] 36)
   clear hg hp hr
   go_wp2_with fail
   refine (zAg ts p s1 s2 cRp (by decide) HS2 _ o.s).mono ?_
   rintro e w4 ⟨rfl,hg,hp⟩
   replace o:=o.acc hg hp
   replace x1:=x1.acc hg
   clear hg hp
   obtain⟨r0,r1,r2,r3,r4,f0,f1,f2,f3,f4⟩:=o.ok
   obtain⟨k0,k1,k2,k3,k4,_⟩:=x1.k.cells5
   go_wp2_with fail
   obtain⟨hk,hx⟩:=o.fin x1.out
   obtain⟨q0,q1,q2,q3,q4,_⟩:=hk.cells5
   exact bodyPost_ret (v:=exV kd nn nm op A L c) (by simp[results,Tryz.results286,go_sem,q0,q1,q2,q3,q4]) rfl hx
  ·rw[if_neg hx] at hq
   have HX:=Hd (show nx ts s cLp=false by simpa using hx)
   obtain⟨nm0,hv⟩:∃ x,nmV ts s=x:=⟨_,rfl⟩
   obtain⟨s1,hs1⟩:∃ x,nmS ts s=x:=⟨_,rfl⟩
   have HV:=Hd hv
   have HS1:=Hd hs1
   have hm1:=zCk (ts:=ts) s
   rw[hv,hs1] at hq
   rw[hs1] at hm1
   clear hx hv hs1
   by_cases hy:nx ts s1 cLb=true
   ·rw[if_pos hy] at hq
    have hmv:=zAj (zA5 (by decide) hy)
    have HY:=Hd hy
    have HQ:Hid (elF ts n nm0 (adv s1)=q):=Hd hq
    have hA:5 * ms ts (adv s1)+4≤n:=by omega
    clear hy hq hmv hm hm1
    go_enter Tryz.func286,Tryz.ntmps286
    go_wp2_with fail
    refine (zAv ts p s t HT _ o.s).mono ?_
    rintro e w1 ⟨rfl,hb1⟩
    replace o:=o.low hb1
    clear hb1
    go_wp2_with fail
    refine (zAd ts p s cLp HX _ o.s).mono ?_
    rintro e w2 ⟨rfl,hg,hp⟩
    replace o:=o.acc hg hp
    clear hg hp
    go_wp2_with fail
    refine (zBw ts p s s1 nm0 HV HS1 _ o.s).mono ?_
    rintro e w3 ⟨rfl,hg,hp⟩
    replace o:=o.acc hg hp
    clear hg hp
    go_wp2_with fail
    refine (zAi ts p s1 cLb (by decide) HY _ o.s).mono ?_
    rintro e w4 ⟨rfl,hg,hp⟩
    replace o:=o.acc hg hp
    clear hg hp
    go_wp2_with fail
    refine (element_step ts p n HEX.out nm0 (adv s1) q _ HQ hA o.s).mono ?_
    rintro e w5 ⟨kd,nn,nm,op,A,L,c,rfl,hr,hg,hp⟩
    have hl:=o.sz
    replace o:=o.acc hg hp
    replace hr:=hr.mono (lo':=w.heap.size+1) hl (Lr _)
    clear hg hp
    obtain⟨r0,r1,r2,r3,r4,f0,f1,f2,f3,f4⟩:=o.ok
    have HR:=Hd hr
    clear hr
    go_wp2_with fail
    obtain⟨hk,hx⟩:=o.fin HR.out
    obtain⟨q0,q1,q2,q3,q4,_⟩:=hk.cells5
    exact bodyPost_ret (v:=exV kd nn nm op A L c) (by simp[results,Tryz.results286,go_sem,q0,q1,q2,q3,q4]) rfl hx
   ·rw[if_neg hy] at hq
    subst hq
    have HY:=Hd (show nx ts s1 cLb=false by simpa using hy)
    clear hy
    go_enter Tryz.func286,Tryz.ntmps286
    go_wp2_with fail
    refine (zAv ts p s t HT _ o.s).mono ?_
    rintro e w1 ⟨rfl,hb1⟩
    replace o:=o.low hb1
    clear hb1
    go_wp2_with fail
    refine (zAd ts p s cLp HX _ o.s).mono ?_
    rintro e w2 ⟨rfl,hg,hp⟩
    replace o:=o.acc hg hp
    clear hg hp
    go_wp2_with fail
    refine (zBw ts p s s1 nm0 HV HS1 _ o.s).mono ?_
    rintro e w3 ⟨rfl,hg,hp⟩
    replace o:=o.acc hg hp
    clear hg hp
    go_wp2_with fail
    refine (zAd ts p s1 cLb HY _ o.s).mono ?_
    rintro e w4 ⟨rfl,hg,hp⟩
    replace o:=o.acc hg hp
    clear hg hp
    obtain⟨r0,r1,r2,r3,r4,f0,f1,f2,f3,f4⟩:=o.ok
    go_wp2_with fail
    obtain⟨hk,hx⟩:=o.fin (repE_leaf _ _ 2 0 nm0 0 none 0)
    obtain⟨q0,q1,q2,q3,q4,_⟩:=hk.cells5
    exact bodyPost_ret (v:=exV 2 0 nm0 0 none 0 0) (by simp[results,Tryz.results286,go_sem,q0,q1,q2,q3,q4]) rfl hx
theorem prefixed_step (ts:List Tk)(p n:Nat)(hpr:WPr ts p n)(hpi:WPi ts p n):WPr ts p (n+1):=by
 intro s q w hq hm h
 have hq:=hq.out
 rw[prF] at hq
 have o:=Own.start h 36 ex0
 have HPR:=Hd hpr
 have HPI:=Hd hpi
 have kf:=tokF0
 clear hpr hpi h
 by_cases hx:nx ts s zBs=true
 ·rw[if_pos hx] at hq
  have hmv:=zAj (zA5 (by decide) hx)
  have HX:=Hd hx
  obtain⟨t,ht⟩:∃ t,pk ts (adv s)=t:=⟨_,rfl⟩
  have HT:=Hd ht
  rw[ht] at hq
  clear hx ht
  by_cases hk2:t.kind=2
  ·rw[if_pos hk2] at hq
   subst hq
   have hk1:((t.kind:Int)==2)=true:=by rw[beq_iff_eq];omega
   have HK2:=Hd hk2
   clear hk2 hmv
   go_enter Tryz.func272,Tryz.ntmps272
   go_wp2_with fail
   refine (zAi ts p s zBs (by decide) HX _ o.s).mono ?_
   rintro e w1 ⟨rfl,hg,hp⟩
   replace o:=o.acc hg hp
   clear hg hp
   go_wp2_with fail
   refine (zAv ts p (adv s) t HT _ o.s).mono ?_
   rintro e w2 ⟨rfl,hb1⟩
   replace o:=o.low hb1
   clear hb1
   go_wp2_with fail
   refine (negative_any ts p (adv s) t HK2.out HT _ o.s).mono ?_
   rintro e w3 ⟨kd,nn,nm,op,A,L,c,rfl,hr,hg,hp⟩
   have hl:=o.sz
   replace o:=o.acc hg hp
   replace hr:=hr.mono (lo':=w.heap.size+1) hl (Lr _)
   clear hg hp
   obtain⟨r0,r1,r2,r3,r4,f0,f1,f2,f3,f4⟩:=o.ok
   have HR:=Hd hr
   clear hr
   go_wp2_with fail
   obtain⟨hk,hx⟩:=o.fin HR.out
   obtain⟨q0,q1,q2,q3,q4,_⟩:=hk.cells5
   exact bodyPost_ret (v:=exV kd nn nm op A L c) (by simp[results,Tryz.results272,go_sem,q0,q1,q2,q3,q4]) rfl hx
  ·rw[if_neg hk2] at hq
   have hk1:((t.kind:Int)==2)=false:=by rw[beq_eq_false_iff_ne];omega
   obtain⟨⟨cpe,s1⟩,hc⟩:∃ x,prF ts n (adv s)=x:=⟨_,rfl⟩
   have HC:=Hd hc
   rw[hc] at hq
   dsimp only at hq
   subst hq
   have hA:5 * ms ts (adv s)+2≤n:=by omega
   clear hk2 hmv hc hm
   go_enter Tryz.func272,Tryz.ntmps272
   go_wp2_with fail
   refine (zAi ts p s zBs (by decide) HX _ o.s).mono ?_
   rintro e w1 ⟨rfl,hg,hp⟩
   replace o:=o.acc hg hp
   clear hg hp
   go_wp2_with fail
   refine (zAv ts p (adv s) t HT _ o.s).mono ?_
   rintro e w2 ⟨rfl,hb1⟩
   replace o:=o.low hb1
   clear hb1
   go_wp2_with fail
   refine (HPR.out (adv s) _ _ HC hA o.s).mono ?_
   rintro e w4 ⟨kd,nn,nm,op,A,L,c,rfl,hr,hg,hp⟩
   have hl:=o.sz
   replace o:=(o.acc hg hp).al (.cells #[.int .i64 kd,.int .i64 nn,.string ⟨nm.toArray⟩,.int .i64 op,.slice A L c] 36)
   have hl2:=hg.size
   replace hr:=(hr.alloc (Lr _) (.cells #[.int .i64 kd,.int .i64 nn,.string ⟨nm.toArray⟩,.int .i64 op,.slice A L c] 36)).mono (lo':=w.heap.size+1) hl (Nat.le_of_lt (show w4.heap.size < (w4.alloc (.cells #[.int .i64 kd,.int .i64 nn,.string ⟨nm.toArray⟩,.int .i64 op,.slice A L c] 36)).heap.size by simp))
   have HR:Hid (RepE (w4.alloc (.cells #[.int .i64 kd,.int .i64 nn,.string ⟨nm.toArray⟩,.int .i64 op,.slice A L c] 36)) (Rg (w.heap.size+1) (w4.alloc (.cells #[.int .i64 kd,.int .i64 nn,.string ⟨nm.toArray⟩,.int .i64 op,.slice A L c] 36)).heap.size) (opE 20 [cpe]) (exC 4 0 [] 20 (some ⟨w4.heap.size,0,none⟩) 1 1)):=Hd (repE_1 (c:=1) (Blk.new w4 _ _) rfl ⟨by omega,by simp⟩ hr rfl 4 0 [] 20)
   clear hg hp hr
   go_wp2_with fail
   refine (zBv 20 _ 1 1 _).mono ?_
   rintro e w5 ⟨rfl,hb1⟩
   replace o:=o.low hb1
   have HR2:=Hd ((HR.out.under hb1 (Lr _)).mono (Lr _) hb1.size)
   clear hb1 HR
   obtain⟨r0,r1,r2,r3,r4,f0,f1,f2,f3,f4⟩:=o.ok
   go_wp2_with fail
   obtain⟨hk,hx⟩:=o.fin HR2.out
   obtain⟨q0,q1,q2,q3,q4,_⟩:=hk.cells5
   exact bodyPost_ret (v:=exV 4 0 [] 20 (some ⟨w4.heap.size,0,none⟩) 1 1) (by simp[results,Tryz.results272,go_sem,q0,q1,q2,q3,q4]) rfl hx
 ·rw[if_neg hx] at hq
  have HX:=Hd (show nx ts s zBs=false by simpa using hx)
  clear hx
  by_cases hy:nx ts s cTilde=true
  ·rw[if_pos hy] at hq
   have hmv:=zAj (zA5 (by decide) hy)
   have HY:=Hd hy
   obtain⟨⟨cpe,s1⟩,hc⟩:∃ x,prF ts n (adv s)=x:=⟨_,rfl⟩
   have HC:=Hd hc
   rw[hc] at hq
   dsimp only at hq
   subst hq
   have hA:5 * ms ts (adv s)+2≤n:=by omega
   clear hy hmv hc hm
   go_enter Tryz.func272,Tryz.ntmps272
   go_wp2_with fail
   refine (zAd ts p s zBs HX _ o.s).mono ?_
   rintro e w1 ⟨rfl,hg,hp⟩
   replace o:=o.acc hg hp
   clear hg hp
   go_wp2_with fail
   refine (zAi ts p s cTilde (by decide) HY _ o.s).mono ?_
   rintro e w2 ⟨rfl,hg,hp⟩
   replace o:=o.acc hg hp
   clear hg hp
   go_wp2_with fail
   refine (HPR.out (adv s) _ _ HC hA o.s).mono ?_
   rintro e w4 ⟨kd,nn,nm,op,A,L,c,rfl,hr,hg,hp⟩
   have hl:=o.sz
   replace o:=(o.acc hg hp).al (.cells #[.int .i64 kd,.int .i64 nn,.string ⟨nm.toArray⟩,.int .i64 op,.slice A L c] 36)
   have hl2:=hg.size
   replace hr:=(hr.alloc (Lr _) (.cells #[.int .i64 kd,.int .i64 nn,.string ⟨nm.toArray⟩,.int .i64 op,.slice A L c] 36)).mono (lo':=w.heap.size+1) hl (Nat.le_of_lt (show w4.heap.size < (w4.alloc (.cells #[.int .i64 kd,.int .i64 nn,.string ⟨nm.toArray⟩,.int .i64 op,.slice A L c] 36)).heap.size by simp))
   have HR:Hid (RepE (w4.alloc (.cells #[.int .i64 kd,.int .i64 nn,.string ⟨nm.toArray⟩,.int .i64 op,.slice A L c] 36)) (Rg (w.heap.size+1) (w4.alloc (.cells #[.int .i64 kd,.int .i64 nn,.string ⟨nm.toArray⟩,.int .i64 op,.slice A L c] 36)).heap.size) (opE 21 [cpe]) (exC 4 0 [] 21 (some ⟨w4.heap.size,0,none⟩) 1 1)):=Hd (repE_1 (c:=1) (Blk.new w4 _ _) rfl ⟨by omega,by simp⟩ hr rfl 4 0 [] 21)
   clear hg hp hr
   go_wp2_with fail
   refine (zBv 21 _ 1 1 _).mono ?_
   rintro e w5 ⟨rfl,hb1⟩
   replace o:=o.low hb1
   have HR2:=Hd ((HR.out.under hb1 (Lr _)).mono (Lr _) hb1.size)
   clear hb1 HR
   obtain⟨r0,r1,r2,r3,r4,f0,f1,f2,f3,f4⟩:=o.ok
   go_wp2_with fail
   obtain⟨hk,hx⟩:=o.fin HR2.out
   obtain⟨q0,q1,q2,q3,q4,_⟩:=hk.cells5
   exact bodyPost_ret (v:=exV 4 0 [] 21 (some ⟨w4.heap.size,0,none⟩) 1 1) (by simp[results,Tryz.results272,go_sem,q0,q1,q2,q3,q4]) rfl hx
  ·rw[if_neg hy] at hq
   have HY:=Hd (show nx ts s cTilde=false by simpa using hy)
   clear hy
   by_cases hz:nx ts s cBang=true
   ·rw[if_pos hz] at hq
    have hmv:=zAj (zA5 (by decide) hz)
    have HZ:=Hd hz
    obtain⟨⟨cpe,s1⟩,hc⟩:∃ x,prF ts n (adv s)=x:=⟨_,rfl⟩
    have HC:=Hd hc
    rw[hc] at hq
    dsimp only at hq
    subst hq
    have hA:5 * ms ts (adv s)+2≤n:=by omega
    clear hz hmv hc hm
    go_enter Tryz.func272,Tryz.ntmps272
    go_wp2_with fail
    refine (zAd ts p s zBs HX _ o.s).mono ?_
    rintro e w1 ⟨rfl,hg,hp⟩
    replace o:=o.acc hg hp
    clear hg hp
    go_wp2_with fail
    refine (zAd ts p s cTilde HY _ o.s).mono ?_
    rintro e w2 ⟨rfl,hg,hp⟩
    replace o:=o.acc hg hp
    clear hg hp
    go_wp2_with fail
    refine (zAi ts p s cBang (by decide) HZ _ o.s).mono ?_
    rintro e w3 ⟨rfl,hg,hp⟩
    replace o:=o.acc hg hp
    clear hg hp
    go_wp2_with fail
    refine (HPR.out (adv s) _ _ HC hA o.s).mono ?_
    rintro e w4 ⟨kd,nn,nm,op,A,L,c,rfl,hr,hg,hp⟩
    have hl:=o.sz
    replace o:=(o.acc hg hp).al (.cells #[.int .i64 kd,.int .i64 nn,.string ⟨nm.toArray⟩,.int .i64 op,.slice A L c,.int .i64 1,.int .i64 0,.string ⟨#[]⟩,.int .i64 0,.slice none 0 0] 36)
    have hl2:=hg.size
    replace hr:=(hr.alloc (Lr _) (.cells #[.int .i64 kd,.int .i64 nn,.string ⟨nm.toArray⟩,.int .i64 op,.slice A L c,.int .i64 1,.int .i64 0,.string ⟨#[]⟩,.int .i64 0,.slice none 0 0] 36)).mono (lo':=w.heap.size+1) hl (Nat.le_of_lt (show w4.heap.size < (w4.alloc (.cells #[.int .i64 kd,.int .i64 nn,.string ⟨nm.toArray⟩,.int .i64 op,.slice A L c,.int .i64 1,.int .i64 0,.string ⟨#[]⟩,.int .i64 0,.slice none 0 0] 36)).heap.size by simp))
    have HR:Hid (RepE (w4.alloc (.cells #[.int .i64 kd,.int .i64 nn,.string ⟨nm.toArray⟩,.int .i64 op,.slice A L c,.int .i64 1,.int .i64 0,.string ⟨#[]⟩,.int .i64 0,.slice none 0 0] 36)) (Rg (w.heap.size+1) (w4.alloc (.cells #[.int .i64 kd,.int .i64 nn,.string ⟨nm.toArray⟩,.int .i64 op,.slice A L c,.int .i64 1,.int .i64 0,.string ⟨#[]⟩,.int .i64 0,.slice none 0 0] 36)).heap.size) (opE 15 [cpe,numE 0]) (exC 4 0 [] 15 (some ⟨w4.heap.size,0,none⟩) 2 2)):=Hd (repE_2 (ok:=Rg (w.heap.size+1) (w4.alloc (.cells #[.int .i64 kd,.int .i64 nn,.string ⟨nm.toArray⟩,.int .i64 op,.slice A L c,.int .i64 1,.int .i64 0,.string ⟨#[]⟩,.int .i64 0,.slice none 0 0] 36)).heap.size) (ca:=exC kd nn nm op A L c) (cb:=exC 1 0 [] 0 none 0 0) (c:=2) (Blk.new w4 36 #[.int .i64 kd,.int .i64 nn,.string ⟨nm.toArray⟩,.int .i64 op,.slice A L c,.int .i64 1,.int .i64 0,.string ⟨#[]⟩,.int .i64 0,.slice none 0 0]) rfl ⟨by omega,by simp⟩ hr (repE_leaf _ _ 1 0 [] 0 none 0) rfl rfl 4 0 [] 15)
    clear hg hp hr
    go_wp2_with fail
    refine (zBv 15 _ 2 2 _).mono ?_
    rintro e w5 ⟨rfl,hb1⟩
    replace o:=o.low hb1
    have HR2:=Hd ((HR.out.under hb1 (Lr _)).mono (Lr _) hb1.size)
    clear hb1 HR
    obtain⟨r0,r1,r2,r3,r4,f0,f1,f2,f3,f4⟩:=o.ok
    go_wp2_with fail
    obtain⟨hk,hx⟩:=o.fin HR2.out
    obtain⟨q0,q1,q2,q3,q4,_⟩:=hk.cells5
    exact bodyPost_ret (v:=exV 4 0 [] 15 (some ⟨w4.heap.size,0,none⟩) 2 2) (by simp[results,Tryz.results272,go_sem,q0,q1,q2,q3,q4]) rfl hx
   ·rw[if_neg hz] at hq
    have HZ:=Hd (show nx ts s cBang=false by simpa using hz)
    have HQ:=Hd hq
    have hA:5 * ms ts s+1≤n:=by omega
    clear hz hq hm
    go_enter Tryz.func272,Tryz.ntmps272
    go_wp2_with fail
    refine (zAd ts p s zBs HX _ o.s).mono ?_
    rintro e w1 ⟨rfl,hg,hp⟩
    replace o:=o.acc hg hp
    clear hg hp
    go_wp2_with fail
    refine (zAd ts p s cTilde HY _ o.s).mono ?_
    rintro e w2 ⟨rfl,hg,hp⟩
    replace o:=o.acc hg hp
    clear hg hp
    go_wp2_with fail
    refine (zAd ts p s cBang HZ _ o.s).mono ?_
    rintro e w3 ⟨rfl,hg,hp⟩
    replace o:=o.acc hg hp
    clear hg hp
    go_wp2_with fail
    refine (HPI.out s q _ HQ hA o.s).mono ?_
    rintro e w4 ⟨kd,nn,nm,op,A,L,c,rfl,hr,hg,hp⟩
    have hl:=o.sz
    replace o:=o.acc hg hp
    replace hr:=hr.mono (lo':=w.heap.size+1) hl (Lr _)
    clear hg hp
    obtain⟨r0,r1,r2,r3,r4,f0,f1,f2,f3,f4⟩:=o.ok
    have HR:=Hd hr
    clear hr
    go_wp2_with fail
    obtain⟨hk,hx⟩:=o.fin HR.out
    obtain⟨q0,q1,q2,q3,q4,_⟩:=hk.cells5
    exact bodyPost_ret (v:=exV kd nn nm op A L c) (by simp[results,Tryz.results272,go_sem,q0,q1,q2,q3,q4]) rfl hx
end Go.Proofs.YtpgnlfdindmopaaGreatDoor
namespace Go.Proofs.YtpgnlfdindmopaaGreatDoor
open Go.RowKit (wrap64 intOf)
open Go Go.RowKit WM LX PX
set_option maxRecDepth 100000
set_option maxHeartbeats 2000000
theorem ox (k:Nat)(hk:k < 17):∃ (x:List UInt8)(lv op:Nat)(ex:Bool),(∀ w:World,(Instr.index 298 (.agg opsCells) (.int .i64 (k:Int))).run Tryz.prog w=.ok (.agg #[.string ⟨x.toArray⟩,.int .i64 (lv:Int),.int .i64 (op:Int),.bool ex]) w)∧opsT.getD k ([],0,0,false)=(x,lv,op,ex):=by
 have hc:k=0∨k=1∨k=2∨k=3∨k=4∨k=5∨k=6∨k=7∨k=8∨k=9∨k=10∨k=11∨k=12∨k=13∨k=14∨k=15∨k=16:=by omega
 rcases hc with rfl | rfl | rfl | rfl | rfl | rfl | rfl | rfl | rfl | rfl | rfl | rfl | rfl | rfl | rfl | rfl | rfl
 ·exact⟨[124],1,10,false,fun w=>by kernel_rfl,rfl⟩
 ·exact⟨[94],2,11,false,fun w=>by kernel_rfl,rfl⟩
 ·exact⟨[38],3,9,false,fun w=>by kernel_rfl,rfl⟩
 ·exact⟨[61,61],4,15,false,fun w=>by kernel_rfl,rfl⟩
 ·exact⟨[33,61],4,16,false,fun w=>by kernel_rfl,rfl⟩
 ·exact⟨[60],5,17,false,fun w=>by kernel_rfl,rfl⟩
 ·exact⟨[60,61],5,18,false,fun w=>by kernel_rfl,rfl⟩
 ·exact⟨[62],5,17,true,fun w=>by kernel_rfl,rfl⟩
 ·exact⟨[62,61],5,18,true,fun w=>by kernel_rfl,rfl⟩
 ·exact⟨[60,60],6,12,false,fun w=>by kernel_rfl,rfl⟩
 ·exact⟨[62,62],6,14,false,fun w=>by kernel_rfl,rfl⟩
 ·exact⟨[62,62,62],6,13,false,fun w=>by kernel_rfl,rfl⟩
 ·exact⟨[43],7,4,false,fun w=>by kernel_rfl,rfl⟩
 ·exact⟨[45],7,5,false,fun w=>by kernel_rfl,rfl⟩
 ·exact⟨[42],8,6,false,fun w=>by kernel_rfl,rfl⟩
 ·exact⟨[47],8,7,false,fun w=>by kernel_rfl,rfl⟩
 ·exact⟨[37],8,8,false,fun w=>by kernel_rfl,rfl⟩
theorem opAt_none {x:List UInt8}(h:∀ k,k < 17→(opsT.getD k ([],0,0,false)).1≠x):opAt x=none:=by
 unfold opAt
 rw[List.find?_eq_none]
 intro o ho
 obtain⟨i,hi,rfl⟩:=List.mem_iff_getElem.1 ho
 have:=h i hi
 rw[List.getD_eq_getElem?_getD,Ge hi] at this
 simpa using this
theorem opAt_some {x:List UInt8}{k:Nat}(hk:k < 17)(h:∀ j,j < k→(opsT.getD j ([],0,0,false)).1≠x)(hx:(opsT.getD k ([],0,0,false)).1=x):opAt x=some (opsT.getD k ([],0,0,false)):=by
 have hg:∀ j,(hj:j < opsT.length)→opsT.getD j ([],0,0,false)=opsT[j]'hj:=fun j hj=>by rw[List.getD_eq_getElem?_getD,Ge hj];rfl
 unfold opAt
 rw[List.find?_eq_some_iff_getElem]
 refine⟨decide_eq_true hx,k,hk,(hg k hk).symm,fun j hj=>?_⟩
 have h1:=h j hj
 rw[hg j (show j < opsT.length from Nat.lt_trans hj hk)] at h1
 simpa using h1
def OpP (r:Option (List UInt8 × Nat × Nat × Bool))(w:World)(e:Ending)(w':World):Prop :=
 match r with
 | none=>e=.returned (.tuple #[.agg #[.string ⟨#[]⟩,.int .i64 0,.int .i64 0,.bool false],.bool false])∧Below w.heap.size w w'
 | some (x,lv,op,ex)=>e=.returned (.tuple #[.agg #[.string ⟨x.toArray⟩,.int .i64 (lv:Int),.int .i64 (op:Int),.bool ex],.bool true])∧Below w.heap.size w w'
theorem opP_some {r:Option (List UInt8 × Nat × Nat × Bool)}{x:List UInt8}{lv op:Nat}{ex:Bool}(h:r=some (x,lv,op,ex)){w w':World}(hb:Below w.heap.size w w'):OpP r w (.returned (.tuple #[.agg #[.string ⟨x.toArray⟩,.int .i64 (lv:Int),.int .i64 (op:Int),.bool ex],.bool true])) w':=by
 subst h;exact⟨rfl,hb⟩
theorem opP_none {r:Option (List UInt8 × Nat × Nat × Bool)}(h:r=none){w w':World}(hb:Below w.heap.size w w'):OpP r w (.returned (.tuple #[.agg #[.string ⟨#[]⟩,.int .i64 0,.int .i64 0,.bool false],.bool false])) w':=by
 subst h;exact⟨rfl,hb⟩
theorem Blk.cells4 {w:World}{g:Nat}{t:TypeId}{a b c d:Value}(h:Blk w g t #[a,b,c,d]):w.cell? ⟨g,0,none⟩=some a∧w.cell? ⟨g,1,none⟩=some b∧w.cell? ⟨g,2,none⟩=some c∧w.cell? ⟨g,3,none⟩=some d ∧
 w.frozen? ⟨g,0,none⟩=false∧w.frozen? ⟨g,1,none⟩=false∧w.frozen? ⟨g,2,none⟩=false∧w.frozen? ⟨g,3,none⟩=false :=
 ⟨h.cell 0,h.cell 1,h.cell 2,h.cell 3,h.free 0,h.free 1,h.free 2,h.free 3⟩
abbrev op0:Array Value:=#[.string ⟨#[]⟩,.int .i64 0,.int .i64 0,.bool false]
abbrev set4 (w1:World)(g:Nat)(a b c d:Value):World:=(((w1.setCell ⟨g,0,none⟩ a).setCell ⟨g,1,none⟩ b).setCell ⟨g,2,none⟩ c).setCell ⟨g,3,none⟩ d
theorem set4_blk {w1:World}{g:Nat}{t:TypeId}{a0 b0 c0 d0:Value}(h:Blk w1 g t #[a0,b0,c0,d0])(a b c d:Value):Blk (set4 w1 g a b c d) g t #[a,b,c,d]:=(((h.set 0 a).set 1 b).set 2 c).set 3 d
theorem set4_below {w w1:World}{B g:Nat}(h:Below B w w1)(hg:B≤g)(a b c d:Value):Below B w (set4 w1 g a b c d):=(((h.setCell hg a).setCell hg b).setCell hg c).setCell hg d
def OpR (x:List UInt8)(w:World)(i:Value)(wr:World):Prop :=
 ∃ j:Nat,j≤17∧(∀ k,k < j→(opsT.getD k ([],0,0,false)).1≠x)∧i=.int .i64 (j:Int)∧Below w.heap.size w wr∧Blk wr w.heap.size 290 op0
theorem operator_any (ts:List Tk)(p:Nat)(s:PS)(r:Option (List UInt8 × Nat × Nat × Bool))(hr:Hid (opAt (pk ts s).text=r))(w:World)(h:PSt ts p s w) :
 Calls Tryz.prog 273 #[.pointer (some ⟨p,0,none⟩)] w (OpP r w):=by
 obtain⟨t,ht⟩:∃ t,pk ts s=t:=⟨_,rfl⟩
 have HT:=Hd ht
 have kf:=tokF1
 have hr1:opAt t.text=r:=by rw[←ht];exact hr.out
 have HR:=Hd hr1
 have h0:=h.alloc (.cells op0 290)
 obtain⟨x,hx⟩:∃ x,t.text=x:=⟨_,rfl⟩
 have HX:=Hd hx
 clear hr1 ht hx
 go_enter Tryz.func273,Tryz.ntmps273
 go_wp2_with fail
 refine (zAv ts p s t HT _ h0).mono ?_
 rintro e w1 ⟨rfl,hb1⟩
 rw[HX.out]
 have h1:=h0.keep hb1
 obtain⟨_,tt,fr,hg⟩:=h1.env.2.1
 have HG:=Hd hg
 have hR:=(Blk.new w 290 op0).on hb1 (by simp)
 have hB:=((Below.refl _ _).alloc (Lr _) (.cells op0 290)).trans (below_down hb1 (by simp))
 have HRB:=Hd hR
 have HBB:=Hd hB
 clear hg hb1 h1 hR hB
 go_wp2_with (refine wpList_load_row rfl 298 _ rfl 3 rfl tt _ fr _ HG.out Tryz.underlying298 rfl (by kernel_rfl) ?_)
 go_loopg [11] 17 (fun k i wr=>OpR x w i wr∧(intOf i).toNat+k=17)
 case atStart=>exact⟨⟨0,Nat.zero_le _,fun i hi=>absurd hi (by omega),rfl,HBB.out,HRB.out⟩,rfl⟩
 case round =>
  obtain⟨⟨j,hj,hd,rfl,hB,hR⟩,hgk⟩:=hrel
  have HD:=Hd hd
  have HRB:=Hd hR
  have HBB:=Hd hB
  have hlt0:=hR.lt
  simp[intOf] at hgk
  obtain⟨r0,r1,r2,r3,f0,f1,f2,f3⟩:=hR.cells4
  clear hd hR hB
  by_cases hlt:j < 17
  ·obtain⟨y,lv,op,ex,hix,hy⟩:=ox j hlt
   have HY:=Hd hy
   clear hy
   by_cases he:y=x
   ·have he1:(y==x)=true:=by simp[he]
    have HE:=Hd he
    clear he
    go_wp2_with fail
    obtain⟨q0,q1,q2,q3,_⟩:=((set4_blk HRB.out (.string ⟨y.toArray⟩) (.int .i64 (lv:Int)) (.int .i64 (op:Int)) (.bool ex)).alloc (.cells #[.string ⟨y.toArray⟩,.int .i64 (lv:Int),.int .i64 (op:Int),.bool ex] 290)).cells4
    exact bodyPost_ret (v:=.tuple #[.agg #[.string ⟨y.toArray⟩,.int .i64 (lv:Int),.int .i64 (op:Int),.bool ex],.bool true]) (by simp[results,Tryz.results273,go_sem,q0,q1,q2,q3]) rfl
     (opP_some (by rw[←HR.out,HX.out,opAt_some hlt HD.out (by rw[HY.out];exact HE.out),HY.out]) ((set4_below HBB.out (Lr _) _ _ _ _).alloc (by simp[World.setCell];omega) _))
   ·have he1:(y==x)=false:=by simp[he]
    have HE:=Hd he
    clear he
    go_wp2_with fail
    go_roundg (17 - (j+1))
    case measure=>omega
    case rel=>exact⟨⟨j+1,by omega,fun k hk=>by
     by_cases e:k=j
     ·subst e;rw[HY.out];exact HE.out
     ·exact HD.out k (by omega),by go_num,HBB.out.alloc (Nat.le_of_lt hlt0) _,HRB.out.alloc _⟩,by simp[intOf];omega⟩
  ·obtain rfl:j=17:=by omega
   go_wp2_with fail
   obtain⟨q0,q1,q2,q3,_⟩:=(set4_blk HRB.out (.string ⟨#[]⟩) (.int .i64 0) (.int .i64 0) (.bool false)).cells4
   exact bodyPost_ret (v:=.tuple #[.agg #[.string ⟨#[]⟩,.int .i64 0,.int .i64 0,.bool false],.bool false]) (by simp[results,Tryz.results273,go_sem,q0,q1,q2,q3]) rfl
    (opP_none (by rw[←HR.out,HX.out];exact opAt_none HD.out) (set4_below HBB.out (Lr _) _ _ _ _))
def ApP (op:Int)(cs:List Value)(w:World)(e:Ending)(w':World):Prop :=
 ∃ g,e=.returned (exV 4 0 [] op (some ⟨g,0,none⟩) 2 2)∧Below w.heap.size w w'∧w.heap.size≤g∧Blk w' g 36 cs.toArray
theorem apP {op:Int}{cs:List Value}{w w':World}{g:Nat}(hb:Below w.heap.size w w')(hg:w.heap.size≤g)(hk:Blk w' g 36 cs.toArray):ApP op cs w (.returned (exV 4 0 [] op (some ⟨g,0,none⟩) 2 2)) w':=⟨g,rfl,hb,hg,hk⟩
theorem apply_any (x:List UInt8)(lv op:Int)(ex:Bool)(kd nn:Int)(nm:List UInt8)(o1:Int)(A:Option Addr)(L c:Nat)(kd2 nn2:Int)(nm2:List UInt8)(o2:Int)(A2:Option Addr)(L2 c2:Nat)(w:World) :
 Calls Tryz.prog 274 #[.agg #[.string ⟨x.toArray⟩,.int .i64 lv,.int .i64 op,.bool ex],exV kd nn nm o1 A L c,exV kd2 nn2 nm2 o2 A2 L2 c2] w
  (ApP op (if ex=true then exC kd2 nn2 nm2 o2 A2 L2 c2++exC kd nn nm o1 A L c else exC kd nn nm o1 A L c++exC kd2 nn2 nm2 o2 A2 L2 c2) w):=by
 cases ex
 ·rw[if_neg (by decide)]
  go_enter Tryz.func274,Tryz.ntmps274
  go_wp2_with fail
  have hz3:(((w.alloc (.cells #[.string ⟨x.toArray⟩,.int .i64 lv,.int .i64 op,.bool false] 290)).alloc (.cells #[.int .i64 kd,.int .i64 nn,.string ⟨nm.toArray⟩,.int .i64 o1,.slice A L c] 36)).alloc (.cells #[.int .i64 kd2,.int .i64 nn2,.string ⟨nm2.toArray⟩,.int .i64 o2,.slice A2 L2 c2] 36)).heap.size=w.heap.size+1+1+1:=by simp
  have hK:=blk_at (W:=(((w.alloc (.cells #[.string ⟨x.toArray⟩,.int .i64 lv,.int .i64 op,.bool false] 290)).alloc (.cells #[.int .i64 kd,.int .i64 nn,.string ⟨nm.toArray⟩,.int .i64 o1,.slice A L c] 36)).alloc (.cells #[.int .i64 kd2,.int .i64 nn2,.string ⟨nm2.toArray⟩,.int .i64 o2,.slice A2 L2 c2] 36)).alloc (.cells ex0 36)) (n:=w.heap.size+1+1+1+1) (by rw[World.size_alloc,hz3]) 36 #[.int .i64 kd,.int .i64 nn,.string ⟨nm.toArray⟩,.int .i64 o1,.slice A L c,.int .i64 kd2,.int .i64 nn2,.string ⟨nm2.toArray⟩,.int .i64 o2,.slice A2 L2 c2]
  have hR:=(blk_at hz3 36 ex0).alloc (.cells #[.int .i64 kd,.int .i64 nn,.string ⟨nm.toArray⟩,.int .i64 o1,.slice A L c,.int .i64 kd2,.int .i64 nn2,.string ⟨nm2.toArray⟩,.int .i64 o2,.slice A2 L2 c2] 36)
  have hB:Below w.heap.size w (((((w.alloc (.cells #[.string ⟨x.toArray⟩,.int .i64 lv,.int .i64 op,.bool false] 290)).alloc (.cells #[.int .i64 kd,.int .i64 nn,.string ⟨nm.toArray⟩,.int .i64 o1,.slice A L c] 36)).alloc (.cells #[.int .i64 kd2,.int .i64 nn2,.string ⟨nm2.toArray⟩,.int .i64 o2,.slice A2 L2 c2] 36)).alloc (.cells ex0 36)).alloc (.cells #[.int .i64 kd,.int .i64 nn,.string ⟨nm.toArray⟩,.int .i64 o1,.slice A L c,.int .i64 kd2,.int .i64 nn2,.string ⟨nm2.toArray⟩,.int .i64 o2,.slice A2 L2 c2] 36)) :=
   (((((Below.refl _ _).alloc (Lr _) _).alloc (by simp) _).alloc (by simp;omega) _).alloc (by rw[hz3];omega) _).alloc (by rw[World.size_alloc,hz3];omega) _
  refine (zBv op _ 2 2 _).mono ?_
  rintro e w5 ⟨rfl,hb1⟩
  replace hK:=hK.on hb1 (by rw[World.size_alloc,World.size_alloc,hz3];omega)
  replace hR:=hR.on hb1 (by rw[World.size_alloc,World.size_alloc,hz3];omega)
  replace hB:=hB.trans (below_down hb1 hB.size)
  obtain⟨r0,r1,r2,r3,r4,f0,f1,f2,f3,f4⟩:=hR.cells5
  have HK:=Hd hK
  have HR:=Hd hR
  have HB:=Hd hB
  clear hK hR hB hb1 hz3
  go_wp2_with fail
  obtain⟨q0,q1,q2,q3,q4,_⟩:=(zB2 HR.out (.int .i64 4) (.int .i64 0) (.string ⟨#[]⟩) (.int .i64 op) (.slice (some ⟨w.heap.size+1+1+1+1,0,none⟩) 2 2)).cells5
  exact bodyPost_ret (v:=exV 4 0 [] op (some ⟨w.heap.size+1+1+1+1,0,none⟩) 2 2) (by simp[results,Tryz.results274,go_sem,q0,q1,q2,q3,q4]) rfl
   (apP (((((HB.out.setCell (by simp;omega) _).setCell (by simp;omega) _).setCell (by simp;omega) _).setCell (by simp;omega) _).setCell (by simp;omega) _) (by omega) ((zBp _ _ _ _ _ _ _ _ (by omega)).trans HK.out))
 ·rw[if_pos rfl]
  go_enter Tryz.func274,Tryz.ntmps274
  go_wp2_with fail
  have hz3:(((w.alloc (.cells #[.string ⟨x.toArray⟩,.int .i64 lv,.int .i64 op,.bool true] 290)).alloc (.cells #[.int .i64 kd2,.int .i64 nn2,.string ⟨nm2.toArray⟩,.int .i64 o2,.slice A2 L2 c2] 36)).alloc (.cells #[.int .i64 kd,.int .i64 nn,.string ⟨nm.toArray⟩,.int .i64 o1,.slice A L c] 36)).heap.size=w.heap.size+1+1+1:=by simp
  have hK:=blk_at (W:=(((w.alloc (.cells #[.string ⟨x.toArray⟩,.int .i64 lv,.int .i64 op,.bool true] 290)).alloc (.cells #[.int .i64 kd2,.int .i64 nn2,.string ⟨nm2.toArray⟩,.int .i64 o2,.slice A2 L2 c2] 36)).alloc (.cells #[.int .i64 kd,.int .i64 nn,.string ⟨nm.toArray⟩,.int .i64 o1,.slice A L c] 36)).alloc (.cells ex0 36)) (n:=w.heap.size+1+1+1+1) (by rw[World.size_alloc,hz3]) 36 #[.int .i64 kd2,.int .i64 nn2,.string ⟨nm2.toArray⟩,.int .i64 o2,.slice A2 L2 c2,.int .i64 kd,.int .i64 nn,.string ⟨nm.toArray⟩,.int .i64 o1,.slice A L c]
  have hR:=(blk_at hz3 36 ex0).alloc (.cells #[.int .i64 kd2,.int .i64 nn2,.string ⟨nm2.toArray⟩,.int .i64 o2,.slice A2 L2 c2,.int .i64 kd,.int .i64 nn,.string ⟨nm.toArray⟩,.int .i64 o1,.slice A L c] 36)
  have hB:Below w.heap.size w (((((w.alloc (.cells #[.string ⟨x.toArray⟩,.int .i64 lv,.int .i64 op,.bool true] 290)).alloc (.cells #[.int .i64 kd2,.int .i64 nn2,.string ⟨nm2.toArray⟩,.int .i64 o2,.slice A2 L2 c2] 36)).alloc (.cells #[.int .i64 kd,.int .i64 nn,.string ⟨nm.toArray⟩,.int .i64 o1,.slice A L c] 36)).alloc (.cells ex0 36)).alloc (.cells #[.int .i64 kd2,.int .i64 nn2,.string ⟨nm2.toArray⟩,.int .i64 o2,.slice A2 L2 c2,.int .i64 kd,.int .i64 nn,.string ⟨nm.toArray⟩,.int .i64 o1,.slice A L c] 36)) :=
   (((((Below.refl _ _).alloc (Lr _) _).alloc (by simp) _).alloc (by simp;omega) _).alloc (by rw[hz3];omega) _).alloc (by rw[World.size_alloc,hz3];omega) _
  refine (zBv op _ 2 2 _).mono ?_
  rintro e w5 ⟨rfl,hb1⟩
  replace hK:=hK.on hb1 (by rw[World.size_alloc,World.size_alloc,hz3];omega)
  replace hR:=hR.on hb1 (by rw[World.size_alloc,World.size_alloc,hz3];omega)
  replace hB:=hB.trans (below_down hb1 hB.size)
  obtain⟨r0,r1,r2,r3,r4,f0,f1,f2,f3,f4⟩:=hR.cells5
  have HK:=Hd hK
  have HR:=Hd hR
  have HB:=Hd hB
  clear hK hR hB hb1 hz3
  go_wp2_with fail
  obtain⟨q0,q1,q2,q3,q4,_⟩:=(zB2 HR.out (.int .i64 4) (.int .i64 0) (.string ⟨#[]⟩) (.int .i64 op) (.slice (some ⟨w.heap.size+1+1+1+1,0,none⟩) 2 2)).cells5
  exact bodyPost_ret (v:=exV 4 0 [] op (some ⟨w.heap.size+1+1+1+1,0,none⟩) 2 2) (by simp[results,Tryz.results274,go_sem,q0,q1,q2,q3,q4]) rfl
   (apP (((((HB.out.setCell (by simp;omega) _).setCell (by simp;omega) _).setCell (by simp;omega) _).setCell (by simp;omega) _).setCell (by simp;omega) _) (by omega) ((zBp _ _ _ _ _ _ _ _ (by omega)).trans HK.out))
end Go.Proofs.YtpgnlfdindmopaaGreatDoor
