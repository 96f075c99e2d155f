/- Words and walks for the laws of the interpreter. -/
import Derived.Test.YtpgnlfdindmopaaGreatDoorJ3
import Derived.Deep.RegionWith
import Derived.IntWalk
import Derived.Deep.QuietTactic
import Derived.BigQuiet
import Derived.KernelRfl
namespace Go.Proofs.YtpgnlfdindmopaaGreatDoor
open Go.RowKit (wrap64 intOf)
open Go Go.RowKit WM LX PX
set_option maxRecDepth 100000
set_option maxHeartbeats 4000000
theorem starts_no (ts:List Tk)(p:Nat)(s:PS)(hb:Hid (isNm (pk ts s)=false))(w:World)(h:PSt ts p s w) :
 Calls Tryz.prog 269 #[.pointer (some ⟨p,0,none⟩)] w (RetN (.bool false) w):=by
 obtain⟨t,ht⟩:∃ t,pk ts s=t:=⟨_,rfl⟩
 have HT:=Hd ht
 have HB:Hid (isNm t=false):=Hd (by rw[←ht];exact hb.out)
 have hdr:PSt ts p s w.drew:=h.drewN 1
 clear ht hb
 go_enter Tryz.func269,Tryz.ntmps269
 go_wp2_with fail
 refine wp_region_any (by kernel_rfl) ?_
 change wpAny _ _ _ _ _ _ _ (World.drew _)
 refine wpAny_take (i:=0) (v:=.pointer (some ⟨p,0,none⟩)) rfl (by kernel_rfl) (by kernel_rfl) (by kernel_rfl) (fun _ _ _ h=>h) (Or.inl ⟨by kernel_rfl,fun w=>by go_simp⟩) ?_
 change wpAny _ _ _ _ _ _ { tmps:=#[.pointer (some ⟨p,0,none⟩),undef,.bool false,.pointer (some ⟨p,0,none⟩),undef,undef,undef,undef,undef,undef,undef,undef,undef,undef,undef,undef,undef,undef,undef,undef,undef,undef,undef,undef,undef,undef,undef,undef,undef,undef,undef,undef,undef],defers:=[] } _
 refine wpAny_ready (rs:=[1]) (by kernel_rfl) (by simp) ?_
 refine AllReady.cons rfl (fun K hK=>?_) AllReady.nil
 go_simp
 go_wp2_with (go_at_call 250;((with_reducible refine (zAv ts p s t HT _ hdr).mono ?_);rintro e w1 ⟨rfl,hb1⟩;have h1:=hdr.keep hb1;have he1:=h1.env.1;have hle:=Nat.le_of_lt h1.lt))
 refine wpAny_ready (rs:=[2]) (by kernel_rfl) (by simp) ?_
 refine AllReady.cons rfl (fun K hK=>?_) AllReady.nil
 go_simp
 go_wp2_with (go_at_call 251;((with_reducible refine (zCs t false HB p _ hle he1).mono ?_);rintro e w2 ⟨rfl,hb2⟩))
 refine wpAny_take (i:=3) (v:=.bool true) rfl (by kernel_rfl) (by kernel_rfl) (by kernel_rfl) (fun _ _ _ h=>h) (Or.inl ⟨by kernel_rfl,fun w=>by go_simp⟩) ?_
 change wpAny _ _ _ _ _ _ { tmps:=#[.pointer (some ⟨p,0,none⟩),undef,.bool false,.pointer (some ⟨p,0,none⟩),.agg #[.int .i64 (t.kind:Int),.string ⟨t.text.toArray⟩,.int .i64 (t.pos:Int)],.bool false,.bool true,undef,undef,undef,undef,undef,undef,undef,undef,undef,undef,undef,undef,undef,undef,undef,undef,undef,undef,undef,undef,undef,undef,undef,undef,undef,undef],defers:=[] } _
 refine wpAny_take (i:=4) (v:=.bool true) rfl (by kernel_rfl) (by kernel_rfl) (by kernel_rfl) (fun _ _ _ h=>h) (Or.inl ⟨by kernel_rfl,fun w=>by go_simp⟩) ?_
 change wpAny _ _ _ _ _ _ { tmps:=#[.pointer (some ⟨p,0,none⟩),undef,.bool false,.pointer (some ⟨p,0,none⟩),.agg #[.int .i64 (t.kind:Int),.string ⟨t.text.toArray⟩,.int .i64 (t.pos:Int)],.bool false,.bool true,.bool true,undef,undef,undef,undef,undef,undef,undef,undef,undef,undef,undef,undef,undef,undef,undef,undef,undef,undef,undef,undef,undef,undef,undef,undef,undef],defers:=[] } _
 refine wpAny_take (i:=5) (v:=undef) rfl (by kernel_rfl) (by kernel_rfl) (by kernel_rfl) (fun _ _ _ h=>h) (Or.inr ⟨by kernel_rfl,rfl⟩) ?_
 change wpAny _ _ _ _ _ _ { tmps:=#[.pointer (some ⟨p,0,none⟩),undef,.bool false,.pointer (some ⟨p,0,none⟩),.agg #[.int .i64 (t.kind:Int),.string ⟨t.text.toArray⟩,.int .i64 (t.pos:Int)],.bool false,.bool true,.bool true,undef,undef,undef,undef,undef,undef,undef,undef,undef,undef,undef,undef,undef,undef,undef,undef,undef,undef,undef,undef,undef,undef,undef,undef,undef],defers:=[] } _
 refine wpAny_take (i:=6) (v:=undef) rfl (by kernel_rfl) (by kernel_rfl) (by kernel_rfl) (fun _ _ _ h=>h) (Or.inr ⟨by kernel_rfl,rfl⟩) ?_
 change wpAny _ _ _ _ _ _ { tmps:=#[.pointer (some ⟨p,0,none⟩),undef,.bool false,.pointer (some ⟨p,0,none⟩),.agg #[.int .i64 (t.kind:Int),.string ⟨t.text.toArray⟩,.int .i64 (t.pos:Int)],.bool false,.bool true,.bool true,undef,undef,undef,undef,undef,undef,undef,undef,undef,undef,undef,undef,undef,undef,undef,undef,undef,undef,undef,undef,undef,undef,undef,undef,undef],defers:=[] } _
 refine wpAny_take (i:=7) (v:=undef) rfl (by kernel_rfl) (by kernel_rfl) (by kernel_rfl) (fun _ _ _ h=>h) (Or.inr ⟨by kernel_rfl,rfl⟩) ?_
 change wpAny _ _ _ _ _ _ { tmps:=#[.pointer (some ⟨p,0,none⟩),undef,.bool false,.pointer (some ⟨p,0,none⟩),.agg #[.int .i64 (t.kind:Int),.string ⟨t.text.toArray⟩,.int .i64 (t.pos:Int)],.bool false,.bool true,.bool true,undef,undef,undef,undef,undef,undef,undef,undef,undef,undef,undef,undef,undef,undef,undef,undef,undef,undef,undef,undef,undef,undef,undef,undef,undef],defers:=[] } _
 refine wpAny_take (i:=8) (v:=undef) rfl (by kernel_rfl) (by kernel_rfl) (by kernel_rfl) (fun _ _ _ h=>h) (Or.inr ⟨by kernel_rfl,rfl⟩) ?_
 change wpAny _ _ _ _ _ _ { tmps:=#[.pointer (some ⟨p,0,none⟩),undef,.bool false,.pointer (some ⟨p,0,none⟩),.agg #[.int .i64 (t.kind:Int),.string ⟨t.text.toArray⟩,.int .i64 (t.pos:Int)],.bool false,.bool true,.bool true,undef,undef,undef,undef,undef,undef,undef,undef,undef,undef,undef,undef,undef,undef,undef,undef,undef,undef,undef,undef,undef,undef,undef,undef,undef],defers:=[] } _
 refine wpAny_take (i:=9) (v:=undef) rfl (by kernel_rfl) (by kernel_rfl) (by kernel_rfl) (fun _ _ _ h=>h) (Or.inr ⟨by kernel_rfl,rfl⟩) ?_
 change wpAny _ _ _ _ _ _ { tmps:=#[.pointer (some ⟨p,0,none⟩),undef,.bool false,.pointer (some ⟨p,0,none⟩),.agg #[.int .i64 (t.kind:Int),.string ⟨t.text.toArray⟩,.int .i64 (t.pos:Int)],.bool false,.bool true,.bool true,undef,undef,undef,undef,undef,undef,undef,undef,undef,undef,undef,undef,undef,undef,undef,undef,undef,undef,undef,undef,undef,undef,undef,undef,undef],defers:=[] } _
 refine wpAny_take (i:=10) (v:=undef) rfl (by kernel_rfl) (by kernel_rfl) (by kernel_rfl) (fun _ _ _ h=>h) (Or.inr ⟨by kernel_rfl,rfl⟩) ?_
 change wpAny _ _ _ _ _ _ { tmps:=#[.pointer (some ⟨p,0,none⟩),undef,.bool false,.pointer (some ⟨p,0,none⟩),.agg #[.int .i64 (t.kind:Int),.string ⟨t.text.toArray⟩,.int .i64 (t.pos:Int)],.bool false,.bool true,.bool true,undef,undef,undef,undef,undef,undef,undef,undef,undef,undef,undef,undef,undef,undef,undef,undef,undef,undef,undef,undef,undef,undef,undef,undef,undef],defers:=[] } _
 refine wpAny_take (i:=11) (v:=undef) rfl (by kernel_rfl) (by kernel_rfl) (by kernel_rfl) (fun _ _ _ h=>h) (Or.inr ⟨by kernel_rfl,rfl⟩) ?_
 change wpAny _ _ _ _ _ _ { tmps:=#[.pointer (some ⟨p,0,none⟩),undef,.bool false,.pointer (some ⟨p,0,none⟩),.agg #[.int .i64 (t.kind:Int),.string ⟨t.text.toArray⟩,.int .i64 (t.pos:Int)],.bool false,.bool true,.bool true,undef,undef,undef,undef,undef,undef,undef,undef,undef,undef,undef,undef,undef,undef,undef,undef,undef,undef,undef,undef,undef,undef,undef,undef,undef],defers:=[] } _
 refine wpAny_take (i:=12) (v:=undef) rfl (by kernel_rfl) (by kernel_rfl) (by kernel_rfl) (fun _ _ _ h=>h) (Or.inr ⟨by kernel_rfl,rfl⟩) ?_
 change wpAny _ _ _ _ _ _ { tmps:=#[.pointer (some ⟨p,0,none⟩),undef,.bool false,.pointer (some ⟨p,0,none⟩),.agg #[.int .i64 (t.kind:Int),.string ⟨t.text.toArray⟩,.int .i64 (t.pos:Int)],.bool false,.bool true,.bool true,undef,undef,undef,undef,undef,undef,undef,undef,undef,undef,undef,undef,undef,undef,undef,undef,undef,undef,undef,undef,undef,undef,undef,undef,undef],defers:=[] } _
 refine wpAny_take (i:=13) (v:=undef) rfl (by kernel_rfl) (by kernel_rfl) (by kernel_rfl) (fun _ _ _ h=>h) (Or.inr ⟨by kernel_rfl,rfl⟩) ?_
 change wpAny _ _ _ _ _ _ { tmps:=#[.pointer (some ⟨p,0,none⟩),undef,.bool false,.pointer (some ⟨p,0,none⟩),.agg #[.int .i64 (t.kind:Int),.string ⟨t.text.toArray⟩,.int .i64 (t.pos:Int)],.bool false,.bool true,.bool true,undef,undef,undef,undef,undef,undef,undef,undef,undef,undef,undef,undef,undef,undef,undef,undef,undef,undef,undef,undef,undef,undef,undef,undef,undef],defers:=[] } _
 refine wpAny_take (i:=14) (v:=undef) rfl (by kernel_rfl) (by kernel_rfl) (by kernel_rfl) (fun _ _ _ h=>h) (Or.inr ⟨by kernel_rfl,rfl⟩) ?_
 change wpAny _ _ _ _ _ _ { tmps:=#[.pointer (some ⟨p,0,none⟩),undef,.bool false,.pointer (some ⟨p,0,none⟩),.agg #[.int .i64 (t.kind:Int),.string ⟨t.text.toArray⟩,.int .i64 (t.pos:Int)],.bool false,.bool true,.bool true,undef,undef,undef,undef,undef,undef,undef,undef,undef,undef,undef,undef,undef,undef,undef,undef,undef,undef,undef,undef,undef,undef,undef,undef,undef],defers:=[] } _
 refine wpAny_take (i:=15) (v:=undef) rfl (by kernel_rfl) (by kernel_rfl) (by kernel_rfl) (fun _ _ _ h=>h) (Or.inr ⟨by kernel_rfl,rfl⟩) ?_
 change wpAny _ _ _ _ _ _ { tmps:=#[.pointer (some ⟨p,0,none⟩),undef,.bool false,.pointer (some ⟨p,0,none⟩),.agg #[.int .i64 (t.kind:Int),.string ⟨t.text.toArray⟩,.int .i64 (t.pos:Int)],.bool false,.bool true,.bool true,undef,undef,undef,undef,undef,undef,undef,undef,undef,undef,undef,undef,undef,undef,undef,undef,undef,undef,undef,undef,undef,undef,undef,undef,undef],defers:=[] } _
 refine wpAny_take (i:=16) (v:=.bool true) rfl (by kernel_rfl) (by kernel_rfl) (by kernel_rfl) (fun _ _ _ h=>h) (Or.inl ⟨by kernel_rfl,fun w=>by go_simp⟩) ?_
 refine wpAny_done (by kernel_rfl) ?_ _
 go_wp2_with fail
 go_ret
 exact retN rfl (Below.trans (below_drewN (Below.refl _ _) 1) (Below.trans hb1 (below_down hb2 hb1.size)))
theorem clB_of {ts:List Tk}{s:PS}(h:isNm (pk ts s)=true):clB ts s=decide ((ts.getD (s.i+1) tk0).text=cLp):=by unfold clB;rw[h];rfl
theorem starts_yes (ts:List Tk)(p:Nat)(s:PS)(hb:Hid (isNm (pk ts s)=true))(b:Bool)(hcl:Hid (clB ts s=b))(w:World)(h:PSt ts p s w) :
 Calls Tryz.prog 269 #[.pointer (some ⟨p,0,none⟩)] w (RetN (.bool b) w):=by
 obtain⟨t,ht⟩:∃ t,pk ts s=t:=⟨_,rfl⟩
 have HT:=Hd ht
 have HB:Hid (isNm t=true):=Hd (by rw[←ht];exact hb.out)
 have hdr:PSt ts p s w.drew:=h.drewN 1
 have hk:=zCr (ts:=ts) (s:=s) (Or.inr (by rw[isNm_kind hb.out];decide))
 have hc:=hcl.out
 rw[clB_of hb.out] at hc
 have hi:=hk.2
 obtain⟨A,c,hbk,htk,_,_,hl,_⟩:=h
 obtain⟨c0,c1,_⟩:=hbk.cells3
 have hpw:=hbk.lt
 have HBK:=Hd hbk
 obtain⟨i,f⟩:=s
 dsimp only at c1 hi hc
 clear ht hb hcl hk hbk
 obtain⟨n,hn⟩:∃ n,ts.length=n:=⟨_,rfl⟩
 have hm:i+1≤20001:=by omega
 by_cases hlt:i+1 < n
 ·obtain⟨g,rfl,hg,d0,d1,d2⟩:=tok_cells htk (by rw[hn];exact hlt)
  obtain⟨x,hx⟩:∃ x,(ts.getD (i+1) tk0).text=x:=⟨_,rfl⟩
  rw[hx] at d1 hc
  rw[hn] at c0 HBK
  have HC:=Hd hc
  have hgw:g < w.heap.size:=by omega
  have D1:=Hd d1
  have e1:decide ((n:Int)≤(i:Int)+1)=false:=decide_eq_false (by omega)
  have e2:¬ (n:Int)≤(i:Int)+1:=by omega
  have e3:(i:Int)+1 < (n:Int):=by omega
  have e4:(0:Int)≤(i:Int)+1:=by omega
  have e5:((i:Int)+1).toNat=i+1:=by omega
  have hwr:IntKind.i64.wrap ((i:Int)+1)=(i:Int)+1:=IntWalk.i64_in _ (by omega)
  clear hx hc d0 d1 d2 c0 c1 hn htk
  go_enter Tryz.func269,Tryz.ntmps269
  go_wp2_with fail
  go_region_with (first
   | (go_at_call 250;((with_reducible refine (zAv ts p _ t HT _ hdr).mono ?_);rintro e w1 ⟨rfl,hb1⟩;have h1:=hdr.keep hb1;have he1:=h1.env.1;have hle:=Nat.le_of_lt h1.lt;have hK1:=Hd (Blk.on (w:=w.drew) HBK.out hb1 hpw)))
   | (go_at_call 251;((with_reducible refine (zCs t true HB p _ hle he1).mono ?_);rintro e w2 ⟨rfl,hb2⟩;have a0:=(hK1.out.on hb2 hK1.out.lt).cell 0;have a1:=(hK1.out.on hb2 hK1.out.lt).cell 1;have a2:=(hb2.cell (p:=⟨g,(i+1) * 3+1,none⟩) (Ll hgw hb1.size)).trans ((hb1.cell (p:=⟨g,(i+1) * 3+1,none⟩) hgw).trans D1.out))))
  all_goals
   go_wp2_with fail
   go_quiet (fail)
   go_wp2_with fail
   go_ret
   exact retN (show Value.bool (x==cLp)=Value.bool b by rw[beq_dec];exact congrArg Value.bool HC.out) (below_drewN (Below.trans (below_drewN (Below.refl _ _) 1) (Below.trans hb1 (below_down hb2 hb1.size))) _)
 ·have hz:(ts.getD (i+1) tk0).text=[]:=by rw[List.getD_eq_getElem?_getD,List.getElem?_eq_none (by omega)];rfl
  rw[hz] at hc
  rw[hn] at c0 HBK
  have HC:=Hd hc
  have e1:decide ((n:Int)≤(i:Int)+1)=true:=decide_eq_true (by omega)
  have e2:(n:Int)≤(i:Int)+1:=by omega
  have hwr:IntKind.i64.wrap ((i:Int)+1)=(i:Int)+1:=IntWalk.i64_in _ (by omega)
  clear hc hz c0 c1 hn htk
  go_enter Tryz.func269,Tryz.ntmps269
  go_wp2_with fail
  go_region_with (first
   | (go_at_call 250;((with_reducible refine (zAv ts p _ t HT _ hdr).mono ?_);rintro e w1 ⟨rfl,hb1⟩;have h1:=hdr.keep hb1;have he1:=h1.env.1;have hle:=Nat.le_of_lt h1.lt;have hK1:=Hd (Blk.on (w:=w.drew) HBK.out hb1 hpw)))
   | (go_at_call 251;((with_reducible refine (zCs t true HB p _ hle he1).mono ?_);rintro e w2 ⟨rfl,hb2⟩;have a0:=(hK1.out.on hb2 hK1.out.lt).cell 0;have a1:=(hK1.out.on hb2 hK1.out.lt).cell 1)))
  all_goals
   go_wp2_with fail
   go_ret
   exact retN (show Value.bool false=Value.bool b by rw[←HC.out];rfl) (Below.trans (below_drewN (Below.refl _ _) 1) (Below.trans hb1 (below_down hb2 hb1.size)))
end Go.Proofs.YtpgnlfdindmopaaGreatDoor
