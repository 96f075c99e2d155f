/- Words and walks for the laws of the interpreter. -/
import Derived.Test.YtpgnlfdindmopaaGreatDoorI5
import Derived.Test.YtpgnlfdindmopaaGreatDoorI6
import Derived.Test.YtpgnlfdindmopaaGreatDoorI7
import Derived.Test.YtpgnlfdindmopaaGreatDoorI8
namespace Go.Proofs.YtpgnlfdindmopaaGreatDoor
open Go.RowKit (wrap64 intOf)
open Go Go.RowKit WM LX PX CX IX
set_option maxRecDepth 100000
set_option maxHeartbeats 4000000
theorem ie_1 {K:Cf}(hK:CfOK K){o:Option Nat}{m:MS}{Vs:IX.Vs}{V:Nat}{nm tn:List UInt8}{n:Int}{pos value:PE}{args:List PE}{thn els:List ST}{r:XR}{cs:List Value}{w:World}
 (hc:∀ W,RepS W K.ok (.mk 1 nm tn n pos value args thn els) cs→MSt K o m W→VMp K o V m.k Vs W→Calls Tryz.prog 127 #[acV K.R V,.agg cs.toArray] W (XrP K V o r W))
 (hS:RepS w K.ok (.mk 1 nm tn n pos value args thn els) cs) (hM:MSt K o m w) (hV:VMp K o V m.k Vs w) :
 Calls Tryz.prog 87 #[acV K.R V,.agg cs.toArray] w (XrP K V o r w):=by
 obtain⟨k1,n1,x1,o1,A1,L1,c1,k2,n2,x2,o2,A2,L2,c2,A3,c3,A4,c4,A5,c5,hcs,rp,rv,ra,rt,re⟩:=zBo hS
 obtain⟨h17,_⟩:=zCn _ _ _ _ hS
 have hsz:=hM.size hK
 have hRlt:K.R < w.heap.size:=hM.lt _ (Or.inl rfl)
 have d0:cs[0]?=some (.int .i64 1):=by rw[hcs];rfl
 obtain⟨W2,hW2⟩:∃ W2,(w.alloc (.cells #[.pointer (some ⟨K.R,0,none⟩),.map (some V)] 114)).alloc (.cells cs.toArray 40)=W2:=⟨_,rfl⟩
 have hb2:Below w.heap.size w W2:=by rw[←hW2];exact ((Below.refl _ _).alloc (Lr _) _).alloc (by simp) _
 have j1:Blk W2 w.heap.size 114 #[.pointer (some ⟨K.R,0,none⟩),.map (some V)]:=by rw[←hW2];exact (Blk.new _ _ _).alloc _
 have j2:Blk W2 (w.heap.size+1) 40 cs.toArray:=by rw[←hW2];exact blk_at (by simp) _ _
 have v0:W2.cell? ⟨w.heap.size+1,0,none⟩=some (.int .i64 1):=by rw[j2.cell 0];simpa using d0
 have hc2:=hc W2 (hS.keep (fun _ h=>h) (fun i hi=>hb2.block i (Ll (hK.ok i hi) hsz))) (hM.low hK hb2) (hV.low hb2)
 obtain⟨R,hRR⟩:∃ R,K.R=R:=⟨_,rfl⟩
 rw[hRR] at hW2 j1 hRlt  hc2 ⊢
 have HS17:Hid ((Tryz.prog.info? 40).map (·.size)=some cs.toArray.size):=by rw[show cs.toArray.size=17 from by simpa using h17];exact zAf
 have HK2:Hid (Blk ((w.alloc (.cells #[.pointer (some ⟨R,0,none⟩),.map (some V)] 114)).alloc (.cells cs.toArray 40)) (w.heap.size+1) 40 cs.toArray):=blk_at (by simp) _ _
 have HC:=Hd hc2
 have HW:=Hd (Ai hW2 (Ai hb2 hsz))
 clear hc2 hc rp rv ra rt re hcs h17 hW2 hb2 hsz j1 j2 hM hV hS hRR hK v0 hRlt
 go_enter Tryz.func87,Tryz.ntmps87
 go_wp2_with (refine wpList_load_row rfl 40 _ rfl (w.heap.size+1) rfl 40 cs.toArray (0,0) _ HK2.out Tryz.underlying40 rfl HS17.out ?_)
 rw[HW.out.1]
 refine HC.out.mono ?_
 rintro e w3 h3
 obtain⟨b3,rfl,h3⟩:=zCl h3
 have HA:=Hd h3
 clear h3
 go_wp2_with fail
 go_ret
 exact HA.out.back HW.out.2.1 HW.out.2.2
theorem ie_2 {K:Cf}(hK:CfOK K){o:Option Nat}{m:MS}{Vs:IX.Vs}{V:Nat}{nm tn:List UInt8}{n:Int}{pos value:PE}{args:List PE}{thn els:List ST}{r:XR}{cs:List Value}{w:World}
 (hc:∀ W,RepS W K.ok (.mk 2 nm tn n pos value args thn els) cs→MSt K o m W→VMp K o V m.k Vs W→Calls Tryz.prog 128 #[acV K.R V,.agg cs.toArray] W (XrP K V o r W))
 (hS:RepS w K.ok (.mk 2 nm tn n pos value args thn els) cs) (hM:MSt K o m w) (hV:VMp K o V m.k Vs w) :
 Calls Tryz.prog 87 #[acV K.R V,.agg cs.toArray] w (XrP K V o r w):=by
 obtain⟨k1,n1,x1,o1,A1,L1,c1,k2,n2,x2,o2,A2,L2,c2,A3,c3,A4,c4,A5,c5,hcs,rp,rv,ra,rt,re⟩:=zBo hS
 obtain⟨h17,_⟩:=zCn _ _ _ _ hS
 have hsz:=hM.size hK
 have hRlt:K.R < w.heap.size:=hM.lt _ (Or.inl rfl)
 have d0:cs[0]?=some (.int .i64 2):=by rw[hcs];rfl
 obtain⟨W2,hW2⟩:∃ W2,(w.alloc (.cells #[.pointer (some ⟨K.R,0,none⟩),.map (some V)] 114)).alloc (.cells cs.toArray 40)=W2:=⟨_,rfl⟩
 have hb2:Below w.heap.size w W2:=by rw[←hW2];exact ((Below.refl _ _).alloc (Lr _) _).alloc (by simp) _
 have j1:Blk W2 w.heap.size 114 #[.pointer (some ⟨K.R,0,none⟩),.map (some V)]:=by rw[←hW2];exact (Blk.new _ _ _).alloc _
 have j2:Blk W2 (w.heap.size+1) 40 cs.toArray:=by rw[←hW2];exact blk_at (by simp) _ _
 have v0:W2.cell? ⟨w.heap.size+1,0,none⟩=some (.int .i64 2):=by rw[j2.cell 0];simpa using d0
 have hc2:=hc W2 (hS.keep (fun _ h=>h) (fun i hi=>hb2.block i (Ll (hK.ok i hi) hsz))) (hM.low hK hb2) (hV.low hb2)
 obtain⟨R,hRR⟩:∃ R,K.R=R:=⟨_,rfl⟩
 rw[hRR] at hW2 j1 hRlt  hc2 ⊢
 have HS17:Hid ((Tryz.prog.info? 40).map (·.size)=some cs.toArray.size):=by rw[show cs.toArray.size=17 from by simpa using h17];exact zAf
 have HK2:Hid (Blk ((w.alloc (.cells #[.pointer (some ⟨R,0,none⟩),.map (some V)] 114)).alloc (.cells cs.toArray 40)) (w.heap.size+1) 40 cs.toArray):=blk_at (by simp) _ _
 have HC:=Hd hc2
 have HW:=Hd (Ai hW2 (Ai hb2 hsz))
 clear hc2 hc rp rv ra rt re hcs h17 hW2 hb2 hsz j1 j2 hM hV hS hRR hK v0 hRlt
 go_enter Tryz.func87,Tryz.ntmps87
 go_wp2_with (refine wpList_load_row rfl 40 _ rfl (w.heap.size+1) rfl 40 cs.toArray (0,0) _ HK2.out Tryz.underlying40 rfl HS17.out ?_)
 rw[HW.out.1]
 refine HC.out.mono ?_
 rintro e w3 h3
 obtain⟨b3,rfl,h3⟩:=zCl h3
 have HA:=Hd h3
 clear h3
 go_wp2_with fail
 go_ret
 exact HA.out.back HW.out.2.1 HW.out.2.2
theorem ie_3 {K:Cf}(hK:CfOK K){o:Option Nat}{m:MS}{Vs:IX.Vs}{V:Nat}{nm tn:List UInt8}{n:Int}{pos value:PE}{args:List PE}{thn els:List ST}{r:XR}{cs:List Value}{w:World}
 (hc:∀ W,RepS W K.ok (.mk 3 nm tn n pos value args thn els) cs→MSt K o m W→VMp K o V m.k Vs W→Calls Tryz.prog 129 #[acV K.R V,.agg cs.toArray] W (XrP K V o r W))
 (hS:RepS w K.ok (.mk 3 nm tn n pos value args thn els) cs) (hM:MSt K o m w) (hV:VMp K o V m.k Vs w) :
 Calls Tryz.prog 87 #[acV K.R V,.agg cs.toArray] w (XrP K V o r w):=by
 obtain⟨k1,n1,x1,o1,A1,L1,c1,k2,n2,x2,o2,A2,L2,c2,A3,c3,A4,c4,A5,c5,hcs,rp,rv,ra,rt,re⟩:=zBo hS
 obtain⟨h17,_⟩:=zCn _ _ _ _ hS
 have hsz:=hM.size hK
 have hRlt:K.R < w.heap.size:=hM.lt _ (Or.inl rfl)
 have d0:cs[0]?=some (.int .i64 3):=by rw[hcs];rfl
 obtain⟨W2,hW2⟩:∃ W2,(w.alloc (.cells #[.pointer (some ⟨K.R,0,none⟩),.map (some V)] 114)).alloc (.cells cs.toArray 40)=W2:=⟨_,rfl⟩
 have hb2:Below w.heap.size w W2:=by rw[←hW2];exact ((Below.refl _ _).alloc (Lr _) _).alloc (by simp) _
 have j1:Blk W2 w.heap.size 114 #[.pointer (some ⟨K.R,0,none⟩),.map (some V)]:=by rw[←hW2];exact (Blk.new _ _ _).alloc _
 have j2:Blk W2 (w.heap.size+1) 40 cs.toArray:=by rw[←hW2];exact blk_at (by simp) _ _
 have v0:W2.cell? ⟨w.heap.size+1,0,none⟩=some (.int .i64 3):=by rw[j2.cell 0];simpa using d0
 have hc2:=hc W2 (hS.keep (fun _ h=>h) (fun i hi=>hb2.block i (Ll (hK.ok i hi) hsz))) (hM.low hK hb2) (hV.low hb2)
 obtain⟨R,hRR⟩:∃ R,K.R=R:=⟨_,rfl⟩
 rw[hRR] at hW2 j1 hRlt  hc2 ⊢
 have HS17:Hid ((Tryz.prog.info? 40).map (·.size)=some cs.toArray.size):=by rw[show cs.toArray.size=17 from by simpa using h17];exact zAf
 have HK2:Hid (Blk ((w.alloc (.cells #[.pointer (some ⟨R,0,none⟩),.map (some V)] 114)).alloc (.cells cs.toArray 40)) (w.heap.size+1) 40 cs.toArray):=blk_at (by simp) _ _
 have HC:=Hd hc2
 have HW:=Hd (Ai hW2 (Ai hb2 hsz))
 clear hc2 hc rp rv ra rt re hcs h17 hW2 hb2 hsz j1 j2 hM hV hS hRR hK v0 hRlt
 go_enter Tryz.func87,Tryz.ntmps87
 go_wp2_with (refine wpList_load_row rfl 40 _ rfl (w.heap.size+1) rfl 40 cs.toArray (0,0) _ HK2.out Tryz.underlying40 rfl HS17.out ?_)
 rw[HW.out.1]
 refine HC.out.mono ?_
 rintro e w3 h3
 obtain⟨b3,rfl,h3⟩:=zCl h3
 have HA:=Hd h3
 clear h3
 go_wp2_with fail
 go_ret
 exact HA.out.back HW.out.2.1 HW.out.2.2
theorem ie_4 {K:Cf}(hK:CfOK K){o:Option Nat}{m:MS}{Vs:IX.Vs}{V:Nat}{nm tn:List UInt8}{n:Int}{pos value:PE}{args:List PE}{thn els:List ST}{r:XR}{cs:List Value}{w:World}
 (hc:∀ W,RepS W K.ok (.mk 4 nm tn n pos value args thn els) cs→MSt K o m W→VMp K o V m.k Vs W→Calls Tryz.prog 130 #[acV K.R V,.agg cs.toArray] W (XrP K V o r W))
 (hS:RepS w K.ok (.mk 4 nm tn n pos value args thn els) cs) (hM:MSt K o m w) (hV:VMp K o V m.k Vs w) :
 Calls Tryz.prog 87 #[acV K.R V,.agg cs.toArray] w (XrP K V o r w):=by
 obtain⟨k1,n1,x1,o1,A1,L1,c1,k2,n2,x2,o2,A2,L2,c2,A3,c3,A4,c4,A5,c5,hcs,rp,rv,ra,rt,re⟩:=zBo hS
 obtain⟨h17,_⟩:=zCn _ _ _ _ hS
 have hsz:=hM.size hK
 have hRlt:K.R < w.heap.size:=hM.lt _ (Or.inl rfl)
 have d0:cs[0]?=some (.int .i64 4):=by rw[hcs];rfl
 obtain⟨W2,hW2⟩:∃ W2,(w.alloc (.cells #[.pointer (some ⟨K.R,0,none⟩),.map (some V)] 114)).alloc (.cells cs.toArray 40)=W2:=⟨_,rfl⟩
 have hb2:Below w.heap.size w W2:=by rw[←hW2];exact ((Below.refl _ _).alloc (Lr _) _).alloc (by simp) _
 have j1:Blk W2 w.heap.size 114 #[.pointer (some ⟨K.R,0,none⟩),.map (some V)]:=by rw[←hW2];exact (Blk.new _ _ _).alloc _
 have j2:Blk W2 (w.heap.size+1) 40 cs.toArray:=by rw[←hW2];exact blk_at (by simp) _ _
 have v0:W2.cell? ⟨w.heap.size+1,0,none⟩=some (.int .i64 4):=by rw[j2.cell 0];simpa using d0
 have hc2:=hc W2 (hS.keep (fun _ h=>h) (fun i hi=>hb2.block i (Ll (hK.ok i hi) hsz))) (hM.low hK hb2) (hV.low hb2)
 obtain⟨R,hRR⟩:∃ R,K.R=R:=⟨_,rfl⟩
 rw[hRR] at hW2 j1 hRlt  hc2 ⊢
 have HS17:Hid ((Tryz.prog.info? 40).map (·.size)=some cs.toArray.size):=by rw[show cs.toArray.size=17 from by simpa using h17];exact zAf
 have HK2:Hid (Blk ((w.alloc (.cells #[.pointer (some ⟨R,0,none⟩),.map (some V)] 114)).alloc (.cells cs.toArray 40)) (w.heap.size+1) 40 cs.toArray):=blk_at (by simp) _ _
 have HC:=Hd hc2
 have HW:=Hd (Ai hW2 (Ai hb2 hsz))
 clear hc2 hc rp rv ra rt re hcs h17 hW2 hb2 hsz j1 j2 hM hV hS hRR hK v0 hRlt
 go_enter Tryz.func87,Tryz.ntmps87
 go_wp2_with (refine wpList_load_row rfl 40 _ rfl (w.heap.size+1) rfl 40 cs.toArray (0,0) _ HK2.out Tryz.underlying40 rfl HS17.out ?_)
 rw[HW.out.1]
 refine HC.out.mono ?_
 rintro e w3 h3
 obtain⟨b3,rfl,h3⟩:=zCl h3
 have HA:=Hd h3
 clear h3
 go_wp2_with fail
 go_ret
 exact HA.out.back HW.out.2.1 HW.out.2.2
theorem ie_5 {K:Cf}(hK:CfOK K){o:Option Nat}{m:MS}{Vs:IX.Vs}{V:Nat}{nm tn:List UInt8}{n:Int}{pos value:PE}{args:List PE}{thn els:List ST}{r:XR}{cs:List Value}{w:World}
 (hc:∀ W,RepS W K.ok (.mk 5 nm tn n pos value args thn els) cs→MSt K o m W→VMp K o V m.k Vs W→Calls Tryz.prog 131 #[acV K.R V,.agg cs.toArray] W (XrP K V o r W))
 (hS:RepS w K.ok (.mk 5 nm tn n pos value args thn els) cs) (hM:MSt K o m w) (hV:VMp K o V m.k Vs w) :
 Calls Tryz.prog 87 #[acV K.R V,.agg cs.toArray] w (XrP K V o r w):=by
 obtain⟨k1,n1,x1,o1,A1,L1,c1,k2,n2,x2,o2,A2,L2,c2,A3,c3,A4,c4,A5,c5,hcs,rp,rv,ra,rt,re⟩:=zBo hS
 obtain⟨h17,_⟩:=zCn _ _ _ _ hS
 have hsz:=hM.size hK
 have hRlt:K.R < w.heap.size:=hM.lt _ (Or.inl rfl)
 have d0:cs[0]?=some (.int .i64 5):=by rw[hcs];rfl
 obtain⟨W2,hW2⟩:∃ W2,(w.alloc (.cells #[.pointer (some ⟨K.R,0,none⟩),.map (some V)] 114)).alloc (.cells cs.toArray 40)=W2:=⟨_,rfl⟩
 have hb2:Below w.heap.size w W2:=by rw[←hW2];exact ((Below.refl _ _).alloc (Lr _) _).alloc (by simp) _
 have j1:Blk W2 w.heap.size 114 #[.pointer (some ⟨K.R,0,none⟩),.map (some V)]:=by rw[←hW2];exact (Blk.new _ _ _).alloc _
 have j2:Blk W2 (w.heap.size+1) 40 cs.toArray:=by rw[←hW2];exact blk_at (by simp) _ _
 have v0:W2.cell? ⟨w.heap.size+1,0,none⟩=some (.int .i64 5):=by rw[j2.cell 0];simpa using d0
 have hc2:=hc W2 (hS.keep (fun _ h=>h) (fun i hi=>hb2.block i (Ll (hK.ok i hi) hsz))) (hM.low hK hb2) (hV.low hb2)
 obtain⟨R,hRR⟩:∃ R,K.R=R:=⟨_,rfl⟩
 rw[hRR] at hW2 j1 hRlt  hc2 ⊢
 have HS17:Hid ((Tryz.prog.info? 40).map (·.size)=some cs.toArray.size):=by rw[show cs.toArray.size=17 from by simpa using h17];exact zAf
 have HK2:Hid (Blk ((w.alloc (.cells #[.pointer (some ⟨R,0,none⟩),.map (some V)] 114)).alloc (.cells cs.toArray 40)) (w.heap.size+1) 40 cs.toArray):=blk_at (by simp) _ _
 have HC:=Hd hc2
 have HW:=Hd (Ai hW2 (Ai hb2 hsz))
 clear hc2 hc rp rv ra rt re hcs h17 hW2 hb2 hsz j1 j2 hM hV hS hRR hK v0 hRlt
 go_enter Tryz.func87,Tryz.ntmps87
 go_wp2_with (refine wpList_load_row rfl 40 _ rfl (w.heap.size+1) rfl 40 cs.toArray (0,0) _ HK2.out Tryz.underlying40 rfl HS17.out ?_)
 rw[HW.out.1]
 refine HC.out.mono ?_
 rintro e w3 h3
 obtain⟨b3,rfl,h3⟩:=zCl h3
 have HA:=Hd h3
 clear h3
 go_wp2_with fail
 go_ret
 exact HA.out.back HW.out.2.1 HW.out.2.2
theorem ie_6 {K:Cf}(hK:CfOK K){o:Option Nat}{m:MS}{Vs:IX.Vs}{V:Nat}{nm tn:List UInt8}{n:Int}{pos value:PE}{args:List PE}{thn els:List ST}{r:XR}{cs:List Value}{w:World}
 (hc:∀ W,RepS W K.ok (.mk 6 nm tn n pos value args thn els) cs→MSt K o m W→VMp K o V m.k Vs W→Calls Tryz.prog 132 #[acV K.R V,.agg cs.toArray] W (XrP K V o r W))
 (hS:RepS w K.ok (.mk 6 nm tn n pos value args thn els) cs) (hM:MSt K o m w) (hV:VMp K o V m.k Vs w) :
 Calls Tryz.prog 87 #[acV K.R V,.agg cs.toArray] w (XrP K V o r w):=by
 obtain⟨k1,n1,x1,o1,A1,L1,c1,k2,n2,x2,o2,A2,L2,c2,A3,c3,A4,c4,A5,c5,hcs,rp,rv,ra,rt,re⟩:=zBo hS
 obtain⟨h17,_⟩:=zCn _ _ _ _ hS
 have hsz:=hM.size hK
 have hRlt:K.R < w.heap.size:=hM.lt _ (Or.inl rfl)
 have d0:cs[0]?=some (.int .i64 6):=by rw[hcs];rfl
 obtain⟨W2,hW2⟩:∃ W2,(w.alloc (.cells #[.pointer (some ⟨K.R,0,none⟩),.map (some V)] 114)).alloc (.cells cs.toArray 40)=W2:=⟨_,rfl⟩
 have hb2:Below w.heap.size w W2:=by rw[←hW2];exact ((Below.refl _ _).alloc (Lr _) _).alloc (by simp) _
 have j1:Blk W2 w.heap.size 114 #[.pointer (some ⟨K.R,0,none⟩),.map (some V)]:=by rw[←hW2];exact (Blk.new _ _ _).alloc _
 have j2:Blk W2 (w.heap.size+1) 40 cs.toArray:=by rw[←hW2];exact blk_at (by simp) _ _
 have v0:W2.cell? ⟨w.heap.size+1,0,none⟩=some (.int .i64 6):=by rw[j2.cell 0];simpa using d0
 have hc2:=hc W2 (hS.keep (fun _ h=>h) (fun i hi=>hb2.block i (Ll (hK.ok i hi) hsz))) (hM.low hK hb2) (hV.low hb2)
 obtain⟨R,hRR⟩:∃ R,K.R=R:=⟨_,rfl⟩
 rw[hRR] at hW2 j1 hRlt  hc2 ⊢
 have HS17:Hid ((Tryz.prog.info? 40).map (·.size)=some cs.toArray.size):=by rw[show cs.toArray.size=17 from by simpa using h17];exact zAf
 have HK2:Hid (Blk ((w.alloc (.cells #[.pointer (some ⟨R,0,none⟩),.map (some V)] 114)).alloc (.cells cs.toArray 40)) (w.heap.size+1) 40 cs.toArray):=blk_at (by simp) _ _
 have HC:=Hd hc2
 have HW:=Hd (Ai hW2 (Ai hb2 hsz))
 clear hc2 hc rp rv ra rt re hcs h17 hW2 hb2 hsz j1 j2 hM hV hS hRR hK v0 hRlt
 go_enter Tryz.func87,Tryz.ntmps87
 go_wp2_with (refine wpList_load_row rfl 40 _ rfl (w.heap.size+1) rfl 40 cs.toArray (0,0) _ HK2.out Tryz.underlying40 rfl HS17.out ?_)
 rw[HW.out.1]
 refine HC.out.mono ?_
 rintro e w3 h3
 obtain⟨b3,rfl,h3⟩:=zCl h3
 have HA:=Hd h3
 clear h3
 go_wp2_with fail
 go_ret
 exact HA.out.back HW.out.2.1 HW.out.2.2
theorem ie_7 {K:Cf}(hK:CfOK K){o:Option Nat}{m:MS}{kd:Int}{V:Nat}{nm tn:List UInt8}{n:Int}{pos value:PE}{args:List PE}{thn els:List ST}{r:XR}{cs:List Value}{w:World}(h1:kd≠1)(h2:kd≠2)(h3:kd≠3)(h4:kd≠4)(h5:kd≠5)(h6:kd≠6)(hr:r=.ended 2 (wrap64 (16+n)) m.out)
 (hS:RepS w K.ok (.mk kd nm tn n pos value args thn els) cs) (hM:MSt K o m w) :
 Calls Tryz.prog 87 #[acV K.R V,.agg cs.toArray] w (XrP K V o r w):=by
 subst hr
 obtain⟨k1,n1,x1,o1,A1,L1,c1,k2,n2,x2,o2,A2,L2,c2,A3,c3,A4,c4,A5,c5,hcs,rp,rv,ra,rt,re⟩:=zBo hS
 obtain⟨h17,_⟩:=zCn _ _ _ _ hS
 have hsz:=hM.size hK
 have hRlt:K.R < w.heap.size:=hM.lt _ (Or.inl rfl)
 have d0:cs[0]?=some (.int .i64 kd):=by rw[hcs];rfl
 have d3:cs[3]?=some (.int .i64 n):=by rw[hcs];rfl
 obtain⟨W2,hW2⟩:∃ W2,(w.alloc (.cells #[.pointer (some ⟨K.R,0,none⟩),.map (some V)] 114)).alloc (.cells cs.toArray 40)=W2:=⟨_,rfl⟩
 have hb2:Below w.heap.size w W2:=by rw[←hW2];exact ((Below.refl _ _).alloc (Lr _) _).alloc (by simp) _
 have j1:Blk W2 w.heap.size 114 #[.pointer (some ⟨K.R,0,none⟩),.map (some V)]:=by rw[←hW2];exact (Blk.new _ _ _).alloc _
 have j2:Blk W2 (w.heap.size+1) 40 cs.toArray:=by rw[←hW2];exact blk_at (by simp) _ _
 have v0:W2.cell? ⟨w.heap.size+1,0,none⟩=some (.int .i64 kd):=by rw[j2.cell 0];simpa using d0
 have v3:W2.cell? ⟨w.heap.size+1,3,none⟩=some (.int .i64 n):=by rw[j2.cell 3];simpa using d3
 have hc2:=fun c=>zCx hK (hM.low hK hb2) c
 obtain⟨R,hRR⟩:∃ R,K.R=R:=⟨_,rfl⟩
 rw[hRR] at hW2 j1 hRlt  hc2 ⊢
 obtain⟨u0,u1,_,_⟩:=j1.cells2
 have HC:=Hd hc2
 have HW:=Hd (Ai hW2 (Ai hb2 hsz))
 clear hc2 rp rv ra rt re hcs h17 hW2 hb2 hsz j1 j2 hM hS hRR hK hRlt
 have e1:=neI h1
 have e2:=neI h2
 have e3:=neI h3
 have e4:=neI h4
 have e5:=neI h5
 have e6:=neI h6
 clear h1 h2 h3 h4 h5 h6
 go_enter Tryz.func87,Tryz.ntmps87
 go_wp2_with fail
 rw[HW.out.1]
 refine (HC.out _).mono ?_
 rintro e w3 ⟨rfl,hend,_⟩
 have HE:=Hd hend
 clear hend
 go_wp2_with fail
 go_ret
 exact xrE HE.out HW.out.2.1 HW.out.2.2
theorem ix_stmt (g:Nat)(ih:∀ g',g'≤g→XlC g'∧XcC g'):XsC (g+1):=fun K o m Vs V s r cs w hK hx hS hM hV=>by
 cases s with
 | mk kd nm tn n pos value args thn els =>
  obtain⟨hnm,hto⟩:=xs_nm hx
  by_cases h1:kd=1
  ·subst h1
   obtain⟨re,he,hre⟩:=xs1 hx
   exact ie_1 hK (fun W hS hM hV=>is_assign g hK hnm he (by rcases hre with h | ⟨x,h1,h2,h3⟩;exact Or.inl h;exact Or.inr ⟨x,h1,h2,h3⟩) hS hM hV) hS hM hV
  by_cases h2:kd=2
  ·subst h2
   obtain⟨re,he,hre⟩:=xs2 hx
   refine ie_2 hK (fun W hS hM hV=>?_) hS hM hV
   rcases hre with ⟨c,rfl,hr⟩ | ⟨i,rfl,rv,hev,hrv⟩
   ·exact is_store_t g hK he hr hS hM hV
   ·exact is_store_v g hK hnm he hev hrv hS hM hV
  by_cases h3:kd=3
  ·subst h3
   obtain⟨re,he,hre⟩:=xs3 hx
   exact ie_3 hK (fun W hS hM hV=>is_if g hK (ih g (Lr _)).1 he hre hS hM hV) hS hM hV
  by_cases h4:kd=4
  ·subst h4
   exact ie_4 hK (fun W hS hM hV=>is_while g (fun g' hg'=>(ih g' (Nat.le_of_lt hg')).1) hK (xs4 hx) hS hM hV) hS hM hV
  by_cases h5:kd=5
  ·subst h5
   obtain⟨re,he,hre⟩:=xs5 hx
   exact ie_5 hK (fun W hS hM hV=>is_out g hK he hre hS hM hV) hS hM hV
  by_cases h6:kd=6
  ·subst h6
   obtain⟨rl,hl,hrl⟩:=xs6 hx
   exact ie_6 hK (fun W hS hM hV=>is_call g hK (ih g (Lr _)).2 hnm hto hl hrl hS hM hV) hS hM hV
  exact ie_7 hK h1 h2 h3 h4 h5 h6 (xs7 h1 h2 h3 h4 h5 h6 hx) hS hM
theorem ix_stmt0:XsC 0:=fun _ _ _ _ _ _ _ _ _ _ hx=>(xs_zero hx).elim
theorem ix_call0:XcC 0:=fun _ _ _ _ _ _ _ _ _ _ hx=>(xc_zero hx).elim
theorem ix_all_any (g:Nat):∀ g',g'≤g→XlC g'∧XsC g'∧XcC g':=by
 induction g with
 | zero =>
  intro g' h
  obtain rfl:g'=0:=by omega
  exact⟨ix_all 0 (fun g' h=>absurd h (Nat.not_lt_zero _)),ix_stmt0,ix_call0⟩
 | succ g ih =>
  intro g' h
  by_cases hg:g'≤g
  ·exact ih g' hg
  ·obtain rfl:g'=g+1:=by omega
   exact⟨ix_all (g+1) (fun g' h=>(ih g' (by omega)).2.1),ix_stmt g (fun g' h=>⟨(ih g' h).1,(ih g' h).2.2⟩),ix_call g (ih g (Lr _)).1⟩
theorem icall_any (g:Nat):XcC g:=(ix_all_any g g (Lr _)).2.2
end Go.Proofs.YtpgnlfdindmopaaGreatDoor
