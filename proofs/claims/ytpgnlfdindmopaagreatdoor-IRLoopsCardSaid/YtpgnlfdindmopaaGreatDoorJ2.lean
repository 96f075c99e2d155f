/- Words and walks for the laws of the interpreter. -/
import Derived.Test.YtpgnlfdindmopaaGreatDoorJ1
import Derived.Test.YtpgnlfdindmopaaGreatDoorChecked
import Derived.WalkKit
import Derived.Lib.Hide
import Derived.Below
import Derived.Outline
import Derived.Laws.IdiomStrings
import Derived.Deep.RegionWith
import Derived.ProofKit
import Derived.Carry
import Derived.OpenShut
import Derived.Lib.LaidTab
import Derived.Lib.AppendIntMem
import Derived.Test.YtpgnlfdindmopaaGreatDoorJ0
import Derived.Laws.Rows
import Derived.WalkLawsBesides
import Derived.Laws.OwnMore
import Derived.Deep.AppendLies
import Derived.Deep.Draws
import Derived.Maps.AppendAt
import Derived.Deep.QuietTactic
import Derived.BigQuiet
namespace Go.Proofs.YtpgnlfdindmopaaGreatDoor
open Go Go.RowKit WM
theorem emod_of_tmod (n m:Int)(hm:0 < m):(0≤n.tmod m→n.tmod m=n % m)∧(n.tmod m < 0→n.tmod m+m=n % m):=by
 have h:=Int.tmod_eq_emod (a:=n) (b:=m)
 have h0:=Int.emod_nonneg n (b:=m) (by omega)
 have h1:=Int.emod_lt_of_pos n hm
 have hna:(m.natAbs:Int)=m:=by omega
 by_cases hc:0≤n∨m ∣ n
 ·rw[if_pos hc] at h;omega
 ·rw[if_neg hc,hna] at h;omega
theorem pick_any (n m k:Int)(hm:0 < m)(hm2:m≤1000)(hk:n % m=k)(w:World) :
 Calls Tryz.prog 7 #[.int .i64 n,.int .i64 m] w fun e w'=>e=.returned (.int .i64 k)∧w=w':=by
 obtain⟨hp,hn⟩:=emod_of_tmod n m hm
 have h1:=Int.tmod_lt_of_pos n hm
 have h2:=Int.tmod_lt_of_pos (-n) hm
 rw[Int.neg_tmod] at h2
 have hne:(m==0)=false:=by rw[beq_eq_false_iff_ne];omega
 by_cases hc:n.tmod m < 0
 ·have hk':=(hn hc).trans hk
  have HK:=Hd hk'
  clear hk hk' hp hn
  have hb1:0≤n.tmod m+m:=by omega
  go_enter Tryz.func7,Tryz.ntmps7
  go_wp2_with fail
  go_ret
  exact⟨by rw[←HK.out];rfl,rfl⟩
 ·have hk':=(hp (by omega)).trans hk
  have HK:=Hd hk'
  clear hk hk' hp hn
  go_enter Tryz.func7,Tryz.ntmps7
  go_wp2_with fail
  go_ret
  exact⟨by rw[←HK.out];rfl,rfl⟩
end Go.Proofs.YtpgnlfdindmopaaGreatDoor
namespace Go.Proofs.YtpgnlfdindmopaaGreatDoor
open Go Go.RowKit WM Go.Instr
theorem bcell {W w1:World}(hb:Below W.heap.size W w1):(∀ b o,b < W.heap.size→w1.cell? ⟨b,o,none⟩=W.cell? ⟨b,o,none⟩)∧(∀ b o,b < W.heap.size→w1.frozen? ⟨b,o,none⟩=W.frozen? ⟨b,o,none⟩) :=
 ⟨fun b o h=>hb.cell (p:=⟨b,o,none⟩) h,fun b o h=>hb.frozen (p:=⟨b,o,none⟩) h⟩
theorem below_drew {B:Nat}{w w1:World}(hB:B≤w.heap.size)(hb:Below w.drew.heap.size w.drew w1):Below B w w1:=((Below.refl B w).drew).trans (hb.mono hB)
end Go.Proofs.YtpgnlfdindmopaaGreatDoor
namespace Go.Proofs.YtpgnlfdindmopaaGreatDoor
open Go Go.RowKit WM
theorem zB8 (s:ByteArray)(i:Nat)(h:i < s.size):s.data.toList.getD i 0=s[i]:=by
 rw[List.getD_eq_getElem?_getD,Ge (by simpa using h)];rfl
theorem zAh (s:ByteArray):s.data.toList.length=s.size:=rfl
theorem nfold_take (s:ByteArray)(k:Nat)(h:k < s.size):zA2 (s.data.toList.take (k+1))=10 * zA2 (s.data.toList.take k)+(s[k].toNat - 48):=by
 rw[take_snoc s k h,nfold_snoc]
theorem nfold_bound (s:ByteArray)(k:Nat)(hk:k≤s.size)(h:∀ i,i < k→okc s.data.toList i=true):zA2 (s.data.toList.take k) < 10 ^ k:=by
 have h1:=nfold_lt (s.data.toList.take k) (fun c hc=>by
  obtain⟨i,hi,rfl⟩:=List.mem_iff_getElem.1 hc
  rw[List.length_take] at hi
  have:=zB5 (h i (by omega))
  rw[zB8 s i (by omega)] at this
  rw[List.getElem_take]
  exact this.2.1)
 rwa [List.length_take,zAh,Nat.min_eq_left hk] at h1
def NumP (l:List UInt8)(most:Nat)(w:World)(e:Ending)(w':World):Prop:=e=.returned (.tuple #[.int .u64 (numV l most:Int),.bool (numB l most)])∧w=w'
theorem numP_bad {l:List UInt8}{most i:Nat}{w:World}(hi:i < l.length)(h:okc l i=false):NumP l most w (.returned (.tuple #[.int .u64 0,.bool false])) w:=by
 have hb:=numB_bad l most i hi h
 unfold NumP numV
 rw[hb];exact⟨rfl,rfl⟩
theorem numP_no {l:List UInt8}{most:Nat}{w:World}(h:numB l most=false):NumP l most w (.returned (.tuple #[.int .u64 0,.bool false])) w:=by
 unfold NumP numV
 rw[h];exact⟨rfl,rfl⟩
theorem numP_yes {l:List UInt8}{most N:Nat}{w:World}(h:numB l most=true)(hv:numV l most=N):NumP l most w (.returned (.tuple #[.int .u64 (N:Int),.bool true])) w:=by
 unfold NumP
 rw[h,hv];exact⟨rfl,rfl⟩
theorem u64_num {a b:Int}(h:a=b):Value.int .u64 a=Value.int .u64 b:=by rw[h]
def OkTo (s:ByteArray)(k:Nat):Prop:=∀ i,i < k→okc s.data.toList i=true
theorem okTo_succ {s:ByteArray}{k:Nat}(h:OkTo s k)(hk:okc s.data.toList k=true):OkTo s (k+1):=fun i hi=>by
 by_cases e:i=k
 ·subst e;exact hk
 ·exact h i (by omega)
theorem okc_at {s:ByteArray}{k:Nat}(hk:k < s.size)(c1:¬ (s[k].toNat:Int) < 48)(c2:¬ (57:Int) < (s[k].toNat:Int))(h3:k=1→∀ h0:0 < s.size,((s[0].toNat:Int)==48)=false)(h4:k≤18):okc s.data.toList k=true:=by
 have e:=zB8 s k hk
 refine okc_mk (by rw[e];omega) (by rw[e];omega) (fun h1=>?_) h4
 have h0:0 < s.size:=by omega
 rw[zB8 s 0 h0]
 intro h48
 have:=h3 h1 h0
 rw[h48] at this
 exact absurd this (by decide)
set_option maxRecDepth 100000
set_option maxHeartbeats 1000000 in
theorem number_any (s:ByteArray)(most:Nat)(hs:s.size≤9223372036854775807)(w:World) :
 Calls Tryz.prog 37 #[.string s,.int .u64 (most:Int)] w (NumP s.data.toList most w):=by
 go_enter Tryz.func37,Tryz.ntmps37
 go_wp2_with fail
 go_loop [6,7] (fun n i=>∃ k:Nat,k≤s.size∧OkTo s k∧i=.int .i64 k∧n=.int .u64 (zA2 (s.data.toList.take k):Int)) (fun _ i=>s.size - (intOf i).toNat)
 case atStart=>exact⟨0,Nat.zero_le _,fun i hi=>absurd hi (by omega),rfl,rfl⟩
 case round =>
  obtain⟨k,hk,hok,rfl,rfl⟩:=hrel
  have HOK:=Hd hok
  clear hok
  by_cases hlt:k < s.size
  ·by_cases c1:(s[k].toNat:Int) < 48
   ·go_wp2_with fail
    go_ret2
    exact numP_bad (i:=k) hlt (by
     apply Classical.byContradiction;intro hn
     have:=zB5 (by simpa using hn:okc s.data.toList k=true)
     rw[zB8 s k hlt] at this;omega)
   by_cases c2:(57:Int) < (s[k].toNat:Int)
   ·go_wp2_with fail
    go_ret2
    exact numP_bad (i:=k) hlt (by
     apply Classical.byContradiction;intro hn
     have:=zB5 (by simpa using hn:okc s.data.toList k=true)
     rw[zB8 s k hlt] at this;omega)
   by_cases c4:18 < k
   ·go_wp2_with fail
    go_ret2
    exact numP_bad (i:=k) hlt (by
     apply Classical.byContradiction;intro hn
     have:=zB5 (by simpa using hn:okc s.data.toList k=true)
     omega)
   have hN:=nfold_bound s k hk HOK.out
   have hN18:zA2 (s.data.toList.take k) < 10 ^ 18:=Ll hN (Nat.pow_le_pow_right (by decide) (by omega))
   have hnt:=nfold_take s k hlt
   clear hN
   generalize hgen:zA2 (s.data.toList.take k)=N at hN18 hnt
   have HT:=Hd hnt
   have HG:=Hd hgen
   clear hnt hgen
   have hN0:(N:Int)≤999999999999999999:=by omega
   by_cases c3:k=1
   ·subst c3
    have h0:0 < s.size:=by omega
    by_cases c5:((s[0].toNat:Int)==48)=true
    ·go_wp2_with fail
     go_ret2
     exact numP_bad (i:=1) hlt (by
      apply Classical.byContradiction;intro hn
      have:=zB5 (by simpa using hn:okc s.data.toList 1=true)
      apply this.2.2.1
      refine⟨rfl,?_⟩
      rw[zB8 s 0 h0]
      rw[beq_iff_eq] at c5
      apply UInt8.toNat_inj.1
      have e3:(48:UInt8).toNat=48:=rfl
      omega)
    ·have c6:((s[0].toNat:Int)==48)=false:=by simpa using c5
     clear c5
     go_wp2_with fail
     go_round
     case rel=>exact⟨2,by omega,okTo_succ HOK.out (okc_at hlt c1 c2 (fun _ _=>c6) (by omega)),rfl,u64_num (by rw[HT.out];omega)⟩
     case measure=>simp[intOf];omega
   ·go_wp2_with fail
    go_round
    case rel=>exact⟨k+1,by omega,okTo_succ HOK.out (okc_at hlt c1 c2 (fun h=>absurd h c3) (by omega)),by go_num,u64_num (by rw[HT.out];omega)⟩
    case measure=>simp[intOf];omega
  ·obtain rfl:k=s.size:=by omega
   have hfull:s.data.toList.take s.size=s.data.toList:=List.take_of_length_le (by rw[zAh];exact Lr _)
   rw[hfull]
   have HF:=Hd hfull
   clear hfull
   have htl:s.toList=s.data.toList:=Lib.toList_data s
   have hall:allOk s.data.toList=true:=allOk_of _ (fun i hi=>HOK.out i (by rwa [zAh] at hi))
   by_cases hz:s.data.toList=[]
   ·have z1:s.toList=[]:=htl.trans hz
    have z2:s.toList.isEmpty=true:=by rw[z1];rfl
    have hb:numB s.data.toList most=false:=by unfold numB;rw[hz];rfl
    have HB:=Hd hb
    clear hz hb hall htl
    go_wp2_with fail
    go_ret2
    exact numP_no HB.out
   ·have z1:¬ s.toList=[]:=by rw[htl];exact hz
    have z2:s.toList.isEmpty=false:=by simpa using z1
    have z3:s.data.toList.isEmpty=false:=by simpa using hz
    generalize hgen:zA2 s.data.toList=N
    by_cases hmost:most < N
    ·have hb:numB s.data.toList most=false:=by unfold numB;rw[hgen,decide_eq_false (by omega),Bool.and_false]
     have HB:=Hd hb
     clear hz hb hall htl hgen z3
     go_wp2_with fail
     go_ret2
     exact numP_no HB.out
    ·have hb:numB s.data.toList most=true:=by unfold numB;rw[hgen,decide_eq_true (by omega),hall,z3];rfl
     have hv:numV s.data.toList most=N:=by unfold numV;rw[hb,hgen];rfl
     have HB:=Hd hb
     have HV:=Hd hv
     clear hz hb hv hall htl hgen z3
     go_wp2_with fail
     go_ret2
     exact numP_yes HB.out HV.out
theorem zB6 (s:ByteArray)(most:Nat)(M V:Int)(b:Bool)(hs:s.size≤9223372036854775807)(hM:M=(most:Int))(hV:(numV s.data.toList most:Int)=V)(hb:numB s.data.toList most=b)(w:World) :
 Calls Tryz.prog 37 #[.string s,.int .u64 M] w fun e w'=>e=.returned (.tuple #[.int .u64 V,.bool b])∧w=w':=by
 subst hM
 exact (number_any s most hs w).mono fun e w' ⟨h1,h2⟩=>⟨h1.trans (by rw[hV,hb]),h2⟩
theorem most1:(9223372036854775807:Int)=((9223372036854775807:Nat):Int):=rfl
theorem most2:(9223372036854775808:Int)=((9223372036854775808:Nat):Int):=rfl
theorem numV_le (l:List UInt8)(most:Nat):numV l most≤most:=by
 by_cases h:numB l most=true
 ·exact (num_canon h).2.1
 ·unfold numV;rw[if_neg h];omega
end Go.Proofs.YtpgnlfdindmopaaGreatDoor
namespace Go.Proofs.YtpgnlfdindmopaaGreatDoor.FR
open Go Go.RowKit Go.WideShapes Go.ChangeShapes
section
variable {H:Type} {enc:TypeId × Value→H} {P:Program}
theorem args_stay (hl:laidOutB P=true){W W':World}(hb:Below W.heap.size W W'):∀ {ts:List TypeId}{vs:List Value}{ds:List (DataW H)}{ps:List MemPlace},
 (∀ t∈ts,P.readableRec t=true∧t < P.types.size)→DataW.TrodAll enc P W 0 (fun _=>true) true ts vs ds ps→(∀ x∈ps,x.block < W.heap.size) →
 DataW.TrodAll enc P W' 0 (fun b=>decide (b < W.heap.size)) true ts vs ds ps
 | [],vs,ds,ps,_,h,_=>by
  obtain⟨rfl,rfl,rfl⟩:=trodAll_nil h
  exact trodAll_mk0
 | t :: ts,vs,ds,ps,ht,h,hlt=>by
  obtain⟨v0,vs0,d0,ds0,p0,q0,rfl,rfl,rfl,h0,r0⟩:=trodAll_cons h
  exact trodAll_cons_mk (Below.trod hl (ht t (by simp)).1 (ht t (by simp)).2 h0 hb (fun x hx=>hlt x (by simp[hx])))
   (args_stay hl hb (fun t' h'=>ht t' (by simp[h'])) r0 (fun x hx=>hlt x (by simp[hx])))
theorem law_post {f:Func}{s:ChangeSpec}{W W':World}{args:Array Value}{ds gs:List (DataW H)}{before:List MemPlace}{tb:TypeId}
 (hl:laidOutB P=true) (hts:∀ t∈f.params.toList,P.readableRec t=true∧t < P.types.size)
 (hrt:f.resultTypes=#[tb]) (htb:P.underlying tb=some .bool) (hv:s.vars=[])
 (hfn:s.fn H (ds++gs)={ results:=[.lit (.bool true)],args:=ds })
 (hW:DataW.Whole enc P f.params.toList s.vars false W args.toList ds gs before) (hb:Below W.heap.size W W') :
 s.post enc P f false true false false W args (.bool true) W':=by
 have hlt:∀ p∈before,p.block < W.heap.size:=fun p hp=>hW.lt p hp
 have hW0:=hW
 obtain⟨p,q,hA,hV,rfl,_,_⟩:=hW0
 rw[hv] at hV
 obtain⟨rfl,rfl⟩:=trodVars_none hV
 refine⟨ds,[],p++[],[],p,[],hW,?_,?_,?_,?_,fun h=>by cases h⟩
 ·rw[hfn,hrt]
  exact trodAll_cons_mk (shut_bool htb _) trodAll_mk0
 ·rw[hfn]
  exact args_stay hl hb hts hA (fun x hx=>hlt x (by simp[hx]))
 ·rw[hfn,hv]
  rfl
 ·exact World.keptBut_mono (fun x hx=>⟨hx,Or.inr (Or.inl (by simpa using hx))⟩) (hb.frame (·∈p++[]))
end
theorem tab_of_vars {P:Program}{W:World}{name:String}{k:IntKind}{zs:List Int}{g:Nat}{t e:TypeId}{n:Nat}
 (hg:P.globalNamed name=some g) (hty:(P.globals[g]?).map (·.type)=some t) (ht:P.underlying t=some (.array n e)) (he:P.underlying e=some (.int k)) (hce:P.cellsOf e=1) (hct:P.cellsOf t=n) :
 ∀ {l:List (String × DataW Unit)} {ps:List MemPlace},DataW.LaidVars P W l ps→(name,Lib.tabData k zs)∈l→Lib.TabIs P W name k zs
 | [],_,_,h=>by cases h
 | (n',d') :: r,_,h,hm=>by
  obtain⟨g',t',cs,fuel,p,q,hg',ht',hvar,hd,hr,_⟩:=h
  rcases List.mem_cons.1 hm with h1 | h1
  ·obtain⟨rfl,rfl⟩:=Prod.mk.inj h1
   obtain rfl:=Oi (hg.symm.trans hg')
   obtain rfl:=Oi (hty.symm.trans ht')
   unfold Lib.TabIs
   rw[hvar,←Lib.cells_of_tab ht he hce hct hd]
  ·exact tab_of_vars hg hty ht he hce hct hr h1
end Go.Proofs.YtpgnlfdindmopaaGreatDoor.FR
namespace Go.Proofs.YtpgnlfdindmopaaGreatDoor
open Go.RowKit (wrap64 intOf)
open Go Go.RowKit WM LX
theorem digB_cases (c:UInt8):(48≤(c.toNat:Int)∧(c.toNat:Int)≤57∧digB c=true)∨((c.toNat:Int) < 48∧digB c=false)∨(57 < (c.toNat:Int)∧digB c=false):=by
 unfold digB
 by_cases h1:48≤c.toNat
 ·by_cases h2:c.toNat≤57
  ·exact Or.inl ⟨by omega,by omega,by simp[h1,h2]⟩
  ·exact Or.inr (Or.inr ⟨by omega,by simp[h2]⟩)
 ·exact Or.inr (Or.inl ⟨by omega,by simp[h1]⟩)
def IsB (b:Bool)(w:World)(e:Ending)(w':World):Prop:=e=.returned (.bool b)∧w=w'
theorem isB {b b':Bool}{w:World}(h:b'=b):IsB b w (.returned (.bool b')) w:=⟨by rw[h],rfl⟩
theorem zB1 (c:UInt8)(w:World):Calls Tryz.prog 228 #[.int .u8 (c.toNat:Int)] w (IsB (digB c) w):=by
 rcases digB_cases c with ⟨h1,h2,h⟩ | ⟨h1,h⟩ | ⟨h1,h⟩
 all_goals
  have H:=Hd h
  clear h
  go_enter Tryz.func228,Tryz.ntmps228
  go_wp2_with fail
  go_ret
  first | exact isB H.out.symm | exact isB (by rw[H.out];simp;omega)
theorem zBh (c:UInt8)(w:World):Calls Tryz.prog 36 #[.int .u8 (c.toNat:Int)] w (IsB (digB c) w):=by
 rcases digB_cases c with ⟨h1,h2,h⟩ | ⟨h1,h⟩ | ⟨h1,h⟩
 all_goals
  have H:=Hd h
  clear h
  go_enter Tryz.func36,Tryz.ntmps36
  go_wp2_with fail
  go_ret
  first | exact isB H.out.symm | exact isB (by rw[H.out];simp;omega)
theorem byte_cases (c:UInt8):(97≤(c.toNat:Int)∧(c.toNat:Int)≤122∧letB c=true∧digB c=false)∨(65≤(c.toNat:Int)∧(c.toNat:Int)≤90∧letB c=true∧digB c=false)∨((c.toNat:Int)=95∧letB c=true∧digB c=false)
 ∨ (48≤(c.toNat:Int)∧(c.toNat:Int)≤57∧letB c=false∧digB c=true)
 ∨ (((c.toNat:Int) < 48∨(57 < (c.toNat:Int)∧(c.toNat:Int) < 65)∨(90 < (c.toNat:Int)∧(c.toNat:Int) < 95)∨(95 < (c.toNat:Int)∧(c.toNat:Int) < 97)∨122 < (c.toNat:Int))∧letB c=false∧digB c=false):=by
 have hcases:(97≤c.toNat∧c.toNat≤122)∨(65≤c.toNat∧c.toNat≤90)∨c.toNat=95∨(48≤c.toNat∧c.toNat≤57)∨(c.toNat < 48∨(57 < c.toNat∧c.toNat < 65)∨(90 < c.toNat∧c.toNat < 95)∨(95 < c.toNat∧c.toNat < 97)∨122 < c.toNat):=by omega
 have hl:letB c=decide ((97≤c.toNat∧c.toNat≤122)∨(65≤c.toNat∧c.toNat≤90)∨c.toNat=95):=by
  unfold letB;rw[Bool.eq_iff_iff];simp only[Bool.or_eq_true,Bool.and_eq_true,decide_eq_true_eq,or_assoc]
 have hd:digB c=decide (48≤c.toNat∧c.toNat≤57):=by
  unfold digB;rw[Bool.eq_iff_iff];simp only[Bool.and_eq_true,decide_eq_true_eq]
 rw[hl,hd]
 rcases hcases with ⟨h,h'⟩ | ⟨h,h'⟩ | h | ⟨h,h'⟩ | h
 ·exact Or.inl ⟨by omega,by omega,decide_eq_true (by omega),decide_eq_false (by omega)⟩
 ·exact Or.inr (Or.inl ⟨by omega,by omega,decide_eq_true (by omega),decide_eq_false (by omega)⟩)
 ·exact Or.inr (Or.inr (Or.inl ⟨by omega,decide_eq_true (by omega),decide_eq_false (by omega)⟩))
 ·exact Or.inr (Or.inr (Or.inr (Or.inl ⟨by omega,by omega,decide_eq_false (by omega),decide_eq_true (by omega)⟩)))
 ·exact Or.inr (Or.inr (Or.inr (Or.inr ⟨by omega,decide_eq_false (by omega),decide_eq_false (by omega)⟩)))
theorem word_of {c:UInt8}{a b:Bool}(h:letB c=a)(h':digB c=b):zBt c=(a||b):=by unfold zBt;rw[h,h']
theorem isWord_any (c:UInt8)(w:World):Calls Tryz.prog 230 #[.int .u8 (c.toNat:Int)] w (IsB (zBt c) w):=by
 rcases byte_cases c with ⟨h1,h2,h,h'⟩ | ⟨h1,h2,h,h'⟩ | ⟨h1,h,h'⟩ | ⟨h1,h2,h,h'⟩ | ⟨h1 | ⟨h1,h2⟩ | ⟨h1,h2⟩ | ⟨h1,h2⟩ | h1,h,h'⟩
 all_goals
  have H:=Hd (word_of h h')
  clear h
  try have h3:((c.toNat:Int)==95)=false:=by rw[beq_eq_false_iff_ne];omega
  try have h4:((c.toNat:Int)==95)=true:=by rw[beq_iff_eq];assumption
  go_enter Tryz.func230,Tryz.ntmps230
  go_wp2_with (go_at_call 228;((with_reducible refine (zB1 c _).mono ?_);rintro e w' ⟨rfl,rfl⟩))
  go_ret
  first | exact isB (by rw[H.out];rfl) | exact isB (by rw[H.out];simp;omega)
theorem zAw (c:UInt8)(w:World):Calls Tryz.prog 35 #[.int .u8 (c.toNat:Int)] w (IsB (letB c) w):=by
 rcases byte_cases c with ⟨h1,h2,h,h'⟩ | ⟨h1,h2,h,h'⟩ | ⟨h1,h,h'⟩ | ⟨h1,h2,h,h'⟩ | ⟨h1 | ⟨h1,h2⟩ | ⟨h1,h2⟩ | ⟨h1,h2⟩ | h1,h,h'⟩
 all_goals
  have H:=Hd h
  clear h h'
  try have h3:((c.toNat:Int)==95)=false:=by rw[beq_eq_false_iff_ne];omega
  try have h4:((c.toNat:Int)==95)=true:=by rw[beq_iff_eq];assumption
  go_enter Tryz.func35,Tryz.ntmps35
  go_wp2_with fail
  go_ret
  first | exact isB H.out.symm | exact isB (by rw[H.out];simp;omega)
end Go.Proofs.YtpgnlfdindmopaaGreatDoor
namespace Go.Proofs.YtpgnlfdindmopaaGreatDoor
open Go.RowKit (wrap64 intOf)
open Go Go.RowKit WM LX
theorem zAy (s:ByteArray)(k:Nat)(h:k < s.size):s.data.toList.drop k=s[k] :: s.data.toList.drop (k+1):=by
 rw[List.drop_eq_getElem_cons (by simpa using h)];rfl
theorem drop_end (s:ByteArray):s.data.toList.drop s.size=[]:=List.drop_of_length_le (Lr _)
def WAt (s:ByteArray)(E j:Nat):Prop:=j+wlen (s.data.toList.drop j)=E
theorem wat_step {s:ByteArray}{E j:Nat}(h:WAt s E j)(hj:j < s.size)(hw:zBt s[j]=true):WAt s E (j+1):=by
 unfold WAt at *;rw[zAy s j hj,wlen_pos hw] at h;omega
theorem wat_stop {s:ByteArray}{E j:Nat}(h:WAt s E j)(hj:j < s.size)(hw:zBt s[j]=false):E=j:=by
 unfold WAt at *;rw[zAy s j hj,wlen_zero hw] at h;omega
theorem wat_end {s:ByteArray}{E:Nat}(h:WAt s E s.size):E=s.size:=by
 unfold WAt at *;rw[drop_end] at h;simp[wlen] at h;omega
theorem wordAt_any (s:ByteArray)(k:Nat)(hk:k≤s.size)(hs:s.size≤9223372036854775807)(w:World) :
 Calls Tryz.prog 247 #[.string s,.int .i64 (k:Int)] w fun e w'=>e=.returned (.string (s.extract k (k+wlen (s.data.toList.drop k))))∧w=w':=by
 obtain⟨E,hE⟩:∃ E,k+wlen (s.data.toList.drop k)=E:=⟨_,rfl⟩
 have hW:WAt s E k:=hE
 rw[hE]
 clear hE
 go_enter Tryz.func247,Tryz.ntmps247
 go_wp2_with fail
 go_loop [5] (fun i=>∃ j:Nat,k≤j∧j≤s.size∧WAt s E j∧i=.int .i64 j) (fun i=>s.size - (intOf i).toNat)
 case atStart=>exact⟨k,Lr _,hk,hW,rfl⟩
 case round =>
  obtain⟨j,hkj,hj,hwj,rfl⟩:=hrel
  clear hW
  by_cases hlt:j < s.size
  ·by_cases hw:zBt s[j]=true
   ·go_wp2_with (go_at_call 230;((with_reducible refine (isWord_any s[j] _).mono ?_);rintro e w' ⟨rfl,rfl⟩))
    go_round
    case rel=>exact⟨j+1,by omega,by omega,wat_step hwj hlt hw,by go_num⟩
    case measure=>simp[intOf];omega
   ·have hw:zBt s[j]=false:=by simpa using hw
    obtain rfl:=wat_stop hwj hlt hw
    go_wp2_with (go_at_call 230;((with_reducible refine (isWord_any s[E] _).mono ?_);rintro e w' ⟨rfl,rfl⟩))
    go_ret
    exact⟨rfl,rfl⟩
  ·obtain rfl:j=s.size:=by omega
   obtain rfl:=wat_end hwj
   go_wp2_with fail
   go_ret
   exact⟨rfl,rfl⟩
theorem index_eol (l:List UInt8):(eol l=l.length∧Lib.indexByte l 10=-1)∨(eol l < l.length∧Lib.indexByte l 10=(eol l:Int)):=by
 induction l with
 | nil=>exact Or.inl ⟨rfl,rfl⟩
 | cons c t ih =>
  by_cases h:c.toNat=10
  ·have hc:(c==10)=true:=by rw[beq_iff_eq];exact UInt8.toNat_inj.1 h
   exact Or.inr ⟨by rw[eol_nl t h];simp,by rw[eol_nl t h,Lib.indexByte,if_pos hc];rfl⟩
  ·have hc:(c==10)=false:=by rw[beq_eq_false_iff_ne];intro e;exact h (by rw[e];rfl)
   rw[eol_cons t h,Lib.indexByte,hc]
   rcases ih with ⟨h1,h2⟩ | ⟨h1,h2⟩
   ·exact Or.inl ⟨by rw[h1];rfl,by rw[h2];rfl⟩
   ·refine Or.inr ⟨by simp;omega,?_⟩
    have h3:((eol t:Int)==-1)=false:=by rw[beq_eq_false_iff_ne];omega
    rw[h2,h3];rfl
theorem zCq (s:ByteArray)(k:Nat):(s.extract k s.size).data.toList=s.data.toList.drop k:=by
 rw[Lib.extract_data,List.take_of_length_le (by rw[List.length_drop];exact Lr _)]
theorem index_at (s:ByteArray)(k:Nat)(v:Int)(hv:Hid (Lib.indexByte (s.data.toList.drop k) 10=v))(w:World) :
 Calls Tryz.prog 246 #[.string (s.extract k s.size),.int .u8 10] w fun e w'=>e=.returned (.int .i64 v)∧w=w' :=
 (Tryz.strings_IndexByte (s.extract k s.size) 10 w).mono fun e w' ⟨h1,h2⟩=>⟨h1.trans (by rw[zCq];exact congrArg (fun v=>Ending.returned (.int .i64 v)) hv.out),h2.symm⟩
theorem ret_i64 {a b:Int}(h:a=b):Ending.returned (.int .i64 a)=.returned (.int .i64 b):=by rw[h]
theorem endOfLine_any (s:ByteArray)(k:Nat)(hk:k≤s.size)(hs:s.size≤9223372036854775807)(w:World) :
 Calls Tryz.prog 227 #[.string s,.int .i64 (k:Int)] w fun e w'=>e=.returned (.int .i64 ((k+eol (s.data.toList.drop k):Nat):Int))∧w=w':=by
 have hlen:(s.data.toList.drop k).length=s.size - k:=by rw[List.length_drop];rfl
 obtain⟨n,hn⟩:∃ n,eol (s.data.toList.drop k)=n:=⟨_,rfl⟩
 rcases index_eol (s.data.toList.drop k) with ⟨h1,h2⟩ | ⟨h1,h2⟩
 all_goals
  rw[hn,hlen] at h1
  rw[hn]
  try rw[hn] at h2
  have H:=Hd h2
  clear hn hlen h2
 ·have H1:=Hd h1
  clear h1
  go_enter Tryz.func227,Tryz.ntmps227
  go_wp2_with (go_at_call 246;((with_reducible refine (index_at s k _ H _).mono ?_);rintro e w' ⟨rfl,rfl⟩))
  go_ret
  exact⟨ret_i64 (by have:=H1.out;omega),rfl⟩
 ·go_enter Tryz.func227,Tryz.ntmps227
  go_wp2_with (go_at_call 246;((with_reducible refine (index_at s k _ H _).mono ?_);rintro e w' ⟨rfl,rfl⟩))
  go_ret
  exact⟨ret_i64 (by omega),rfl⟩
theorem endOfLine_at (s:ByteArray)(k E:Nat)(hk:k≤s.size)(hs:s.size≤9223372036854775807)(h:Hid (k+eol (s.data.toList.drop k)=E))(w:World) :
 Calls Tryz.prog 227 #[.string s,.int .i64 (k:Int)] w fun e w'=>e=.returned (.int .i64 (E:Int))∧w=w':=by
 obtain rfl:=h.out
 exact endOfLine_any s k hk hs w
def SAt (s:ByteArray)(E j:Nat):Prop:=j+zAb false (s.data.toList.drop j)=E
theorem sat_sep {s:ByteArray}{E j:Nat}(h:SAt s E j)(hj:j < s.size)(hw:sepB s[j]=true):SAt s E (j+1):=by
 unfold SAt at *;rw[zAy s j hj,skip_sep _ hw] at h;omega
theorem sat_hash {s:ByteArray}{E j:Nat}(h:SAt s E j)(hj:j < s.size)(hw:s[j].toNat=35):SAt s E (j+eol (s.data.toList.drop j)):=by
 unfold SAt at *;rw[zAy s j hj,skip_hash _ hw,←zAy s j hj,List.drop_drop] at h;omega
theorem sat_stop {s:ByteArray}{E j:Nat}(h:SAt s E j)(hj:j < s.size)(hw:sepB s[j]=false)(h2:s[j].toNat≠35):E=j:=by
 unfold SAt at *;rw[zAy s j hj,skip_zero _ hw h2] at h;omega
theorem sat_end {s:ByteArray}{E:Nat}(h:SAt s E s.size):E=s.size:=by
 unfold SAt at *;rw[drop_end] at h;simp[zAb] at h;omega
theorem eol_hash {s:ByteArray}{j:Nat}(hj:j < s.size)(hw:s[j].toNat=35):1≤eol (s.data.toList.drop j)∧j+eol (s.data.toList.drop j)≤s.size:=by
 have h1:=eol_le (s.data.toList.drop j)
 rw[List.length_drop,zAh] at h1
 rw[zAy s j hj,eol_cons _ (by omega)] at h1 ⊢
 omega
theorem sep_cases (c:UInt8):((c.toNat:Int)=32∨(c.toNat:Int)=9∨(c.toNat:Int)=10∨(c.toNat:Int)=13)∧sepB c=true∨((c.toNat:Int)≠32∧(c.toNat:Int)≠9∧(c.toNat:Int)≠10∧(c.toNat:Int)≠13)∧sepB c=false:=by
 by_cases h:c.toNat=32∨c.toNat=9∨c.toNat=10∨c.toNat=13
 ·exact Or.inl ⟨by omega,by unfold sepB;simp[h,or_assoc]⟩
 ·exact Or.inr ⟨by omega,by unfold sepB;simp;omega⟩
theorem beqF {a b:Int}(h:a≠b):(a==b)=false:=by rw[beq_eq_false_iff_ne];exact h
theorem beqT {a b:Int}(h:a=b):(a==b)=true:=by rw[beq_iff_eq];exact h
theorem skip_any (s:ByteArray)(k:Nat)(hk:k≤s.size)(hs:s.size≤9223372036854775807)(w:World) :
 Calls Tryz.prog 215 #[.string s,.int .i64 (k:Int)] w fun e w'=>e=.returned (.int .i64 ((k+zAb false (s.data.toList.drop k):Nat):Int))∧w=w':=by
 obtain⟨E,hE⟩:∃ E,k+zAb false (s.data.toList.drop k)=E:=⟨_,rfl⟩
 have hW:SAt s E k:=hE
 rw[hE]
 clear hE
 go_enter Tryz.func215,Tryz.ntmps215
 go_wp2_with fail
 go_loop [1] (fun i=>∃ j:Nat,j≤s.size∧SAt s E j∧i=.int .i64 j) (fun i=>s.size - (intOf i).toNat)
 case atStart=>exact⟨k,hk,hW,rfl⟩
 case round =>
  obtain⟨j,hj,hwj,rfl⟩:=hrel
  clear hW
  by_cases hlt:j < s.size
  ·rcases sep_cases s[j] with ⟨h,hw⟩ | ⟨⟨h1,h2,h3,h4⟩,hw⟩
   ·have H:=sat_sep hwj hlt hw
    clear hw hwj
    rcases h with h | h | h | h
    all_goals
     have b1:=beqT h
     try have b2:((s[j].toNat:Int)==32)=false:=beqF (by omega)
     try have b3:((s[j].toNat:Int)==9)=false:=beqF (by omega)
     try have b4:((s[j].toNat:Int)==10)=false:=beqF (by omega)
     clear h
     go_wp2_with fail
     go_round
     case rel=>exact⟨j+1,by omega,H,by go_num⟩
     case measure=>simp[intOf];omega
   ·have b1:=beqF h1
    have b2:=beqF h2
    have b3:=beqF h3
    have b4:=beqF h4
    clear h1 h2 h3 h4
    by_cases h5:s[j].toNat=35
    ·have b5:((s[j].toNat:Int)==35)=true:=beqT (by omega)
     have H:=sat_hash hwj hlt h5
     obtain⟨g1,g2⟩:=eol_hash hlt h5
     clear h5 hwj hw
     generalize he:j+eol (s.data.toList.drop j)=E' at H g2
     have HE:=Hd he
     have g3:j < E':=by omega
     clear he g1
     go_wp2_with (go_at_call 227;((with_reducible refine (endOfLine_at s j E' hj hs HE _).mono ?_);rintro e w' ⟨rfl,rfl⟩))
     go_round
     case rel=>exact⟨E',g2,H,rfl⟩
     case measure=>simp[intOf];omega
    ·have b5:((s[j].toNat:Int)==35)=false:=beqF (by omega)
     obtain rfl:=sat_stop hwj hlt hw h5
     clear h5 hw
     go_wp2_with fail
     go_ret
     exact⟨rfl,rfl⟩
  ·obtain rfl:j=s.size:=by omega
   obtain rfl:=sat_end hwj
   go_wp2_with fail
   go_ret
   exact⟨rfl,rfl⟩
end Go.Proofs.YtpgnlfdindmopaaGreatDoor
namespace Go.Proofs.YtpgnlfdindmopaaGreatDoor.FR
open Go Go.RowKit Go.WideShapes Go.ChangeShapes
def strData {H:Type}(ss:List (List UInt8)):DataW H:=.agg (ss.map fun s=>.lit (.string s))
theorem cells_of_strs {H:Type}{enc:TypeId × Value→H}{P:Program}{w:World}{base:Nat}{sp:Nat→Bool}{held:Bool}{fuel:Nat}{t e:TypeId}{n:Nat}{cs:List Value}{ss:List (List UInt8)}{p:List MemPlace}
 (ht:P.underlying t=some (.array n e)) (he:P.underlying e=some .string) (hce:P.cellsOf e=1) (hct:P.cellsOf t=n)
 (h:DataW.trod enc P w base sp held fuel t cs=some (strData ss,p)):cs=ss.map fun s=>Value.string ⟨s.toArray⟩:=by
 cases fuel with
 | zero=>simp[DataW.trod] at h
 | succ fuel =>
  simp only[DataW.trod,ht,hce,hct,Nat.mul_one] at h
  split at h
  ·rename_i hl
   obtain⟨xs,hm,hx⟩:=Option.map_eq_some_iff.1 h
   have hxs:xs.map (·.1)=ss.map fun s=>(DataW.lit (.string s):DataW H):=by
    have:=congrArg Prod.fst hx
    simpa[strData] using this
   have hxl:xs.length=n:=by simpa using Lib.mapM_length hm
   have hzl:ss.length=n:=by
    have:=congrArg List.length hxs
    simp at this
    omega
   apply List.ext_getElem?
   intro i
   by_cases hi:i < n
   ·obtain⟨b,hb,hf⟩:=Lib.mapM_at hm i i (by simp[hi])
    obtain⟨z,hc,rfl,_⟩:=DataW.trod_string he hf
    have h1:cs[i]?=some (.string z):=by
     have:=congrArg (·[0]?) hc
     simpa[List.getElem?_take,List.getElem?_drop] using this
    have h2:(xs.map (·.1))[i]?=some (DataW.lit (.string z.data.toList):DataW H):=by simp[hb]
    rw[hxs] at h2
    simp only[List.getElem?_map,Option.map_eq_some_iff,DataW.lit.injEq,Lit.string.injEq] at h2
    obtain⟨z',hz',rfl⟩:=h2
    rw[h1,List.getElem?_map,hz']
    rfl
   ·rw[List.getElem?_eq_none (by omega),List.getElem?_eq_none (by simp;omega)]
  ·cases h
theorem strs_of_vars {P:Program}{W:World}{name:String}{ss:List (List UInt8)}{g:Nat}{t e:TypeId}{n:Nat}
 (hg:P.globalNamed name=some g) (hty:(P.globals[g]?).map (·.type)=some t) (ht:P.underlying t=some (.array n e)) (he:P.underlying e=some .string) (hce:P.cellsOf e=1) (hct:P.cellsOf t=n) :
 ∀ {l:List (String × DataW Unit)} {ps:List MemPlace},DataW.LaidVars P W l ps→(name,strData ss)∈l→W.var? P name=some (ss.map fun s=>Value.string ⟨s.toArray⟩).toArray
 | [],_,_,h=>by cases h
 | (n',d') :: r,_,h,hm=>by
  obtain⟨g',t',cs,fuel,p,q,hg',ht',hvar,hd,hr,_⟩:=h
  rcases List.mem_cons.1 hm with h1 | h1
  ·obtain⟨rfl,rfl⟩:=Prod.mk.inj h1
   obtain rfl:=Oi (hg.symm.trans hg')
   obtain rfl:=Oi (hty.symm.trans ht')
   rw[hvar,←cells_of_strs ht he hce hct hd]
  ·exact strs_of_vars hg hty ht he hce hct hr h1
def TabAt (g:Nat)(cs:Array Value)(B:Nat)(w:World):Prop:=g < B∧∃ t fr,w.heap[g]?=some (.cells cs t fr)
theorem TabAt.on {g:Nat}{cs:Array Value}{B:Nat}{w w':World}(h:TabAt g cs B w)(hb:Below B w w'):TabAt g cs B w':=by
 obtain⟨hg,t,fr,h⟩:=h
 exact⟨hg,t,fr,(hb.block g hg).trans h⟩
theorem TabAt.up {g:Nat}{cs:Array Value}{B B':Nat}{w:World}(h:TabAt g cs B w)(hb:B≤B'):TabAt g cs B' w:=⟨Ll h.1 hb,h.2⟩
theorem tabAt_of_var {P:Program}{w:World}{n:String}{g:Nat}{cs:Array Value}(hg:P.globalNamed n=some g)(h:w.var? P n=some cs):TabAt g cs w.heap.size w:=by
 simp only[World.var?,hg,Option.bind_some] at h
 cases hh:w.heap[g]? with
 | none=>rw[hh] at h;cases h
 | some o =>
  rw[hh] at h
  cases o with
  | cells c t fr =>
   simp only[Option.some.injEq] at h
   subst h
   refine⟨?_,t,fr,hh⟩
   by_cases hlt:g < w.heap.size
   ·exact hlt
   ·rw[Array.getElem?_eq_none (by omega)] at hh;cases hh
  | _=>cases h
end Go.Proofs.YtpgnlfdindmopaaGreatDoor.FR
namespace Go.Proofs.YtpgnlfdindmopaaGreatDoor
open Go.RowKit (wrap64 intOf)
open Go Go.RowKit WM LX
theorem fold_from (l:List UInt8)(n:Nat):l.foldl nstep n=n * 10 ^ l.length+zA2 l:=by
 induction l generalizing n with
 | nil=>simp[zA2]
 | cons c t ih =>
  have e:zA2 (c :: t)=(nstep 0 c) * 10 ^ t.length+zA2 t:=by unfold zA2;rw[List.foldl_cons];exact ih _
  have e0:nstep 0 c=c.toNat - 48:=by unfold nstep;omega
  rw[List.foldl_cons,ih,e,e0,List.length_cons,Nat.pow_succ]
  unfold nstep
  have h1:(10 * n+(c.toNat - 48)) * 10 ^ t.length=n * (10 ^ t.length * 10)+(c.toNat - 48) * 10 ^ t.length:=by
   rw[Nat.add_mul];congr 1;rw[Nat.mul_comm 10 n,Nat.mul_assoc,Nat.mul_comm 10]
  rw[h1];omega
theorem nfold_cons (c:UInt8)(t:List UInt8):zA2 (c :: t)=(c.toNat - 48) * 10 ^ t.length+zA2 t:=by
 have e0:nstep 0 c=c.toNat - 48:=by unfold nstep;omega
 show (c :: t).foldl nstep 0=_
 rw[List.foldl_cons,fold_from,e0]
theorem lex_num (a:List UInt8):∀ b:List UInt8,a.length=b.length→(∀ c∈a,48≤c.toNat∧c.toNat≤57)→(∀ c∈b,48≤c.toNat∧c.toNat≤57) →
 (Op.bytesLess a b||a==b)=decide (zA2 a≤zA2 b):=by
 induction a with
 | nil =>
  intro b hl _ _
  cases b with
  | nil=>rfl
  | cons _ _=>cases hl
 | cons x a ih =>
  intro b hl ha hb
  cases b with
  | nil=>cases hl
  | cons y b =>
   have hl':a.length=b.length:=by simpa using hl
   have hx:=ha x (by simp)
   have hy:=hb y (by simp)
   have hA:=nfold_lt a (fun c hc=>(ha c (by simp[hc])).2)
   have hB:=nfold_lt b (fun c hc=>(hb c (by simp[hc])).2)
   have hi:=ih b hl' (fun c hc=>ha c (by simp[hc])) (fun c hc=>hb c (by simp[hc]))
   rw[nfold_cons,nfold_cons,hl']
   rw[hl'] at hA
   generalize 10 ^ b.length=p at hA hB ⊢
   generalize zA2 a=na at hA hi ⊢
   generalize zA2 b=nb at hB hi ⊢
   have hlt:x < y ↔ x.toNat < y.toNat:=UInt8.lt_iff_toNat_lt
   unfold Op.bytesLess
   rcases Nat.lt_trichotomy x.toNat y.toNat with h | h | h
   ·have e:(x.toNat - 48+1) * p≤(y.toNat - 48) * p:=Nat.mul_le_mul_right p (by omega)
    rw[Nat.add_mul] at e
    have h1:decide (x < y)=true:=decide_eq_true (hlt.2 h)
    rw[h1,Bool.true_or,Bool.true_or,decide_eq_true (by omega)]
   ·have hxy:x=y:=UInt8.toNat_inj.1 h
    subst hxy
    have h1:decide (x < x)=false:=decide_eq_false (fun hh=>absurd (hlt.1 hh) (by omega))
    rw[h1,Bool.false_or,beq_self_eq_true,Bool.true_and]
    have h2:(x :: a==x :: b)=(a==b):=by simp
    rw[h2,hi]
    simp
   ·have e:(y.toNat - 48+1) * p≤(x.toNat - 48) * p:=Nat.mul_le_mul_right p (by omega)
    rw[Nat.add_mul] at e
    have h1:decide (x < y)=false:=decide_eq_false (fun hh=>absurd (hlt.1 hh) (by omega))
    have h2:(x==y)=false:=by rw[beq_eq_false_iff_ne];intro hh;subst hh;omega
    have h3:(x :: a==y :: b)=false:=by rw[beq_eq_false_iff_ne];intro hh;injection hh with hh _;subst hh;omega
    rw[h1,h2,h3,decide_eq_false (by omega)];rfl
def bigNum:List UInt8:=[57,50,50,51,51,55,50,48,51,54,56,53,52,55,55,53,56,48,56]
theorem bigNum_val:zA2 bigNum=zBz:=by decide +kernel
theorem bigNum_dig:∀ c∈bigNum,48≤c.toNat∧c.toNat≤57:=by decide +kernel
def DigTo (s:ByteArray)(k:Nat):Prop:=∀ i,i < k→digB (s.data.toList.getD i 0)=true
theorem digTo_succ {s:ByteArray}{k:Nat}(h:DigTo s k)(hk:k < s.size)(hd:digB s[k]=true):DigTo s (k+1):=fun i hi=>by
 by_cases e:i=k
 ·subst e;rw[zB8 s i hk];exact hd
 ·exact h i (by omega)
theorem digB_le {c:UInt8}(h:digB c=true):48≤c.toNat∧c.toNat≤57:=by
 unfold digB at h;simpa using h
theorem okc_eq (l:List UInt8)(i:Nat)(h:digB (l.getD i 0)=true):okc l i=(!(i==1&&l.getD 0 0==48)&&decide (i≤18)):=by
 unfold okc;rw[h,Bool.true_and]
theorem num_nodig {s:ByteArray}{j:Nat}(hj:j < s.size)(h:digB s[j]=false):numB s.data.toList zBz=false:=by
 refine numB_bad _ _ j hj ?_
 unfold okc;rw[zB8 s j hj,h];rfl
theorem list_ne {s:ByteArray}(h:0 < s.size):s.data.toList.isEmpty=false:=by
 cases hh:s.data.toList with
 | nil=>have h2:=zAh s;rw[hh] at h2;simp at h2;omega
 | cons _ _=>rfl
theorem dig_all {s:ByteArray}(h:DigTo s s.size):∀ c∈s.data.toList,48≤c.toNat∧c.toNat≤57:=fun c hc=>by
 obtain⟨i,hi,rfl⟩:=List.mem_iff_getElem.1 hc
 have:=digB_le (h i hi)
 rw[List.getD_eq_getElem?_getD,Ge hi] at this
 exact this
theorem num_zero {s:ByteArray}(hd:DigTo s s.size)(h0:0 < s.size)(h:s[0].toNat=48):numB s.data.toList zBz=decide (s.size=1):=by
 have h48:s.data.toList.getD 0 0=48:=by rw[zB8 s 0 h0];exact UInt8.toNat_inj.1 h
 by_cases h1:s.size=1
 ·have ha:allOk s.data.toList=true:=allOk_of _ (fun i hi=>by
   have:i=0:=by rw[zAh] at hi;omega
   subst this
   rw[okc_eq _ _ (hd 0 h0)];rfl)
  have hn:s.data.toList=[48]:=by
   cases hh:s.data.toList with
   | nil=>have:=list_ne h0;rw[hh] at this;cases this
   | cons c t =>
    rw[hh] at h48
    have hl:=congrArg List.length hh
    rw[zAh] at hl
    have ht:t=[]:=List.eq_nil_of_length_eq_zero (by simp at hl;omega)
    subst ht
    have:c=48:=h48
    rw[this]
  unfold numB
  rw[ha,list_ne h0,decide_eq_true h1,hn];rfl
 ·rw[decide_eq_false h1]
  refine numB_bad _ _ 1 (by rw[zAh];omega) ?_
  rw[okc_eq _ _ (hd 1 (by omega)),h48];rfl
theorem num_big {s:ByteArray}(hd:DigTo s s.size)(h0:0 < s.size)(h:s[0].toNat≠48):numB s.data.toList zBz=(if s.size=19 then decide (zA2 s.data.toList≤zBz) else decide (s.size < 19)):=by
 have h48:(s.data.toList.getD 0 0==48)=false:=by rw[zB8 s 0 h0,beq_eq_false_iff_ne];intro e;exact h (by rw[e];rfl)
 have hok:∀ i,i < s.size→okc s.data.toList i=decide (i≤18):=fun i hi=>by
  rw[okc_eq _ _ (hd i hi),h48,Bool.and_false];rfl
 have hlt:=nfold_lt s.data.toList (fun c hc=>(dig_all hd c hc).2)
 rw[zAh] at hlt
 by_cases h1:s.size≤19
 ·have ha:allOk s.data.toList=true:=allOk_of _ (fun i hi=>by rw[zAh] at hi;rw[hok i hi];exact decide_eq_true (by omega))
  unfold numB
  rw[ha,list_ne h0]
  by_cases h2:s.size=19
  ·rw[if_pos h2];rfl
  ·rw[if_neg h2,decide_eq_true (by omega:s.size < 19)]
   have:zA2 s.data.toList < 10 ^ 18:=Ll hlt (Nat.pow_le_pow_right (by decide) (by omega))
   rw[decide_eq_true (by unfold zBz;omega)];rfl
 ·rw[if_neg (by omega),decide_eq_false (by omega:¬ s.size < 19)]
  refine numB_bad _ _ 19 (by rw[zAh];omega) ?_
  rw[hok 19 (by omega)];rfl
theorem num_19 {s:ByteArray}(hd:DigTo s s.size)(h:s.size=19):(Op.bytesLess s.data.toList bigNum||s.data.toList==bigNum)=decide (zA2 s.data.toList≤zBz):=by
 rw[lex_num _ _ (by rw[zAh,h];rfl) (dig_all hd) bigNum_dig,bigNum_val]
theorem lex_list (s:ByteArray):(Op.bytesLess s.toList [57,50,50,51,51,55,50,48,51,54,56,53,52,55,55,53,56,48,56]||s.toList==[57,50,50,51,51,55,50,48,51,54,56,53,52,55,55,53,56,48,56])=(Op.bytesLess s.data.toList bigNum||s.data.toList==bigNum):=by
 rw[Lib.toList_data];rfl
theorem isNumber_any (s:ByteArray)(h0:0 < s.size)(hs:s.size≤9223372036854775807)(w:World) :
 Calls Tryz.prog 248 #[.string s] w (IsB (numB s.data.toList zBz) w):=by
 go_enter Tryz.func248,Tryz.ntmps248
 go_wp2_with fail
 go_loop [6] (fun i=>∃ j:Nat,j≤s.size∧DigTo s j∧i=.int .i64 j) (fun i=>s.size - (intOf i).toNat)
 case atStart=>exact⟨0,Nat.zero_le _,fun i hi=>absurd hi (by omega),rfl⟩
 case round =>
  obtain⟨j,hj,hd,rfl⟩:=hrel
  have HD:=Hd hd
  clear hd
  by_cases hlt:j < s.size
  ·by_cases hw:digB s[j]=true
   ·go_wp2_with (go_at_call 228;((with_reducible refine (zB1 s[j] _).mono ?_);rintro e w' ⟨rfl,rfl⟩))
    go_round
    case rel=>exact⟨j+1,by omega,digTo_succ HD.out hlt hw,by go_num⟩
    case measure=>simp[intOf];omega
   ·have hw:digB s[j]=false:=by simpa using hw
    have H:=Hd (num_nodig hlt hw)
    go_wp2_with (go_at_call 228;((with_reducible refine (zB1 s[j] _).mono ?_);rintro e w' ⟨rfl,rfl⟩))
    go_ret
    exact isB H.out.symm
  ·obtain rfl:j=s.size:=by omega
   by_cases h1:s[0].toNat=48
   ·have H:=Hd (num_zero HD.out h0 h1)
    have b1:((s[0].toNat:Int)==48)=true:=beqT (by omega)
    clear h1
    go_wp2_with fail
    go_ret
    exact isB (by rw[H.out];first | rfl | (rw[Bool.eq_iff_iff];simp;omega))
   ·have H:=Hd (num_big HD.out h0 h1)
    have b1:((s[0].toNat:Int)==48)=false:=beqF (by omega)
    clear h1
    by_cases h2:s.size=19
    ·have H2:=Hd (num_19 HD.out h2)
     have b2:((s.size:Int)==19)=true:=beqT (by omega)
     have b3:((s.size:Int) != 19)=false:=by rw[bne,b2];rfl
     have H3:=Hd h2
     clear h2
     go_wp2_with fail
     go_ret
     exact isB (by rw[H.out,if_pos H3.out,←H2.out,←lex_list])
    ·have b2:((s.size:Int)==19)=false:=beqF (by omega)
     have b3:((s.size:Int) != 19)=true:=by rw[bne,b2];rfl
     have H3:=Hd h2
     clear h2
     go_wp2_with fail
     go_ret
     exact isB (by rw[H.out,if_neg H3.out];first | rfl | (rw[Bool.eq_iff_iff];simp;omega))
end Go.Proofs.YtpgnlfdindmopaaGreatDoor
namespace Go.Proofs.YtpgnlfdindmopaaGreatDoor
open Go.RowKit (wrap64 intOf)
open Go Go.RowKit WM LX
def NoLong (l:List UInt8)(k:Nat):Prop:=∀ j,j < k→(zB7.getD j []).isPrefixOf l=false
theorem noLong_succ {l:List UInt8}{k:Nat}(h:NoLong l k)(hk:(zB7.getD k []).isPrefixOf l=false):NoLong l (k+1):=fun j hj=>by
 by_cases e:j=k
 ·subst e;exact hk
 ·exact h j (by omega)
theorem long_first {l:List UInt8}{k:Nat}(hk:k < 7)(h:NoLong l k)(hp:(zB7.getD k []).isPrefixOf l=true):zCh l=(zB7.getD k []).length:=by
 have hg:zB7[k]?=some (zB7.getD k []):=by
  rw[List.getD_eq_getElem?_getD]
  have:k < zB7.length:=hk
  rw[Ge this];rfl
 have hf:zB7.find? (fun p=>p.isPrefixOf l)=some (zB7.getD k []):=by
  rw[List.find?_eq_some_iff_getElem]
  refine⟨hp,k,hk,by rw[Ge hk] at hg;exact Oi hg,fun j hj=>?_⟩
  have:=h j hj
  have hj7:j < zB7.length:=Nat.lt_trans hj hk
  rw[List.getD_eq_getElem?_getD,Ge hj7] at this
  simpa using this
 unfold zCh
 rw[hf]
theorem long_none {l:List UInt8}(h:NoLong l 7):zCh l=0:=by
 have hf:zB7.find? (fun p=>p.isPrefixOf l)=none:=by
  rw[List.find?_eq_none]
  intro p hp
  obtain⟨i,hi,rfl⟩:=List.mem_iff_getElem.1 hp
  have:=h i hi
  rw[List.getD_eq_getElem?_getD,Ge hi] at this
  intro hc
  have e:zB7[i].isPrefixOf l=false:=this
  rw[e] at hc
  cases hc
 unfold zCh
 rw[hf]
theorem sym_none {l:List UInt8}(h:NoLong l 7):zBe l=if zBy.contains (l.headD 0) then 1 else 0:=by
 unfold zBe
 rw[long_none h,if_pos rfl]
theorem indexByte_mem (l:List UInt8)(c:UInt8):(l.contains c=true∧0≤Lib.indexByte l c)∨(l.contains c=false∧Lib.indexByte l c=-1):=by
 induction l with
 | nil=>exact Or.inr ⟨rfl,rfl⟩
 | cons b t ih =>
  rw[Lib.indexByte,List.contains_cons]
  by_cases h:b=c
  ·subst h
   exact Or.inl ⟨by simp,by rw[if_pos (beq_self_eq_true b)];exact Int.le_refl _⟩
  ·have h1:(b==c)=false:=by rw[beq_eq_false_iff_ne];exact h
   have h2:(c==b)=false:=by rw[beq_eq_false_iff_ne];exact fun e=>h e.symm
   rw[h1,h2,Bool.false_or]
   rcases ih with ⟨i1,i2⟩ | ⟨i1,i2⟩
   ·have h3:(Lib.indexByte t c==-1)=false:=by rw[beq_eq_false_iff_ne];omega
    exact Or.inl ⟨i1,by rw[h3];simp;omega⟩
   ·exact Or.inr ⟨i1,by rw[i2];rfl⟩
abbrev zBk:Array Value:=#[.string ⟨#[62,62,62]⟩,.string ⟨#[60,60]⟩,.string ⟨#[62,62]⟩,.string ⟨#[60,61]⟩,.string ⟨#[62,61]⟩,.string ⟨#[61,61]⟩,.string ⟨#[33,61]⟩]
abbrev Tab (B:Nat)(w:World):Prop:=FR.TabAt 1 zBk B w
theorem hasP_at (s p:ByteArray)(b:Bool)(h:Hid (p.data.toList.isPrefixOf s.data.toList=b))(w:World) :
 Calls Tryz.prog 260 #[.string s,.string p] w (IsB b w) :=
 (Tryz.strings_HasPrefix s p w).mono fun _ _ ⟨h1,h2⟩=>⟨h1.trans (congrArg (fun v=>Ending.returned (.bool v)) h.out),h2.symm⟩
theorem short_at (c:UInt8)(v:Int)(h:Hid (Lib.indexByte zBy c=v))(w:World) :
 Calls Tryz.prog 246 #[.string ⟨#[43,45,42,47,37,38,124,94,126,33,60,62,61,63,58,59,44,40,41,123,125,91,93]⟩,.int .u8 (c.toNat:Int)] w fun e w'=>e=.returned (.int .i64 v)∧w=w' :=
 (Tryz.strings_IndexByte _ (c.toNat:Int) w).mono fun e w' ⟨h1,h2⟩=>⟨h1.trans (congrArg (fun v=>Ending.returned (.int .i64 v)) (by
  rw[show (c.toNat:Int).toNat.toUInt8=c by rw[Int.toNat_natCast];exact UInt8.ofNat_toNat];exact h.out)),h2.symm⟩
theorem ix0 (w:World):(Instr.index 283 (.agg zBk) (.int .i64 0)).run Tryz.prog w=.ok (.string ⟨#[62,62,62]⟩) w:=by kernel_rfl
theorem ix1 (w:World):(Instr.index 283 (.agg zBk) (.int .i64 1)).run Tryz.prog w=.ok (.string ⟨#[60,60]⟩) w:=by kernel_rfl
theorem ix2 (w:World):(Instr.index 283 (.agg zBk) (.int .i64 2)).run Tryz.prog w=.ok (.string ⟨#[62,62]⟩) w:=by kernel_rfl
theorem ix3 (w:World):(Instr.index 283 (.agg zBk) (.int .i64 3)).run Tryz.prog w=.ok (.string ⟨#[60,61]⟩) w:=by kernel_rfl
theorem ix4 (w:World):(Instr.index 283 (.agg zBk) (.int .i64 4)).run Tryz.prog w=.ok (.string ⟨#[62,61]⟩) w:=by kernel_rfl
theorem ix5 (w:World):(Instr.index 283 (.agg zBk) (.int .i64 5)).run Tryz.prog w=.ok (.string ⟨#[61,61]⟩) w:=by kernel_rfl
theorem ix6 (w:World):(Instr.index 283 (.agg zBk) (.int .i64 6)).run Tryz.prog w=.ok (.string ⟨#[33,61]⟩) w:=by kernel_rfl
theorem longs_at (k:Nat)(hk:k < 7):∃ p:ByteArray,(∀ w:World,(Instr.index 283 (.agg zBk) (.int .i64 (k:Int))).run Tryz.prog w=.ok (.string p) w)∧p.data.toList=zB7.getD k []:=by
 have hc:k=0∨k=1∨k=2∨k=3∨k=4∨k=5∨k=6:=by omega
 rcases hc with rfl | rfl | rfl | rfl | rfl | rfl | rfl
 ·exact⟨_,ix0,rfl⟩
 ·exact⟨_,ix1,rfl⟩
 ·exact⟨_,ix2,rfl⟩
 ·exact⟨_,ix3,rfl⟩
 ·exact⟨_,ix4,rfl⟩
 ·exact⟨_,ix5,rfl⟩
 ·exact⟨_,ix6,rfl⟩
theorem longs_size (k:Nat)(hk:k < 7):2≤(zB7.getD k []).length∧(zB7.getD k []).length≤3:=by
 have hc:k=0∨k=1∨k=2∨k=3∨k=4∨k=5∨k=6:=by omega
 rcases hc with rfl | rfl | rfl | rfl | rfl | rfl | rfl <;> decide
theorem symbolLength_any (s:ByteArray)(h0:0 < s.size)(B:Nat)(w:World)(ht:Tab B w) :
 Calls Tryz.prog 249 #[.string s] w fun e w'=>e=.returned (.int .i64 (zBe s.data.toList:Int))∧w=w':=by
 obtain⟨_,tt,fr,hg⟩:=ht
 have HG:=Hd hg
 clear hg
 go_enter Tryz.func249,Tryz.ntmps249
 go_wp2_with (refine wpList_load_row rfl 283 _ rfl 1 rfl tt _ fr _ HG.out Tryz.underlying283 rfl (by kernel_rfl) ?_)
 go_loop [6] (fun i=>∃ j:Nat,j≤7∧NoLong s.data.toList j∧i=.int .i64 j) (fun i=>7 - (intOf i).toNat)
 case atStart=>exact⟨0,Nat.zero_le _,fun i hi=>absurd hi (by omega),rfl⟩
 case round =>
  obtain⟨j,hj,hd,rfl⟩:=hrel
  have HD:=Hd hd
  clear hd
  by_cases hlt:j < 7
  ·obtain⟨p,hix,hp⟩:=longs_at j hlt
   obtain⟨hs1,hs2⟩:=longs_size j hlt
   have hps:p.size=(zB7.getD j []).length:=by rw[←hp];rfl
   rw[←hps] at hs1 hs2
   have HPS:=Hd hps
   have HP:=Hd hp
   obtain⟨b,hb⟩:∃ b,p.data.toList.isPrefixOf s.data.toList=b:=⟨_,rfl⟩
   have HB:=Hd hb
   clear hp hb hps
   cases b
   ·go_wp2_with (go_at_call 260;((with_reducible refine (hasP_at s p _ HB _).mono ?_);rintro e w' ⟨rfl,rfl⟩))
    go_round
    case rel=>exact⟨j+1,by omega,noLong_succ HD.out (by rw[←HP.out];exact HB.out),by go_num⟩
    case measure=>simp[intOf];omega
   ·go_wp2_with (go_at_call 260;((with_reducible refine (hasP_at s p _ HB _).mono ?_);rintro e w' ⟨rfl,rfl⟩))
    go_ret
    refine⟨ret_i64 ?_,rfl⟩
    have e:=long_first hlt HD.out (by rw[←HP.out];exact HB.out)
    rw[←HPS.out] at e
    unfold zBe
    rw[e,if_neg (by omega)]
  ·obtain rfl:j=7:=by omega
   have hsn:=sym_none HD.out
   have hh:s.data.toList.headD 0=s[0]:=by
    have:=zAy s 0 h0
    rw[List.drop_zero] at this
    rw[this];rfl
   rw[hh] at hsn
   rcases indexByte_mem zBy s[0] with ⟨i1,i2⟩ | ⟨i1,i2⟩
   ·rw[i1,if_pos rfl] at hsn
    obtain⟨v,hv⟩:∃ v,Lib.indexByte zBy s[0]=v:=⟨_,rfl⟩
    rw[hv] at i2
    have HV:=Hd hv
    have HS:=Hd hsn
    clear hv hsn i1 hh
    go_wp2_with (go_at_call 246;((with_reducible refine (short_at s[0] v HV _).mono ?_);rintro e w' ⟨rfl,rfl⟩))
    go_ret
    exact⟨ret_i64 (by rw[HS.out];rfl),rfl⟩
   ·rw[i1,if_neg (by decide)] at hsn
    have HV:=Hd i2
    have HS:=Hd hsn
    clear i2 hsn i1 hh
    go_wp2_with (go_at_call 246;((with_reducible refine (short_at s[0] (-1) HV _).mono ?_);rintro e w' ⟨rfl,rfl⟩))
    go_ret
    exact⟨ret_i64 (by rw[HS.out];rfl),rfl⟩
end Go.Proofs.YtpgnlfdindmopaaGreatDoor
namespace Go.Proofs.YtpgnlfdindmopaaGreatDoor
open Go.RowKit (wrap64 intOf)
open Go Go.RowKit WM LX
def RetB (v:Value)(B:Nat)(w:World)(e:Ending)(w':World):Prop:=e=.returned v∧Below B w w'
theorem retB {v v':Value}{B:Nat}{w w':World}(h:v'=v)(hb:Below B w w'):RetB v B w (.returned v') w':=⟨by rw[h],hb⟩
abbrev tkV (kind:Int)(t:ByteArray)(pos:Int):Value:=.agg #[.int .i64 kind,.string t,.int .i64 pos]
abbrev zCf (kind:Int)(t:ByteArray)(pos why:Int):Value:=.tuple #[tkV kind t pos,.int .i64 why]
theorem wordAt_at (s t:ByteArray)(k:Nat)(hk:k≤s.size)(hs:s.size≤9223372036854775807)(ht:Hid (s.extract k (k+wlen (s.data.toList.drop k))=t))(w:World) :
 Calls Tryz.prog 247 #[.string s,.int .i64 (k:Int)] w fun e w'=>e=.returned (.string t)∧w=w':=by
 obtain rfl:=ht.out
 exact wordAt_any s k hk hs w
theorem scanName_ok (s t:ByteArray)(k:Nat)(hk:k < s.size)(hs:s.size≤9223372036854775807)(ht:Hid (s.extract k (k+wlen (s.data.toList.drop k))=t))(hn:t.size≤16)(B:Nat)(w:World)(hB:B≤w.heap.size) :
 Calls Tryz.prog 231 #[.string s,.int .i64 (k:Int)] w (RetB (zCf 1 t k 0) B w):=by
 go_enter Tryz.func231,Tryz.ntmps231
 go_wp2_with (go_at_call 247;((with_reducible refine (wordAt_at s t k (Nat.le_of_lt hk) hs ht _).mono ?_);rintro e w' ⟨rfl,rfl⟩))
 exact bodyPost_ret (v:=zCf 1 t k 0) (by simp[results,Tryz.results231,go_sem]) rfl (retB rfl ((Below.refl _ _).alloc hB _))
theorem scanName_err (s t:ByteArray)(k:Nat)(hk:k < s.size)(hs:s.size≤9223372036854775807)(ht:Hid (s.extract k (k+wlen (s.data.toList.drop k))=t))(hn:16 < t.size)(B:Nat)(w:World)(hB:B≤w.heap.size) :
 Calls Tryz.prog 231 #[.string s,.int .i64 (k:Int)] w (RetB (zCf 0 ⟨#[]⟩ 0 6) B w):=by
 go_enter Tryz.func231,Tryz.ntmps231
 go_wp2_with (go_at_call 247;((with_reducible refine (wordAt_at s t k (Nat.le_of_lt hk) hs ht _).mono ?_);rintro e w' ⟨rfl,rfl⟩))
 exact bodyPost_ret (v:=zCf 0 ⟨#[]⟩ 0 6) (by simp[results,Tryz.results231,go_sem]) rfl (retB rfl ((Below.refl _ _).alloc hB _))
theorem isNumber_at (t:ByteArray)(b:Bool)(h0:0 < t.size)(hs:t.size≤9223372036854775807)(h:Hid (numB t.data.toList zBz=b))(w:World) :
 Calls Tryz.prog 248 #[.string t] w (IsB b w):=by
 obtain rfl:=h.out
 exact isNumber_any t h0 hs w
theorem scanNumber_ok (s t:ByteArray)(k:Nat)(hk:k < s.size)(hs:s.size≤9223372036854775807)(ht:Hid (s.extract k (k+wlen (s.data.toList.drop k))=t))(h0:0 < t.size)(hts:t.size≤9223372036854775807)(hn:Hid (numB t.data.toList zBz=true))(B:Nat)(w:World)(hB:B≤w.heap.size) :
 Calls Tryz.prog 229 #[.string s,.int .i64 (k:Int)] w (RetB (zCf 2 t k 0) B w):=by
 go_enter Tryz.func229,Tryz.ntmps229
 go_wp2_with (first | (go_at_call 247;((with_reducible refine (wordAt_at s t k (Nat.le_of_lt hk) hs ht _).mono ?_);rintro e w' ⟨rfl,rfl⟩)) | (go_at_call 248;((with_reducible refine (isNumber_at t true h0 hts hn _).mono ?_);rintro e w' ⟨rfl,rfl⟩)))
 exact bodyPost_ret (v:=zCf 2 t k 0) (by simp[results,Tryz.results229,go_sem]) rfl (retB rfl ((Below.refl _ _).alloc hB _))
theorem scanNumber_err (s t:ByteArray)(k:Nat)(hk:k < s.size)(hs:s.size≤9223372036854775807)(ht:Hid (s.extract k (k+wlen (s.data.toList.drop k))=t))(h0:0 < t.size)(hts:t.size≤9223372036854775807)(hn:Hid (numB t.data.toList zBz=false))(B:Nat)(w:World)(hB:B≤w.heap.size) :
 Calls Tryz.prog 229 #[.string s,.int .i64 (k:Int)] w (RetB (zCf 0 ⟨#[]⟩ 0 2) B w):=by
 go_enter Tryz.func229,Tryz.ntmps229
 go_wp2_with (first | (go_at_call 247;((with_reducible refine (wordAt_at s t k (Nat.le_of_lt hk) hs ht _).mono ?_);rintro e w' ⟨rfl,rfl⟩)) | (go_at_call 248;((with_reducible refine (isNumber_at t false h0 hts hn _).mono ?_);rintro e w' ⟨rfl,rfl⟩)))
 exact bodyPost_ret (v:=zCf 0 ⟨#[]⟩ 0 2) (by simp[results,Tryz.results229,go_sem]) rfl (retB rfl ((Below.refl _ _).alloc hB _))
theorem symLen_at (s:ByteArray)(k n:Nat)(hk:k < s.size)(h:Hid (zBe (s.data.toList.drop k)=n))(B:Nat)(w:World)(ht:Tab B w) :
 Calls Tryz.prog 249 #[.string (s.extract k s.size)] w fun e w'=>e=.returned (.int .i64 (n:Int))∧w=w':=by
 obtain rfl:=h.out
 have:=symbolLength_any (s.extract k s.size) (by rw[←zAh,zCq,List.length_drop,zAh];omega) B w ht
 rwa [zCq] at this
set_option maxRecDepth 100000 in
theorem scanSymbol_ok (s:ByteArray)(k n:Nat)(hk:k < s.size)(hs:s.size≤9223372036854775807)(h:Hid (zBe (s.data.toList.drop k)=n))(h0:0 < n)(hn:k+n≤s.size)(B:Nat)(w:World)(hB:B≤w.heap.size)(ht:Tab B w) :
 Calls Tryz.prog 232 #[.string s,.int .i64 (k:Int)] w (RetB (zCf 3 (s.extract k (k+n)) k 0) B w):=by
 have hz:((n:Int)==0)=false:=beqF (by omega)
 have a1:(0:Int)≤(k:Int)+(n:Int):=by omega
 have a2:(k:Int)≤(k:Int)+(n:Int):=by omega
 have a3:(k:Int)+(n:Int)≤(s.size:Int):=by omega
 have a4:((k:Int)+(n:Int)).toNat=k+n:=by omega
 have a5:(0:Int)≤(k:Int):=by omega
 have ht2:∀ o,Tab B (w.alloc o):=fun o=>ht.on ((Below.refl _ _).alloc hB o)
 go_enter Tryz.func232,Tryz.ntmps232
 go_wp2_with (go_at_call 249;((with_reducible refine (symLen_at s k n hk h B _ (ht2 _)).mono ?_);rintro e w' ⟨rfl,rfl⟩))
 exact bodyPost_ret (v:=zCf 3 (s.extract k (k+n)) k 0) (by simp[results,Tryz.results232,go_sem]) rfl (retB rfl ((Below.refl _ _).alloc hB _))
theorem scanSymbol_err (s:ByteArray)(k:Nat)(hk:k < s.size)(_hs:s.size≤9223372036854775807)(h:Hid (zBe (s.data.toList.drop k)=0))(B:Nat)(w:World)(hB:B≤w.heap.size)(ht:Tab B w) :
 Calls Tryz.prog 232 #[.string s,.int .i64 (k:Int)] w (RetB (zCf 0 ⟨#[]⟩ 0 2) B w):=by
 have ht2:∀ o,Tab B (w.alloc o):=fun o=>ht.on ((Below.refl _ _).alloc hB o)
 go_enter Tryz.func232,Tryz.ntmps232
 go_wp2_with (go_at_call 249;((with_reducible refine (symLen_at s k 0 hk h B _ (ht2 _)).mono ?_);rintro e w' ⟨rfl,rfl⟩))
 exact bodyPost_ret (v:=zCf 0 ⟨#[]⟩ 0 2) (by simp[results,Tryz.results232,go_sem]) rfl (retB rfl ((Below.refl _ _).alloc hB _))
end Go.Proofs.YtpgnlfdindmopaaGreatDoor
namespace Go.Proofs.YtpgnlfdindmopaaGreatDoor
open Go.RowKit (wrap64 intOf)
open Go Go.RowKit WM LX
theorem head_at (s:ByteArray)(k:Nat)(h:k < s.size):(s.data.toList.drop k).headD 0=s[k]:=by rw[zAy s k h];rfl
theorem text_data (s:ByteArray)(k n:Nat):(s.extract k (k+n)).data.toList=(s.data.toList.drop k).take n:=by
 rw[Lib.extract_data,Nat.add_sub_cancel_left]
theorem text_eq (s:ByteArray)(k n:Nat):s.extract k (k+n)=⟨((s.data.toList.drop k).take n).toArray⟩:=by
 apply ByteArray.ext
 apply Array.toList_inj.1
 rw[text_data]
theorem text_size (s:ByteArray)(k n:Nat)(h:k+n≤s.size):(s.extract k (k+n)).size=n:=by
 rw[ByteArray.size_extract];omega
theorem zCd (s:ByteArray)(k:Nat):(s.data.toList.drop k).length=s.size - k:=by rw[List.length_drop];rfl
theorem drop_ne (s:ByteArray)(k:Nat)(h:k < s.size):s.data.toList.drop k≠[]:=by rw[zAy s k h];simp
theorem word_let {c:UInt8}(h:letB c=true):zBt c=true:=by unfold zBt;rw[h];rfl
theorem word_dig {c:UInt8}(h:digB c=true):zBt c=true:=by unfold zBt;rw[h,Bool.or_true]
theorem let_dig {c:UInt8}(h:letB c=true):digB c=false:=by
 rcases byte_cases c with ⟨_,_,_,h'⟩ | ⟨_,_,_,h'⟩ | ⟨_,_,h'⟩ | ⟨_,_,h',_⟩ | ⟨_,h',_⟩
 ·exact h'
 ·exact h'
 ·exact h'
 ·rw[h] at h';cases h'
 ·rw[h] at h';cases h'
theorem tok_dig {s:ByteArray}{k:Nat}(hk:k < s.size)(h:digB s[k]=true):tokK (s.data.toList.drop k)=2∧tokN (s.data.toList.drop k)=wlen (s.data.toList.drop k) ∧
 tokE (s.data.toList.drop k)=(if numB ((s.data.toList.drop k).take (wlen (s.data.toList.drop k))) zBz then 0 else 2):=by
 unfold tokK tokN tokE
 rw[head_at s k hk,h,word_dig h]
 exact⟨rfl,rfl,rfl⟩
theorem tok_let {s:ByteArray}{k:Nat}(hk:k < s.size)(h:letB s[k]=true):tokK (s.data.toList.drop k)=1∧tokN (s.data.toList.drop k)=wlen (s.data.toList.drop k) ∧
 tokE (s.data.toList.drop k)=(if 16 < wlen (s.data.toList.drop k) then 6 else 0):=by
 unfold tokK tokN tokE
 rw[head_at s k hk,let_dig h,h,word_let h]
 exact⟨rfl,rfl,rfl⟩
theorem tok_sym {s:ByteArray}{k:Nat}(hk:k < s.size)(h:letB s[k]=false)(h':digB s[k]=false):tokK (s.data.toList.drop k)=3∧tokN (s.data.toList.drop k)=zBe (s.data.toList.drop k) ∧
 tokE (s.data.toList.drop k)=(if zBe (s.data.toList.drop k)=0 then 2 else 0):=by
 unfold tokK tokN tokE
 rw[head_at s k hk,h,h',word_of h h']
 exact⟨rfl,rfl,rfl⟩
theorem wlen_at {s:ByteArray}{k:Nat}(hk:k < s.size)(h:zBt s[k]=true):1≤wlen (s.data.toList.drop k)∧k+wlen (s.data.toList.drop k)≤s.size:=by
 have h1:=wlen_le (s.data.toList.drop k)
 rw[zCd] at h1
 rw[zAy s k hk,wlen_pos h] at h1 ⊢
 omega
theorem symLen_at_le {s:ByteArray}{k:Nat}(hk:k < s.size):k+zBe (s.data.toList.drop k)≤s.size:=by
 have h1:=symLen_le (drop_ne s k hk)
 rw[zCd] at h1
 omega
def tokRet (s:ByteArray)(k:Nat):Value :=
 if tokE (s.data.toList.drop k)=0 then zCf (tokK (s.data.toList.drop k):Nat) (s.extract k (k+tokN (s.data.toList.drop k))) k 0 else zCf 0 ⟨#[]⟩ 0 (tokE (s.data.toList.drop k):Nat)
theorem tokRet_ok {s:ByteArray}{k:Nat}(h:tokE (s.data.toList.drop k)=0):tokRet s k=zCf (tokK (s.data.toList.drop k):Nat) (s.extract k (k+tokN (s.data.toList.drop k))) k 0:=by unfold tokRet;rw[if_pos h]
theorem tokRet_err {s:ByteArray}{k:Nat}(h:tokE (s.data.toList.drop k)≠0):tokRet s k=zCf 0 ⟨#[]⟩ 0 (tokE (s.data.toList.drop k):Nat):=by unfold tokRet;rw[if_neg h]
theorem scanNumber_any (s:ByteArray)(k:Nat)(hk:k < s.size)(hs:s.size≤9223372036854775807)(h:digB s[k]=true)(B:Nat)(w:World)(hB:B≤w.heap.size) :
 Calls Tryz.prog 229 #[.string s,.int .i64 (k:Int)] w (RetB (tokRet s k) B w):=by
 obtain⟨e1,e2,e3⟩:=tok_dig hk h
 obtain⟨g1,g2⟩:=wlen_at hk (word_dig h)
 have g3:=text_size s k _ g2
 have hd:=text_data s k (wlen (s.data.toList.drop k))
 by_cases hn:numB ((s.data.toList.drop k).take (wlen (s.data.toList.drop k))) zBz=true
 ·rw[if_pos hn] at e3
  rw[tokRet_ok e3,e1,e2]
  exact scanNumber_ok s _ k hk hs (Hd rfl) (by rw[g3];omega) (by rw[g3];omega) (Hd (by rw[hd];exact hn)) B w hB
 ·have hn:numB ((s.data.toList.drop k).take (wlen (s.data.toList.drop k))) zBz=false:=by simpa using hn
  rw[hn] at e3
  rw[tokRet_err (by rw[e3];decide),e3]
  exact scanNumber_err s _ k hk hs (Hd rfl) (by rw[g3];omega) (by rw[g3];omega) (Hd (by rw[hd];exact hn)) B w hB
theorem scanName_any (s:ByteArray)(k:Nat)(hk:k < s.size)(hs:s.size≤9223372036854775807)(h:letB s[k]=true)(B:Nat)(w:World)(hB:B≤w.heap.size) :
 Calls Tryz.prog 231 #[.string s,.int .i64 (k:Int)] w (RetB (tokRet s k) B w):=by
 obtain⟨e1,e2,e3⟩:=tok_let hk h
 obtain⟨g1,g2⟩:=wlen_at hk (word_let h)
 have g3:=text_size s k _ g2
 by_cases hn:16 < wlen (s.data.toList.drop k)
 ·rw[if_pos hn] at e3
  rw[tokRet_err (by rw[e3];decide),e3]
  exact scanName_err s _ k hk hs (Hd rfl) (by rw[g3];exact hn) B w hB
 ·rw[if_neg hn] at e3
  rw[tokRet_ok e3,e1,e2]
  exact scanName_ok s _ k hk hs (Hd rfl) (by rw[g3];omega) B w hB
theorem scanSymbol_any (s:ByteArray)(k:Nat)(hk:k < s.size)(hs:s.size≤9223372036854775807)(h:letB s[k]=false)(h':digB s[k]=false)(B:Nat)(w:World)(hB:B≤w.heap.size)(ht:Tab B w) :
 Calls Tryz.prog 232 #[.string s,.int .i64 (k:Int)] w (RetB (tokRet s k) B w):=by
 obtain⟨e1,e2,e3⟩:=tok_sym hk h h'
 by_cases hn:zBe (s.data.toList.drop k)=0
 ·rw[if_pos hn] at e3
  rw[tokRet_err (by rw[e3];decide),e3]
  exact scanSymbol_err s k hk hs (Hd hn) B w hB ht
 ·rw[if_neg hn] at e3
  rw[tokRet_ok e3,e1,e2]
  exact scanSymbol_ok s k _ hk hs (Hd rfl) (by omega) (symLen_at_le hk) B w hB ht
theorem tokRet_form (s:ByteArray)(k:Nat):∃ a t p y,tokRet s k=zCf a t p y:=by
 unfold tokRet;split
 ·exact⟨_,_,_,_,rfl⟩
 ·exact⟨_,_,_,_,rfl⟩
theorem scanToken_any (s:ByteArray)(k:Nat)(hk:k < s.size)(hs:s.size≤9223372036854775807)(B:Nat)(w:World)(hB:B≤w.heap.size)(ht:Tab B w) :
 Calls Tryz.prog 216 #[.string s,.int .i64 (k:Int)] w (RetB (tokRet s k) B w):=by
 obtain⟨a,t,p,y,hr⟩:=tokRet_form s k
 have hbel:∀ o,Below B w (w.alloc o):=fun o=>(Below.refl _ _).alloc hB o
 have hle:∀ o,B≤(w.alloc o).heap.size:=fun o=>Nat.le_trans hB (hbel o).size
 rw[hr]
 have HR:=Hd hr
 clear hr
 by_cases h:digB s[k]=true
 ·have hc:∀ o,Calls Tryz.prog 229 #[.string s,.int .i64 (k:Int)] (w.alloc o) (RetB (zCf a t p y) (w.alloc o).heap.size (w.alloc o)):=fun o=>by
   rw[←HR.out];exact scanNumber_any s k hk hs h _ _ (Lr _)
  have HC:=Hd hc
  clear hc
  go_enter Tryz.func216,Tryz.ntmps216
  go_wp2_with (first
   | (go_at_call 228;((with_reducible refine (zB1 s[k] _).mono ?_);rintro e w' ⟨rfl,rfl⟩))
   | (go_at_call 229;((with_reducible refine (HC.out _).mono ?_);rintro e w1 ⟨rfl,hb1⟩;obtain⟨hc,hf⟩:=bcell hb1)))
  exact bodyPost_ret (v:=zCf a t p y) (by simp[results,Tryz.results216,go_sem,hc]) rfl (retB rfl (((((hbel _).trans (hb1.mono (hle _))).setCell hB _).setCell hB _).setCell hB _))
 ·have h:digB s[k]=false:=by simpa using h
  by_cases h2:letB s[k]=true
  ·have hc:∀ o,Calls Tryz.prog 231 #[.string s,.int .i64 (k:Int)] (w.alloc o) (RetB (zCf a t p y) (w.alloc o).heap.size (w.alloc o)):=fun o=>by
    rw[←HR.out];exact scanName_any s k hk hs h2 _ _ (Lr _)
   have HC:=Hd hc
   have h3:=word_let h2
   clear hc h2
   go_enter Tryz.func216,Tryz.ntmps216
   go_wp2_with (first
    | (go_at_call 228;((with_reducible refine (zB1 s[k] _).mono ?_);rintro e w' ⟨rfl,rfl⟩))
    | (go_at_call 230;((with_reducible refine (isWord_any s[k] _).mono ?_);rintro e w' ⟨rfl,rfl⟩))
    | (go_at_call 231;((with_reducible refine (HC.out _).mono ?_);rintro e w1 ⟨rfl,hb1⟩;obtain⟨hc,hf⟩:=bcell hb1)))
   exact bodyPost_ret (v:=zCf a t p y) (by simp[results,Tryz.results216,go_sem,hc]) rfl (retB rfl (((((hbel _).trans (hb1.mono (hle _))).setCell hB _).setCell hB _).setCell hB _))
  ·have h2:letB s[k]=false:=by simpa using h2
   have ht2:∀ o,Tab (w.alloc o).heap.size (w.alloc o):=fun o=>(ht.on (hbel o)).up (hle o)
   have hc:∀ o,Calls Tryz.prog 232 #[.string s,.int .i64 (k:Int)] (w.alloc o) (RetB (zCf a t p y) (w.alloc o).heap.size (w.alloc o)):=fun o=>by
    rw[←HR.out];exact scanSymbol_any s k hk hs h2 h _ _ (Lr _) (ht2 o)
   have HC:=Hd hc
   have h3:=word_of h2 h
   rw[Bool.or_self] at h3
   clear hc h2 ht2
   go_enter Tryz.func216,Tryz.ntmps216
   go_wp2_with (first
    | (go_at_call 228;((with_reducible refine (zB1 s[k] _).mono ?_);rintro e w' ⟨rfl,rfl⟩))
    | (go_at_call 230;((with_reducible refine (isWord_any s[k] _).mono ?_);rintro e w' ⟨rfl,rfl⟩))
    | (go_at_call 232;((with_reducible refine (HC.out _).mono ?_);rintro e w1 ⟨rfl,hb1⟩;obtain⟨hc,hf⟩:=bcell hb1)))
   exact bodyPost_ret (v:=zCf a t p y) (by simp[results,Tryz.results216,go_sem,hc]) rfl (retB rfl (((((hbel _).trans (hb1.mono (hle _))).setCell hB _).setCell hB _).setCell hB _))
end Go.Proofs.YtpgnlfdindmopaaGreatDoor
namespace Go.Proofs.YtpgnlfdindmopaaGreatDoor
open Go Go.RowKit
def Blk (w:World)(g:Nat)(t:TypeId)(cs:Array Value):Prop:=w.heap[g]?=some (.cells cs t (0,0))
section
variable {w w':World} {g:Nat} {t:TypeId} {cs:Array Value}
theorem Blk.cell (h:Blk w g t cs)(i:Nat):w.cell? ⟨g,i,none⟩=cs[i]?:=by
 unfold Blk at h;simp[World.cell?,h]
theorem Blk.free (h:Blk w g t cs)(i:Nat):w.frozen? ⟨g,i,none⟩=false:=by
 unfold Blk at h;simp[World.frozen?,h]
theorem Blk.lt (h:Blk w g t cs):g < w.heap.size:=by
 apply Classical.byContradiction;intro hn
 unfold Blk at h
 rw[Array.getElem?_eq_none (by omega)] at h;cases h
theorem Blk.on {B:Nat}(h:Blk w g t cs)(hb:Below B w w')(hg:g < B):Blk w' g t cs:=(hb.block g hg).trans h
theorem Blk.alloc (h:Blk w g t cs)(o:Obj):Blk (w.alloc o) g t cs:=(Below.heap_alloc w o g h.lt).trans h
theorem Blk.grown {row:Option Nat}(h:Blk w g t cs)(hb:w.grownBy w' row)(hr:row≠some g):Blk w' g t cs:=(hb.block g h.lt (fun e=>hr e.symm)).trans h
theorem Blk.new (w:World)(t:TypeId)(cs:Array Value):Blk (w.alloc (.cells cs t)) w.heap.size t cs:=heap_alloc_new w _
theorem Blk.set (h:Blk w g t cs)(i:Nat)(u:Value):Blk (w.setCell ⟨g,i,none⟩ u) g t (cs.setIfInBounds i u):=by
 unfold Blk at h ⊢;simp[World.setCell,Array.getElem?_modify,h]
theorem Blk.far (h:Blk w g t cs){p:Addr}(hp:p.block≠g)(u:Value):Blk (w.setCell p u) g t cs:=(Below.heap_setCell w p u g (fun e=>hp e.symm)).trans h
theorem Blk.cells3 {a b c:Value}(h:Blk w g t #[a,b,c]):w.cell? ⟨g,0,none⟩=some a∧w.cell? ⟨g,1,none⟩=some b∧w.cell? ⟨g,2,none⟩=some c∧w.frozen? ⟨g,0,none⟩=false∧w.frozen? ⟨g,1,none⟩=false∧w.frozen? ⟨g,2,none⟩=false :=
 ⟨h.cell 0,h.cell 1,h.cell 2,h.free 0,h.free 1,h.free 2⟩
theorem Blk.cells2 {a b:Value}(h:Blk w g t #[a,b]):w.cell? ⟨g,0,none⟩=some a∧w.cell? ⟨g,1,none⟩=some b∧w.frozen? ⟨g,0,none⟩=false∧w.frozen? ⟨g,1,none⟩=false :=
 ⟨h.cell 0,h.cell 1,h.free 0,h.free 1⟩
end
theorem new_set (w:World)(p:Addr)(u:Value)(t:TypeId)(cs:Array Value):((w.setCell p u).alloc (.cells cs t)).heap[w.heap.size]?=some (.cells cs t (0,0)):=by
 have h:=heap_alloc_new (w.setCell p u) (.cells cs t)
 have e:(w.setCell p u).heap.size=w.heap.size:=by simp[World.setCell]
 rwa [e] at h
theorem below_drewN {B:Nat}{a w:World}(h:Below B a w)(n:Nat):Below B a (w.drewN n):=⟨h.os,h.tape,h.output,h.size,h.block⟩
theorem Blk.drewN {w:World}{g:Nat}{t:TypeId}{cs:Array Value}(h:Blk w g t cs)(n:Nat):Blk (w.drewN n) g t cs:=h
theorem grown_below {w w':World}(hb:Below w.heap.size w w')(row:Option Nat):w.grownBy w' row:=⟨hb.os,hb.tape,hb.output,hb.size,fun i hi _=>hb.block i hi⟩
section
variable {w w':World} {base:Nat} {e:TypeId} {size n:Nat} {v:Value} {xs:List Value}
theorem own_on (h:w.ownsRow base e size v n xs)(hb:Below w.heap.size w w'):w'.ownsRow base e size v n xs :=
 h.kept (grown_below hb none) (by cases hv:v.ownBlock <;> simp)
theorem own_set (h:w.ownsRow base e size v n xs){p:Addr}(hp:p.block < base)(u:Value):(w.setCell p u).ownsRow base e size v n xs:=by
 refine h.kept (row:=some p.block) ⟨rfl,rfl,rfl,by simp[World.setCell],fun i _ hne=>Below.heap_setCell w p u i (fun e=>hne (by rw[e]))⟩ ?_
 cases hv:v.ownBlock with
 | none=>exact Or.inl rfl
 | some k =>
  refine Or.inr (fun e=>?_)
  have:=(h.lt k hv).1
  injection e with e
  omega
theorem own_setne (h:w.ownsRow base e size v n xs){p:Addr}(hp:v.ownBlock≠some p.block)(u:Value):(w.setCell p u).ownsRow base e size v n xs :=
 h.kept (row:=some p.block) ⟨rfl,rfl,rfl,by simp[World.setCell],fun i _ hne=>Below.heap_setCell w p u i (fun e=>hne (by rw[e]))⟩ (Or.inr hp)
theorem own_ne {g:Nat}(h:w.ownsRow base e size v n xs)(hg:g < base∨w.heap.size≤g):v.ownBlock≠some g:=fun e=>by
 have:=h.lt g e
 omega
end
end Go.Proofs.YtpgnlfdindmopaaGreatDoor
namespace Go.Proofs.YtpgnlfdindmopaaGreatDoor
open Go.RowKit (wrap64 intOf)
open Go Go.RowKit WM LX
def tkC (t:Tk):List Value:=[.int .i64 (t.kind:Int),.string ⟨t.text.toArray⟩,.int .i64 (t.pos:Int)]
def tksC (ts:List Tk):List Value:=ts.flatMap tkC
def ScanP (q:List Tk × Nat × Nat)(w:World)(e:Ending)(w':World):Prop :=
 ∃ v,e=.returned (.tuple #[v,.agg #[.int .i64 (q.2.1:Int),.int .i64 (q.2.2:Int)]])∧w'.ownsRow w.heap.size 102 3 v q.1.length (tksC q.1)∧Below w.heap.size w w'
def ScanR (s:ByteArray)(w0:World)(v i:Value)(wr:World):Prop :=
 ∃ (k:Nat) (ts:List Tk),k≤s.size∧i=.int .i64 k∧zAb false (s.data.toList.drop k)=0∧lx s.data.toList 0=prep ts (lx (s.data.toList.drop k) k)∧ts.length≤k ∧
  wr.ownsRow (w0.heap.size+1) 102 3 v ts.length (tksC ts)∧Below w0.heap.size w0 wr∧Blk wr w0.heap.size 29 #[.int .i64 0,.int .i64 0]
theorem skip_at (s:ByteArray)(k E:Nat)(hk:k≤s.size)(hs:s.size≤9223372036854775807)(h:Hid (k+zAb false (s.data.toList.drop k)=E))(w:World) :
 Calls Tryz.prog 215 #[.string s,.int .i64 (k:Int)] w fun e w'=>e=.returned (.int .i64 (E:Int))∧w=w':=by
 obtain rfl:=h.out
 exact skip_any s k hk hs w
theorem skip_start (s:ByteArray)(E:Nat)(hs:s.size≤9223372036854775807)(h:Hid (zAb false s.data.toList=E))(w:World) :
 Calls Tryz.prog 215 #[.string s,.int .i64 0] w fun e w'=>e=.returned (.int .i64 (E:Int))∧w=w' :=
 skip_at s 0 E (Nat.zero_le _) hs (Hd (by rw[List.drop_zero,Nat.zero_add];exact h.out)) w
theorem scan_long (s:ByteArray)(hs:20000 < s.size)(w:World):Calls Tryz.prog 201 #[.string s] w (ScanP (zBl s.data.toList) w):=by
 have hq:zBl s.data.toList=([],6,20000):=by unfold zBl;rw[if_pos (by rw[zAh];exact hs)]
 rw[hq]
 clear hq
 go_enter Tryz.func201,Tryz.ntmps201
 go_wp2_with fail
 exact bodyPost_ret (v:=.tuple #[.slice none 0 0,.agg #[.int .i64 6,.int .i64 20000]]) (by simp[results,Tryz.results201,go_sem]) rfl
  ⟨_,rfl,World.ownsRow_nil _ _ _ _,(Below.refl _ _).alloc (Lr _) _⟩
theorem skip_sum (s:ByteArray)(k n E:Nat)(hk:k+n≤s.size)(hs:s.size≤9223372036854775807)(h:Hid (k+n+zAb false (s.data.toList.drop (k+n))=E))(w:World) :
 Calls Tryz.prog 215 #[.string s,.int .i64 ((k:Int)+(n:Int))] w fun e w'=>e=.returned (.int .i64 (E:Int))∧w=w' :=
 skip_at s (k+n) E hk hs h w
theorem tokInfo:(Tryz.prog.info? 102).map (fun i=>(i.zero,i.size,i.bytes))=some (some (.agg #[.int .i64 0,.string ⟨#[]⟩,.int .i64 0]),3,32):=by kernel_rfl
theorem tksC_snoc (ts:List Tk)(t:Tk):tksC (ts++[t])=tksC ts++tkC t:=by unfold tksC;rw[List.flatMap_append];simp
theorem scanR_step {s:ByteArray}{w0 w2:World}{v':Value}{k E:Nat}{ts:List Tk}(hk:k < s.size)(hsk:zAb false (s.data.toList.drop k)=0)(hx:lx s.data.toList 0=prep ts (lx (s.data.toList.drop k) k))(hts:ts.length≤k)
 (he:tokE (s.data.toList.drop k)=0) (hE:k+tokN (s.data.toList.drop k)+zAb false (s.data.toList.drop (k+tokN (s.data.toList.drop k)))=E)
 (hown:w2.ownsRow (w0.heap.size+1) 102 3 v' (ts.length+1) (tksC ts++[.int .i64 (tokK (s.data.toList.drop k):Nat),.string (s.extract k (k+tokN (s.data.toList.drop k))),.int .i64 (k:Int)]))
 (hb:Below w0.heap.size w0 w2) (hblk:Blk w2 w0.heap.size 29 #[.int .i64 0,.int .i64 0]):ScanR s w0 v' (.int .i64 (E:Int)) w2∧k < E∧E≤s.size:=by
 have hne:=drop_ne s k hk
 have h1:=zCi hne he
 have h2:=tokN_le hne
 rw[zCd] at h2
 have h3:=skipLen_le false (s.data.toList.drop (k+tokN (s.data.toList.drop k)))
 rw[zCd] at h3
 have hE2:E≤s.size:=by omega
 refine⟨⟨E,ts++[⟨tokK (s.data.toList.drop k),(s.data.toList.drop k).take (tokN (s.data.toList.drop k)),k⟩],hE2,rfl,?_,?_,?_,?_,hb,hblk⟩,by omega,hE2⟩
 ·rw[←hE,←List.drop_drop];exact skip_idem false _
 ·rw[hx,prep_tok hsk hne he,List.drop_drop,lx_skip,List.drop_drop,hE]
 ·rw[List.length_append];simp;omega
 ·rw[tksC_snoc,List.length_append]
  rw[text_eq] at hown
  exact hown
theorem scan_bad {s:ByteArray}{k:Nat}{ts:List Tk}(hs:s.size≤20000)(hk:k < s.size)(hsk:zAb false (s.data.toList.drop k)=0)(hx:lx s.data.toList 0=prep ts (lx (s.data.toList.drop k) k))(he:tokE (s.data.toList.drop k)≠0) :
 zBl s.data.toList=([],tokE (s.data.toList.drop k),k):=by
 unfold zBl
 rw[if_neg (by rw[zAh];omega),hx,lx_err k hsk (drop_ne s k hk) he,if_neg (by exact he)]
 rfl
theorem scan_good {s:ByteArray}{ts:List Tk}(hs:s.size≤20000)(hx:lx s.data.toList 0=prep ts (lx (s.data.toList.drop s.size) s.size)):zBl s.data.toList=(ts,0,0):=by
 unfold zBl
 rw[if_neg (by rw[zAh];omega),hx,drop_end,lx_nil,if_pos (by rfl)]
 unfold prep
 simp
theorem tab_at {w0 wr:World}(ht:Tab w0.heap.size w0)(hb:Below w0.heap.size w0 wr):Tab wr.heap.size wr:=(ht.on hb).up hb.size
theorem own_base {w:World}{base base':Nat}{e:TypeId}{size n:Nat}{v:Value}{xs:List Value}(h:w.ownsRow base e size v n xs)(hb:base'≤base):w.ownsRow base' e size v n xs:=by
 refine⟨h.1,?_⟩
 rcases h.2 with h0 | ⟨g,cap,cur,hv,hg,r⟩
 ·exact Or.inl h0
 ·exact Or.inr ⟨g,cap,cur,hv,Nat.le_trans hb hg,r⟩
set_option maxRecDepth 100000
set_option maxHeartbeats 1000000 in
theorem scan_short (s:ByteArray)(hs:s.size≤20000)(w:World)(ht:Tab w.heap.size w):Calls Tryz.prog 201 #[.string s] w (ScanP (zBl s.data.toList) w):=by
 obtain⟨q,hq0⟩:∃ q,zBl s.data.toList=q:=⟨_,rfl⟩
 rw[hq0]
 have HQ:=Hd hq0
 clear hq0
 obtain⟨i0,hi,hz0,hz1,hz2⟩:=info_parts tokInfo
 have hs2:s.size≤9223372036854775807:=by omega
 have hdec:decide ((20000:Int) < (s.size:Int))=false:=decide_eq_false (by omega)
 obtain⟨E0,hE0⟩:∃ E,zAb false s.data.toList=E:=⟨_,rfl⟩
 have H0:=Hd hE0
 clear hE0
 go_enter Tryz.func201,Tryz.ntmps201
 go_wp2_with (go_at_call 215;((with_reducible refine (skip_start s E0 hs2 H0 _).mono ?_);rintro e w' ⟨rfl,rfl⟩))
 go_loopw [4,5] (fun v i wr=>ScanR s w v i wr) (fun _ i _=>s.size - (intOf i).toNat)
 case atStart =>
  have hE:=H0.out
  have hle:=skipLen_le false s.data.toList
  refine⟨E0,[],by rw[←hE];exact hle,rfl,?_,?_,Nat.zero_le _,World.ownsRow_nil _ _ _ _,(Below.refl _ _).alloc (Lr _) _,Blk.new _ _ _⟩
  ·rw[←hE];exact skip_idem false _
  ·rw[prep_nil,lx_skip,hE,Nat.zero_add]
 case round =>
  obtain⟨k,ts,hk,rfl,hsk,hx,hts,hown,hbel,hblk⟩:=hrel
  have HSK:=Hd hsk
  have HX:=Hd hx
  have HB:=Hd hblk
  clear hsk hx hblk
  have hgr:=HB.out.lt
  by_cases hlt:k < s.size
  ·have htr:=tab_at ht hbel
   have hcT:=fun W B hB hT=>scanToken_any s k hlt hs2 B W hB hT
   by_cases he:tokE (s.data.toList.drop k)=0
   ·rw[tokRet_ok he] at hcT
    have hne:=drop_ne s k hlt
    have h1:=zCi hne he
    have h2:=tokN_le hne
    rw[zCd] at h2
    have hst:=fun E h=>@scanR_step s w E h
    have htz:=text_size s k (tokN (s.data.toList.drop k)) (by omega)
    obtain⟨E,hE⟩:∃ E,k+tokN (s.data.toList.drop k)+zAb false (s.data.toList.drop (k+tokN (s.data.toList.drop k)))=E:=⟨_,rfl⟩
    have hstep:=fun v' w2 h1 h2 h3=>scanR_step (w0:=w) (w2:=w2) (v':=v') hlt HSK.out HX.out hts he hE h1 h2 h3
    rw[←htz] at h1 h2 hE
    generalize s.extract k (k+tokN (s.data.toList.drop k))=t at *
    generalize tokK (s.data.toList.drop k)=kd at *
    have HE:=Hd hE
    have HS:=Hd hstep
    have HC:=Hd (hcT wr wr.heap.size (Lr _) htr)
    clear hcT htr htz hne he hE hstep hst
    have h3:k+t.size≤s.size:=by omega
    go_wp2_with (first
     | (go_at_call 216;((with_reducible refine (HC.out).mono ?_);rintro e w1 ⟨rfl,hb1⟩;have hg1:=(HB.out.on hb1 hgr).lt;have hown1:=own_on hown hb1;have hB1:=Hd (HB.out.on hb1 hgr);clear hown))
     | (go_at_call 215;((with_reducible refine (skip_sum s k t.size E h3 hs2 HE _).mono ?_);rintro e w' ⟨rfl,rfl⟩))
     | (at_builtin
        refine wpList_append_own _ rfl (.tmp 29) (.tmp 31) 64 rfl (w.heap.size+1) 102 i0 _ 3 32 Tryz.underlying64 hi hz0 hz1 hz2 rfl (by decide) _ _ _ rfl ((hown1.alloc _).alloc _) ⟨w1.heap.size+1,0,none⟩ 1 1 [.int .i64 (kd:Int),.string t,.int .i64 (k:Int)] rfl rfl (World.news_of_block (heap_alloc2_new _ _ _)) (by simp[Value.oneCell']) (by unfold maxLen;omega) (by omega) (by simp;omega) ?_
        intro v2 w2 hown2 hgr2 _
        have hb2:Blk w2 w1.heap.size 102 #[.int .i64 (kd:Int),.string t,.int .i64 (k:Int)]:=Blk.grown (heap_alloc2_old _ _ _) hgr2 (own_ne hown1 (Or.inr (Lr _)))
        have hct:=hb2.cell 1
        have hE2:Blk w2 w.heap.size 29 #[.int .i64 0,.int .i64 0]:=((hB1.out.alloc _).alloc _).grown hgr2 (own_ne hown1 (Or.inl (Nat.lt_succ_self _)))
        have hbel2:Below w.heap.size w w2:=(((hbel.trans (hb1.mono hbel.size)).alloc (Nat.le_of_lt hg1) _).alloc (by simp;omega) _).grown hgr2 (by simp;omega) (fun b hb=>Nat.le_of_lt (hown1.lt b hb).1)
        obtain⟨hR,hlt2,hle2⟩:=HS.out v2 w2 hown2 hbel2 hE2
        clear hown2 hgr2 hb2 hE2 hbel2 hown1))
    go_roundw
    case rel=>exact hR
    case measure=>simp[intOf];omega
   ·rw[tokRet_err he] at hcT
    obtain rfl:=HQ.out.symm.trans (scan_bad hs hlt HSK.out HX.out he)
    clear HQ
    generalize tokE (s.data.toList.drop k)=y at *
    have b1:((y:Int)==0)=false:=beqF (by omega)
    have b2:((y:Int) != 0)=true:=by rw[bne,b1];rfl
    have HC:=Hd (hcT wr wr.heap.size (Lr _) htr)
    clear hcT he htr
    go_wp2_with (go_at_call 216;((with_reducible refine (HC.out).mono ?_);rintro e w1 ⟨rfl,hb1⟩;have hg1:=(HB.out.on hb1 hgr).lt;obtain⟨hc0,hc1,hf0,hf1⟩:=(HB.out.on hb1 hgr).cells2))
    exact bodyPost_ret (v:=.tuple #[.slice none 0 0,.agg #[.int .i64 (y:Int),.int .i64 (k:Int)]]) (by simp[results,Tryz.results201,go_sem,hc0,hc1,hg1]) rfl
     ⟨_,rfl,World.ownsRow_nil _ _ _ _,((((hbel.trans (hb1.mono hbel.size)).setCell (Lr _) _).setCell (Lr _) _).alloc (by simp[World.setCell];omega) _)⟩
  ·obtain rfl:k=s.size:=by omega
   obtain rfl:=HQ.out.symm.trans (scan_good hs HX.out)
   obtain⟨hc0,hc1,hf0,hf1⟩:=HB.out.cells2
   go_wp2_with fail
   exact bodyPost_ret (v:=.tuple #[u4,.agg #[.int .i64 0,.int .i64 0]]) (by simp[results,Tryz.results201,go_sem,hc0,hc1]) rfl
    ⟨_,rfl,own_base (own_set (own_set hown (Nat.lt_succ_self _) _) (Nat.lt_succ_self _) _) (Nat.le_succ _),((hbel.setCell (Lr _) _).setCell (Lr _) _)⟩
end Go.Proofs.YtpgnlfdindmopaaGreatDoor
namespace Go.Proofs.YtpgnlfdindmopaaGreatDoor
open Go.RowKit (wrap64 intOf)
open Go Go.RowKit WM LX
def Toks (w:World)(B:Nat)(A:Option Addr)(ts:List Tk):Prop:=0 < ts.length→∃ g,A=some ⟨g,0,none⟩∧g < B∧∀ j u,(tksC ts)[j]?=some u→w.cell? ⟨g,j,none⟩=some u
theorem Toks.on {w w':World}{B:Nat}{A:Option Addr}{ts:List Tk}(h:Toks w B A ts)(hb:Below B w w'):Toks w' B A ts:=fun h0=>by
 obtain⟨g,hA,hg,hc⟩:=h h0
 exact⟨g,hA,hg,fun j u hu=>(hb.cell (p:=⟨g,j,none⟩) hg).trans (hc j u hu)⟩
theorem Toks.up {w:World}{B B':Nat}{A:Option Addr}{ts:List Tk}(h:Toks w B A ts)(hb:B≤B'):Toks w B' A ts:=fun h0=>by
 obtain⟨g,hA,hg,hc⟩:=h h0
 exact⟨g,hA,Ll hg hb,hc⟩
theorem tksC_get (ts:List Tk)(i:Nat)(t:Tk)(h:ts[i]?=some t):(tksC ts)[i * 3]?=some (.int .i64 (t.kind:Int))∧(tksC ts)[i * 3+1]?=some (.string ⟨t.text.toArray⟩)∧(tksC ts)[i * 3+2]?=some (.int .i64 (t.pos:Int)):=by
 induction ts generalizing i with
 | nil=>simp at h
 | cons a r ih =>
  have e:tksC (a :: r)=tkC a++tksC r:=rfl
  cases i with
  | zero =>
   obtain rfl:a=t:=by simpa using h
   exact⟨rfl,rfl,rfl⟩
  | succ i =>
   have:=ih i (by simpa using h)
   rw[e]
   have e1:∀ j,(tkC a++tksC r)[(i+1) * 3+j]?=(tksC r)[i * 3+j]?:=fun j=>by
    rw[List.getElem?_append_right (by simp[tkC];omega)]
    congr 1
    simp[tkC];omega
   exact⟨(e1 0).trans this.1,(e1 1).trans this.2.1,(e1 2).trans this.2.2⟩
theorem toks_own {w:World}{base:Nat}{v:Value}{ts:List Tk}(h:w.ownsRow base 102 3 v ts.length (tksC ts)):∃ A c,v=.slice A ts.length c∧Toks w w.heap.size A ts:=by
 by_cases h0:0 < ts.length
 ·obtain⟨g,cap,hv,_,hlt⟩:=h.form h0
  refine⟨_,cap,hv,fun _=>⟨g,rfl,hlt,fun j u hu=>?_⟩⟩
  have:=h.cells (g:=g) (by rw[hv];rfl) j u hu
  rwa [show (⟨g,0,none⟩:Addr).add j=⟨g,j,none⟩ by unfold Addr.add;split <;> simp_all] at this
 ·have hz:ts=[]:=List.eq_nil_of_length_eq_zero (by omega)
  subst hz
  rcases h.2 with ⟨rfl,_⟩ | ⟨g,cap,cur,hv,_⟩
  ·exact⟨none,0,rfl,fun h=>absurd h (by decide)⟩
  ·exact⟨_,cap,hv,fun h=>absurd h (by decide)⟩
set_option maxRecDepth 100000
end Go.Proofs.YtpgnlfdindmopaaGreatDoor
