/- Words and walks for the laws of the interpreter. -/
import Derived.Test.YtpgnlfdindmopaaGreatDoorJ3
import Derived.Deep.RegionWith
import Derived.Deep.LoopGhost
import Derived.Test.YtpgnlfdindmopaaGreatDoorJ4
import Derived.Test.YtpgnlfdindmopaaGreatDoorJ5
import Derived.Deep.QuietTactic
import Derived.BigQuiet
import Derived.Test.YtpgnlfdindmopaaGreatDoorJ8
import Derived.Test.YtpgnlfdindmopaaGreatDoorCards
import Derived.Test.YtpgnlfdindmopaaGreatDoorTie
import Derived.OpenShut
import Derived.ChangeSlices
import Derived.Deep.DeepHandedRow
import Derived.Lib.SmallJoins
namespace Go.Proofs.YtpgnlfdindmopaaGreatDoor
open Go.RowKit (wrap64 intOf)
open Go Go.RowKit WM LX PX
set_option maxRecDepth 100000
set_option maxHeartbeats 4000000
def KD:Nat→PE→Prop
 | 0,.mk _ _ _ _ kids=>kids=[]
 | n+1,.mk _ _ _ _ kids=>kids.length≤1000∧∀ k∈kids,KD n k
theorem KD.few {n:Nat}{kind m:Int}{name:List UInt8}{op:Int}{kids:List PE}(h:KD n (.mk kind m name op kids)):kids.length≤1000:=by
 cases n with
 | zero=>rw[show kids=[] from h];decide
 | succ n=>exact h.1
theorem KD.kid {n:Nat}{kind m:Int}{name:List UInt8}{op:Int}{kids:List PE}(h:KD n (.mk kind m name op kids)){i:Nat}{e:PE}(he:kids[i]?=some e):∃ d,n=d+1∧KD d e:=by
 cases n with
 | zero=>rw[show kids=[] from h] at he;simp at he
 | succ n=>exact⟨n,rfl,h.2 e (List.mem_of_getElem? he)⟩
end Go.Proofs.YtpgnlfdindmopaaGreatDoor
namespace Go.Proofs.YtpgnlfdindmopaaGreatDoor
open Go.RowKit (wrap64 intOf)
open Go Go.RowKit WM LX PX
set_option maxRecDepth 100000
set_option maxHeartbeats 4000000
end Go.Proofs.YtpgnlfdindmopaaGreatDoor
namespace Go.Proofs.YtpgnlfdindmopaaGreatDoor
open Go.RowKit (wrap64 intOf)
open Go Go.RowKit WM LX PX
set_option maxRecDepth 100000
set_option maxHeartbeats 4000000
end Go.Proofs.YtpgnlfdindmopaaGreatDoor
namespace Go.Proofs.YtpgnlfdindmopaaGreatDoor
open Go Go.RowKit Go.ChangeShapes Go.WideShapes WM LX PX
theorem own:ownKnob Tryz.prog.godebug=none:=by kernel_rfl
theorem laidOut:laidOutB Tryz.prog=true:=by kernel_rfl
theorem gLong:Tryz.prog.globalNamed "fulling/lexer.longSymbols"=some 1:=by kernel_rfl
theorem gLongType:(Tryz.prog.globals[1]?).map (·.type)=some 283:=by kernel_rfl
theorem cellsLong:Tryz.prog.cellsOf 283=7:=by kernel_rfl
theorem cellsStr:Tryz.prog.cellsOf 9=1:=by kernel_rfl
theorem cellsInt:Tryz.prog.cellsOf 3=1:=by kernel_rfl
theorem cellsBool:Tryz.prog.cellsOf 4=1:=by kernel_rfl
theorem longData:(Rows.laid_fulling_lexer_longSymbols:DataW Unit)=FR.strData zB7:=by kernel_rfl
theorem gRes:Tryz.prog.globalNamed "fulling/parser.reservedWords"=some 2:=by kernel_rfl
theorem gResType:(Tryz.prog.globals[2]?).map (·.type)=some 294:=by kernel_rfl
theorem cellsRes:Tryz.prog.cellsOf 294=9:=by kernel_rfl
theorem resData:(Rows.laid_fulling_parser_reservedWords:DataW Unit)=FR.strData resW:=by kernel_rfl
theorem gPow:Tryz.prog.globalNamed "internal/strconv.uint64pow10"=some 0:=by kernel_rfl
theorem gPowType:(Tryz.prog.globals[0]?).map (·.type)=some 281:=by kernel_rfl
theorem cellsPow:Tryz.prog.cellsOf 281=20:=by kernel_rfl
theorem cellsU64:Tryz.prog.cellsOf 104=1:=by kernel_rfl
theorem powData:(Rows.laid_internal_strconv_uint64pow10:DataW Unit)=Lib.tabData .u64 Lib.pow10Tab:=by kernel_rfl
theorem gOps:Tryz.prog.globalNamed "fulling/parser.operators"=some 3:=by kernel_rfl
theorem gOpsType:(Tryz.prog.globals[3]?).map (·.type)=some 298:=by kernel_rfl
theorem cellsOps:Tryz.prog.cellsOf 298=68:=by kernel_rfl
theorem cellsOp:Tryz.prog.cellsOf 290=4:=by kernel_rfl
def opD {H:Type}(o:List UInt8 × Nat × Nat × Bool):DataW H:=.agg [.lit (.string o.1),.lit (.int .i64 (o.2.1:Int)),.lit (.int .i64 (o.2.2.1:Int)),.lit (.bool o.2.2.2)]
def opsD {H:Type}:DataW H:=.agg (opsT.map opD)
theorem opsData:(Rows.laid_fulling_parser_operators:DataW Unit)=opsD:=by kernel_rfl
theorem trod_bool' {H:Type}{enc:TypeId × Value→H}{P:Program}{w:World}{base:Nat}{sp:Nat→Bool}{held:Bool}{fuel:Nat}{t:TypeId}{cs:List Value}{b:Bool}{p:List MemPlace}(ht:P.underlying t=some .bool)
 (h:DataW.trod enc P w base sp held fuel t cs=some (.lit (.bool b),p)):cs=[.bool b]:=by
 cases fuel with
 | zero=>simp[DataW.trod] at h
 | succ fuel =>
  unfold DataW.trod at h
  rw[ht] at h
  split at h <;> simp_all
theorem list4 {α:Type}:∀ {l:List α},l.length=4→∃ a b c d,l=[a,b,c,d]
 | [a,b,c,d],_=>⟨a,b,c,d,rfl⟩
set_option maxRecDepth 100000 in
theorem op_cells {H:Type}{enc:TypeId × Value→H}{w:World}{base:Nat}{sp:Nat→Bool}{held:Bool}{fuel:Nat}{cs:List Value}{o:List UInt8 × Nat × Nat × Bool}{p:List MemPlace}
 (h:DataW.trod enc Tryz.prog w base sp held fuel 290 cs=some (opD o,p)):cs=opC o:=by
 obtain⟨y0,y1,y2,y3,n,hx,hl,h0,h1,h2,h3⟩:=Go.Joins.trod_struct4 Tryz.underlying290 h
 simp only[opD,Prod.mk.injEq,DataW.agg.injEq,List.cons.injEq,and_true] at hx
 obtain⟨⟨e0,e1,e2,e3⟩,_⟩:=hx
 rw[cellsOp] at hl
 obtain⟨s,c0,x0,_⟩:=DataW.trod_string Tryz.underlying9 h0
 obtain⟨a,c1,x1,_⟩:=DataW.trod_int Tryz.underlying3 h1
 obtain⟨b,c2,x2,_⟩:=DataW.trod_int Tryz.underlying3 h2
 obtain⟨z3,q3⟩:=y3
 obtain rfl:=e3
 have c3:=trod_bool' Tryz.underlying4 h3
 rw[x0] at e0
 rw[x1] at e1
 rw[x2] at e2
 simp only[cellsStr,cellsInt,cellsBool] at c0 c1 c2 c3
 obtain⟨v0,v1,v2,v3,rfl⟩:=list4 hl
 obtain rfl:v0=.string s:=by injection c0
 obtain rfl:v1=.int .i64 a:=by injection c1
 obtain rfl:v2=.int .i64 b:=by injection c2
 obtain rfl:v3=.bool o.2.2.2:=by injection c3
 injection e0 with e0
 injection e0 with e0
 injection e1 with e1
 injection e1 with _ e1
 injection e2 with e2
 injection e2 with _ e2
 unfold opC
 rw[e0,←e1,←e2]
theorem cells_of_ops {H:Type}{enc:TypeId × Value→H}{w:World}{base:Nat}{sp:Nat→Bool}{held:Bool}{fuel:Nat}{cs:List Value}{p:List MemPlace}
 (h:DataW.trod enc Tryz.prog w base sp held fuel 298 cs=some (opsD,p)):cs=opsT.flatMap opC:=by
 cases fuel with
 | zero=>simp[DataW.trod] at h
 | succ fuel =>
  simp only[DataW.trod,Tryz.underlying298,cellsOp,cellsOps] at h
  split at h
  ·rename_i hl
   obtain⟨xs,hm,hx⟩:=Option.map_eq_some_iff.1 h
   have hxs:xs.map (·.1)=opsT.map opD:=by
    have:=congrArg Prod.fst hx
    simpa[opsD] using this
   have hxl:xs.length=17:=by simpa using Lib.mapM_length hm
   rw[List.flatMap_def]
   have hsz:∀ c∈opsT.map opC,c.length=4:=fun c hc=>by
    obtain⟨o,_,rfl⟩:=List.mem_map.1 hc
    rfl
   have hfl:((opsT.map opC).flatten).length=68:=by rfl
   apply List.ext_getElem?
   intro k
   by_cases hk:k < 68
   ·have hi:k / 4 < 17:=by omega
    obtain⟨b,hb,hf⟩:=Lib.mapM_at hm (k / 4) (k / 4) (by simp[hi])
    have h2:(opsT.map opD)[k / 4]?=some b.1:=by rw[←hxs];simp[hb]
    have ho:opsT[k / 4]?=some (opsT.getD (k / 4) ([],0,0,false)):=by
     have:k / 4 < opsT.length:=hi
     rw[List.getD_eq_getElem?_getD,Ge this];rfl
    have h3:b.1=opD (opsT.getD (k / 4) ([],0,0,false)):=by
     rw[List.getElem?_map,ho] at h2
     simpa using h2.symm
    obtain⟨b1,b2⟩:=b
    obtain rfl:=h3
    have hc:=op_cells hf
    have hj:k % 4 < 4:=Nat.mod_lt _ (by decide)
    obtain⟨u,hu⟩:∃ u,(opC (opsT.getD (k / 4) ([],0,0,false)))[k % 4]?=some u:=⟨_,Ge (by show k % 4 < 4;exact hj)⟩
    have h4:=flat_at 4 (opsT.map opC) hsz (k / 4) (k % 4) u _ (by rw[List.getElem?_map,ho];rfl) hu
    rw[show k / 4 * 4+k % 4=k by omega] at h4
    rw[h4,←hu,←hc,List.getElem?_take,if_pos hj,List.getElem?_drop,show k / 4 * 4+k % 4=k by omega]
   ·rw[List.getElem?_eq_none (by omega),List.getElem?_eq_none (by omega)]
  ·cases h
theorem ops_of_vars {W:World}:∀ {l:List (String × DataW Unit)}{ps:List MemPlace},DataW.LaidVars Tryz.prog W l ps→("fulling/parser.operators",(opsD:DataW Unit))∈l→W.var? Tryz.prog "fulling/parser.operators"=some opsCells
 | [],_,_,h=>by cases h
 | (n',d') :: r,_,h,hm=>by
  obtain⟨g',t',cs,fuel,p,q,hg',ht',hvar,hd,hr,_⟩:=h
  rcases List.mem_cons.1 hm with h1 | h1
  ·obtain⟨rfl,rfl⟩:=Prod.mk.inj h1
   obtain rfl:=Oi (gOps.symm.trans hg')
   obtain rfl:=Oi (gOpsType.symm.trans ht')
   rw[hvar,opsCells_eq,←cells_of_ops hd,Array.toArray_toList]
  ·exact ops_of_vars hr h1
abbrev laidList:List (String × DataW Unit):=[("math/bits.deBruijn32tab",Rows.laid_math_bits_deBruijn32tab),("math/bits.deBruijn64tab",Rows.laid_math_bits_deBruijn64tab),("internal/strconv.uint64pow10",Rows.laid_internal_strconv_uint64pow10),("fulling/lexer.longSymbols",Rows.laid_fulling_lexer_longSymbols),("fulling/parser.operators",Rows.laid_fulling_parser_operators),("fulling/parser.reservedWords",Rows.laid_fulling_parser_reservedWords)]
theorem env_of {W:World}(h:laidMet Tryz.prog laidList W):PEnv W:=by
 obtain⟨ps,hv,_,_⟩:=h
 refine⟨?_,?_,?_,?_⟩
 ·refine FR.tabAt_of_var gLong (FR.strs_of_vars (ss:=zB7) gLong gLongType Tryz.underlying283 Tryz.underlying9 cellsStr cellsLong hv ?_)
  rw[←longData];simp
 ·refine FR.tabAt_of_var gRes (FR.strs_of_vars (ss:=resW) gRes gResType Tryz.underlying294 Tryz.underlying9 cellsStr cellsRes hv ?_)
  rw[←resData];simp
 ·refine FR.tabAt_of_var gOps (ops_of_vars hv ?_)
  rw[←opsData];simp
 ·refine Lib.tabBelow_of_tabIs (FR.tab_of_vars gPow gPowType Tryz.underlying281 Tryz.underlying104 cellsU64 cellsPow hv ?_)
  rw[←powData];simp
def litVal:DataW Unit→Value
 | .lit (.int k n)=>.int k n
 | .lit (.string s)=>.string ⟨s.toArray⟩
 | .lit (.bool b)=>.bool b
 | _=>.bool false
def flatCells:DataW Unit→List Value
 | .agg xs=>xs.flatMap fun
  | .agg ys=>ys.map litVal
  | d=>[litVal d]
 | _=>[]
def layAny (h:Array Obj)(g:Nat)(d:DataW Unit):Array Obj:=h.modify g fun
 | .cells _ t frozen=>.cells (flatCells d).toArray t frozen
 | o=>o
noncomputable def laidWorld (os:Os):World :=
 { World.holding Tryz.prog os ⟨#[],#[],[]⟩ with
  heap:=layAny (layAny (layAny (layAny (layAny (layAny (World.holding Tryz.prog os ⟨#[],#[],[]⟩).heap 1 Rows.laid_fulling_lexer_longSymbols) 2 Rows.laid_fulling_parser_reservedWords) 3 Rows.laid_fulling_parser_operators)
   0 Rows.laid_internal_strconv_uint64pow10) 4 Rows.laid_math_bits_deBruijn32tab) 5 Rows.laid_math_bits_deBruijn64tab }
theorem all_fit {ps:Array TypeId}(h:(ps.toList.all fun t=>Tryz.prog.readableRec t&&decide (t < Tryz.prog.types.size))=true) :
 ∀ t∈ps.toList,Tryz.prog.readableRec t=true∧t < Tryz.prog.types.size:=fun t ht=>by
 have:=List.all_eq_true.1 h t ht
 simpa using this
end Go.Proofs.YtpgnlfdindmopaaGreatDoor
