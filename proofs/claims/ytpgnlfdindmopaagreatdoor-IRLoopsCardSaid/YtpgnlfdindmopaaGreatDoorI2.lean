/- Words and walks for the laws of the interpreter. -/
import Derived.Test.YtpgnlfdindmopaaGreatDoorI1
import Derived.Test.YtpgnlfdindmopaaGreatDoorM1
namespace Go.Proofs.YtpgnlfdindmopaaGreatDoor.IX
open Go Go.RowKit WM LX PX CX
def nmK (x:List UInt8):Bool :=
 let r:=parseN (nmA++x++nmZ)
 decide (r.2.1=0)&&(decide (r.1.arrays.length=1)&&decide ((r.1.arrays.getD 0 ([],0)).1=x))
theorem nmK_eq:zBx=nmK:=by funext x;unfold zBx nmK;rw[parseN_eq]
section
variable (nb:List UInt8→Bool)
def nmFG (x:List UInt8)(used:Bool):Bool:=if used=true then nb x else decide (x=[])
def nodeG:PE→Bool
 | .mk kd n nm op kids=>match exU kd op with
  | none=>false
  | some u=>(u.1||decide (n=0))&&(nmFG nb nm u.2.1&&(opFB op u.2.2.1&&decide ((kids.length:Int)=u.2.2.2)))
def exFG (e:PE)(used:Bool):Bool:=if used=true then allE (nodeG nb) e else zeroB e
def stmG:ST→Bool
 | .mk kd nm to n pos value args thn els=>match stU kd with
  | none=>false
  | some (un,ut,uz,ua,uv,ug,uh,ue)=>nmFG nb nm un&&(nmFG nb to ut&&(trFB n uz&&(exFG nb pos ua&&(exFG nb value uv&&((ug||decide (args.length=0))&&(args.all (allE (nodeG nb))&&((uh||decide (thn.length=0))&&(ue||decide (els.length=0)))))))))
def funG (f:FN):Bool:=nb f.name&&(f.params.all nb&&(f.locals.all nb&&(f.body.all (allS (stmG nb))&&allE (nodeG nb) f.value)))
def shpG (p:PG):Bool:=p.arrays.all (fun a=>nb a.1)&&p.funcs.all (funG nb)
def chkG (p:PG):Nat:=if limB p=true then 6 else if shpG nb p=false then 2 else if dupB p=true then 4 else if undB p=true then 3 else if ariB p=true then 5 else 0
end
theorem node_eq:nodeB=nodeG zBx:=by
 funext e
 cases e
 unfold nodeB nodeG nmFB nmFG
 rfl
theorem stm_eq:stmB=stmG zBx:=by
 funext s
 cases s
 unfold stmB stmG exFB exFG
 rw[node_eq,show nmFB=nmFG zBx from rfl]
 rfl
theorem shp_eq (p:PG):shpB p=shpG zBx p:=by
 unfold shpB shpG
 rw[show funB=funG zBx from by funext f;unfold funB funG;rw[node_eq,stm_eq]]
theorem chkK (p:PG):chkF p=chkG nmK p:=by
 rw[←nmK_eq]
 unfold chkF chkG
 rw[shp_eq]
def rparseN (l:List UInt8):PG × Nat × Nat :=
 let q:=scanN l
 if q.2.1=0 then
  let r:=rpgF q.1 (20 * q.1.length+60) ⟨0,false⟩
  if r.2.f=true then (⟨[],[]⟩,2,rOff q.1 l.length r.2.i) else (r.1,0,0)
 else (⟨[],[]⟩,q.2)
theorem zCe (l:List UInt8):rparseN l=zCg l:=by
 unfold rparseN zCg
 rw[scanN_eq]
abbrev ixT:List UInt8:=[97,114,114,97,121,32,97,32,50,59,32,102,117,110,99,32,102,40,41,32,123,32,119,104,105,108,101,32,40,49,41,32,123,32,111,117,116,32,55,59,32,125,32,114,101,116,117,114,110,32,48,59,32,125,32,102,117,110,99,32,103,40,110,41,32,123,32,97,91,110,93,32,61,32,53,59,32,114,101,116,117,114,110,32,97,91,110,93,32,47,32,40,110,32,45,32,49,41,59,32,125,32,102,117,110,99,32,104,40,110,41,32,123,32,110,32,61,32,103,40,110,41,59,32,111,117,116,32,110,59,32,114,101,116,117,114,110,32,110,32,43,32,49,59,32,125]
abbrev ixP:PG:=⟨[([97],2)],[⟨[102],[],[],[(.mk 4 [] [] 0 emE (numE 1) [] [(.mk 5 [] [] 0 emE (numE 7) [] [] [])] [])],(numE 0)⟩,⟨[103],[[110]],[],[(.mk 2 [97] [] 0 (varE [110]) (numE 5) [] [] [])],(opE 7 [(idxE [97] (varE [110])),(opE 5 [(varE [110]),(numE 1)])])⟩,⟨[104],[[110]],[],[(.mk 6 [110] [103] 0 emE emE [(varE [110])] [] []),(.mk 5 [] [] 0 emE (varE [110]) [] [] [])],(opE 4 [(varE [110]),(numE 1)])⟩]⟩
theorem ix_parse:zCg ixT=(ixP,0,0):=by rw[←zCe];kernel_rfl
theorem ix_chk:chkF ixP=0:=by rw[chkK];kernel_rfl
abbrev itT:List UInt8:=[102,117,110,99,32,102,40,110,44,32,107,41,32,118,97,114,32,105,32,123,32,105,32,61,32,107,59,32,119,104,105,108,101,32,40,105,32,60,32,110,32,43,32,107,41,32,123,32,111,117,116,32,105,59,32,105,32,61,32,105,32,43,32,49,59,32,125,32,105,32,61,32,103,40,105,41,59,32,114,101,116,117,114,110,32,105,59,32,125,32,102,117,110,99,32,103,40,110,41,32,123,32,114,101,116,117,114,110,32,110,32,42,32,50,59,32,125]
abbrev itP:PG:=⟨[],[⟨[102],[[110],[107]],[[105]],[(.mk 1 [105] [] 0 emE (varE [107]) [] [] []),(.mk 4 [] [] 0 emE (opE 17 [(varE [105]),(opE 4 [(varE [110]),(varE [107])])]) [] [(.mk 5 [] [] 0 emE (varE [105]) [] [] []),(.mk 1 [105] [] 0 emE (opE 4 [(varE [105]),(numE 1)]) [] [] [])] []),(.mk 6 [105] [103] 0 emE emE [(varE [105])] [] [])],(varE [105])⟩,⟨[103],[[110]],[],[],(opE 6 [(varE [110]),(numE 2)])⟩]⟩
theorem it_parse:zCg itT=(itP,0,0):=by rw[←zCe];kernel_rfl
theorem it_chk:chkF itP=0:=by rw[chkK];kernel_rfl
abbrev isT:List UInt8:=[97,114,114,97,121,32,97,32,51,59,32,102,117,110,99,32,102,40,120,44,32,121,44,32,122,41,32,118,97,114,32,105,44,32,106,44,32,116,32,123,32,97,91,48,93,32,61,32,120,59,32,97,91,49,93,32,61,32,121,59,32,97,91,50,93,32,61,32,122,59,32,119,104,105,108,101,32,40,105,32,60,32,51,41,32,123,32,106,32,61,32,48,59,32,119,104,105,108,101,32,40,106,32,60,32,50,41,32,123,32,105,102,32,40,97,91,106,93,32,62,32,97,91,106,32,43,32,49,93,41,32,123,32,116,32,61,32,97,91,106,93,59,32,97,91,106,93,32,61,32,97,91,106,32,43,32,49,93,59,32,97,91,106,32,43,32,49,93,32,61,32,116,59,32,125,32,106,32,61,32,106,32,43,32,49,59,32,125,32,105,32,61,32,105,32,43,32,49,59,32,125,32,111,117,116,32,97,91,48,93,59,32,111,117,116,32,97,91,49,93,59,32,111,117,116,32,97,91,50,93,59,32,114,101,116,117,114,110,32,48,59,32,125]
abbrev isP:PG:=⟨[([97],3)],[⟨[102],[[120],[121],[122]],[[105],[106],[116]],[(.mk 2 [97] [] 0 (numE 0) (varE [120]) [] [] []),(.mk 2 [97] [] 0 (numE 1) (varE [121]) [] [] []),(.mk 2 [97] [] 0 (numE 2) (varE [122]) [] [] []),(.mk 4 [] [] 0 emE (opE 17 [(varE [105]),(numE 3)]) [] [(.mk 1 [106] [] 0 emE (numE 0) [] [] []),(.mk 4 [] [] 0 emE (opE 17 [(varE [106]),(numE 2)]) [] [(.mk 3 [] [] 0 emE (opE 17 [(idxE [97] (opE 4 [(varE [106]),(numE 1)])),(idxE [97] (varE [106]))]) [] [(.mk 1 [116] [] 0 emE (idxE [97] (varE [106])) [] [] []),(.mk 2 [97] [] 0 (varE [106]) (idxE [97] (opE 4 [(varE [106]),(numE 1)])) [] [] []),(.mk 2 [97] [] 0 (opE 4 [(varE [106]),(numE 1)]) (varE [116]) [] [] [])] []),(.mk 1 [106] [] 0 emE (opE 4 [(varE [106]),(numE 1)]) [] [] [])] []),(.mk 1 [105] [] 0 emE (opE 4 [(varE [105]),(numE 1)]) [] [] [])] []),(.mk 5 [] [] 0 emE (idxE [97] (numE 0)) [] [] []),(.mk 5 [] [] 0 emE (idxE [97] (numE 1)) [] [] []),(.mk 5 [] [] 0 emE (idxE [97] (numE 2)) [] [] [])],(numE 0)⟩]⟩
theorem is_parse:zCg isT=(isP,0,0):=by rw[←zCe];kernel_rfl
theorem is_chk:chkF isP=0:=by rw[chkK];kernel_rfl
abbrev ilT:List UInt8:=[97,114,114,97,121,32,97,32,49,59,32,102,117,110,99,32,102,40,99,44,32,120,41,32,123,32,114,101,116,117,114,110,32,99,32,63,32,120,32,58,32,120,32,47,32,48,59,32,125,32,102,117,110,99,32,103,40,99,44,32,120,41,32,123,32,114,101,116,117,114,110,32,99,32,63,32,97,91,55,93,32,58,32,120,59,32,125,32,102,117,110,99,32,104,40,99,44,32,120,41,32,123,32,114,101,116,117,114,110,32,97,91,53,93,32,43,32,120,32,47,32,48,59,32,125,32,102,117,110,99,32,107,40,99,44,32,120,41,32,123,32,114,101,116,117,114,110,32,120,32,47,32,48,32,43,32,97,91,53,93,59,32,125]
abbrev ilP:PG:=⟨[([97],1)],[⟨[102],[[99],[120]],[],[],(conE (varE [99]) (varE [120]) (opE 7 [(varE [120]),(numE 0)]))⟩,⟨[103],[[99],[120]],[],[],(conE (varE [99]) (idxE [97] (numE 7)) (varE [120]))⟩,⟨[104],[[99],[120]],[],[],(opE 4 [(idxE [97] (numE 5)),(opE 7 [(varE [120]),(numE 0)])])⟩,⟨[107],[[99],[120]],[],[],(opE 4 [(opE 7 [(varE [120]),(numE 0)]),(idxE [97] (numE 5))])⟩]⟩
theorem il_parse:zCg ilT=(ilP,0,0):=by rw[←zCe];kernel_rfl
theorem il_chk:chkF ilP=0:=by rw[chkK];kernel_rfl
abbrev icT:List UInt8:=[102,117,110,99,32,102,40,110,44,32,115,41,32,118,97,114,32,114,32,123,32,111,117,116,32,110,59,32,105,102,32,40,110,32,62,32,48,41,32,123,32,114,32,61,32,102,40,110,32,45,32,49,44,32,115,41,59,32,114,32,61,32,114,32,43,32,115,59,32,125,32,114,101,116,117,114,110,32,114,59,32,125]
abbrev icP:PG:=⟨[],[⟨[102],[[110],[115]],[[114]],[(.mk 5 [] [] 0 emE (varE [110]) [] [] []),(.mk 3 [] [] 0 emE (opE 17 [(numE 0),(varE [110])]) [] [(.mk 6 [114] [102] 0 emE emE [(opE 5 [(varE [110]),(numE 1)]),(varE [115])] [] []),(.mk 1 [114] [] 0 emE (opE 4 [(varE [114]),(varE [115])]) [] [] [])] [])],(varE [114])⟩]⟩
theorem ic_parse:zCg icT=(icP,0,0):=by rw[←zCe];kernel_rfl
theorem ic_chk:chkF icP=0:=by rw[chkK];kernel_rfl
abbrev ipT:List UInt8:=[102,117,110,99,32,102,40,110,44,32,109,41,32,118,97,114,32,105,32,123,32,119,104,105,108,101,32,40,105,32,60,32,110,41,32,123,32,105,102,32,40,105,32,61,61,32,109,41,32,123,32,116,114,97,112,32,48,59,32,125,32,111,117,116,32,105,59,32,105,32,61,32,105,32,43,32,49,59,32,125,32,114,101,116,117,114,110,32,53,59,32,125]
abbrev ipP:PG:=⟨[],[⟨[102],[[110],[109]],[[105]],[(.mk 4 [] [] 0 emE (opE 17 [(varE [105]),(varE [110])]) [] [(.mk 3 [] [] 0 emE (opE 15 [(varE [105]),(varE [109])]) [] [(.mk 7 [] [] 0 emE emE [] [] [])] []),(.mk 5 [] [] 0 emE (varE [105]) [] [] []),(.mk 1 [105] [] 0 emE (opE 4 [(varE [105]),(numE 1)]) [] [] [])] [])],(numE 5)⟩]⟩
theorem ip_parse:zCg ipT=(ipP,0,0):=by rw[←zCe];kernel_rfl
theorem ip_chk:chkF ipP=0:=by rw[chkK];kernel_rfl
theorem ix_f:goF 30 ixP [102] [] 2=some ⟨3,0,[7,7],0⟩:=by kernel_rfl
theorem ix_g1:goF 30 ixP [103] [1] 0=some ⟨2,1,[],0⟩:=by kernel_rfl
theorem ix_g2:goF 30 ixP [103] [2] 0=some ⟨2,2,[],0⟩:=by kernel_rfl
theorem ix_h:goF 30 ixP [104] [0] 1=some ⟨1,0,[-5],-4⟩:=by kernel_rfl
end Go.Proofs.YtpgnlfdindmopaaGreatDoor.IX
namespace Go.Proofs.YtpgnlfdindmopaaGreatDoor.IX
open Go Go.RowKit WM LX PX CX
def tkR (n f:Nat)(k:Int):OC:=⟨if n+1≤f then 1 else 3,0,(List.range (min n f)).map fun i:Nat=>k+(i:Int),if n+1≤f then 2 * ((n:Int)+k) else 0⟩
def tkN (j:Nat):Nat:=j / 80
def tkF (j:Nat):Nat:=j % 80 / 5
def tkK (j:Nat):Nat:=j % 5
def eqO (a:Option OC)(b:OC):Bool:=match a with
 | none=>false
 | some a=>decide (a.kind=b.kind)&&(decide (a.code=b.code)&&(decide (a.out=b.out)&&decide (a.value=b.value)))
theorem eqO_of {a:Option OC}{b:OC}(h:eqO a b=true):a=some b:=by
 cases a with
 | none=>cases h
 | some a =>
  unfold eqO at h
  simp only[Bool.and_eq_true,decide_eq_true_eq] at h
  obtain⟨a1,a2,a3,a4⟩:=a
  obtain⟨b1,b2,b3,b4⟩:=b
  obtain⟨rfl,rfl,rfl,rfl⟩:=h
  rfl
set_option maxRecDepth 100000
theorem tk_all:((List.range 960).all fun j=>eqO (goF 60 itP [102] [(tkN j:Int),(tkK j:Int)] (tkF j)) (tkR (tkN j) (tkF j) (tkK j)))=true:=by kernel_rfl
theorem tk_at (n f k:Nat)(hn:n < 12)(hf:f < 16)(hk:k < 5):goF 60 itP [102] [(n:Int),(k:Int)] f=some (tkR n f k):=by
 have h:=List.all_eq_true.1 tk_all (80 * n+5 * f+k) (List.mem_range.2 (by omega))
 have h:=eqO_of h
 rwa [show tkN (80 * n+5 * f+k)=n by unfold tkN;omega,show tkF (80 * n+5 * f+k)=f by unfold tkF;omega,show tkK (80 * n+5 * f+k)=k by unfold tkK;omega] at h
def itV (s:Int):Nat→Int
 | 0=>0
 | n+1=>binF 4 (itV s n) s
def clR (n f:Nat)(s:Int):OC:=⟨if n≤f then 1 else 3,0,(List.range (min n f+1)).map fun i:Nat=>((n - i:Nat):Int),if n≤f then itV s n else 0⟩
theorem cl_all (s:Int):((List.range 480).map fun j=>goF 200 icP [102] [((j / 24:Nat):Int),s] (j % 24))=(List.range 480).map fun j=>some (clR (j / 24) (j % 24) s):=by kernel_rfl
theorem cl_at (n f:Nat)(s:Int)(hn:n < 20)(hf:f < 24):goF 200 icP [102] [(n:Int),s] f=some (clR n f s):=by
 have h:=(List.map_inj_left.1 (cl_all s)) (24 * n+f) (List.mem_range.2 (by omega))
 rwa [show (24 * n+f) / 24=n by omega,show (24 * n+f) % 24=f by omega] at h
end Go.Proofs.YtpgnlfdindmopaaGreatDoor.IX
