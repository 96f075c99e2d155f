/- Words and walks for the laws of the interpreter. -/
import Derived.Test.YtpgnlfdindmopaaGreatDoorI7
import Derived.Deep.RegionWith
namespace Go.Proofs.YtpgnlfdindmopaaGreatDoor
open Go.RowKit (wrap64 intOf)
open Go Go.RowKit WM LX PX CX IX
set_option maxRecDepth 100000
set_option maxHeartbeats 4000000
theorem fnOf_snoc (l:List FN)(f:FN)(x:List UInt8):fnOf (l++[f]) x=if f.name=x then some f else fnOf l x:=by
 unfold fnOf
 rw[List.foldl_append]
 rfl
theorem iniC_snoc (l:List (List UInt8 × Int))(a:List UInt8 × Int):iniC (l++[a])=upd (iniC l) a.1 (List.replicate a.2.toNat 0):=by
 unfold iniC
 rw[List.foldl_append]
 rfl
theorem made_ints (n:Nat):madeCells #[.int .i64 0] n=ints (List.replicate n 0):=by
 apply Array.ext'
 rw[toList_madeCells_one]
 unfold ints
 simp
def FnG (w:World)(ok:Nat→Prop)(fs:List FN)(g:List UInt8→Option Value):Prop:=∀ x,match fnOf fs x with
 | none=>g x=none
 | some f=>∃ cs,g x=some (.agg cs.toArray)∧RepF w ok f cs
theorem fnG_put {w:World}{ok:Nat→Prop}{fs:List FN}{g:List UInt8→Option Value}{f:FN}{cs:List Value}(h:FnG w ok fs g)(hf:RepF w ok f cs):FnG w ok (fs++[f]) (upd g f.name (some (.agg cs.toArray))):=fun x=>by
 rw[fnOf_snoc]
 unfold upd
 by_cases hx:f.name=x
 ·rw[if_pos hx]
  exact⟨cs,if_pos hx,hf⟩
 ·rw[if_neg hx]
  have:=h x
  cases hy:fnOf fs x with
  | none=>rw[hy] at this;exact (if_neg hx).trans this
  | some f' =>
   rw[hy] at this
   obtain⟨cs',e1,e2⟩:=this
   exact⟨cs',(if_neg hx).trans e1,e2⟩
def NrF (w:World)(ok:Nat→Prop)(fs:List FN)(len F:Nat)(W1:World)(k:Nat)(i:Value)(wr:World):Prop :=
 ∃ j:Nat,j+k=len∧i=.int .i64 (j:Int)∧Gr (fun i=>i=F) W1 wr∧∃ g,HMp F j g wr∧FnG w ok (fs.take j) g
structure ArG (B:Nat)(C:Cs)(G:List UInt8→Nat)(g:List UInt8→Option Value)(w:World):Prop where
 v:∀ x,∃ A cp,(g x).getD (.slice none 0 0)=.slice A (C x).length cp∧(0 < (C x).length→A=some ⟨G x,0,none⟩∧Blk w (G x) 2 (ints (C x)))
 b:∀ x,0 < (C x).length→B≤G x
 d:∀ x y,x≠y→0 < (C x).length→0 < (C y).length→G x≠G y
theorem arG_nil (B:Nat)(w:World):ArG B (iniC []) (fun _=>0) (fun _=>none) w :=
 ⟨fun _=>⟨none,0,rfl,fun h=>absurd h (Nat.lt_irrefl _)⟩,fun _ h=>absurd h (Nat.lt_irrefl _),fun _ _ _ h=>absurd h (Nat.lt_irrefl _)⟩
theorem arG_put {B Cm:Nat}{C:Cs}{G:List UInt8→Nat}{g:List UInt8→Option Value}{w w':World}(h:ArG B C G g w)(hg:Gr (fun i=>i=Cm) w w')(hCm:Cm < B){b:Nat}(hb:w.heap.size≤b)(hB:B≤w.heap.size)(x:List UInt8)(n:Nat)(hk:Blk w' b 2 (ints (List.replicate n 0))) :
 ArG B (upd C x (List.replicate n 0)) (upd G x b) (upd g x (some (.slice (some ⟨b,0,none⟩) n n))) w':=by
 have hlt:∀ y,0 < (C y).length→G y < w.heap.size:=fun y hy=>by
  obtain⟨A,cp,_,h2⟩:=h.v y
  exact (h2 hy).2.lt
 refine⟨fun y=>?_,fun y hy=>?_,fun y z hyz hy hz=>?_⟩
 ·unfold upd
  by_cases hxy:x=y
  ·simp only[if_pos hxy]
   exact⟨_,_,by rw[List.length_replicate];rfl,fun _=>⟨rfl,hk⟩⟩
  ·simp only[if_neg hxy]
   obtain⟨A,cp,e1,e2⟩:=h.v y
   exact⟨A,cp,e1,fun h0=>⟨(e2 h0).1,(hg.block _ (hlt y h0) (fun e=>by have:=h.b y h0;omega)).trans (e2 h0).2⟩⟩
 ·unfold upd at hy ⊢
  by_cases hxy:x=y
  ·simp only[if_pos hxy];omega
  ·simp only[if_neg hxy] at hy ⊢;exact h.b y hy
 ·unfold upd at hy hz ⊢
  by_cases hxy:x=y
  ·have hxz:¬ x=z:=fun e=>hyz (hxy ▸ e)
   simp only[if_pos hxy,if_neg hxz] at hz ⊢
   have:=hlt z hz
   omega
  ·by_cases hxz:x=z
   ·simp only[if_neg hxy,if_pos hxz] at hy ⊢
    have:=hlt y hy
    omega
   ·simp only[if_neg hxy,if_neg hxz] at hy hz ⊢
    exact h.d y z hyz hy hz
def NrA (ars:List (List UInt8 × Int))(len Cm B:Nat)(W2:World)(k:Nat)(i:Value)(wr:World):Prop :=
 ∃ j:Nat,j+k=len∧i=.int .i64 (j:Int)∧Gr (fun i=>i=Cm) W2 wr∧∃ g G,HMp Cm j g wr∧ArG B (iniC (ars.take j)) G g wr
def NwP (p:PG)(fuel:Nat)(ok:Nat→Prop)(w:World)(e:Ending)(w':World):Prop :=
 ∃ K:Cf,e=.returned (.pointer (some ⟨K.R,0,none⟩))∧CfOK K∧K.fs=p.funcs∧K.ok=ok∧K.b=w.heap.size∧Below w.heap.size w w'∧MSt K none ⟨fuel,iniC p.arrays,[],0⟩ w'
theorem new_run (p:PG)(fuel:Nat)(hfu:fuel≤1000)(va vf:Value)(w:World)(ok:Nat→Prop)(h1:RepL RepA 2 w ok p.arrays va)(h2:RepL RepF 9 w ok p.funcs vf)(hok:∀ g,ok g→g < w.heap.size)(hf:p.funcs.length≤1000)(ha:p.arrays.length≤1000)
 (hfn:∀ f∈p.funcs,f.name.length≤1000000000) (han:∀ a∈p.arrays,a.1.length≤1000000000∧0≤a.2∧a.2≤1000) :
 Calls Tryz.prog 24 #[.agg #[va,vf],.int .i64 (fuel:Int)] w (NwP p fuel ok w):=by
 obtain⟨A,c,rfl,hat⟩:=h1.at
 obtain⟨A',c',rfl,hat'⟩:=h2.at
 have hmm:=@run_makeMap Tryz.prog
 obtain⟨la,hla⟩:∃ n,p.arrays.length=n:=⟨_,rfl⟩
 obtain⟨lf,hlf⟩:∃ n,p.funcs.length=n:=⟨_,rfl⟩
 rw[hla] at ha ⊢
 rw[hlf] at hf ⊢
 obtain⟨W0,hW0⟩:∃ W0,((w.alloc (.cells #[.slice A la c,.slice A' lf c'] 26)).alloc (.map #[] 0)).alloc (.map #[] 0)=W0:=⟨_,rfl⟩
 obtain⟨W1,hW1⟩:∃ W1,W0.alloc (.cells #[.map (some (w.heap.size+1)),.map (some (w.heap.size+1+1)),.int .i64 (fuel:Int),.int .i64 0,.int .i64 0,.slice none 0 0,.int .i64 0] 84)=W1:=⟨_,rfl⟩
 have hb0:Below w.heap.size w W0:=by rw[←hW0];exact (((Below.refl _ _).alloc (Lr _) _).alloc (by simp) _).alloc (by simp;omega) _
 have hz0:W0.heap.size=w.heap.size+1+1+1:=by rw[←hW0];simp
 have hb1:Below w.heap.size w W1:=by rw[←hW1];exact hb0.alloc (by omega) _
 have hz1:W1.heap.size=w.heap.size+1+1+1+1:=by rw[←hW1];simp[hz0]
 have k0:Blk W1 w.heap.size 26 #[.slice A la c,.slice A' lf c']:=by rw[←hW1,←hW0];exact (((Blk.new _ _ _).alloc _).alloc _).alloc _
 have k3:Blk W1 (w.heap.size+1+1+1) 84 #[.map (some (w.heap.size+1)),.map (some (w.heap.size+1+1)),.int .i64 (fuel:Int),.int .i64 0,.int .i64 0,.slice none 0 0,.int .i64 0]:=by rw[←hW1];exact blk_at hz0 _ _
 have hmF:HMp (w.heap.size+1) 0 (fun _=>none) W1:=by
  have h0:=hmp_made (w.alloc (.cells #[.slice A la c,.slice A' lf c'] 26))
  rw[show (w.alloc (.cells #[.slice A la c,.slice A' lf c'] 26)).heap.size=w.heap.size+1 by simp] at h0
  rw[←hW1,←hW0]
  exact (h0.same (Below.heap_alloc _ _ _ (by simp))).same (Below.heap_alloc _ _ _ (by simp))
 have hmC:HMp (w.heap.size+1+1) 0 (fun _=>none) W1:=by
  have h0:=hmp_made ((w.alloc (.cells #[.slice A la c,.slice A' lf c'] 26)).alloc (.map #[] 0))
  rw[show ((w.alloc (.cells #[.slice A la c,.slice A' lf c'] 26)).alloc (.map #[] 0)).heap.size=w.heap.size+1+1 by simp] at h0
  rw[←hW1,←hW0]
  exact h0.same (Below.heap_alloc _ _ _ (by simp))
 have hW1':(((w.alloc (.cells #[.slice A la c,.slice A' lf c'] 26)).alloc (.map #[] 0)).alloc (.map #[] 0)).alloc (.cells #[.map (some (w.heap.size+1)),.map (some (w.heap.size+1+1)),.int .i64 (fuel:Int),.int .i64 0,.int .i64 0,.slice none 0 0,.int .i64 0] 84)=W1:=by rw[hW0];exact hW1
 have H:=Hd (Ai hat (Ai hat' (Ai hok (Ai hfn (Ai han (Ai hla hlf))))))
 have HW:=Hd (Ai hW1' (Ai hb1 (Ai hz1 (Ai k0 (Ai k3 (Ai hmF hmC))))))
 clear hat hat' hok hfn han hla hlf hW0 hW1 hW1' hb0 hz0 hb1 hz1 k0 k3 hmF hmC h1 h2
 go_enter Tryz.func24,Tryz.ntmps24
 go_wp2_with fail
 rw[HW.out.1]
 go_loopg [18] lf (fun k i wr=>NrF w ok p.funcs lf (w.heap.size+1) W1 k i wr)
 case atStart=>exact⟨0,Nat.zero_add _,rfl,Gr.refl _ _,_,HW.out.2.2.2.2.2.1,fun x=>rfl⟩
 case round =>
  obtain⟨j,hj,rfl,hgr,g,hm,hg⟩:=hrel
  obtain⟨_,hb1,hz1,k0,k3,hmF,hmC⟩:=HW.out
  obtain⟨hat,hat',hok,hfn,han,hla,hlf⟩:=H.out
  have hws:=hgr.size
  have k00:Blk wr w.heap.size 26 #[.slice A la c,.slice A' lf c']:=(hgr.block _ k0.lt (by omega)).trans k0
  have k33:Blk wr (w.heap.size+1+1+1) 84 #[.map (some (w.heap.size+1)),.map (some (w.heap.size+1+1)),.int .i64 (fuel:Int),.int .i64 0,.int .i64 0,.slice none 0 0,.int .i64 0]:=(hgr.block _ k3.lt (by omega)).trans k3
  by_cases hlt:j < lf
  ·obtain⟨f,hx⟩:∃ f,p.funcs[j]?=some f:=⟨_,Ge (by omega)⟩
   obtain⟨gb,cs,rfl,hgb,hrep,hcell⟩:=hat' j f hx
   have hgw:=hok gb hgb
   have hwk:wr.heap[gb]?=w.heap[gb]?:=(hgr.block gb (by omega) (by omega)).trans (hb1.block gb hgw)
   have hrep0:=hrep
   obtain⟨A1,c1,A2,c2,A3,c3,kd,nn,nm,op,A0,L0,c0,rfl,_⟩:=fun_of hrep
   obtain⟨l1,hl1⟩:∃ n,f.params.length=n:=⟨_,rfl⟩
   obtain⟨l2,hl2⟩:∃ n,f.locals.length=n:=⟨_,rfl⟩
   obtain⟨l3,hl3⟩:∃ n,f.body.length=n:=⟨_,rfl⟩
   obtain⟨sx,hsx⟩:∃ sx:ByteArray,(⟨f.name.toArray⟩:ByteArray)=sx:=⟨_,rfl⟩
   rw[hl1,hl2,hl3,hsx] at hcell hrep0
   have hc:=fun i u hu=>(Cb hwk).trans (hcell i u hu)
   have z0:wr.cell? ⟨gb,j * 9,none⟩=some (.string sx):=hc 0 _ rfl
   have z1:wr.cell? ⟨gb,j * 9+1,none⟩=some (.slice A1 l1 c1):=hc 1 _ rfl
   have z2:wr.cell? ⟨gb,j * 9+2,none⟩=some (.slice A2 l2 c2):=hc 2 _ rfl
   have z3:wr.cell? ⟨gb,j * 9+3,none⟩=some (.slice A3 l3 c3):=hc 3 _ rfl
   have z4:wr.cell? ⟨gb,j * 9+4,none⟩=some (.int .i64 kd):=hc 4 _ rfl
   have z5:wr.cell? ⟨gb,j * 9+5,none⟩=some (.int .i64 nn):=hc 5 _ rfl
   have z6:wr.cell? ⟨gb,j * 9+6,none⟩=some (.string ⟨nm.toArray⟩):=hc 6 _ rfl
   have z7:wr.cell? ⟨gb,j * 9+7,none⟩=some (.int .i64 op):=hc 7 _ rfl
   have z8:wr.cell? ⟨gb,j * 9+8,none⟩=some (.slice A0 L0 c0):=hc 8 _ rfl
   have y0:wr.cell? ⟨w.heap.size+1+1+1,0,none⟩=some (.map (some (w.heap.size+1))):=k33.cell 0
   have hgr2:gb < wr.heap.size:=by omega
   have hpr:=k33.lt
   have e1:(j:Int) < (lf:Int):=by omega
   obtain⟨wa,hwa⟩:∃ wa,wr.alloc (.cells #[.string sx,.slice A1 l1 c1,.slice A2 l2 c2,.slice A3 l3 c3,.int .i64 kd,.int .i64 nn,.string ⟨nm.toArray⟩,.int .i64 op,.slice A0 L0 c0] 38)=wa:=⟨_,rfl⟩
   have hba:Below wr.heap.size wr wa:=by rw[←hwa];exact (Below.refl _ _).alloc (Lr _) _
   obtain⟨w4,r1,r2,r3⟩:=(hm.same (w':=wa.drew) (hba.block _ hm.lt)).put mapF (by unfold maxLen;omega) f.name (hfn f (List.mem_of_getElem? hx)) (.agg #[.string sx,.slice A1 l1 c1,.slice A2 l2 c2,.slice A3 l3 c3,.int .i64 kd,.int .i64 nn,.string ⟨nm.toArray⟩,.int .i64 op,.slice A0 L0 c0])
   have hfin:NrF w ok p.funcs lf (w.heap.size+1) W1 (gk - 1) (.int .i64 ((j+1:Nat):Int)) w4:=by
    refine⟨j+1,by omega,rfl,gr_to hgr (gr_to (gr_below hba _) (zCc (⟨r3.os,r3.tape,r3.output,r3.size,r3.block⟩:wa.grownBy w4 (some (w.heap.size+1))))),_,r2,?_⟩
    rw[take_nx2 hx]
    exact fnG_put hg hrep0
   rw[hsx,←hwa] at r1
   have H4:=Hd hfin
   clear hat hat' hok hfn han hla hlf hx hgb hrep hrep0 hcell hc hwk hl1 hl2 hl3 hsx hm hg hgr hb1 k0 k3 hmF hmC k00 k33 hfin r2 r3 hba hwa
   go_wp2_with fail
   go_region_with fail
   all_goals
    go_wp2_with fail
    go_roundg (gk - 1)
    case measure=>omega
    case rel=>exact H4.out
  ·obtain rfl:j=lf:=by omega
   rw[List.take_of_length_le (by omega)] at hg
   have y1:wr.cell? ⟨w.heap.size,0,none⟩=some (.slice A la c):=k00.cell 0
   have hmC2:=hmC.same (w':=wr) (hgr.block _ hmC.lt (by omega))
   have hst2:NrA p.arrays la (w.heap.size+1+1) W1.heap.size wr la (.int .i64 0) wr:=⟨0,Nat.zero_add _,rfl,Gr.refl _ _,_,_,hmC2,arG_nil _ _⟩
   have HM:=Hd (Ai hst2 (Ai hm (Ai hg (Ai hgr (Ai k33 k00)))))
   have hwl:w.heap.size < wr.heap.size:=by omega
   clear hat hat' hok hfn han hla hlf hm hg hgr hb1 k0 k3 hmF hmC k00 k33 hmC2 hst2
   obtain⟨Wm,hWm⟩:∃ Wm:World,Wm=wr:=⟨_,rfl⟩
   subst hWm
   go_wp2_with fail
   go_loopg [33] la (fun k i wr2=>NrA p.arrays la (w.heap.size+1+1) W1.heap.size Wm k i wr2)
   case atStart=>exact HM.out.1
   case round =>
    obtain⟨j2,hj2,rfl,hgr2,g2,G2,hm2,hG⟩:=hrel
    obtain⟨_,hmF1,hgF,hgr,k33,k00⟩:=HM.out
    obtain⟨_,hb1,hz1,k0,k3,hmF,hmC⟩:=HW.out
    obtain⟨hat,hat',hok,hfn,han,hla,hlf⟩:=H.out
    have hws2:=hgr2.size
    have k34:Blk wr (w.heap.size+1+1+1) 84 #[.map (some (w.heap.size+1)),.map (some (w.heap.size+1+1)),.int .i64 (fuel:Int),.int .i64 0,.int .i64 0,.slice none 0 0,.int .i64 0]:=(hgr2.block _ k33.lt (by omega)).trans k33
    by_cases hlt2:j2 < la
    ·obtain⟨a,hx⟩:∃ a,p.arrays[j2]?=some a:=⟨_,Ge (by omega)⟩
     obtain⟨gb,cs,rfl,hgb,hrep,hcell⟩:=hat j2 a hx
     obtain⟨an,al⟩:=a
     obtain rfl:cs=[.string ⟨an.toArray⟩,.int .i64 al]:=hrep
     obtain⟨ha1,ha2,ha3⟩:=han _ (List.mem_of_getElem? hx)
     obtain⟨n,rfl⟩:∃ n:Nat,al=(n:Int):=⟨al.toNat,by dsimp only at ha2;omega⟩
     have hgw:=hok gb hgb
     have hwk:wr.heap[gb]?=w.heap[gb]?:=(hgr2.block gb (by omega) (by omega)).trans ((hgr.block gb (by omega) (by omega)).trans (hb1.block gb hgw))
     obtain⟨sx,hsx⟩:∃ sx:ByteArray,(⟨an.toArray⟩:ByteArray)=sx:=⟨_,rfl⟩
     rw[hsx] at hcell
     have hc:=fun i u hu=>(Cb hwk).trans (hcell i u hu)
     have z0:wr.cell? ⟨gb,j2 * 2,none⟩=some (.string sx):=hc 0 _ rfl
     have z1:wr.cell? ⟨gb,j2 * 2+1,none⟩=some (.int .i64 (n:Int)):=hc 1 _ rfl
     have y0:wr.cell? ⟨w.heap.size+1+1+1,1,none⟩=some (.map (some (w.heap.size+1+1))):=k34.cell 1
     have hgr3:gb < wr.heap.size:=by omega
     have hpr:=k34.lt
     have e1:(j2:Int) < (la:Int):=by omega
     have hn1:(n:Int)≤1000:=ha3
     obtain⟨i0,hi0,hz0,hs0,hby0⟩:=info_parts i64_info2
     obtain⟨wa,hwa⟩:∃ wa,wr.alloc (.cells #[.string sx,.int .i64 (n:Int)] 75)=wa:=⟨_,rfl⟩
     have hba:Below wr.heap.size wr wa:=by rw[←hwa];exact (Below.refl _ _).alloc (Lr _) _
     have hza:wa.heap.size=wr.heap.size+1:=by rw[←hwa];simp
     have hmk:=run_make (P:=Tryz.prog) wa.drew 41 2 i0 _ Tryz.underlying41 hi0 hz0 .i64 .i64 (n:Int) (n:Int) (by omega) (Int.le_refl _) (by rw[hby0];omega) (by omega)
     rw[hs0,Nat.mul_one,Int.toNat_natCast,show (Value.int IntKind.i64 0).cells=#[.int .i64 0] from rfl,made_ints] at hmk
     obtain⟨wb,hwb⟩:∃ wb,wa.drew.alloc (.cells (ints (List.replicate n 0)) 2)=wb:=⟨_,rfl⟩
     have hbb:Below wr.heap.size wr wb:=by rw[←hwb];exact (hba.drew).alloc (by show wr.heap.size≤wa.heap.size;omega) _
     have kb:Blk wb wa.heap.size 2 (ints (List.replicate n 0)):=by rw[←hwb];exact Blk.new wa.drew _ _
     obtain⟨w4,r1,r2,r3⟩:=(hm2.same (w':=wb) (hbb.block _ hm2.lt)).put mapC (by unfold maxLen;omega) an ha1 (.slice (some ⟨wa.heap.size,0,none⟩) n n)
     have hbl:=kb.lt
     have ka:Blk wa.drew wr.heap.size 75 #[.string sx,.int .i64 (n:Int)]:=by rw[←hwa];exact Blk.new wr _ _
     have kab:Blk wb wr.heap.size 75 #[.string sx,.int .i64 (n:Int)]:=by rw[←hwb];exact ka.alloc _
     have b0:wb.cell? ⟨wr.heap.size,0,none⟩=some (.string sx):=kab.cell 0
     have b1:wb.cell? ⟨wr.heap.size,1,none⟩=some (.int .i64 (n:Int)):=kab.cell 1
     have b2:wb.cell? ⟨w.heap.size+1+1+1,1,none⟩=some (.map (some (w.heap.size+1+1))):=(hbb.cell (p:=⟨w.heap.size+1+1+1,1,none⟩) hpr).trans y0
     have hgr4:Gr (fun i=>i=w.heap.size+1+1) wr w4:=gr_to (gr_below hbb _) (zCc r3)
     have hfin:NrA p.arrays la (w.heap.size+1+1) W1.heap.size Wm (gk - 1) (.int .i64 ((j2+1:Nat):Int)) w4:=by
      refine⟨j2+1,by omega,rfl,gr_to hgr2 hgr4,_,upd G2 an wa.heap.size,r2,?_⟩
      rw[take_nx2 hx,iniC_snoc]
      exact arG_put hG hgr4 (by omega) (b:=wa.heap.size) (by omega) (by omega) an n ((r3.block _ hbl (fun e=>by injection e with e;omega)).trans kb)
     rw[hwb,show wa.drew.heap.size=wr.heap.size+1 from hza,←hwa] at hmk
     rw[hsx,hza] at r1
     have H4:=Hd hfin
     clear hat hat' hok hfn han hla hlf hx hgb hcell hc hwk hsx hmF1 hgF hgr k33 k00 hb1 k0 k3 hmF hmC k34 hfin r2 r3 hba hbb kb hbl hgr4 hm2 hG hgr2 hi0 hz0 hs0 hby0 ha1 ha2 ha3 hwb hwa hza ka kab
     go_wp2_with fail
     go_region_with fail
     all_goals
      go_wp2_with fail
      go_roundg (gk - 1)
      case measure=>omega
      case rel=>exact H4.out
    ·obtain rfl:j2=la:=by omega
     rw[List.take_of_length_le (by omega)] at hG
     have hbK:Below w.heap.size w wr:=(hb1.trans (hgr.under (b:=w.heap.size) (fun i e=>by omega) (by omega))).trans (hgr2.under (fun i e=>by omega) (by omega))
     have a1:w.heap.size≤w.heap.size+1+1+1:=by omega
     have a2:w.heap.size≤w.heap.size+1:=by omega
     have a3:w.heap.size≤w.heap.size+1+1:=by omega
     have a4:w.heap.size+1+1+1≠w.heap.size+1:=by omega
     have a5:w.heap.size+1+1+1≠w.heap.size+1+1:=by omega
     have a6:∀ x,0 < (iniC p.arrays x).length→w.heap.size≤G2 x:=fun x hx=>by have:=hG.b x hx;omega
     have a7:∀ x,0 < (iniC p.arrays x).length→G2 x≠w.heap.size+1+1+1∧G2 x≠w.heap.size+1∧G2 x≠w.heap.size+1+1:=fun x hx=>by have:=hG.b x hx;omega
     have hfin:NwP p fuel ok w (.returned (.pointer (some ⟨w.heap.size+1+1+1,0,none⟩))) wr:=by
      refine⟨⟨w.heap.size+1+1+1,w.heap.size+1,w.heap.size+1+1,G2,fun x=>(iniC p.arrays x).length,p.funcs,w.heap.size,ok⟩,rfl,⟨a1,a2,a3,a6,a4,a5,a7,fun x y hxy h1 h2=>hG.d x y hxy h1 h2,hok⟩,rfl,rfl,rfl,hbK,?_⟩
      refine⟨⟨j,g,hmF1.same (hgr2.block _ hmF1.lt (by omega)),fun x=>?_⟩,⟨j2,g2,hm2,fun x=>?_⟩,⟨.slice none 0 0,k34,World.ownsRow_nil _ _ _ _,rfl⟩,hfu,Nat.zero_le _,fun i hi=>?_,fun i e=>by cases e⟩
      ·have:=hgF x
       cases hx:fnOf p.funcs x with
       | none=>rw[hx] at this;exact this
       | some f =>
        rw[hx] at this
        obtain⟨cs,e1,e2⟩:=this
        exact⟨cs,e1,keepsF.k e2 (fun _ h=>h) (fun i hi=>hbK.block i (hok i hi))⟩
      ·obtain⟨A,cp,e1,e2⟩:=hG.v x
       exact⟨rfl,A,cp,e1,e2⟩
      ·rcases hi with hi | hi | ⟨x,hx,hi⟩
       ·rw[hi];exact k34.lt
       ·cases hi
       ·obtain⟨A,cp,e1,e2⟩:=hG.v x
        rw[hi]
        exact (e2 hx).2.lt
     have HF:=Hd hfin
     clear hat hat' hok hfn han hla hlf hmF1 hgF hgr k33 k00 hb1 k0 k3 hmF hmC k34 hfin hm2 hG hgr2 hbK a1 a2 a3 a4 a5 a6 a7
     go_wp2_with fail
     go_ret
     exact HF.out
end Go.Proofs.YtpgnlfdindmopaaGreatDoor
