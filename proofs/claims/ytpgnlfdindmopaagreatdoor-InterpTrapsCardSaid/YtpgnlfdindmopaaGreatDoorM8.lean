/- Words and walks for the laws of the interpreter. -/
import Derived.Test.YtpgnlfdindmopaaGreatDoorJ2
import Derived.Deep.QuietTactic
import Derived.BigQuiet
import Derived.Test.YtpgnlfdindmopaaGreatDoorM7
namespace Go.Proofs.YtpgnlfdindmopaaGreatDoor
open Go.RowKit (wrap64 intOf)
open Go Go.RowKit WM LX
theorem prefix_test (s p:ByteArray):((s.extract 0 p.size).toList==p.toList)=p.data.toList.isPrefixOf s.data.toList:=by
 rw[Lib.toList_data,Lib.toList_data,Lib.extract_data,List.drop_zero,Nat.sub_zero,Bool.eq_iff_iff,beq_iff_eq,List.isPrefixOf_iff_prefix,List.prefix_iff_eq_take]
 rw[show p.data.toList.length=p.size from rfl]
 exact⟨fun h=>h.symm,fun h=>h.symm⟩
theorem prefix_short (s p:ByteArray)(h:s.size < p.size):p.data.toList.isPrefixOf s.data.toList=false:=by
 apply Classical.byContradiction;intro hn
 have:p.data.toList.isPrefixOf s.data.toList=true:=by simpa using hn
 have:=(List.isPrefixOf_iff_prefix.1 this).length_le
 rw[zAh,zAh] at this;omega
theorem longCell (k:Nat)(hk:k < 7):∃ p:ByteArray,zBk[k]?=some (.string p)∧p.data.toList=zB7.getD k []:=by
 have hc:k=0∨k=1∨k=2∨k=3∨k=4∨k=5∨k=6:=by omega
 rcases hc with rfl | rfl | rfl | rfl | rfl | rfl | rfl
 all_goals exact⟨_,rfl,rfl⟩
def NoShort (c:UInt8)(m:Nat):Prop:=∀ i,i < m→(c==zBy.getD i 0)=false
theorem noShort_succ {c:UInt8}{m:Nat}(h:NoShort c m)(hm:(c==zBy.getD m 0)=false):NoShort c (m+1):=fun i hi=>by
 by_cases e:i=m
 ·subst e;exact hm
 ·exact h i (by omega)
theorem noShort_all {c:UInt8}(h:NoShort c 23):zBy.contains c=false:=by
 apply Classical.byContradiction;intro hn
 have hc:zBy.contains c=true:=by simpa using hn
 rw[List.contains_iff_mem] at hc
 obtain⟨i,hi,he⟩:=List.mem_iff_getElem.1 hc
 have:=h i hi
 rw[List.getD_eq_getElem?_getD,Ge hi] at this
 rw[←he] at this
 simp at this
theorem short_mem {c:UInt8}{m:Nat}(hm:m < 23)(h:(c==zBy.getD m 0)=true):zBy.contains c=true:=by
 rw[List.contains_iff_mem]
 have hi:m < zBy.length:=hm
 rw[List.getD_eq_getElem?_getD,Ge hi,beq_iff_eq] at h
 rw[h]
 exact List.getElem_mem hi
theorem short_byte (c:UInt8)(m:Nat)(hm:m < 23):(((c.toNat:Int))==(((⟨#[43,45,42,47,37,38,124,94,126,33,60,62,61,63,58,59,44,40,41,123,125,91,93]⟩:ByteArray)[m]'hm).toNat:Int))=(c==zBy.getD m 0):=by
 have e:(⟨#[43,45,42,47,37,38,124,94,126,33,60,62,61,63,58,59,44,40,41,123,125,91,93]⟩:ByteArray)[m]'hm=zBy.getD m 0:=by
  have hi:m < zBy.length:=hm
  rw[List.getD_eq_getElem?_getD,Ge hi];rfl
 rw[e,Bool.eq_iff_iff,beq_iff_eq,beq_iff_eq]
 exact⟨fun h=>UInt8.toNat_inj.1 (by omega),fun h=>by rw[h]⟩
set_option maxRecDepth 100000
theorem rsymbol_any (s:ByteArray)(h0:0 < s.size)(hs:s.size≤9223372036854775807)(w:World) :
 Calls Tryz.prog 38 #[.string s] w (RetB (.string ⟨(s.data.toList.take (zBe s.data.toList)).toArray⟩) w.heap.size w):=by
 obtain⟨T,hT⟩:∃ T:List UInt8,s.data.toList.take (zBe s.data.toList)=T:=⟨_,rfl⟩
 rw[hT]
 have HT:=Hd hT
 clear hT
 go_enter Tryz.func38,Tryz.ntmps38
 go_wp2_with fail
 go_loopw [4] (fun i wr=>∃ j:Nat,j≤7∧NoLong s.data.toList j∧i=.int .i64 j∧Below w.heap.size w wr∧Blk wr w.heap.size 9 zBk) (fun i _=>7 - (intOf i).toNat)
 case atStart=>exact⟨0,Nat.zero_le _,fun i hi=>absurd hi (by omega),rfl,(Below.refl _ _).alloc (Lr _) _,Blk.new _ _ _⟩
 case round =>
  obtain⟨j,hj,hd,rfl,hbel,hblk⟩:=hrel
  have HD:=Hd hd
  have HB:=Hd hblk
  clear hd hblk
  by_cases hlt:j < 7
  ·obtain⟨p,hcp,hp⟩:=longCell j hlt
   have hc:=(HB.out.cell j).trans hcp
   have hps:p.size=(zB7.getD j []).length:=by rw[←hp];rfl
   obtain⟨hs1,hs2⟩:=longs_size j hlt
   rw[←hps] at hs1 hs2
   have HP:=Hd hp
   clear hcp hps hp
   by_cases hsz:p.size≤s.size
   ·obtain⟨b,hb⟩:∃ b,((s.extract 0 p.size).toList==p.toList)=b:=⟨_,rfl⟩
    have hpre:=prefix_test s p
    rw[hb] at hpre
    have HPR:=Hd hpre
    clear hpre
    cases b
    ·go_wp2_with fail
     go_quiet (fail)
     go_wp2_with fail
     go_roundw
     case rel=>exact⟨j+1,by omega,noLong_succ HD.out (by rw[←HP.out];exact HPR.out.symm),by go_num,below_drewN hbel _,HB.out.drewN _⟩
     case measure=>simp[intOf];omega
    ·have e:=long_first hlt HD.out (by rw[←HP.out];exact HPR.out.symm)
     have e2:zBe s.data.toList=p.size:=by
      unfold zBe
      rw[e,←HP.out,if_neg (by rw[zAh];omega)];rfl
     have e3:p=⟨T.toArray⟩:=by
      apply ByteArray.ext
      apply Array.toList_inj.1
      have h1:=List.prefix_iff_eq_take.1 (List.isPrefixOf_iff_prefix.1 HPR.out.symm)
      rw[zAh] at h1
      rw[←HT.out,e2,←h1]
     have H3:=Hd e3
     clear e e2 e3
     go_wp2_with fail
     go_quiet (fail)
     go_wp2_with fail
     go_ret
     exact retB (by rw[H3.out];rfl) (below_drewN hbel _)
   ·have hpre:=prefix_short s p (by omega)
    have hd1:decide ((p.size:Int)≤(s.size:Int))=false:=decide_eq_false (by omega)
    have HPR:=Hd hpre
    clear hpre
    go_wp2_with fail
    go_quiet (fail)
    go_wp2_with fail
    go_roundw
    case rel=>exact⟨j+1,by omega,noLong_succ HD.out (by rw[←HP.out];exact HPR.out),by go_num,below_drewN hbel _,HB.out.drewN _⟩
    case measure=>simp[intOf];omega
  ·obtain rfl:j=7:=by omega
   have hsn:=sym_none HD.out
   have hh:=head_at s 0 h0
   rw[List.drop_zero] at hh
   rw[hh] at hsn
   have HS:=Hd hsn
   clear hsn hh
   have a1:(0:Int) < (s.size:Int):=by omega
   go_wp2_with fail
   go_loopw [6] (fun i wq=>∃ m:Nat,m≤23∧NoShort s[0] m∧i=.int .i64 m∧Below w.heap.size w wq) (fun i _=>23 - (intOf i).toNat)
   case atStart=>exact⟨0,Nat.zero_le _,fun i hi=>absurd hi (by omega),rfl,hbel⟩
   case round =>
    obtain⟨m,hm,hns,rfl,hbq⟩:=hrel
    have HN:=Hd hns
    clear hns
    by_cases hm2:m < 23
    ·have hsb:=short_byte s[0] m hm2
     obtain⟨b,hb⟩:∃ b,(s[0]==zBy.getD m 0)=b:=⟨_,rfl⟩
     rw[hb] at hsb
     have HBB:=Hd hb
     clear hb
     cases b
     ·go_wp2_with fail
      go_quiet (fail)
      go_wp2_with fail
      go_roundw
      case rel=>exact⟨m+1,by omega,noShort_succ HN.out HBB.out,by go_num,below_drewN hbq _⟩
      case measure=>simp[intOf];omega
     ·go_wp2_with fail
      go_quiet (fail)
      go_wp2_with fail
      go_ret
      refine retB ?_ (below_drewN hbq _)
      have e:=HS.out
      rw[short_mem hm2 HBB.out,if_pos rfl] at e
      have e2:=HT.out
      rw[e] at e2
      have e3:=text_eq s 0 1
      rw[List.drop_zero,e2] at e3
      exact congrArg Value.string e3
    ·obtain rfl:m=23:=by omega
     go_wp2_with fail
     go_ret
     refine retB ?_ hbq
     have e:=HS.out
     rw[noShort_all HN.out,if_neg (by decide)] at e
     have e2:=HT.out
     rw[e,List.take_zero] at e2
     rw[←e2];rfl
end Go.Proofs.YtpgnlfdindmopaaGreatDoor
namespace Go.Proofs.YtpgnlfdindmopaaGreatDoor
open Go.RowKit (wrap64 intOf)
open Go Go.RowKit WM LX
def RScanR (s:ByteArray)(w0:World)(v i:Value)(wr:World):Prop :=
 ∃ (k:Nat) (ts:List Tk),k≤s.size∧i=.int .i64 k∧lx s.data.toList 0=prep ts (lx (s.data.toList.drop k) k)∧ts.length≤k ∧
  wr.ownsRow (w0.heap.size+1) 102 3 v ts.length (tksC ts)∧Below w0.heap.size w0 wr∧Blk wr w0.heap.size 29 #[.int .i64 0,.int .i64 0]
theorem tok_skip {s:ByteArray}{k:Nat}(hk:k < s.size)(h:sepB s[k]=false)(h2:s[k].toNat≠35):zAb false (s.data.toList.drop k)=0:=by
 rw[zAy s k hk];exact skip_zero _ h h2
theorem rScan_sep {s:ByteArray}{w0 wr:World}{v:Value}{k:Nat}{ts:List Tk}(hk:k < s.size)(hx:lx s.data.toList 0=prep ts (lx (s.data.toList.drop k) k))(hts:ts.length≤k)
 (hown:wr.ownsRow (w0.heap.size+1) 102 3 v ts.length (tksC ts)) (hb:Below w0.heap.size w0 wr) (hblk:Blk wr w0.heap.size 29 #[.int .i64 0,.int .i64 0])
 (h:sepB s[k]=true):RScanR s w0 v (.int .i64 ((k:Int)+1)) wr :=
 ⟨k+1,ts,hk,rfl,by rw[hx,zAy s k hk,lx_sep _ _ h],by omega,hown,hb,hblk⟩
theorem rScan_hash {s:ByteArray}{w0 wr:World}{v:Value}{k:Nat}{ts:List Tk}(hk:k < s.size)(hx:lx s.data.toList 0=prep ts (lx (s.data.toList.drop k) k))(hts:ts.length≤k)
 (hown:wr.ownsRow (w0.heap.size+1) 102 3 v ts.length (tksC ts)) (hb:Below w0.heap.size w0 wr) (hblk:Blk wr w0.heap.size 29 #[.int .i64 0,.int .i64 0])
 (h:s[k].toNat=35):RScanR s w0 v (.int .i64 ((k+eol (s.data.toList.drop k):Nat):Int)) wr:=by
 obtain⟨g1,g2⟩:=eol_hash hk h
 refine⟨k+eol (s.data.toList.drop k),ts,g2,rfl,?_,by omega,hown,hb,hblk⟩
 rw[←List.drop_drop]
 rw[zAy s k hk] at hx ⊢
 rw[hx,lx_hash _ _ h]
theorem rScan_tok {s t:ByteArray}{w0 w2:World}{v':Value}{k kd:Nat}{ts:List Tk}(hk:k < s.size)(hsk:zAb false (s.data.toList.drop k)=0)(hx:lx s.data.toList 0=prep ts (lx (s.data.toList.drop k) k))(hts:ts.length≤k)
 (he:tokE (s.data.toList.drop k)=0) (hkd:tokK (s.data.toList.drop k)=kd) (ht:t.data.toList=(s.data.toList.drop k).take (tokN (s.data.toList.drop k)))
 (hown:w2.ownsRow (w0.heap.size+1) 102 3 v' (ts.length+1) (tksC ts++[.int .i64 (kd:Int),.string t,.int .i64 (k:Int)]))
 (hb:Below w0.heap.size w0 w2) (hblk:Blk w2 w0.heap.size 29 #[.int .i64 0,.int .i64 0]):RScanR s w0 v' (.int .i64 ((k:Int)+(t.size:Int))) w2∧1≤t.size∧k+t.size≤s.size:=by
 have hne:=drop_ne s k hk
 have h1:=zCi hne he
 have h2:=tokN_le hne
 have hz:t.size=tokN (s.data.toList.drop k):=by rw[←zAh,ht,List.length_take];omega
 rw[zCd] at h2
 have htt:t=⟨((s.data.toList.drop k).take (tokN (s.data.toList.drop k))).toArray⟩:=by
  apply ByteArray.ext
  apply Array.toList_inj.1
  rw[ht]
 refine⟨⟨k+t.size,ts++[⟨kd,(s.data.toList.drop k).take (tokN (s.data.toList.drop k)),k⟩],by omega,by rw[Int.natCast_add],?_,?_,?_,hb,hblk⟩,by omega,by omega⟩
 ·rw[hx,prep_tok hsk hne he,List.drop_drop,hkd,hz]
 ·rw[List.length_append];simp;omega
 ·rw[tksC_snoc,List.length_append]
  rw[htt] at hown
  exact hown
def EAt (s:ByteArray)(E j:Nat):Prop:=j+eol (s.data.toList.drop j)=E
theorem eat_step {s:ByteArray}{E j:Nat}(h:EAt s E j)(hj:j < s.size)(hw:s[j].toNat≠10):EAt s E (j+1):=by
 unfold EAt at *;rw[zAy s j hj,eol_cons _ hw] at h;omega
theorem eat_stop {s:ByteArray}{E j:Nat}(h:EAt s E j)(hj:j < s.size)(hw:s[j].toNat=10):E=j:=by
 unfold EAt at *;rw[zAy s j hj,eol_nl _ hw] at h;omega
theorem eat_end {s:ByteArray}{E:Nat}(h:EAt s E s.size):E=s.size:=by
 unfold EAt at *;rw[drop_end] at h;simp[eol] at h;omega
theorem wat_cases {s:ByteArray}{E j:Nat}(hj:j≤s.size)(h:WAt s E j) :
 (∃ hj2:j < s.size,(letB s[j]=true∧WAt s E (j+1))∨(letB s[j]=false∧digB s[j]=true∧WAt s E (j+1)))∨(∃ hj2:j < s.size,letB s[j]=false∧digB s[j]=false∧E=j)∨(E=j∧¬ j < s.size):=by
 by_cases hlt:j < s.size
 ·by_cases hw:zBt s[j]=true
  ·have h2:=wat_step h hlt hw
   by_cases hl:letB s[j]=true
   ·exact Or.inl ⟨hlt,Or.inl ⟨hl,h2⟩⟩
   ·have hl:letB s[j]=false:=by simpa using hl
    have hd:digB s[j]=true:=by unfold zBt at hw;rw[hl] at hw;simpa using hw
    exact Or.inl ⟨hlt,Or.inr ⟨hl,hd,h2⟩⟩
  ·have hw:zBt s[j]=false:=by simpa using hw
   have hw2:=hw
   unfold zBt at hw2
   rw[Bool.or_eq_false_iff] at hw2
   exact Or.inr (Or.inl ⟨hlt,hw2.1,hw2.2,wat_stop h hlt hw⟩)
 ·obtain rfl:j=s.size:=by omega
  exact Or.inr (Or.inr ⟨wat_end h,Nat.lt_irrefl _⟩)
theorem rScan_start (s:ByteArray)(w:World)(o:Array Value)(ho:o=#[.int .i64 0,.int .i64 0]):RScanR s w (.slice none 0 0) (.int .i64 0) (w.alloc (.cells o 29)):=by
 subst ho
 refine⟨0,[],Nat.zero_le _,rfl,?_,Lr _,World.ownsRow_nil _ _ _ _,(Below.refl _ _).alloc (Lr _) _,Blk.new _ _ _⟩
 rw[prep_nil,List.drop_zero]
theorem rscan_long (s:ByteArray)(hs:20000 < s.size)(w:World):Calls Tryz.prog 16 #[.string s] w (ScanP (zBl s.data.toList) w):=by
 have hq:zBl s.data.toList=([],6,20000):=by unfold zBl;rw[if_pos (by rw[zAh];exact hs)]
 rw[hq]
 clear hq
 go_enter Tryz.func16,Tryz.ntmps16
 go_wp2_with fail
 exact bodyPost_ret (v:=.tuple #[.slice none 0 0,.agg #[.int .i64 6,.int .i64 20000]]) (by simp[results,Tryz.results16,go_sem]) rfl
  ⟨_,rfl,World.ownsRow_nil _ _ _ _,(Below.refl _ _).alloc (Lr _) _⟩
end Go.Proofs.YtpgnlfdindmopaaGreatDoor
namespace Go.Proofs.YtpgnlfdindmopaaGreatDoor
open Go.RowKit (wrap64 intOf)
open Go Go.RowKit WM LX
set_option maxRecDepth 100000
set_option maxHeartbeats 4000000 in
theorem rscan_short (s:ByteArray)(hs:s.size≤20000)(w:World):Calls Tryz.prog 16 #[.string s] w (ScanP (zBl s.data.toList) w):=by
 obtain⟨q,hq0⟩:∃ q,zBl s.data.toList=q:=⟨_,rfl⟩
 rw[hq0]
 have HQ:=Hd hq0
 clear hq0
 obtain⟨i0,hi,hz0,hz1,hz2⟩:=info_parts tokInfo
 have hs2:s.size≤9223372036854775807:=by omega
 have hdec:decide ((20000:Int) < (s.size:Int))=false:=decide_eq_false (by omega)
 go_enter Tryz.func16,Tryz.ntmps16
 go_wp2_with fail
 go_loopw [4,5] (fun v i wr=>RScanR s w v i wr) (fun _ i _=>s.size - (intOf i).toNat)
 case atStart=>exact rScan_start s w _ rfl
 case round =>
  obtain⟨k,ts,hk,rfl,hx,hts,hown,hbel,hblk⟩:=hrel
  have HX:=Hd hx
  have HB:=Hd hblk
  clear hx hblk
  have hgr:=HB.out.lt
  by_cases hlt:k < s.size
  ·rcases sep_cases s[k] with ⟨h,hw⟩ | ⟨⟨h1,h2,h3,h4⟩,hw⟩
   ·have H:=rScan_sep hlt HX.out hts hown hbel HB.out hw
    clear hw hown hbel
    rcases h with h | h | h | h
    all_goals
     have b1:=beqT h
     try have b2:((s[k].toNat:Int)==32)=false:=beqF (by omega)
     try have b3:((s[k].toNat:Int)==9)=false:=beqF (by omega)
     try have b4:((s[k].toNat:Int)==10)=false:=beqF (by omega)
     clear h
     go_wp2_with fail
     go_roundw
     case rel=>exact H
     case measure=>simp[intOf];omega
   ·have b1:=beqF h1
    have b2:=beqF h2
    have b3:=beqF h3
    have b4:=beqF h4
    clear h1 h2 h3 h4
    by_cases h5:s[k].toNat=35
    ·have b5:((s[k].toNat:Int)==35)=true:=beqT (by omega)
     have H:=rScan_hash hlt HX.out hts hown hbel HB.out h5
     obtain⟨g1,g2⟩:=eol_hash hlt h5
     have hE:EAt s (k+eol (s.data.toList.drop k)) k:=rfl
     have g3:k < k+eol (s.data.toList.drop k):=by omega
     clear g1
     generalize k+eol (s.data.toList.drop k)=E at H g2 hE g3
     clear h5 hw hown hbel
     obtain⟨wo,rfl⟩:∃ wo:World,wo=wr:=⟨_,rfl⟩
     go_wp2_with fail
     go_loop [5] (fun i=>∃ j:Nat,k≤j∧j≤s.size∧EAt s E j∧i=.int .i64 j) (fun i=>s.size - (intOf i).toNat)
     case atStart=>exact⟨k,Lr _,hk,hE,rfl⟩
     case round =>
      obtain⟨j,hkj,hj,hej,rfl⟩:=hrel
      by_cases hlt2:j < s.size
      ·by_cases h6:s[j].toNat=10
       ·have b6:((s[j].toNat:Int)==10)=true:=beqT (by omega)
        have b7:((s[j].toNat:Int) != 10)=false:=by rw[bne,b6];rfl
        obtain rfl:=eat_stop hej hlt2 h6
        clear h6
        go_wp2_with fail
        go_roundw
        case rel=>exact H
        case measure=>simp[intOf];omega
       ·have b6:((s[j].toNat:Int)==10)=false:=beqF (by omega)
        have b7:((s[j].toNat:Int) != 10)=true:=by rw[bne,b6];rfl
        have hst:=eat_step hej hlt2 h6
        clear h6
        go_wp2_with fail
        go_round
        case rel=>exact⟨j+1,by omega,by omega,hst,by go_num⟩
        case measure=>simp[intOf];omega
      ·obtain rfl:j=s.size:=by omega
       obtain rfl:=eat_end hej
       go_wp2_with fail
       go_roundw
       case rel=>exact H
       case measure=>simp[intOf];omega
    ·have b5:((s[k].toNat:Int)==35)=false:=beqF (by omega)
     have hsk:=tok_skip hlt hw h5
     clear h5 hw
     by_cases hd:digB s[k]=true
     ·obtain⟨e1,e2,e3⟩:=tok_dig hlt hd
      have hl:letB s[k]=false:=by
       rcases byte_cases s[k] with ⟨_,_,_,h'⟩ | ⟨_,_,_,h'⟩ | ⟨_,_,h'⟩ | ⟨_,_,h',_⟩ | ⟨_,h',_⟩
       ·rw[hd] at h';cases h'
       ·rw[hd] at h';cases h'
       ·rw[hd] at h';cases h'
       ·exact h'
       ·exact h'
      obtain⟨g1,g2⟩:=wlen_at hlt (word_dig hd)
      have hW:WAt s (k+wlen (s.data.toList.drop k)) k:=rfl
      obtain⟨E,hE⟩:∃ E,k+wlen (s.data.toList.drop k)=E:=⟨_,rfl⟩
      rw[hE] at hW g2
      have HE:=Hd hE
      have H1:=Hd e1
      have H2:=Hd e2
      have H3:=Hd e3
      have g3:k < E:=by omega
      have HSK:=Hd hsk
      clear e1 e2 e3 hE hsk g1
      obtain⟨wo,rfl⟩:∃ wo:World,wo=wr:=⟨_,rfl⟩
      go_wp2_with (first
       | (go_at_call 35;((with_reducible refine (zAw s[k] _).mono ?_);rintro e w' ⟨rfl,rfl⟩))
       | (go_at_call 36;((with_reducible refine (zBh s[k] _).mono ?_);rintro e w' ⟨rfl,rfl⟩)))
      go_loop [8] (fun i=>∃ j:Nat,k≤j∧j≤s.size∧WAt s E j∧i=.int .i64 j) (fun i=>s.size - (intOf i).toNat)
      case atStart=>exact⟨k,Lr _,hk,hW,rfl⟩
      case round =>
       obtain⟨j,hkj,hj,hwj,rfl⟩:=hrel
       rcases wat_cases hj hwj with ⟨hj2,⟨hl2,hwj2⟩ | ⟨hl2,hd2,hwj2⟩⟩ | ⟨hj2,hl2,hd2,rfl⟩ | ⟨rfl,hge⟩
       ·go_wp2_with (go_at_call 35;((with_reducible refine (zAw s[j] _).mono ?_);rintro e w' ⟨rfl,rfl⟩))
        go_round
        case rel=>exact⟨j+1,by omega,by omega,hwj2,by go_num⟩
        case measure=>simp[intOf];omega
       ·go_wp2_with (first
         | (go_at_call 35;((with_reducible refine (zAw s[j] _).mono ?_);rintro e w' ⟨rfl,rfl⟩))
         | (go_at_call 36;((with_reducible refine (zBh s[j] _).mono ?_);rintro e w' ⟨rfl,rfl⟩)))
        go_round
        case rel=>exact⟨j+1,by omega,by omega,hwj2,by go_num⟩
        case measure=>simp[intOf];omega
       all_goals
        have htd:(s.extract k E).data.toList=(s.data.toList.drop k).take (wlen (s.data.toList.drop k)):=by
         rw[←HE.out];exact text_data s k _
        have hz:(s.extract k E).size=E - k:=by rw[ByteArray.size_extract];omega
        have htz:(s.extract k E).size≤9223372036854775807:=by omega
        have hne:¬ (s.extract k E).toList=[]:=by
         rw[Lib.toList_data];intro h
         have:=congrArg List.length h
         rw[zAh,hz] at this;simp at this;omega
        have hne2:(s.extract k E).toList.isEmpty=false:=by simpa using hne
        obtain⟨V,hV⟩:∃ V:Int,(numV (s.extract k E).data.toList 9223372036854775808:Int)=V:=⟨_,rfl⟩
        have HV:=Hd hV
        have HTD:=Hd htd
        have HZ:=Hd hz
        clear hV htd hz
        by_cases hn:numB (s.extract k E).data.toList 9223372036854775808=true
        ·have HN:=Hd hn
         have hok:tokE (s.data.toList.drop k)=0:=by rw[H3.out,←HTD.out,if_pos (show numB (s.extract k E).data.toList zBz=true from hn)]
         have hS:=fun v' w2 h1 h2 h3=>rScan_tok (t:=s.extract k E) (kd:=2) (w0:=w) (w2:=w2) (v':=v') hlt HSK.out HX.out hts hok H1.out (by rw[HTD.out,H2.out]) h1 h2 h3
         have HS:=Hd hS
         clear hn hS hok
         go_wp2_with (first
          | (go_at_call 35;((with_reducible refine (zAw _ _).mono ?_);rintro e w' ⟨rfl,rfl⟩))
          | (go_at_call 36;((with_reducible refine (zBh _ _).mono ?_);rintro e w' ⟨rfl,rfl⟩))
          | (go_at_call 37;((with_reducible refine (zB6 (s.extract k E) 9223372036854775808 9223372036854775808 V _ htz most2 HV.out HN.out _).mono ?_);rintro e w' ⟨rfl,rfl⟩))
          | (at_builtin
             refine wpList_append_own _ rfl (.tmp 114) (.tmp 116) 64 rfl (w.heap.size+1) 102 i0 _ 3 32 Tryz.underlying64 hi hz0 hz1 hz2 rfl (by decide) _ _ _ rfl ((hown.alloc _).alloc _) ⟨wo.heap.size+1,0,none⟩ 1 1 [.int .i64 2,.string (s.extract k E),.int .i64 (k:Int)] rfl rfl (World.news_of_block (heap_alloc2_new _ _ _)) (by simp[Value.oneCell']) (by unfold maxLen;omega) (by omega) (by simp;omega) ?_
             intro v2 w2 hown2 hgr2 _
             have hb2:Blk w2 wo.heap.size 102 #[.int .i64 2,.string (s.extract k E),.int .i64 (k:Int)]:=Blk.grown (heap_alloc2_old _ _ _) hgr2 (own_ne hown (Or.inr (Lr _)))
             have hct:=hb2.cell 1
             have hE2:Blk w2 w.heap.size 29 #[.int .i64 0,.int .i64 0]:=((HB.out.alloc _).alloc _).grown hgr2 (own_ne hown (Or.inl (Nat.lt_succ_self _)))
             have hbel2:Below w.heap.size w w2:=((hbel.alloc (Nat.le_of_lt hgr) _).alloc (by simp;omega) _).grown hgr2 (by simp;omega) (fun b hb=>Nat.le_of_lt (hown.lt b hb).1)
             obtain⟨hR,hlt2,hle2⟩:=HS.out v2 w2 hown2 hbel2 hE2
             rw[HZ.out] at hR hlt2 hle2
             clear hown2 hgr2 hb2 hE2 hbel2))
         go_roundw
         case rel=>exact hR
         case measure=>simp[intOf];omega
        ·have HN:=Hd (by simpa using hn:numB (s.extract k E).data.toList 9223372036854775808=false)
         have hbad:tokE (s.data.toList.drop k)=2:=by
          rw[H3.out,←HTD.out,show numB (s.extract k E).data.toList zBz=false from HN.out];rfl
         have hq2:=scan_bad hs hlt HSK.out HX.out (by rw[hbad];decide)
         rw[hbad] at hq2
         obtain rfl:=HQ.out.symm.trans hq2
         obtain⟨hc0,hc1,hf0,hf1⟩:=HB.out.cells2
         clear hn hbad hq2 HQ
         go_wp2_with (first
          | (go_at_call 35;((with_reducible refine (zAw _ _).mono ?_);rintro e w' ⟨rfl,rfl⟩))
          | (go_at_call 36;((with_reducible refine (zBh _ _).mono ?_);rintro e w' ⟨rfl,rfl⟩))
          | (go_at_call 37;((with_reducible refine (zB6 (s.extract k E) 9223372036854775808 9223372036854775808 V _ htz most2 HV.out HN.out _).mono ?_);rintro e w' ⟨rfl,rfl⟩)))
         exact bodyPost_ret (v:=.tuple #[.slice none 0 0,.agg #[.int .i64 2,.int .i64 (k:Int)]]) (by simp[results,Tryz.results16,go_sem,hc0,hc1,hgr]) rfl
          ⟨_,rfl,World.ownsRow_nil _ _ _ _,((hbel.setCell (Lr _) _).setCell (Lr _) _).alloc (by simp[World.setCell];omega) _⟩
     ·have hd:digB s[k]=false:=by simpa using hd
      by_cases hl:letB s[k]=true
      ·obtain⟨e1,e2,e3⟩:=tok_let hlt hl
       obtain⟨g1,g2⟩:=wlen_at hlt (word_let hl)
       have hW:WAt s (k+wlen (s.data.toList.drop k)) k:=rfl
       obtain⟨E,hE⟩:∃ E,k+wlen (s.data.toList.drop k)=E:=⟨_,rfl⟩
       rw[hE] at hW g2
       have HE:=Hd hE
       have H1:=Hd e1
       have H2:=Hd e2
       have H3:=Hd e3
       have g3:k < E:=by omega
       have HSK:=Hd hsk
       clear e1 e2 e3 hE hsk g1
       obtain⟨wo,rfl⟩:∃ wo:World,wo=wr:=⟨_,rfl⟩
       go_wp2_with (first
        | (go_at_call 35;((with_reducible refine (zAw s[k] _).mono ?_);rintro e w' ⟨rfl,rfl⟩))
        | (go_at_call 36;((with_reducible refine (zBh s[k] _).mono ?_);rintro e w' ⟨rfl,rfl⟩)))
       go_loop [8] (fun i=>∃ j:Nat,k≤j∧j≤s.size∧WAt s E j∧i=.int .i64 j) (fun i=>s.size - (intOf i).toNat)
       case atStart=>exact⟨k,Lr _,hk,hW,rfl⟩
       case round =>
        obtain⟨j,hkj,hj,hwj,rfl⟩:=hrel
        rcases wat_cases hj hwj with ⟨hj2,⟨hl2,hwj2⟩ | ⟨hl2,hd2,hwj2⟩⟩ | ⟨hj2,hl2,hd2,rfl⟩ | ⟨rfl,hge⟩
        ·go_wp2_with (go_at_call 35;((with_reducible refine (zAw s[j] _).mono ?_);rintro e w' ⟨rfl,rfl⟩))
         go_round
         case rel=>exact⟨j+1,by omega,by omega,hwj2,by go_num⟩
         case measure=>simp[intOf];omega
        ·go_wp2_with (first
          | (go_at_call 35;((with_reducible refine (zAw s[j] _).mono ?_);rintro e w' ⟨rfl,rfl⟩))
          | (go_at_call 36;((with_reducible refine (zBh s[j] _).mono ?_);rintro e w' ⟨rfl,rfl⟩)))
         go_round
         case rel=>exact⟨j+1,by omega,by omega,hwj2,by go_num⟩
         case measure=>simp[intOf];omega
        all_goals
         have htd:(s.extract k E).data.toList=(s.data.toList.drop k).take (wlen (s.data.toList.drop k)):=by
          rw[←HE.out];exact text_data s k _
         have hz:(s.extract k E).size=E - k:=by rw[ByteArray.size_extract];omega
         have htz:(s.extract k E).size≤9223372036854775807:=by omega
         have hne:¬ (s.extract k E).toList=[]:=by
          rw[Lib.toList_data];intro h
          have:=congrArg List.length h
          rw[zAh,hz] at this;simp at this;omega
         have hne2:(s.extract k E).toList.isEmpty=false:=by simpa using hne
         have HTD:=Hd htd
         have HZ:=Hd hz
         clear htd hz
         by_cases hn:E≤k+16
         ·have hok:tokE (s.data.toList.drop k)=0:=by have:=HE.out;rw[H3.out,if_neg (by omega)]
          have hS:=fun v' w2 h1 h2 h3=>rScan_tok (t:=s.extract k E) (kd:=1) (w0:=w) (w2:=w2) (v':=v') hlt HSK.out HX.out hts hok H1.out (by rw[HTD.out,H2.out]) h1 h2 h3
          have HS:=Hd hS
          have hn2:(E:Int) - (k:Int)≤16:=by omega
          clear hn hS hok
          go_wp2_with (first
           | (go_at_call 35;((with_reducible refine (zAw _ _).mono ?_);rintro e w' ⟨rfl,rfl⟩))
           | (go_at_call 36;((with_reducible refine (zBh _ _).mono ?_);rintro e w' ⟨rfl,rfl⟩))
           | (at_builtin
              refine wpList_append_own _ rfl (.tmp 114) (.tmp 116) 64 rfl (w.heap.size+1) 102 i0 _ 3 32 Tryz.underlying64 hi hz0 hz1 hz2 rfl (by decide) _ _ _ rfl ((hown.alloc _).alloc _) ⟨wo.heap.size+1,0,none⟩ 1 1 [.int .i64 1,.string (s.extract k E),.int .i64 (k:Int)] rfl rfl (World.news_of_block (heap_alloc2_new _ _ _)) (by simp[Value.oneCell']) (by unfold maxLen;omega) (by omega) (by simp;omega) ?_
              intro v2 w2 hown2 hgr2 _
              have hb2:Blk w2 wo.heap.size 102 #[.int .i64 1,.string (s.extract k E),.int .i64 (k:Int)]:=Blk.grown (heap_alloc2_old _ _ _) hgr2 (own_ne hown (Or.inr (Lr _)))
              have hct:=hb2.cell 1
              have hE2:Blk w2 w.heap.size 29 #[.int .i64 0,.int .i64 0]:=((HB.out.alloc _).alloc _).grown hgr2 (own_ne hown (Or.inl (Nat.lt_succ_self _)))
              have hbel2:Below w.heap.size w w2:=((hbel.alloc (Nat.le_of_lt hgr) _).alloc (by simp;omega) _).grown hgr2 (by simp;omega) (fun b hb=>Nat.le_of_lt (hown.lt b hb).1)
              obtain⟨hR,hlt2,hle2⟩:=HS.out v2 w2 hown2 hbel2 hE2
              rw[HZ.out] at hR hlt2 hle2
              clear hown2 hgr2 hb2 hE2 hbel2))
          go_roundw
          case rel=>exact hR
          case measure=>simp[intOf];omega
         ·have hbad:tokE (s.data.toList.drop k)=6:=by
           have:=HE.out
           rw[H3.out,if_pos (by omega)]
          have hn2:16 < (E:Int) - (k:Int):=by omega
          have hq2:=scan_bad hs hlt HSK.out HX.out (by rw[hbad];decide)
          rw[hbad] at hq2
          obtain rfl:=HQ.out.symm.trans hq2
          obtain⟨hc0,hc1,hf0,hf1⟩:=HB.out.cells2
          clear hn hbad hq2 HQ
          go_wp2_with (first
           | (go_at_call 35;((with_reducible refine (zAw _ _).mono ?_);rintro e w' ⟨rfl,rfl⟩))
           | (go_at_call 36;((with_reducible refine (zBh _ _).mono ?_);rintro e w' ⟨rfl,rfl⟩)))
          exact bodyPost_ret (v:=.tuple #[.slice none 0 0,.agg #[.int .i64 6,.int .i64 (k:Int)]]) (by simp[results,Tryz.results16,go_sem,hc0,hc1,hgr]) rfl
           ⟨_,rfl,World.ownsRow_nil _ _ _ _,((hbel.setCell (Lr _) _).setCell (Lr _) _).alloc (by simp[World.setCell];omega) _⟩
      ·have hl:letB s[k]=false:=by simpa using hl
       obtain⟨e1,e2,e3⟩:=tok_sym hlt hl hd
       have hsl:=symLen_at_le hlt
       obtain⟨T,hT⟩:∃ T:ByteArray,(⟨((s.data.toList.drop k).take (zBe (s.data.toList.drop k))).toArray⟩:ByteArray)=T:=⟨_,rfl⟩
       have hTd:T.data.toList=(s.data.toList.drop k).take (zBe (s.data.toList.drop k)):=by rw[←hT]
       have hTz:T.size=zBe (s.data.toList.drop k):=by
        rw[←zAh,hTd,List.length_take,zCd];omega
       have hcT:∀ W,Calls Tryz.prog 38 #[.string (s.extract k s.size)] W (RetB (.string T) W.heap.size W):=fun W=>by
        have:=rsymbol_any (s.extract k s.size) (by rw[←zAh,zCq,zCd];omega) (by rw[←zAh,zCq,zCd];omega) W
        rw[zCq,hT] at this
        exact this
       have HC:=Hd hcT
       have HTD:=Hd hTd
       have HTZ:=Hd hTz
       have H1:=Hd e1
       have H2:=Hd e2
       have H3:=Hd e3
       have HSK:=Hd hsk
       have hTs:T.size≤s.size - k:=by omega
       clear hT hTd hTz hcT e1 e2 e3 hsk hsl
       by_cases hz0:T.size=0
       ·have hTe:T.toList=[]:=by rw[Lib.toList_data];exact List.eq_nil_of_length_eq_zero (by rw[zAh];exact hz0)
        have hTe2:T.toList.isEmpty=true:=by rw[hTe];rfl
        have hbad:tokE (s.data.toList.drop k)=2:=by rw[H3.out,if_pos (by rw[←HTZ.out];exact hz0)]
        have hq2:=scan_bad hs hlt HSK.out HX.out (by rw[hbad];decide)
        rw[hbad] at hq2
        obtain rfl:=HQ.out.symm.trans hq2
        obtain⟨hc0,hc1,hf0,hf1⟩:=HB.out.cells2
        clear hbad hq2 HQ hz0
        go_wp2_with (first
         | (go_at_call 35;((with_reducible refine (zAw _ _).mono ?_);rintro e w' ⟨rfl,rfl⟩))
         | (go_at_call 36;((with_reducible refine (zBh _ _).mono ?_);rintro e w' ⟨rfl,rfl⟩))
         | (go_at_call 38;((with_reducible refine (HC.out _).mono ?_);rintro e w1 ⟨rfl,hb1⟩;obtain⟨hcc,hff⟩:=bcell hb1;have hg1:w.heap.size < w1.heap.size:=(Nat.lt_trans hgr (Ll (by simp) hb1.size));have hB1:=Hd ((HB.out.alloc _).on hb1 (Nat.lt_trans hgr (by simp))))))
        have hfin:=((hB1.out.far (p:=⟨wr.heap.size,1,none⟩) (by simp;omega) (.string T)).set 0 (.int .i64 2)).set 1 (.int .i64 (k:Int))
        obtain⟨r0,r1,_,_⟩:=Blk.cells2 (a:=.int .i64 2) (b:=.int .i64 (k:Int)) hfin
        exact bodyPost_ret (v:=.tuple #[.slice none 0 0,.agg #[.int .i64 2,.int .i64 (k:Int)]]) (by simp[results,Tryz.results16,go_sem,r0,r1]) rfl
         ⟨_,rfl,World.ownsRow_nil _ _ _ _,((((hbel.alloc (Nat.le_of_lt hgr) _).trans (hb1.mono (Nat.le_trans (Nat.le_of_lt hgr) (by simp)))).setCell (Nat.le_of_lt hgr) _).setCell (Lr _) _).setCell (Lr _) _⟩
       ·have hTe:¬ T.toList=[]:=by
         rw[Lib.toList_data];intro h
         have h2:=zAh T
         rw[h] at h2;simp at h2;omega
        have hTe2:T.toList.isEmpty=false:=by simpa using hTe
        have hok:tokE (s.data.toList.drop k)=0:=by rw[H3.out,if_neg (by rw[←HTZ.out];exact hz0)]
        have hS:=fun v' w2 h1 h2 h3=>rScan_tok (t:=T) (kd:=3) (w0:=w) (w2:=w2) (v':=v') hlt HSK.out HX.out hts hok H1.out (by rw[HTD.out,H2.out]) h1 h2 h3
        have HS:=Hd hS
        clear hS hok hz0
        go_wp2_with (first
         | (go_at_call 35;((with_reducible refine (zAw _ _).mono ?_);rintro e w' ⟨rfl,rfl⟩))
         | (go_at_call 36;((with_reducible refine (zBh _ _).mono ?_);rintro e w' ⟨rfl,rfl⟩))
         | (go_at_call 38;((with_reducible refine (HC.out _).mono ?_);rintro e w1 ⟨rfl,hb1⟩;obtain⟨hcc,hff⟩:=bcell hb1;have hg1:w.heap.size < w1.heap.size:=(Nat.lt_trans hgr (Ll (by simp) hb1.size));have hB1:=Hd ((HB.out.alloc _).on hb1 (Nat.lt_trans hgr (by simp)));have hbt:Blk w1 wr.heap.size 102 #[.int .i64 3,.string ⟨#[]⟩,.int .i64 (k:Int)]:=(Blk.new _ _ _).on hb1 (by simp);have HBT:=Hd hbt;have hown1:=own_setne (p:=⟨wr.heap.size,1,none⟩) (own_on (hown.alloc _) hb1) (own_ne hown (Or.inr (Lr _))) (.string T);have hne1:=own_ne hown (g:=wr.heap.size) (Or.inr (Lr _));clear hown hbt))
         | (at_builtin
            refine wpList_append_own _ rfl (.tmp 114) (.tmp 116) 64 rfl (w.heap.size+1) 102 i0 _ 3 32 Tryz.underlying64 hi hz0 hz1 hz2 rfl (by decide) _ _ _ rfl (hown1.alloc _) ⟨w1.heap.size,0,none⟩ 1 1 [.int .i64 3,.string T,.int .i64 (k:Int)] rfl rfl (World.news_of_block (new_set _ _ _ _ _)) (by simp[Value.oneCell']) (by unfold maxLen;omega) (by omega) (by simp[World.setCell];omega) ?_
            intro v2 w2 hown2 hgr2 _
            have hb2:Blk w2 wr.heap.size 102 #[.int .i64 3,.string T,.int .i64 (k:Int)]:=Blk.grown ((HBT.out.set 1 (.string T)).alloc _) hgr2 hne1
            have hct:=hb2.cell 1
            have hE2:Blk w2 w.heap.size 29 #[.int .i64 0,.int .i64 0]:=((hB1.out.far (p:=⟨wr.heap.size,1,none⟩) (by simp;omega) (.string T)).alloc _).grown hgr2 (own_ne hown1 (Or.inl (Nat.lt_succ_self _)))
            have hbel2:Below w.heap.size w w2:=((((hbel.alloc (Nat.le_of_lt hgr) _).trans (hb1.mono (Nat.le_trans (Nat.le_of_lt hgr) (by simp)))).setCell (p:=⟨wr.heap.size,1,none⟩) (Nat.le_of_lt hgr) (.string T)).alloc (by simp[World.setCell];omega) _).grown hgr2 (by simp[World.setCell];omega) (fun b hb=>Nat.le_of_lt (hown1.lt b hb).1)
            obtain⟨hR,hlt2,hle2⟩:=HS.out v2 w2 hown2 hbel2 hE2
            clear hown2 hgr2 hb2 hE2 hbel2))
        go_roundw
        case rel=>exact hR
        case measure=>simp[intOf];omega
  ·obtain rfl:k=s.size:=by omega
   obtain rfl:=HQ.out.symm.trans (scan_good hs HX.out)
   obtain⟨hc0,hc1,hf0,hf1⟩:=HB.out.cells2
   go_wp2_with fail
   exact bodyPost_ret (v:=.tuple #[u4,.agg #[.int .i64 0,.int .i64 0]]) (by simp[results,Tryz.results16,go_sem,hc0,hc1]) rfl
    ⟨_,rfl,own_base (own_set (own_set hown (Nat.lt_succ_self _) _) (Nat.lt_succ_self _) _) (Nat.le_succ _),((hbel.setCell (Lr _) _).setCell (Lr _) _)⟩
end Go.Proofs.YtpgnlfdindmopaaGreatDoor
namespace Go.Proofs.YtpgnlfdindmopaaGreatDoor
open Go.RowKit (wrap64 intOf)
open Go Go.RowKit WM LX PX
set_option maxRecDepth 100000
set_option maxHeartbeats 4000000
theorem rscan_any (s:ByteArray)(w:World):Calls Tryz.prog 16 #[.string s] w (ScanP (zBl s.data.toList) w):=by
 by_cases h:s.size≤20000
 ·exact rscan_short s h w
 ·exact rscan_long s (by omega) w
theorem rscan_q (s:ByteArray)(q:List Tk × Nat × Nat)(hq:Hid (zBl s.data.toList=q))(w:World):Calls Tryz.prog 16 #[.string s] w (ScanQ q w):=by
 obtain rfl:=hq.out
 refine (rscan_any s w).mono fun _ _ h=>?_
 obtain⟨v,rfl,hown,hb⟩:=h
 obtain⟨A,c,rfl,ht⟩:=toks_own hown
 exact⟨A,c,rfl,ht,hb⟩
theorem ms_rfn {ts:List Tk}(n:Nat)(s:PS):ms ts (rfnF ts n s).2≤ms ts s:=by
 unfold rfnF
 dsimp only
 refine Nat.le_trans (zAt _ _) (Nat.le_trans (zAt _ _) (Nat.le_trans (ms_rex n _) (Nat.le_trans (zAt _ _) (Nat.le_trans ((rms_st n).1 _ _) (Nat.le_trans (zAt _ _) (Nat.le_trans (ms_rlv n _) (Nat.le_trans (zAt _ _) (Nat.le_trans (ms_rpr n _ _) (Nat.le_trans (zAt _ _) (zBr _))))))))))
theorem ms_raa {ts:List Tk}(s:PS):ms ts (raaF ts s).2≤ms ts s:=by
 unfold raaF
 dsimp only
 exact Nat.le_trans (zAt _ _) (Nat.le_trans (ms_rSmS _) (zBr _))
theorem rpg_stop {ts:List Tk}{k:Nat}{s:PS}(h:(s.f||decide (ts.length≤s.i))=true):rpgF ts (k+1) s=(⟨[],[]⟩,s):=by rw[rpgF_eq,if_pos h]
theorem rpg_arr {ts:List Tk}{k:Nat}{s s1:PS}{a:List UInt8 × Int}(h:(s.f||decide (ts.length≤s.i))=false)(hx:rAt ts s 0 zB9=true)(ha:raaF ts (adv s)=(a,s1)):rpgF ts (k+1) s=(⟨a :: (rpgF ts k s1).1.arrays,(rpgF ts k s1).1.funcs⟩,(rpgF ts k s1).2):=by rw[rpgF_eq,h,hx,ha];rfl
theorem rpg_fun {ts:List Tk}{k:Nat}{s s1 s2:PS}{f:FN}(h:(s.f||decide (ts.length≤s.i))=false)(hx:rAt ts s 0 zB9=false)(hs:rEx ts s zCp=s1)(ha:rfnF ts k s1=(f,s2)):rpgF ts (k+1) s=(⟨(rpgF ts k s2).1.arrays,f :: (rpgF ts k s2).1.funcs⟩,(rpgF ts k s2).2):=by rw[rpgF_eq,h,hx,hs,ha];rfl
def RPgR (ts:List Tk)(en p:Nat)(pg:PG)(s1:PS)(W:World)(k:Nat)(wr:World):Prop :=
 ∃ (s':PS) (xa:List (List UInt8 × Int)) (ca:List (List Value)) (va:Value) (xf:List FN) (cf:List (List Value)) (vf:Value),
  xa++(rpgF ts k s').1.arrays=pg.arrays∧xf++(rpgF ts k s').1.funcs=pg.funcs∧(rpgF ts k s').2=s1∧20 * ms ts s'+19≤k∧xa.length+xf.length+ms ts s'≤ts.length+2 ∧
  ROwn ts en p s' 26 #[va,vf] W wr∧Two (W.heap.size+1) xa ca va xf cf vf wr
theorem ROwn.own {ts:List Tk}{en p:Nat}{q:PS}{t:TypeId}{cs:Array Value}{W w1:World}(o:ROwn ts en p q t cs W w1)(k:Nat)(u:Value):ROwn ts en p q t (cs.setIfInBounds k u) W (w1.setCell ⟨W.heap.size,k,none⟩ u) :=
 ⟨grown_fr o.g (Lr _) u,o.s.far o.p u,o.r.set k u,o.p⟩
theorem pa_keep2 {α:Type}{Rep:World→(Nat→Prop)→α→List Value→Prop}(hk:Keeps Rep){sz:Nat}{W:World}{lo g:Nat}{xs:List α}{z:Value}(h:RepL Rep sz W (Rg lo W.heap.size) xs z)(hl:g+1 < lo)(x y u v:Value) :
 RepL Rep sz ((((W.setCell ⟨g,0,none⟩ x).setCell ⟨g,1,none⟩ y).setCell ⟨g+1,0,none⟩ u).setCell ⟨g+1,1,none⟩ v) (Rg g ((((W.setCell ⟨g,0,none⟩ x).setCell ⟨g,1,none⟩ y).setCell ⟨g+1,0,none⟩ u).setCell ⟨g+1,1,none⟩ v).heap.size) xs z:=by
 have hs:((((W.setCell ⟨g,0,none⟩ x).setCell ⟨g,1,none⟩ y).setCell ⟨g+1,0,none⟩ u).setCell ⟨g+1,1,none⟩ v).heap.size=W.heap.size:=by simp[World.setCell]
 exact h.keep hk (fun k hr=>⟨by have:=hr.1;omega,by rw[hs];have:=hr.2;omega⟩) (fun k hr=>two_heap W g x y u v k (by have:=hr.1;omega) (by have:=hr.1;omega))
theorem rok_bad (p:Nat)(t:TypeId)(v0 v1 v2 v4:Value)(y:Nat)(hy:y≠0)(w:World)(h:Blk w p t #[v0,v1,v2,.int .i64 (y:Int),v4]) :
 Calls Tryz.prog 17 #[.pointer (some ⟨p,0,none⟩)] w (fun e w'=>e=.returned (.bool false)∧w'=w):=by
 obtain⟨_,_,_,c3,_⟩:=h.cells5
 have b1:((y:Int)==0)=false:=by rw[beq_eq_false_iff_ne];omega
 clear h
 go_enter Tryz.func17,Tryz.ntmps17
 go_wp2_with fail
 go_ret
 exact⟨rfl,rfl⟩
theorem rparse_ok (s:ByteArray)(ts:List Tk)(hq:Hid (zBl s.data.toList=(ts,0,0)))(hen:s.size≤20000)(pg:PG)(s1:PS)(hr:Hid (rpgF ts (20 * ts.length+60) ⟨0,false⟩=(pg,s1)))(r:PG × Nat × Nat)
 (hres:Hid ((if s1.f=true then ((⟨[],[]⟩:PG),2,rOff ts s.size s1.i) else (pg,0,0))=r)) (w:World) :
 Calls Tryz.prog 8 #[.string s] w (PaP r w):=by
 have hK1:Blk ((w.alloc (.cells pg0 26)).alloc (.cells er0 29)) w.heap.size 26 pg0:=(Blk.new w _ _).alloc _
 have hK2:Blk ((w.alloc (.cells pg0 26)).alloc (.cells er0 29)) (w.heap.size+1) 29 er0:=blk_at (by simp) _ _
 have hB:Below w.heap.size w ((w.alloc (.cells pg0 26)).alloc (.cells er0 29)):=((Below.refl _ _).alloc (Lr _) _).alloc (by simp) _
 have hz:((w.alloc (.cells pg0 26)).alloc (.cells er0 29)).heap.size=w.heap.size+2:=by simp
 obtain⟨hfew,htx⟩:=scan_small hq.out
 dsimp only at hfew htx
 have HTX:=Hd htx
 have HK1:=Hd hK1
 have HK2:=Hd hK2
 have HB:=Hd hB
 clear hK1 hK2 hB htx
 obtain⟨i0,hi,hz0,hz1,hz2⟩:=info_parts arInfo
 obtain⟨i1,gi,gz0,gz1,gz2⟩:=info_parts fnInfo
 obtain⟨N,hN⟩:∃ N,20 * ts.length+60=N:=⟨_,rfl⟩
 rw[hN] at hr
 go_enter Tryz.func8,Tryz.ntmps8
 go_wp2_with fail
 generalize hW:(w.alloc (.cells pg0 26)).alloc (.cells er0 29)=W at *
 clear hW
 refine (rscan_q s _ hq W).mono ?_
 rintro e w1 ⟨A,c,rfl,htk,hb⟩
 have hsz:=hb.size
 have k1:=((HK1.out.on hb HK1.out.lt).alloc (.cells er0 29)).alloc (.cells #[.slice A ts.length c,.int .i64 0,.int .i64 (s.size:Int),.int .i64 0,.int .i64 0] 69)
 have k2:=((HK2.out.on hb HK2.out.lt).alloc (.cells er0 29)).alloc (.cells #[.slice A ts.length c,.int .i64 0,.int .i64 (s.size:Int),.int .i64 0,.int .i64 0] 69)
 have hbl:Below w1.heap.size w1 ((w1.alloc (.cells er0 29)).alloc (.cells #[.slice A ts.length c,.int .i64 0,.int .i64 (s.size:Int),.int .i64 0,.int .i64 0] 69)):=((Below.refl _ _).alloc (Lr _) _).alloc (by simp) _
 have htk2:Toks ((w1.alloc (.cells er0 29)).alloc (.cells #[.slice A ts.length c,.int .i64 0,.int .i64 (s.size:Int),.int .i64 0,.int .i64 0] 69)) (w1.heap.size+1) A ts:=(htk.on hbl).up (Nat.le_succ _)
 have hps:RSt ts s.size (w1.heap.size+1) ⟨0,false⟩ ((w1.alloc (.cells er0 29)).alloc (.cells #[.slice A ts.length c,.int .i64 0,.int .i64 (s.size:Int),.int .i64 0,.int .i64 0] 69)) :=
  ⟨A,c,blk_at (by simp) _ _,htk2,Nat.zero_le _,⟨hfew,hen⟩,HTX.out⟩
 have hB1:=HB.out.trans (below_down (hb.trans (below_down hbl hb.size)) HB.out.size)
 have hml:=ms_le ts ⟨0,false⟩
 have HK:=Hd (Ai k1 k2)
 have HB1:=Hd hB1
 have HPS:=Hd hps
 clear htk hb k1 k2 hbl hps hB1 htk2
 go_upto_region 3 with fail
 generalize hW2:(w1.alloc (.cells er0 29)).alloc (.cells #[.slice A ts.length c,.int .i64 0,.int .i64 (s.size:Int),.int .i64 0,.int .i64 0] 69)=W2 at *
 have hpp:=HPS.out.lt
 clear hW2
 have H0:Hid (RPgR ts s.size (w1.heap.size+1) pg s1 W2 N (W2.alloc (.cells pg0 26))):=Hd ⟨⟨0,false⟩,[],[],.slice none 0 0,[],[],.slice none 0 0,by rw[hr.out];rfl,by rw[hr.out];rfl,by rw[hr.out],by omega,by simp;omega,ROwn.start HPS.out 26 pg0,two_nil _ _⟩
 clear hml hr
 go_wp2_with fail
 go_loopg [8,9] N (fun k v8 v9 wr=>RPgR ts s.size (w1.heap.size+1) pg s1 W2 k wr)
 case atStart=>exact H0.out
 case round =>
  clear H0
  obtain⟨s',xa,ca,va,xf,cf,vf,hA,hF,hS,hk,hln,o,ht⟩:=hrel
  obtain⟨m,rfl⟩:∃ m,gk=m+1:=⟨gk - 1,by omega⟩
  obtain⟨Ap,cp,t0,t1,_,_,_,_,_,_,_,hil,_,_⟩:=o.s.cells
  by_cases hst:(s'.f||decide (ts.length≤s'.i))=true
  ·rw[rpg_stop hst] at hA hF hS
   have hA:xa=pg.arrays:=by simpa using hA
   have hF:xf=pg.funcs:=by simpa using hF
   have hS:s'=s1:=hS
   obtain⟨A1,L1,c1,rfl⟩:=ht.a.form
   obtain⟨A2,L2,c2,rfl⟩:=ht.formF
   have HA:=Hd hA
   have HF:=Hd hF
   subst hS
   have hcs:s'.f=true∨(s'.f=false∧ts.length≤s'.i):=by
    cases hf:s'.f with
    | true=>exact Or.inl rfl
    | false=>rw[hf] at hst;exact Or.inr ⟨rfl,by simpa using hst⟩
   clear hA hF hst
   rcases hcs with hf | ⟨hf,hle⟩
   ·have HOK:=Hd (fun w h=>zAn ts s.size (w1.heap.size+1) s' false hf w h)
    have hres:=hres.out
    rw[if_pos hf] at hres
    subst hres
    have HFF:=Hd hf
    clear hf t0 t1
    go_wp2_with fail
    go_quiet ((go_at_call 17;exact Calls.quiet_of_same (HOK.out _ o.s)))
    replace o:=o.low (below_drewN (Below.refl _ _) nq)
    generalize hwq:wr.drewN nq=wq at *
    clear hwq ht
    go_wp2_with fail
    refine (HOK.out _ o.s).mono ?_
    rintro e w5 ⟨rfl,rfl⟩
    have k1:=HK.out.1.gr o.g (by omega)
    have k2:=HK.out.2.gr o.g (by omega)
    obtain⟨Aq,cq,_,_,_,d3,d4,_⟩:=o.s.cells
    have hf:=HFF.out
    rw[show rWhy s'=2 by unfold rWhy;rw[if_pos hf]] at d3
    rw[show rPos ts s.size s'=(rOff ts s.size s'.i:Int) by unfold rPos;rw[if_pos hf]] at d4
    obtain⟨a0,ha0⟩:∃ x,rOff ts s.size s'.i=x:=⟨_,rfl⟩
    rw[ha0] at d4
    have HA0:=Hd ha0
    clear hf ha0
    have hB3:Below w.heap.size w w5:=HB1.out.trans ⟨o.g.os,o.g.tape,o.g.output,o.g.size,fun i hi=>o.g.block i (by have:=HPS.out.lt;omega) (by intro e;injection e with e;omega)⟩
    have HB3:=Hd hB3
    have HKK:=Hd (Ai k1 k2)
    obtain⟨r0,r1,f0,f1⟩:=k1.cells2
    obtain⟨r2,r3,f2,f3⟩:=k2.cells2
    have hs2:w.heap.size+1 < w5.heap.size:=k2.lt
    have hn1:w1.heap.size+1≠w.heap.size:=by omega
    have hn2:w1.heap.size+1≠w.heap.size+1:=by omega
    clear k1 k2 hB3 o
    go_upto_region 14 with fail
    go_region
    all_goals
     go_wp2_with fail
     have z1:=((((HKK.out.1.set 0 (.slice none 0 0)).set 1 (.slice none 0 0)).far (p:=⟨w.heap.size+1,0,none⟩) (by show w.heap.size+1≠w.heap.size;omega) (.int .i64 2)).far (p:=⟨w.heap.size+1,1,none⟩) (by show w.heap.size+1≠w.heap.size;omega) (.int .i64 (a0:Int))).drewN 1
     have z2:=((((HKK.out.2.far (p:=⟨w.heap.size,0,none⟩) (by show w.heap.size≠w.heap.size+1;omega) (.slice none 0 0)).far (p:=⟨w.heap.size,1,none⟩) (by show w.heap.size≠w.heap.size+1;omega) (.slice none 0 0)).set 0 (.int .i64 2)).set 1 (.int .i64 (a0:Int))).drewN 1
     obtain⟨q0,q1,_⟩:=z1.cells2
     obtain⟨q2,q3,_⟩:=z2.cells2
     exact bodyPost_ret (v:=.tuple #[.agg #[.slice none 0 0,.slice none 0 0],.agg #[.int .i64 2,.int .i64 (a0:Int)]]) (by simp[results,Tryz.results8,go_sem,show ∀ w:World,w.drew=w.drewN 1 from fun _=>rfl,q0,q1,q2,q3]) rfl
      ⟨none,0,0,none,0,0,by rw[←HA0.out];rfl,repL_nil _ _ _ _,repL_nil _ _ _ _,below_drewN ((((HB3.out.setCell (Lr _) _).setCell (Lr _) _).setCell (Nat.le_succ _) _).setCell (Nat.le_succ _) _) 1⟩
   ·have HOK:=Hd (fun w h=>zAn ts s.size (w1.heap.size+1) s' true hf w h)
    have hres:=hres.out
    rw[if_neg (by rw[hf];decide)] at hres
    subst hres
    obtain⟨nn,hnn⟩:∃ nn,ts.length=nn:=⟨_,rfl⟩
    obtain⟨ii,hii⟩:∃ ii,s'.i=ii:=⟨_,rfl⟩
    have e1:decide ((ii:Int) < (nn:Int))=false:=decide_eq_false (by omega)
    have e2:¬ (ii:Int) < (nn:Int):=by omega
    have e3:decide (nn≤ii)=true:=decide_eq_true (by omega)
    rw[hnn] at t0
    rw[hii] at t1
    clear hf hnn hii
    go_wp2_with fail
    go_quiet ((go_at_call 17;exact Calls.quiet_of_same (HOK.out _ o.s)))
    replace o:=o.low (below_drewN (Below.refl _ _) nq)
    replace ht:=ht.grown (p:=(w1.heap.size+1)) (zAa (below_drewN (Below.refl _ _) nq) _) (by omega)
    generalize hwq:wr.drewN nq=wq at *
    clear hwq t0 t1
    go_wp2_with fail
    refine (HOK.out _ o.s).mono ?_
    rintro e w5 ⟨rfl,rfl⟩
    have k1:=HK.out.1.gr o.g (by omega)
    have k2:=HK.out.2.gr o.g (by omega)
    have hB3:Below w.heap.size w w5:=HB1.out.trans ⟨o.g.os,o.g.tape,o.g.output,o.g.size,fun i hi=>o.g.block i (by have:=HPS.out.lt;omega) (by intro e;injection e with e;omega)⟩
    have HB3:=Hd hB3
    have HKK:=Hd (Ai k1 k2)
    have HT:=Hd ht
    obtain⟨r0,r1,f0,f1⟩:=k1.cells2
    obtain⟨r2,r3,f2,f3⟩:=k2.cells2
    obtain⟨r4,r5,_⟩:=o.r.cells2
    have hs2:w.heap.size+1 < w5.heap.size:=k2.lt
    have hn1:W2.heap.size≠w.heap.size:=by omega
    have hn2:W2.heap.size≠w.heap.size+1:=by omega
    have hlo:w.heap.size+1 < W2.heap.size+1:=by omega
    clear k1 k2 hB3 o ht
    go_wp2_with fail
    obtain⟨z1,z2⟩:=two_sets HKK.out.1 HKK.out.2 (.slice A1 L1 c1) (.slice A2 L2 c2) (.int .i64 0) (.int .i64 0)
    obtain⟨q0,q1,_⟩:=z1.cells2
    obtain⟨q2,q3,_⟩:=z2.cells2
    exact bodyPost_ret (v:=.tuple #[.agg #[.slice A1 L1 c1,.slice A2 L2 c2],.agg #[.int .i64 0,.int .i64 0]]) (by simp[results,Tryz.results8,go_sem,q0,q1,q2,q3]) rfl
     ⟨A1,L1,c1,A2,L2,c2,rfl,pa_keep2 keepsA (HA.out ▸ HT.out.a.out keepsA) hlo _ _ _ _,pa_keep2 keepsF (HF.out ▸ HT.out.outF) hlo _ _ _ _,((((HB3.out.setCell (Lr _) _).setCell (Lr _) _).setCell (Nat.le_succ _) _).setCell (Nat.le_succ _) _)⟩
  ·have hst:(s'.f||decide (ts.length≤s'.i))=false:=by simpa using hst
   have hff:s'.f=false∧s'.i < ts.length:=by simpa using hst
   have HOK:=Hd (fun w h=>zAn ts s.size (w1.heap.size+1) s' true (by rw[hff.1];rfl) w h)
   obtain⟨nn,hnn⟩:∃ nn,ts.length=nn:=⟨_,rfl⟩
   obtain⟨ii,hii⟩:∃ ii,s'.i=ii:=⟨_,rfl⟩
   have e1:decide ((ii:Int) < (nn:Int))=true:=decide_eq_true (by omega)
   have e2:(ii:Int) < (nn:Int):=by omega
   have e3:decide (nn≤ii)=false:=decide_eq_false (by omega)
   rw[hnn] at t0
   rw[hii] at t1
   have HFF:=Hd hff
   have HST:=Hd hst
   obtain⟨bx,hbx⟩:∃ b,rAt ts s' 0 zB9=b:=⟨_,rfl⟩
   have HBX:=Hd hbx
   have HA:=Hd hA
   have HF:=Hd hF
   have HS:=Hd hS
   clear hff hst hnn hii hbx hA hF hS
   go_wp2_with fail
   go_quiet ((go_at_call 17;exact Calls.quiet_of_same (HOK.out _ o.s)))
   replace o:=o.low (below_drewN (Below.refl _ _) nq)
   replace ht:=ht.grown (p:=(w1.heap.size+1)) (zAa (below_drewN (Below.refl _ _) nq) _) (by omega)
   generalize hwq:wr.drewN nq=wq at *
   clear hwq t0 t1 e1 e2 e3
   go_wp2_with fail
   refine (zAe ts s.size (w1.heap.size+1) s' 0 (by decide) zB9 bx HBX _ o.s).mono ?_
   rintro e w5 ⟨rfl,hb1⟩
   have hg:=zAa hb1 (some (w1.heap.size+1))
   have hp:=o.s.keep hb1
   replace o:=o.acc hg hp
   replace ht:=ht.grown hg (by omega)
   clear hb1 hg hp
   cases bx with
   | true =>
    have hlen:=zAo (zBd HBX.out)
    have hmv:=zAj (ts:=ts) (s:=s') hlen
    obtain⟨⟨⟨an,ai⟩,s9⟩,hc⟩:∃ x,raaF ts (adv s')=x:=⟨_,rfl⟩
    have hA:=HA.out
    have hF:=HF.out
    have hS:=HS.out
    rw[rpg_arr HST.out HBX.out hc] at hA hF hS
    have hm2:=ms_raa (ts:=ts) (adv s')
    rw[hc] at hm2
    dsimp only at hA hF hS hm2
    have HA2:=Hd hA
    have HF2:=Hd hF
    have HS2:=Hd hS
    unfold raaF at hc
    obtain⟨sn,hsn⟩:∃ x,rNmS ts (adv s')=x:=⟨_,rfl⟩
    rw[hsn] at hc
    obtain⟨sk,hsk⟩:∃ x,rSmS ts sn=x:=⟨_,rfl⟩
    rw[hsk] at hc
    injection hc with hc1 hc2
    injection hc1 with hc1 hc3
    have HVN:=Hd hc1
    have HSN:=Hd hsn
    have HVK:=Hd hc3
    have HSK:=Hd hsk
    have HSE:=Hd hc2
    clear hA hF hS HA HF HS hc1 hc2 hc3 hsn hsk HST HFF
    obtain⟨_,_,_,d1,_,_,_,f1,_,_,_,hiI,hlI,_⟩:=o.s.cells
    go_wp2_with fail
    obtain⟨hg,hp⟩:=radv o.s hlen
    replace o:=o.acc hg hp
    replace ht:=ht.grown hg (by omega)
    clear d1 f1 hiI hlI hg hp
    generalize World.setCell _ ⟨w1.heap.size+1,1,none⟩ _=wz at *
    refine (zA9 ts s.size (w1.heap.size+1) (adv s') sn an HVN HSN _ o.s).mono ?_
    rintro e w6 ⟨rfl,hg,hp⟩
    replace o:=o.acc hg hp
    replace ht:=ht.grown hg (by omega)
    clear hg hp
    go_wp2_with fail
    refine (rsmall_any ts s.size (w1.heap.size+1) sn sk ai HVK HSK _ o.s).mono ?_
    rintro e w7 ⟨rfl,hg,hp⟩
    replace o:=o.acc hg hp
    replace ht:=ht.grown hg (by omega)
    clear hg hp
    go_wp2_with fail
    refine (zAc ts s.size (w1.heap.size+1) sk s9 zA1 HSE _ o.s).mono ?_
    rintro e w8 ⟨rfl,hg,hp⟩
    replace o:=o.acc hg hp
    replace ht:=ht.grown hg (by omega)
    clear hg hp
    have hlen2:=ht.a.len
    have hcz:ca.length≤30000:=by omega
    have hown:=ht.a.own
    obtain⟨k0,k1,_⟩:=o.r.cells2
    have hgz:W2.heap.size < w8.heap.size:=o.r.lt
    obtain⟨Av,Lv,cv,rfl⟩:=ht.a.form
    have HO:=Hd o
    have HT:=Hd ht
    clear o ht
    go_wp2_with (
     at_builtin
     refine wpList_append_own_at _ rfl (.tmp 51) (.tmp 55) 23 rfl (W2.heap.size+1) 75 i0 _ 2 24 Tryz.underlying23 hi hz0 hz1 hz2 rfl (by decide) _ _ _ rfl (hown.alloc _) ⟨w8.heap.size,0,none⟩ 1 1 [.string ⟨an.toArray⟩,.int .i64 ai] rfl rfl (World.news_of_block (heap_alloc_new _ _)) (by simp[Value.oneCell']) (by unfold maxLen;omega) (by omega) (by simp;omega) ?_
     intro v2 w9 hown2 hgr2 _ hob
     have hrow:∀ k,(Value.slice Av Lv cv).ownBlock=some k→W2.heap.size+1≤k:=fun k hk=>(HT.out.a.own.lt k hk).1
     have o5:=(HO.out.al (.cells #[.string ⟨an.toArray⟩,.int .i64 ai] 75)).rowg hgr2 (fun k hk=>by have:=hrow k hk;omega)
     have t5:=HT.out.snocA (x:=(an,ai)) rfl hown2 hgr2 hob
     obtain⟨A5,L5,c5,rfl⟩:=t5.a.form
     obtain⟨q0,q1,g0,g1⟩:=o5.r.cells2)
    have o6:=o5.own 0 (.slice A5 L5 c5)
    have t6:=t5.far1 (a:=⟨W2.heap.size,0,none⟩) (by show W2.heap.size < W2.heap.size+1;omega) (.slice A5 L5 c5)
    go_roundg m
    case measure=>exact Nat.lt_succ_self m
    case rel=>exact⟨s9,xa++[(an,ai)],_,_,xf,cf,vf,by rw[List.append_assoc];exact HA2.out,HF2.out,HS2.out,by omega,by simp;omega,o6,t6⟩
   | false =>
    obtain⟨s2,hs2⟩:∃ x,rEx ts s' zCp=x:=⟨_,rfl⟩
    obtain⟨⟨fn,s9⟩,hc⟩:∃ x,rfnF ts m s2=x:=⟨_,rfl⟩
    have hA:=HA.out
    have hF:=HF.out
    have hS:=HS.out
    rw[rpg_fun HST.out HBX.out hs2 hc] at hA hF hS
    have hms:=ms_rEx_lt (ts:=ts) HFF.out.1 zCp
    rw[hs2] at hms
    have hm2:=ms_rfn (ts:=ts) m s2
    rw[hc] at hm2
    dsimp only at hA hF hS hm2
    have HA2:=Hd hA
    have HF2:=Hd hF
    have HS2:=Hd hS
    have HSE:=Hd hs2
    have HC:=Hd hc
    have hfn:20 * ms ts s2+18≤m:=by omega
    clear hA hF hS HA HF HS hs2 hc HST HFF
    go_wp2_with fail
    refine (zAc ts s.size (w1.heap.size+1) s' s2 zCp HSE _ o.s).mono ?_
    rintro e w6 ⟨rfl,hg,hp⟩
    replace o:=o.acc hg hp
    replace ht:=ht.grown hg (by omega)
    clear hg hp
    go_wp2_with fail
    have hlen2:=ht.l
    have hcz:cf.length≤30000:=by omega
    have hgz0:W2.heap.size < w6.heap.size:=o.r.lt
    have hlo3:W2.heap.size+1≤w6.drew.heap.size:=hgz0
    have hva3:∀ k,va.ownBlock=some k→k < w6.drew.heap.size:=fun k hk=>(ht.a.own.lt k hk).2
    have hvf3:∀ k,vf.ownBlock=some k→k < w6.drew.heap.size:=fun k hk=>(ht.o.lt k hk).2
    have oD:ROwn ts s.size (w1.heap.size+1) s2 26 #[va,vf] W2 w6.drew:=o.low (below_drewN (Below.refl _ _) 1)
    have htD:=ht.grown (w':=w6.drew) (p:=(w1.heap.size+1)) (zAa (below_drewN (Below.refl _ _) 1) _) (by omega)
    have hcall:=rfn_any ts s.size (w1.heap.size+1) m s2 _ _ HC hfn oD.s
    have z0:=o.r.cell 1
    refine wp_region_any (by kernel_rfl) ?_
    change wpAny _ _ _ _ _ _ _ (World.drew _)
    refine wpAny_take (i:=0) (v:=.pointer (some ⟨W2.heap.size,1,none⟩)) rfl (by kernel_rfl) (by kernel_rfl) (by kernel_rfl) (fun _ _ _ h=>h) (Or.inl ⟨by kernel_rfl,fun w=>by go_simp⟩) ?_
    refine wpAny_take (i:=2) (v:=.pointer (some ⟨w1.heap.size+1,0,none⟩)) rfl (by kernel_rfl) (by kernel_rfl) (by kernel_rfl) (fun _ _ _ h=>h) (Or.inl ⟨by kernel_rfl,fun w=>by go_simp⟩) ?_
    refine wpAny_ready (rs:=[1,3]) (by kernel_rfl) (by simp) ?_
    refine AllReady.cons rfl (fun K hK'=>?_) (AllReady.cons rfl (fun K hK'=>?_) AllReady.nil)
    ·go_simp
     refine hK' _ _ ?_
     clear hK' K
     refine wpAny_ready (rs:=[3]) (by kernel_rfl) (by simp) ?_
     refine AllReady.cons rfl (fun K hK'=>?_) AllReady.nil
     go_simp
     go_wp2_with (go_at_call 22;((with_reducible refine hcall.mono ?_);rintro e wc ⟨fname,B1,M1,e1,B2,M2,e2,B3,M3,e3,kd,nf,nm,op,B4,M4,e4,rfl,hr,hg,hp⟩;have hgz:=hg.size;have oE:=oD.acc hg hp;have htE:=htD.grown hg (show (w1.heap.size+1) < W2.heap.size+1 by omega)))
     refine wpAny_ready (rs:=[4]) (by kernel_rfl) (by simp) ?_
     refine AllReady.cons rfl (fun K hK'=>?_) AllReady.nil
     go_simp
     refine hK' _ _ ?_
     clear hK' K
     refine wpAny_ready (rs:=[5]) (by kernel_rfl) (by simp) ?_
     refine AllReady.cons rfl (fun K hK'=>?_) AllReady.nil
     rw[if_pos (by kernel_rfl)]
     refine wp_app (.tmp 61) (.tmp 64) _ rfl (W2.heap.size+1) 38 i1 _ 9 152 Tryz.underlying24 gi gz0 gz1 gz2 rfl (by decide) _ _ _ rfl (htE.o.alloc _) ⟨wc.heap.size,0,none⟩ 1 [.string ⟨fname.toArray⟩,.slice B1 M1 e1,.slice B2 M2 e2,.slice B3 M3 e3,.int .i64 kd,.int .i64 nf,.string ⟨nm.toArray⟩,.int .i64 op,.slice B4 M4 e4] rfl rfl (World.news_of_block (heap_alloc_new _ _)) (by simp[Value.oneCell']) (by unfold maxLen;omega) (by omega) (by have:=oE.r.lt;simp;omega) ?_
     intro v2 w5 hown2 hgr2 hob
     refine hK' _ _ ?_
     clear hK' K
     have hrow:∀ k,vf.ownBlock=some k→W2.heap.size+1≤k:=fun k hk=>(htE.o.lt k hk).1
     have o5:=(oE.al (.cells #[.string ⟨fname.toArray⟩,.slice B1 M1 e1,.slice B2 M2 e2,.slice B3 M3 e3,.int .i64 kd,.int .i64 nf,.string ⟨nm.toArray⟩,.int .i64 op,.slice B4 M4 e4] 38)).rowg hgr2 (fun k hk=>by have:=hrow k hk;omega)
     have t5:=htE.snocF (x:=fn) (cs:=[.string ⟨fname.toArray⟩,.slice B1 M1 e1,.slice B2 M2 e2,.slice B3 M3 e3,.int .i64 kd,.int .i64 nf,.string ⟨nm.toArray⟩,.int .i64 op,.slice B4 M4 e4]) hr hlo3 hva3 hvf3 rfl hown2 hgr2 hob
     obtain⟨A5,L5,c5,rfl⟩:=t5.formF
     have q0:=o5.r.cell 1
     have g0:=o5.r.free 1
     refine wpAny_take (i:=6) (v:=.pointer (some ⟨W2.heap.size,1,none⟩)) rfl (by kernel_rfl) (by kernel_rfl) (by kernel_rfl) (fun _ _ _ h=>h) (Or.inl ⟨by kernel_rfl,fun w=>by go_simp⟩) ?_
     refine wpAny_ready (rs:=[7]) (by kernel_rfl) (by simp) ?_
     refine AllReady.cons rfl (fun K hK'=>?_) AllReady.nil
     go_simp
     refine hK' _ _ ?_
     clear hK' K
     refine wpAny_done (by kernel_rfl) ?_ _
     have o6:=o5.own 1 (.slice A5 L5 c5)
     have t6:=t5.far1 (a:=⟨W2.heap.size,1,none⟩) (by show W2.heap.size < W2.heap.size+1;omega) (.slice A5 L5 c5)
     go_wp2_with fail
     go_roundg m
     case measure=>exact Nat.lt_succ_self m
     case rel=>exact⟨s9,xa,ca,va,xf++[fn],_,_,HA2.out,by rw[List.append_assoc];exact HF2.out,HS2.out,by omega,by simp;omega,o6,t6⟩
    ·go_simp
     go_wp2_with (go_at_call 22;((with_reducible refine hcall.mono ?_);rintro e wc ⟨fname,B1,M1,e1,B2,M2,e2,B3,M3,e3,kd,nf,nm,op,B4,M4,e4,rfl,hr,hg,hp⟩;have hgz:=hg.size;have oE:=oD.acc hg hp;have htE:=htD.grown hg (show (w1.heap.size+1) < W2.heap.size+1 by omega)))
     have j0:=oE.r.cell 1
     refine wpAny_ready (rs:=[1,4]) (by kernel_rfl) (by simp) ?_
     refine AllReady.cons rfl (fun K hK'=>?_) (AllReady.cons rfl (fun K hK'=>?_) AllReady.nil)
     ·go_simp
      refine hK' _ _ ?_
      clear hK' K
      refine wpAny_ready (rs:=[4]) (by kernel_rfl) (by simp) ?_
      refine AllReady.cons rfl (fun K hK'=>?_) AllReady.nil
      go_simp
      refine hK' _ _ ?_
      clear hK' K
      refine wpAny_ready (rs:=[5]) (by kernel_rfl) (by simp) ?_
      refine AllReady.cons rfl (fun K hK'=>?_) AllReady.nil
      rw[if_pos (by kernel_rfl)]
      refine wp_app (.tmp 61) (.tmp 64) _ rfl (W2.heap.size+1) 38 i1 _ 9 152 Tryz.underlying24 gi gz0 gz1 gz2 rfl (by decide) _ _ _ rfl (htE.o.alloc _) ⟨wc.heap.size,0,none⟩ 1 [.string ⟨fname.toArray⟩,.slice B1 M1 e1,.slice B2 M2 e2,.slice B3 M3 e3,.int .i64 kd,.int .i64 nf,.string ⟨nm.toArray⟩,.int .i64 op,.slice B4 M4 e4] rfl rfl (World.news_of_block (heap_alloc_new _ _)) (by simp[Value.oneCell']) (by unfold maxLen;omega) (by omega) (by have:=oE.r.lt;simp;omega) ?_
      intro v2 w5 hown2 hgr2 hob
      refine hK' _ _ ?_
      clear hK' K
      have hrow:∀ k,vf.ownBlock=some k→W2.heap.size+1≤k:=fun k hk=>(htE.o.lt k hk).1
      have o5:=(oE.al (.cells #[.string ⟨fname.toArray⟩,.slice B1 M1 e1,.slice B2 M2 e2,.slice B3 M3 e3,.int .i64 kd,.int .i64 nf,.string ⟨nm.toArray⟩,.int .i64 op,.slice B4 M4 e4] 38)).rowg hgr2 (fun k hk=>by have:=hrow k hk;omega)
      have t5:=htE.snocF (x:=fn) (cs:=[.string ⟨fname.toArray⟩,.slice B1 M1 e1,.slice B2 M2 e2,.slice B3 M3 e3,.int .i64 kd,.int .i64 nf,.string ⟨nm.toArray⟩,.int .i64 op,.slice B4 M4 e4]) hr hlo3 hva3 hvf3 rfl hown2 hgr2 hob
      obtain⟨A5,L5,c5,rfl⟩:=t5.formF
      have q0:=o5.r.cell 1
      have g0:=o5.r.free 1
      refine wpAny_take (i:=6) (v:=.pointer (some ⟨W2.heap.size,1,none⟩)) rfl (by kernel_rfl) (by kernel_rfl) (by kernel_rfl) (fun _ _ _ h=>h) (Or.inl ⟨by kernel_rfl,fun w=>by go_simp⟩) ?_
      refine wpAny_ready (rs:=[7]) (by kernel_rfl) (by simp) ?_
      refine AllReady.cons rfl (fun K hK'=>?_) AllReady.nil
      go_simp
      refine hK' _ _ ?_
      clear hK' K
      refine wpAny_done (by kernel_rfl) ?_ _
      have o6:=o5.own 1 (.slice A5 L5 c5)
      have t6:=t5.far1 (a:=⟨W2.heap.size,1,none⟩) (by show W2.heap.size < W2.heap.size+1;omega) (.slice A5 L5 c5)
      go_wp2_with fail
      go_roundg m
      case measure=>exact Nat.lt_succ_self m
      case rel=>exact⟨s9,xa,ca,va,xf++[fn],_,_,HA2.out,by rw[List.append_assoc];exact HF2.out,HS2.out,by omega,by simp;omega,o6,t6⟩
     ·go_simp
      refine hK' _ _ ?_
      clear hK' K
      have j1:=(oE.r.alloc (.cells #[.string ⟨fname.toArray⟩,.slice B1 M1 e1,.slice B2 M2 e2,.slice B3 M3 e3,.int .i64 kd,.int .i64 nf,.string ⟨nm.toArray⟩,.int .i64 op,.slice B4 M4 e4] 38)).cell 1
      refine wpAny_ready (rs:=[1]) (by kernel_rfl) (by simp) ?_
      refine AllReady.cons rfl (fun K hK'=>?_) AllReady.nil
      go_simp
      refine hK' _ _ ?_
      clear hK' K
      refine wpAny_ready (rs:=[5]) (by kernel_rfl) (by simp) ?_
      refine AllReady.cons rfl (fun K hK'=>?_) AllReady.nil
      rw[if_pos (by kernel_rfl)]
      refine wp_app (.tmp 61) (.tmp 64) _ rfl (W2.heap.size+1) 38 i1 _ 9 152 Tryz.underlying24 gi gz0 gz1 gz2 rfl (by decide) _ _ _ rfl (htE.o.alloc _) ⟨wc.heap.size,0,none⟩ 1 [.string ⟨fname.toArray⟩,.slice B1 M1 e1,.slice B2 M2 e2,.slice B3 M3 e3,.int .i64 kd,.int .i64 nf,.string ⟨nm.toArray⟩,.int .i64 op,.slice B4 M4 e4] rfl rfl (World.news_of_block (heap_alloc_new _ _)) (by simp[Value.oneCell']) (by unfold maxLen;omega) (by omega) (by have:=oE.r.lt;simp;omega) ?_
      intro v2 w5 hown2 hgr2 hob
      refine hK' _ _ ?_
      clear hK' K
      have hrow:∀ k,vf.ownBlock=some k→W2.heap.size+1≤k:=fun k hk=>(htE.o.lt k hk).1
      have o5:=(oE.al (.cells #[.string ⟨fname.toArray⟩,.slice B1 M1 e1,.slice B2 M2 e2,.slice B3 M3 e3,.int .i64 kd,.int .i64 nf,.string ⟨nm.toArray⟩,.int .i64 op,.slice B4 M4 e4] 38)).rowg hgr2 (fun k hk=>by have:=hrow k hk;omega)
      have t5:=htE.snocF (x:=fn) (cs:=[.string ⟨fname.toArray⟩,.slice B1 M1 e1,.slice B2 M2 e2,.slice B3 M3 e3,.int .i64 kd,.int .i64 nf,.string ⟨nm.toArray⟩,.int .i64 op,.slice B4 M4 e4]) hr hlo3 hva3 hvf3 rfl hown2 hgr2 hob
      obtain⟨A5,L5,c5,rfl⟩:=t5.formF
      have q0:=o5.r.cell 1
      have g0:=o5.r.free 1
      refine wpAny_take (i:=6) (v:=.pointer (some ⟨W2.heap.size,1,none⟩)) rfl (by kernel_rfl) (by kernel_rfl) (by kernel_rfl) (fun _ _ _ h=>h) (Or.inl ⟨by kernel_rfl,fun w=>by go_simp⟩) ?_
      refine wpAny_ready (rs:=[7]) (by kernel_rfl) (by simp) ?_
      refine AllReady.cons rfl (fun K hK'=>?_) AllReady.nil
      go_simp
      refine hK' _ _ ?_
      clear hK' K
      refine wpAny_done (by kernel_rfl) ?_ _
      have o6:=o5.own 1 (.slice A5 L5 c5)
      have t6:=t5.far1 (a:=⟨W2.heap.size,1,none⟩) (by show W2.heap.size < W2.heap.size+1;omega) (.slice A5 L5 c5)
      go_wp2_with fail
      go_roundg m
      case measure=>exact Nat.lt_succ_self m
      case rel=>exact⟨s9,xa,ca,va,xf++[fn],_,_,HA2.out,by rw[List.append_assoc];exact HF2.out,HS2.out,by omega,by simp;omega,o6,t6⟩
theorem rparse_bad (s:ByteArray)(y a:Nat)(hy:y≠0)(ts:List Tk)(hq:Hid (zBl s.data.toList=(ts,y,a)))(w:World) :
 Calls Tryz.prog 8 #[.string s] w (PaP (⟨[],[]⟩,y,a) w):=by
 have hK1:Blk ((w.alloc (.cells pg0 26)).alloc (.cells er0 29)) w.heap.size 26 pg0:=(Blk.new w _ _).alloc _
 have hK2:Blk ((w.alloc (.cells pg0 26)).alloc (.cells er0 29)) (w.heap.size+1) 29 er0:=blk_at (by simp) _ _
 have hB:Below w.heap.size w ((w.alloc (.cells pg0 26)).alloc (.cells er0 29)):=((Below.refl _ _).alloc (Lr _) _).alloc (by simp) _
 have hz:((w.alloc (.cells pg0 26)).alloc (.cells er0 29)).heap.size=w.heap.size+2:=by simp
 have HY:=Hd hy
 have HK1:=Hd hK1
 have HK2:=Hd hK2
 have HB:=Hd hB
 clear hK1 hK2 hB hy
 go_enter Tryz.func8,Tryz.ntmps8
 go_wp2_with fail
 generalize hW:(w.alloc (.cells pg0 26)).alloc (.cells er0 29)=W at *
 clear hW
 refine (rscan_q s _ hq W).mono ?_
 rintro e w1 ⟨A,c,rfl,htk,hb⟩
 have hsz:=hb.size
 have k1:=(((HK1.out.on hb HK1.out.lt).alloc (.cells #[.int .i64 (y:Int),.int .i64 (a:Int)] 29)).alloc (.cells #[.slice A ts.length c,.int .i64 0,.int .i64 (s.size:Int),.int .i64 (y:Int),.int .i64 (a:Int)] 69)).alloc (.cells pg0 26)
 have k2:=(((HK2.out.on hb HK2.out.lt).alloc (.cells #[.int .i64 (y:Int),.int .i64 (a:Int)] 29)).alloc (.cells #[.slice A ts.length c,.int .i64 0,.int .i64 (s.size:Int),.int .i64 (y:Int),.int .i64 (a:Int)] 69)).alloc (.cells pg0 26)
 have kp:Blk (((w1.alloc (.cells #[.int .i64 (y:Int),.int .i64 (a:Int)] 29)).alloc (.cells #[.slice A ts.length c,.int .i64 0,.int .i64 (s.size:Int),.int .i64 (y:Int),.int .i64 (a:Int)] 69)).alloc (.cells pg0 26)) (w1.heap.size+1) 69 #[.slice A ts.length c,.int .i64 0,.int .i64 (s.size:Int),.int .i64 (y:Int),.int .i64 (a:Int)]:=Blk.alloc (blk_at (by simp) _ _) _
 have hbl:Below w1.heap.size w1 (((w1.alloc (.cells #[.int .i64 (y:Int),.int .i64 (a:Int)] 29)).alloc (.cells #[.slice A ts.length c,.int .i64 0,.int .i64 (s.size:Int),.int .i64 (y:Int),.int .i64 (a:Int)] 69)).alloc (.cells pg0 26)):=(((Below.refl _ _).alloc (Lr _) _).alloc (by simp) _).alloc (by simp;omega) _
 have hB1:=HB.out.trans (below_down (hb.trans (below_down hbl hb.size)) HB.out.size)
 have HK:=Hd (Ai k1 k2)
 have HKP:=Hd kp
 have HB1:=Hd hB1
 clear htk hb k1 k2 kp hbl hB1
 go_wp2_with fail
 generalize hWX:((w1.alloc (.cells #[.int .i64 (y:Int),.int .i64 (a:Int)] 29)).alloc (.cells #[.slice A ts.length c,.int .i64 0,.int .i64 (s.size:Int),.int .i64 (y:Int),.int .i64 (a:Int)] 69)).alloc (.cells pg0 26)=WX at *
 clear hWX
 go_loopg [8,9] 0 (fun k v8 v9 wr=>wr=WX)
 case atStart=>rfl
 case round =>
  subst hrel
  have kp:=HKP.out
  go_wp2_with fail
  go_quiet ((go_at_call 17;exact Calls.quiet_of_same (rok_bad _ _ _ _ _ _ y HY.out _ kp)))
  have k1:=HK.out.1.drewN nq
  have k2:=HK.out.2.drewN nq
  replace kp:=kp.drewN nq
  have hB3:=below_drewN HB1.out nq
  generalize hwq:World.drewN _ nq=wq at *
  clear hwq HK HKP HB1
  go_wp2_with fail
  refine (rok_bad _ _ _ _ _ _ y HY.out _ kp).mono ?_
  rintro e w5 ⟨rfl,rfl⟩
  obtain⟨_,_,_,d3,d4,_⟩:=kp.cells5
  have HB3:=Hd hB3
  have HKK:=Hd (Ai k1 k2)
  obtain⟨r0,r1,f0,f1⟩:=k1.cells2
  obtain⟨r2,r3,f2,f3⟩:=k2.cells2
  have hs2:w.heap.size+1 < w5.heap.size:=k2.lt
  have hn1:w1.heap.size+1≠w.heap.size:=by omega
  have hn2:w1.heap.size+1≠w.heap.size+1:=by omega
  clear k1 k2 kp hB3
  go_upto_region 14 with fail
  go_region
  all_goals
   go_wp2_with fail
   have z1:=((((HKK.out.1.set 0 (.slice none 0 0)).set 1 (.slice none 0 0)).far (p:=⟨w.heap.size+1,0,none⟩) (by show w.heap.size+1≠w.heap.size;omega) (.int .i64 (y:Int))).far (p:=⟨w.heap.size+1,1,none⟩) (by show w.heap.size+1≠w.heap.size;omega) (.int .i64 (a:Int))).drewN 1
   have z2:=((((HKK.out.2.far (p:=⟨w.heap.size,0,none⟩) (by show w.heap.size≠w.heap.size+1;omega) (.slice none 0 0)).far (p:=⟨w.heap.size,1,none⟩) (by show w.heap.size≠w.heap.size+1;omega) (.slice none 0 0)).set 0 (.int .i64 (y:Int))).set 1 (.int .i64 (a:Int))).drewN 1
   obtain⟨q0,q1,_⟩:=z1.cells2
   obtain⟨q2,q3,_⟩:=z2.cells2
   exact bodyPost_ret (v:=.tuple #[.agg #[.slice none 0 0,.slice none 0 0],.agg #[.int .i64 (y:Int),.int .i64 (a:Int)]]) (by simp[results,Tryz.results8,go_sem,show ∀ w:World,w.drew=w.drewN 1 from fun _=>rfl,q0,q1,q2,q3]) rfl
    ⟨none,0,0,none,0,0,rfl,repL_nil _ _ _ _,repL_nil _ _ _ _,below_drewN ((((HB3.out.setCell (Lr _) _).setCell (Lr _) _).setCell (Nat.le_succ _) _).setCell (Nat.le_succ _) _) 1⟩
theorem rrefparse_any (s:ByteArray)(r:PG × Nat × Nat)(hr:Hid (zCg s.data.toList=r))(w:World):Calls Tryz.prog 8 #[.string s] w (PaP r w):=by
 have hr:=hr.out
 unfold zCg at hr
 obtain⟨⟨ts,y,a⟩,hq⟩:∃ q,zBl s.data.toList=q:=⟨_,rfl⟩
 rw[hq] at hr
 dsimp only at hr
 by_cases hy:y=0
 ·rw[if_pos hy] at hr
  subst hy
  have hq2:=hq
  unfold zBl at hq2
  by_cases hl:20000 < s.data.toList.length
  ·rw[if_pos hl] at hq2
   injection hq2 with _ h2
   injection h2 with h2 _
   cases h2
  ·rw[if_neg hl] at hq2
   have ha:a=0:=by
    by_cases h0:(lx s.data.toList 0).2.1=0
    ·rw[if_pos h0] at hq2
     injection hq2 with _ h2
     injection h2 with _ h2
     exact h2.symm
    ·rw[if_neg h0] at hq2
     injection hq2 with _ h2
     rw[h2] at h0
     exact absurd rfl h0
   subst ha
   obtain⟨⟨pg,s1⟩,hp⟩:∃ x,rpgF ts (20 * ts.length+60) ⟨0,false⟩=x:=⟨_,rfl⟩
   rw[hp] at hr
   dsimp only at hr
   have hen:s.size≤20000:=by
    have h1:s.data.toList.length=s.size:=rfl
    omega
   exact rparse_ok s ts (Hd hq) hen pg s1 (Hd hp) r (Hd hr) w
 ·rw[if_neg hy] at hr
  subst hr
  exact rparse_bad s y a hy ts (Hd hq) w
end Go.Proofs.YtpgnlfdindmopaaGreatDoor
