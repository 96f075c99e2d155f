/- Words and walks for the laws of the interpreter. -/
import Derived.RowKit
import Derived.Laws.Entries
import Derived.Lib.Strings
import Derived.Lib.ItoaNum
import Derived.KernelRfl
import Derived.Lib.Hide
namespace Go.Proofs.YtpgnlfdindmopaaGreatDoor
open Go Go.RowKit
theorem Hd{p:Prop}(h:p):Hid p:=Lib.hid h
theorem Ai{p q:Prop}(h:p)(k:q):p∧q:=And.intro h k
theorem Lr(n:Nat):n≤n:=Nat.le_refl n
theorem Ll{n m k:Nat}(h:n<m)(g:m≤k):n<k:=Nat.lt_of_lt_of_le h g
theorem Gs{α:Type}{a:α}{i:Nat}{l:List α}:l[i]?=some a↔∃h:i<l.length,l[i]=a:=List.getElem?_eq_some_iff
theorem Cb{w w':World}{a:Addr}(h:w'.heap[a.block]?=w.heap[a.block]?):w'.cell? a=w.cell? a:=World.cell?_of_block h
theorem Ge{α:Type}{i:Nat}{l:List α}(h:i<l.length):l[i]?=some l[i]:=List.getElem?_eq_getElem h
theorem Oi{α:Type}{a b:α}(h:some a=some b):a=b:=Option.some.inj h
end Go.Proofs.YtpgnlfdindmopaaGreatDoor
namespace Go.Proofs.YtpgnlfdindmopaaGreatDoor.WM
open Go Go.RowKit
def inW (a:Int):Prop:=-9223372036854775808≤a∧a≤9223372036854775807
def bv (a:Int):BitVec 64:=BitVec.ofInt 64 a
def shc (b:Int):Int:=b % 64
def tr (p:Bool):Int:=if p then 1 else 0
def divF (a b:Int):Int:=if b=0 then 0 else wrap64 (a.tdiv b)
def remF (a b:Int):Int:=if b=0 then 0 else a.tmod b
def binF (op a b:Int):Int :=
 if op=4 then wrap64 (a+b) else
 if op=5 then wrap64 (a - b) else
 if op=6 then wrap64 (a * b) else
 if op=7 then divF a b else
 if op=8 then remF a b else
 if op=9 then bits .and .i64 a b else
 if op=10 then bits .or .i64 a b else
 if op=11 then bits .xor .i64 a b else
 if op=12 then wrap64 (a * 2 ^ (shc b).toNat) else
 if op=13 then wrap64 ((a % 18446744073709551616) / 2 ^ (shc b).toNat) else
 if op=14 then a / 2 ^ (shc b).toNat else
 if op=15 then tr (a==b) else
 if op=16 then tr (a != b) else
 if op=17 then tr (decide (a < b)) else
 if op=18 then tr (decide (a≤b)) else
 if op=19 then tr (decide (a % 18446744073709551616 < b % 18446744073709551616)) else 0
def unF (op a:Int):Int :=
 if op=20 then wrap64 (0 - a) else
 if op=21 then bits .xor .i64 (-1) a else 0
theorem wrap64_bv (n:Int):wrap64 n=(bv n).toInt:=by
 unfold bv
 rw[BitVec.toInt_ofInt,Int.bmod_def,wrap64]
 have e:((2 ^ 64:Nat):Int)=18446744073709551616:=by decide
 rw[e];omega
theorem bv_toInt (x:BitVec 64):bv x.toInt=x:=BitVec.ofInt_toInt
theorem wrap_in (n:Int):inW (wrap64 n):=by unfold inW wrap64;omega
theorem i64wrap_nat (x:BitVec 64):IntKind.i64.wrap (x.toNat:Int)=x.toInt:=by
 have:=x.isLt
 rw[BitVec.toInt_eq_toNat_bmod,Int.bmod_def]
 simp[IntKind.wrap,IntKind.bits,IntKind.signed]
 omega
theorem bits_xor (a b:Int):bits .xor .i64 a b=(bv a ^^^ bv b).toInt:=by
 unfold bits;exact i64wrap_nat _
theorem zCa (b:Int):0≤shc b∧shc b < 64:=by unfold shc;omega
theorem u64wrap_nat (x:BitVec 64):IntKind.u64.wrap (x.toNat:Int)=(x.toNat:Int):=by
 have h:=x.isLt
 simp only[IntKind.wrap,IntKind.bits,IntKind.signed,Bool.false_and,Bool.false_eq_true,if_false]
 omega
theorem bits63 (b:Int):bits .and .u64 (b % 18446744073709551616) 63=shc b:=by
 have e:bits .and .u64 (b % 18446744073709551616) 63=((BitVec.ofInt 64 (b % 18446744073709551616) &&& BitVec.ofInt 64 63).toNat:Int):=by
  unfold bits;exact u64wrap_nat _
 rw[e,BitVec.toNat_and,BitVec.toNat_ofInt,BitVec.toNat_ofInt]
 have h63:((63:Int) % (2 ^ 64:Nat)).toNat=2 ^ 6 - 1:=by decide
 rw[h63,Nat.and_two_pow_sub_one_eq_mod]
 have e2:((2 ^ 64:Nat):Int)=18446744073709551616:=by decide
 rw[e2];unfold shc;omega
theorem in0:inW 0:=by unfold inW;omega
theorem ite_in {p:Prop} [Decidable p] {x y:Int}(hx:inW x)(hy:inW y):inW (if p then x else y):=by split <;> assumption
theorem u64wrap (b:Int):IntKind.u64.wrap b=b % 18446744073709551616:=by
 simp only[IntKind.wrap,IntKind.bits,IntKind.signed,Bool.false_and,Bool.false_eq_true,if_false];rfl
theorem bits63w (b:Int):bits .and .u64 (IntKind.u64.wrap b) 63=shc b:=by rw[u64wrap,bits63]
def dstep (n:Int)(c:UInt8):Int:=wrap64 (wrap64 (wrap64 (10 * n)+wrap64 (c.toNat:Int)) - 48)
def dfold (l:List UInt8):Int:=l.foldl dstep 0
theorem dfold_in (l:List UInt8):inW (dfold l):=by
 unfold dfold
 suffices h:∀ n,inW n→inW (l.foldl dstep n) from h 0 in0
 induction l with
 | nil=>exact fun n h=>h
 | cons c l ih=>exact fun n _=>ih _ (wrap_in _)
theorem dfold_snoc (l:List UInt8)(c:UInt8):dfold (l++[c])=dstep (dfold l) c:=by simp[dfold]
theorem take_snoc (s:ByteArray)(k:Nat)(h:k < s.size):s.data.toList.take (k+1)=s.data.toList.take k++[s[k]]:=by
 rw[List.take_succ_eq_append_getElem (by simpa using h)];rfl
def valF (l:List UInt8):Int:=if Lib.hasPrefix l [45] then wrap64 (-dfold (Lib.trimPrefix l [45])) else dfold (Lib.trimPrefix l [45])
def zA0 (l:List UInt8):Bool:=Lib.itoa (valF l)==l
def zBb (l:List UInt8):Int:=if zA0 l then valF l else 0
theorem wrap_step (x u d:Int)(h:u=10 * x+d):wrap64 (wrap64 (wrap64 (10 * wrap64 x)+wrap64 (48+d)) - 48)=wrap64 u:=by
 subst h;unfold wrap64;omega
theorem dfold_one (c:UInt8):dfold [c]=dstep 0 c:=by unfold dfold;rw[List.foldl_cons,List.foldl_nil]
theorem digit_nat (d:Nat)(h:d < 10):((UInt8.ofNat (48+d)).toNat:Int)=48+(d:Int):=by
 rw[UInt8.toNat_ofNat'];omega
theorem wrap_zero:wrap64 0=0:=by unfold wrap64;omega
theorem dfold_dec (u:Nat):dfold (Lib.decDigits u)=wrap64 (u:Int):=by
 induction u using Nat.strongRecOn with
 | _ u ih =>
  by_cases h:u < 10
  ·rw[Lib.decDigits_one h,dfold_one]
   unfold dstep
   rw[digit_nat u h,←wrap_zero]
   exact wrap_step 0 u u (by omega)
  ·rw[Lib.decDigits,dif_neg h,dfold_snoc,ih (u / 10) (by omega)]
   unfold dstep
   rw[digit_nat (u % 10) (by omega)]
   exact wrap_step _ u _ (by omega)
theorem dec_head (u:Nat):∃ c l,Lib.decDigits u=c :: l∧48≤c.toNat∧c.toNat≤57:=by
 induction u using Nat.strongRecOn with
 | _ u ih =>
  by_cases h:u < 10
  ·rw[Lib.decDigits_one h]
   exact⟨_,_,rfl,by rw[UInt8.toNat_ofNat'];omega,by rw[UInt8.toNat_ofNat'];omega⟩
  ·obtain⟨c,l,e,h1,h2⟩:=ih (u / 10) (by omega)
   rw[Lib.decDigits,dif_neg h,e]
   exact⟨c,_,rfl,h1,h2⟩
theorem hasP_cons (c:UInt8)(l:List UInt8):Lib.hasPrefix (c :: l) [45]=(45==c):=by
 simp[Lib.hasPrefix,List.isPrefixOf]
theorem valF_neg (l:List UInt8):valF (45 :: l)=wrap64 (-dfold l):=by
 unfold valF Lib.trimPrefix
 rw[hasP_cons];simp
theorem valF_dec (u:Nat):valF (Lib.decDigits u)=wrap64 (u:Int):=by
 obtain⟨c,l,e,h1,h2⟩:=dec_head u
 have h:=dfold_dec u
 rw[e] at h ⊢
 unfold valF Lib.trimPrefix
 rw[hasP_cons]
 have hc:(45==c)=false:=by
  rw[beq_eq_false_iff_ne];rintro rfl;simp at h1
 rw[hc];simpa using h
theorem valF_itoa (n:Int)(h:inW n):valF (Lib.itoa n)=n:=by
 have hn:=h
 unfold inW at h
 unfold Lib.itoa
 split
 ·rw[valF_neg,dfold_dec];unfold wrap64;omega
 ·rw[valF_dec];unfold wrap64;omega
theorem parseB_itoa (n:Int)(h:inW n):zA0 (Lib.itoa n)=true:=by unfold zA0;rw[valF_itoa n h];simp
theorem parseV_itoa (n:Int)(h:inW n):zBb (Lib.itoa n)=n:=by unfold zBb;rw[parseB_itoa n h,valF_itoa n h];rfl
end Go.Proofs.YtpgnlfdindmopaaGreatDoor.WM
namespace Go.Proofs.YtpgnlfdindmopaaGreatDoor.WM
open Go Go.RowKit
theorem b4 (a b:Int):binF 4 a b=wrap64 (a+b):=by simp[binF]
theorem b5 (a b:Int):binF 5 a b=wrap64 (a - b):=by simp[binF]
theorem b6 (a b:Int):binF 6 a b=wrap64 (a * b):=by simp[binF]
theorem bv_mul (a b:Int):bv (a * b)=bv a * bv b:=BitVec.ofInt_mul a b
theorem add_comm (a b:Int):binF 4 a b=binF 4 b a:=by rw[b4,b4,Int.add_comm]
theorem mul_comm (a b:Int):binF 6 a b=binF 6 b a:=by rw[b6,b6,Int.mul_comm]
theorem mul_assoc (a b c:Int):binF 6 (binF 6 a b) c=binF 6 a (binF 6 b c):=by
 simp only[b6,wrap64_bv,bv_mul,bv_toInt,BitVec.mul_assoc]
theorem b7 (a b:Int):binF 7 a b=divF a b:=by simp[binF]
theorem b8 (a b:Int):binF 8 a b=remF a b:=by simp[binF]
theorem b15 (a b:Int):binF 15 a b=tr (a==b):=by simp[binF]
theorem b16 (a b:Int):binF 16 a b=tr (a != b):=by simp[binF]
theorem nDigits_le:∀ (k u:Nat),u < 10 ^ (k+1)→Lib.nDigits u≤k+1
 | 0,u,h=>by rw[Lib.nDigits_small (by simpa using h)];exact Lr _
 | k+1,u,h=>by
  by_cases h10:u < 10
  ·rw[Lib.nDigits_small h10];omega
  ·rw[Lib.nDigits_big h10]
   rw[Nat.pow_succ] at h
   have:=nDigits_le k (u / 10) (by omega)
   omega
end Go.Proofs.YtpgnlfdindmopaaGreatDoor.WM
namespace Go.Proofs.YtpgnlfdindmopaaGreatDoor.WM
open Go Go.RowKit
def digB (c:UInt8):Bool:=decide (48≤c.toNat)&&decide (c.toNat≤57)
def okc (l:List UInt8)(i:Nat):Bool:=digB (l.getD i 0)&&!(i==1&&l.getD 0 0==48)&&decide (i≤18)
def nstep (n:Nat)(c:UInt8):Nat:=10 * n+(c.toNat - 48)
def zA2 (l:List UInt8):Nat:=l.foldl nstep 0
def allOk (l:List UInt8):Bool:=(List.range l.length).all (okc l)
def numB (l:List UInt8)(most:Nat):Bool:=allOk l&&!l.isEmpty&&decide (zA2 l≤most)
def numV (l:List UInt8)(most:Nat):Nat:=if numB l most then zA2 l else 0
theorem nfold_snoc (l:List UInt8)(c:UInt8):zA2 (l++[c])=10 * zA2 l+(c.toNat - 48):=by simp[zA2,nstep]
theorem numB_bad (l:List UInt8)(most i:Nat)(hi:i < l.length)(h:okc l i=false):numB l most=false:=by
 unfold numB allOk
 have:(List.range l.length).all (okc l)=false:=by
  rw[List.all_eq_false];exact⟨i,by simpa using hi,by simp[h]⟩
 rw[this];rfl
theorem allOk_of (l:List UInt8)(h:∀ i,i < l.length→okc l i=true):allOk l=true:=by
 unfold allOk;rw[List.all_eq_true];intro i hi;exact h i (by simpa using hi)
theorem allOk_at {l:List UInt8}(h:allOk l=true)(i:Nat)(hi:i < l.length):okc l i=true:=by
 unfold allOk at h;rw[List.all_eq_true] at h;exact h i (by simpa using hi)
theorem zB5 {l:List UInt8}{i:Nat}(h:okc l i=true):48≤(l.getD i 0).toNat∧(l.getD i 0).toNat≤57∧¬ (i=1∧l.getD 0 0=48)∧i≤18:=by
 unfold okc digB at h
 simp only[Bool.and_eq_true,decide_eq_true_eq,Bool.not_eq_true',Bool.and_eq_false_iff,beq_eq_false_iff_ne] at h
 obtain⟨⟨⟨h1,h2⟩,h3⟩,h4⟩:=h
 exact⟨h1,h2,fun ⟨a,b⟩=>h3.elim (fun h=>h a) (fun h=>h b),h4⟩
theorem okc_mk {l:List UInt8}{i:Nat}(h1:48≤(l.getD i 0).toNat)(h2:(l.getD i 0).toNat≤57)(h3:i=1→l.getD 0 0≠48)(h4:i≤18):okc l i=true:=by
 unfold okc digB
 simp only[Bool.and_eq_true,decide_eq_true_eq,Bool.not_eq_true',Bool.and_eq_false_iff,beq_eq_false_iff_ne]
 refine⟨⟨⟨h1,h2⟩,?_⟩,h4⟩
 by_cases h:i=1
 ·exact Or.inr (h3 h)
 ·exact Or.inl h
theorem snoc_ind {P:List UInt8→Prop}(h0:P [])(hs:∀ l c,P l→P (l++[c]))(l:List UInt8):P l:=by
 have h:∀ m:List UInt8,P m.reverse:=fun m=>by
  induction m with
  | nil=>exact h0
  | cons c m ih=>rw[List.reverse_cons];exact hs _ _ ih
 have:=h l.reverse
 rwa [List.reverse_reverse] at this
theorem nfold_lt (l:List UInt8):(∀ c∈l,c.toNat≤57)→zA2 l < 10 ^ l.length:=by
 refine snoc_ind (P:=fun l=>(∀ c∈l,c.toNat≤57)→zA2 l < 10 ^ l.length) (fun _=>by simp[zA2]) (fun l c ih h=>?_) l
 rw[nfold_snoc,List.length_append,List.length_singleton,Nat.pow_succ]
 have h1:=ih (fun c hc=>h c (by simp[hc]))
 have h2:=h c (by simp)
 omega
theorem ofNat_dig (c:UInt8)(h:48≤c.toNat):UInt8.ofNat (48+(c.toNat - 48))=c:=by
 rw[show 48+(c.toNat - 48)=c.toNat by omega,UInt8.ofNat_toNat]
theorem head_snoc (t:List UInt8)(c:UInt8)(h:t≠[]):(t++[c]).getD 0 0=t.getD 0 0:=by
 cases t with
 | nil=>exact absurd rfl h
 | cons a t=>rfl
theorem dec_nfold (l:List UInt8):l≠[]→(∀ c∈l,48≤c.toNat∧c.toNat≤57)→(2≤l.length→l.getD 0 0≠48)→Lib.decDigits (zA2 l)=l:=by
 refine snoc_ind (P:=fun l=>l≠[]→(∀ c∈l,48≤c.toNat∧c.toNat≤57)→(2≤l.length→l.getD 0 0≠48)→Lib.decDigits (zA2 l)=l) (fun h=>absurd rfl h) (fun t c ih _ hd hh=>?_) l
 have hc:=hd c (by simp)
 rw[nfold_snoc]
 by_cases ht:t=[]
 ·subst ht
  have e:10 * zA2 []+(c.toNat - 48)=c.toNat - 48:=by simp[zA2]
  rw[e,Lib.decDigits_one (by omega),ofNat_dig c hc.1];rfl
 ·have hlen:1≤t.length:=by cases t with
   | nil=>exact absurd rfl ht
   | cons a t=>simp
  have h48:t.getD 0 0≠48:=by rw[←head_snoc t c ht];exact hh (by simp;omega)
  have hi:=ih ht (fun x hx=>hd x (by simp[hx])) (fun _=>h48)
  have hpos:1≤zA2 t:=by
   apply Classical.byContradiction
   intro hn
   have h0:zA2 t=0:=by omega
   rw[h0,Lib.decDigits_one (by omega)] at hi
   apply h48;rw[←hi];rfl
  rw[Lib.decDigits,dif_neg (by omega)]
  have e1:(10 * zA2 t+(c.toNat - 48)) / 10=zA2 t:=by omega
  have e2:(10 * zA2 t+(c.toNat - 48)) % 10=c.toNat - 48:=by omega
  rw[e1,e2,hi,ofNat_dig c hc.1]
theorem toNat_dig (d:Nat)(h:d < 10):(UInt8.ofNat (48+d)).toNat=48+d:=by rw[UInt8.toNat_ofNat'];omega
theorem dec_facts (u:Nat):(∀ c∈Lib.decDigits u,48≤c.toNat∧c.toNat≤57)∧(1≤u→(Lib.decDigits u).getD 0 0≠48)∧zA2 (Lib.decDigits u)=u∧Lib.decDigits u≠[]:=by
 induction u using Nat.strongRecOn with
 | _ u ih =>
  by_cases h:u < 10
  ·rw[Lib.decDigits_one h]
   have e:=toNat_dig u h
   refine⟨fun c hc=>?_,fun h1 hh=>?_,?_,by simp⟩
   ·rw[List.mem_singleton] at hc;subst hc;rw[e];omega
   ·have e2:(UInt8.ofNat (48+u))=48:=hh
    rw[e2] at e;have e3:(48:UInt8).toNat=48:=rfl
    omega
   ·have e4:zA2 [UInt8.ofNat (48+u)]=10 * 0+((UInt8.ofNat (48+u)).toNat - 48):=by simp[zA2,nstep]
    rw[e4,e];omega
  ·obtain⟨h1,h2,h3,h4⟩:=ih (u / 10) (by omega)
   have e:=toNat_dig (u % 10) (by omega)
   rw[Lib.decDigits,dif_neg h]
   refine⟨fun c hc=>?_,fun _=>?_,?_,by simp⟩
   ·rcases List.mem_append.1 hc with hc | hc
    ·exact h1 c hc
    ·rw[List.mem_singleton] at hc;subst hc;rw[e];omega
   ·rw[head_snoc _ _ h4];exact h2 (by omega)
   ·rw[nfold_snoc,h3,e];omega
theorem getD_mem {l:List UInt8}{i:Nat}(h:i < l.length):l.getD i 0∈l:=by
 rw[List.getD_eq_getElem?_getD,Ge h];exact List.getElem_mem h
theorem num_dec (u most:Nat)(h:u < 10 ^ 19)(hm:u≤most):numB (Lib.decDigits u) most=true∧numV (Lib.decDigits u) most=u:=by
 obtain⟨h1,h2,h3,h4⟩:=dec_facts u
 have hl:(Lib.decDigits u).length≤19:=by rw[Lib.decDigits_length];exact nDigits_le 18 u h
 have hb:numB (Lib.decDigits u) most=true:=by
  unfold numB
  have ha:allOk (Lib.decDigits u)=true:=allOk_of _ (fun i hi=>by
   have hc:=h1 _ (getD_mem hi)
   refine okc_mk hc.1 hc.2 (fun he=>?_) (by omega)
   subst he
   apply h2
   apply Classical.byContradiction
   intro hu
   rw[Lib.decDigits_one (by omega)] at hi
   simp at hi)
  have he:(Lib.decDigits u).isEmpty=false:=by
   cases hd:Lib.decDigits u with
   | nil=>exact absurd hd h4
   | cons _ _=>rfl
  rw[ha,he,h3];simpa using hm
 refine⟨hb,?_⟩
 unfold numV;rw[hb,h3];rfl
theorem num_canon {l:List UInt8}{most:Nat}(h:numB l most=true):Lib.decDigits (numV l most)=l∧numV l most≤most∧numV l most < 10 ^ 19:=by
 have hv:numV l most=zA2 l:=by unfold numV;rw[h];rfl
 unfold numB at h
 simp only[Bool.and_eq_true,decide_eq_true_eq,Bool.not_eq_true'] at h
 obtain⟨⟨ha,he⟩,hm⟩:=h
 have hne:l≠[]:=by rintro rfl;cases he
 have hlen:l.length≤19:=by
  apply Classical.byContradiction
  intro hn
  have:=(zB5 (allOk_at ha 19 (by omega))).2.2.2
  omega
 have hd:∀ c∈l,48≤c.toNat∧c.toNat≤57:=fun c hc=>by
  obtain⟨i,hi,rfl⟩:=List.mem_iff_getElem.1 hc
  have:=zB5 (allOk_at ha i hi)
  rw[List.getD_eq_getElem?_getD,Ge hi] at this
  exact⟨this.1,this.2.1⟩
 have hh:2≤l.length→l.getD 0 0≠48:=fun h2 h48=>(zB5 (allOk_at ha 1 (by omega))).2.2.1 ⟨rfl,h48⟩
 rw[hv]
 exact⟨dec_nfold l hne hd hh,hm,Ll (nfold_lt l (fun c hc=>(hd c hc).2)) (Nat.pow_le_pow_right (by decide) hlen)⟩
theorem rp_neg (t:List UInt8):zA0 (45 :: t)=(numB t 9223372036854775808&&!(numV t 9223372036854775808==0)) ∧
 zBb (45 :: t)=if numB t 9223372036854775808&&!(numV t 9223372036854775808==0) then -(numV t 9223372036854775808:Int) else 0:=by
 by_cases h:(numB t 9223372036854775808&&!(numV t 9223372036854775808==0))=true
 ·rw[h]
  simp only[Bool.and_eq_true,Bool.not_eq_true',beq_eq_false_iff_ne] at h
  obtain⟨hb,hz⟩:=h
  obtain⟨hc,hm,_⟩:=num_canon hb
  generalize numV t 9223372036854775808=u at hz hc hm
  have hi:Lib.itoa (-(u:Int))=45 :: t:=by
   unfold Lib.itoa;rw[if_pos (by omega),Int.natAbs_neg,Int.natAbs_natCast,hc]
  have hin:inW (-(u:Int)):=by unfold inW;omega
  rw[←hi]
  exact⟨parseB_itoa _ hin,by rw[parseV_itoa _ hin];rfl⟩
 ·have hf:zA0 (45 :: t)=false:=by
   apply Classical.byContradiction
   intro hn
   have ht:zA0 (45 :: t)=true:=by simpa using hn
   apply h
   unfold zA0 at ht
   rw[beq_iff_eq] at ht
   have hv:inW (valF (45 :: t)):=by rw[valF_neg];exact wrap_in _
   generalize valF (45 :: t)=v at ht hv
   unfold inW at hv
   by_cases hv0:v < 0
   ·unfold Lib.itoa at ht
    rw[if_pos hv0,List.cons.injEq] at ht
    obtain⟨n1,n2⟩:=num_dec v.natAbs 9223372036854775808 (by omega) (by omega)
    rw[←ht.2,n1,n2]
    have:v.natAbs≠0:=by omega
    simpa using this
   ·exfalso
    unfold Lib.itoa at ht
    rw[if_neg hv0] at ht
    obtain⟨h1,_⟩:=dec_facts v.toNat
    have:=h1 45 (by rw[ht];simp)
    have e3:(45:UInt8).toNat=45:=rfl
    omega
  have h':(numB t 9223372036854775808&&!(numV t 9223372036854775808==0))=false:=by simpa using h
  rw[h',hf]
  exact⟨rfl,by unfold zBb;rw[hf];rfl⟩
theorem rp_pos (l:List UInt8)(hl:l.getD 0 0≠45):zA0 l=numB l 9223372036854775807∧zBb l=(numV l 9223372036854775807:Int):=by
 by_cases h:numB l 9223372036854775807=true
 ·obtain⟨hc,hm,_⟩:=num_canon h
  rw[h]
  generalize numV l 9223372036854775807=u at hc hm
  have hi:Lib.itoa (u:Int)=l:=by unfold Lib.itoa;rw[if_neg (by omega),Int.toNat_natCast,hc]
  have hin:inW (u:Int):=by unfold inW;omega
  rw[←hi]
  exact⟨parseB_itoa _ hin,parseV_itoa _ hin⟩
 ·have hf:zA0 l=false:=by
   apply Classical.byContradiction
   intro hn
   have ht:zA0 l=true:=by simpa using hn
   apply h
   unfold zA0 at ht
   rw[beq_iff_eq] at ht
   have hv:inW (valF l):=by
    unfold valF;exact ite_in (wrap_in _) (dfold_in _)
   generalize valF l=v at ht hv
   unfold inW at hv
   by_cases hv0:v < 0
   ·exfalso
    unfold Lib.itoa at ht
    rw[if_pos hv0] at ht
    apply hl;rw[←ht];rfl
   ·unfold Lib.itoa at ht
    rw[if_neg hv0] at ht
    rw[←ht]
    exact (num_dec v.toNat 9223372036854775807 (by omega) (by omega)).1
  have h':numB l 9223372036854775807=false:=by simpa using h
  rw[h',hf]
  refine⟨rfl,?_⟩
  unfold zBb numV;rw[hf,h'];rfl
end Go.Proofs.YtpgnlfdindmopaaGreatDoor.WM
namespace Go.Proofs.YtpgnlfdindmopaaGreatDoor.LX
open Go Go.RowKit WM
def letB (c:UInt8):Bool:=(decide (97≤c.toNat)&&decide (c.toNat≤122))||(decide (65≤c.toNat)&&decide (c.toNat≤90))||decide (c.toNat=95)
def zBt (c:UInt8):Bool:=letB c||digB c
def sepB (c:UInt8):Bool:=decide (c.toNat=32)||decide (c.toNat=9)||decide (c.toNat=10)||decide (c.toNat=13)
def zAb:Bool→List UInt8→Nat
 | _,[]=>0
 | true,c :: t=>1+zAb (!decide (c.toNat=10)) t
 | false,c :: t=>if sepB c then 1+zAb false t else if c.toNat=35 then 1+zAb true t else 0
def wlen (l:List UInt8):Nat:=(l.takeWhile zBt).length
def eol (l:List UInt8):Nat:=(l.takeWhile fun c=>!decide (c.toNat=10)).length
def zB7:List (List UInt8):=[[62,62,62],[60,60],[62,62],[60,61],[62,61],[61,61],[33,61]]
def zBy:List UInt8:=[43,45,42,47,37,38,124,94,126,33,60,62,61,63,58,59,44,40,41,123,125,91,93]
def zCh (l:List UInt8):Nat:=match zB7.find? (fun p=>p.isPrefixOf l) with
 | some p=>p.length
 | none=>0
def zBe (l:List UInt8):Nat:=if zCh l=0 then (if zBy.contains (l.headD 0) then 1 else 0) else zCh l
def zBz:Nat:=9223372036854775808
structure Tk where
 kind:Nat
 text:List UInt8
 pos:Nat
def tokK (l:List UInt8):Nat:=if digB (l.headD 0) then 2 else if letB (l.headD 0) then 1 else 3
def tokN (l:List UInt8):Nat:=if zBt (l.headD 0) then wlen l else zBe l
def tokE (l:List UInt8):Nat :=
 if digB (l.headD 0) then (if numB (l.take (wlen l)) zBz then 0 else 2)
 else if letB (l.headD 0) then (if 16 < wlen l then 6 else 0)
 else if zBe l=0 then 2 else 0
theorem wlen_pos {c:UInt8}{t:List UInt8}(h:zBt c=true):wlen (c :: t)=wlen t+1:=by
 unfold wlen;rw[List.takeWhile_cons,if_pos h];rfl
theorem wlen_zero {c:UInt8}{t:List UInt8}(h:zBt c=false):wlen (c :: t)=0:=by
 unfold wlen;rw[List.takeWhile_cons,h];rfl
theorem wlen_le (l:List UInt8):wlen l≤l.length:=by
 induction l with
 | nil=>exact Lr _
 | cons c t ih =>
  by_cases h:zBt c=true
  ·rw[wlen_pos h];simp;exact ih
  ·rw[wlen_zero (by simpa using h)];exact Nat.zero_le _
theorem longs_prefix {l:List UInt8}{p:List UInt8}(h:zB7.find? (fun p=>p.isPrefixOf l)=some p):p∈zB7∧p <+: l:=by
 refine⟨List.mem_of_find?_eq_some h,?_⟩
 have:=List.find?_some h
 exact List.isPrefixOf_iff_prefix.1 this
theorem longLen_le (l:List UInt8):zCh l≤l.length:=by
 unfold zCh
 split
 ·next p h=>exact (longs_prefix h).2.length_le
 ·exact Nat.zero_le _
theorem symLen_le {l:List UInt8}(h:l≠[]):zBe l≤l.length:=by
 have h1:1≤l.length:=by cases l with
  | nil=>exact absurd rfl h
  | cons a t=>simp
 unfold zBe
 by_cases h2:zCh l=0
 ·rw[if_pos h2];split <;> omega
 ·rw[if_neg h2];exact longLen_le l
theorem tokN_le {l:List UInt8}(h:l≠[]):tokN l≤l.length:=by
 unfold tokN;split
 ·exact wlen_le l
 ·exact symLen_le h
theorem zCi {l:List UInt8}(h:l≠[])(he:tokE l=0):1≤tokN l:=by
 cases l with
 | nil=>exact absurd rfl h
 | cons c t =>
  unfold tokN
  by_cases hw:zBt c=true
  ·rw[if_pos (by exact hw),wlen_pos hw];omega
  ·rw[if_neg (by exact hw)]
   have hd:digB c=false:=by
    unfold zBt at hw;simp at hw;exact hw.2
   have hl:letB c=false:=by
    unfold zBt at hw;simp at hw;exact hw.1
   unfold tokE at he
   rw[show (c :: t).headD 0=c from rfl,hd,hl] at he
   simp only[Bool.false_eq_true,if_false] at he
   by_cases hz:zBe (c :: t)=0
   ·rw[if_pos hz] at he;exact absurd he (by decide)
   ·omega
theorem skipLen_le (b:Bool)(l:List UInt8):zAb b l≤l.length:=by
 induction l generalizing b with
 | nil=>cases b <;> exact Lr _
 | cons c t ih =>
  cases b
  ·unfold zAb
   have h1:=ih false
   have h2:=ih true
   split
   ·simp;omega
   ·split <;> simp <;> omega
  ·unfold zAb
   have:=ih (!decide (c.toNat=10))
   simp;omega
theorem sk_f (c:UInt8)(t:List UInt8):zAb false (c :: t)=if sepB c then 1+zAb false t else if c.toNat=35 then 1+zAb true t else 0:=rfl
theorem sk_t (c:UInt8)(t:List UInt8):zAb true (c :: t)=1+zAb (!decide (c.toNat=10)) t:=rfl
theorem skip_idem (b:Bool)(l:List UInt8):zAb false (l.drop (zAb b l))=0:=by
 induction l generalizing b with
 | nil=>cases b <;> rfl
 | cons c t ih =>
  cases b
  ·by_cases h:sepB c=true
   ·rw[sk_f,if_pos h,Nat.add_comm,List.drop_succ_cons];exact ih false
   ·by_cases h2:c.toNat=35
    ·rw[sk_f c t,if_neg h,if_pos h2,Nat.add_comm,List.drop_succ_cons];exact ih true
    ·rw[sk_f c t,if_neg h,if_neg h2,List.drop_zero,sk_f,if_neg h,if_neg h2]
  ·rw[sk_t,Nat.add_comm,List.drop_succ_cons];exact ih _
def lx (l:List UInt8)(p:Nat):List Tk × Nat × Nat :=
 if _h:l.drop (zAb false l)=[] then ([],0,0)
 else if _he:tokE (l.drop (zAb false l))=0 then
  let n:=zAb false l
  let r:=l.drop n
  let q:=lx (r.drop (tokN r)) (p+n+tokN r)
  (⟨tokK r,r.take (tokN r),p+n⟩ :: q.1,q.2)
 else ([],tokE (l.drop (zAb false l)),p+zAb false l)
termination_by l.length
decreasing_by
 have h1:=zCi _h _he
 have h2:1≤(l.drop (zAb false l)).length:=by
  cases hh:l.drop (zAb false l) with
  | nil=>exact absurd hh _h
  | cons a t=>simp
 rw[List.length_drop,List.length_drop]
 rw[List.length_drop] at h2
 omega
theorem lx_skip (l:List UInt8)(p:Nat):lx l p=lx (l.drop (zAb false l)) (p+zAb false l):=by
 rw[lx];conv=>rhs;rw[lx]
 simp only[skip_idem,List.drop_zero,Nat.add_zero]
theorem lx_nil (p:Nat):lx [] p=([],0,0):=by
 rw[lx,dif_pos (by rfl)]
theorem lx_tok {r:List UInt8}(p:Nat)(hs:zAb false r=0)(hr:r≠[])(he:tokE r=0) :
 lx r p=(⟨tokK r,r.take (tokN r),p⟩ :: (lx (r.drop (tokN r)) (p+tokN r)).1,(lx (r.drop (tokN r)) (p+tokN r)).2):=by
 rw[lx]
 simp only[hs,List.drop_zero,Nat.add_zero]
 rw[dif_neg hr,dif_pos he]
theorem lx_err {r:List UInt8}(p:Nat)(hs:zAb false r=0)(hr:r≠[])(he:tokE r≠0):lx r p=([],tokE r,p):=by
 rw[lx]
 simp only[hs,List.drop_zero,Nat.add_zero]
 rw[dif_neg hr,dif_neg he]
theorem skip_sep {c:UInt8}(t:List UInt8)(h:sepB c=true):zAb false (c :: t)=1+zAb false t:=by
 rw[zAb,if_pos h]
theorem lx_sep {c:UInt8}(t:List UInt8)(p:Nat)(h:sepB c=true):lx (c :: t) p=lx t (p+1):=by
 rw[lx_skip (c :: t),lx_skip t,skip_sep t h,Nat.add_comm 1,List.drop_succ_cons,Nat.add_assoc,Nat.add_comm 1]
theorem eol_cons {c:UInt8}(t:List UInt8)(h:c.toNat≠10):eol (c :: t)=eol t+1:=by
 unfold eol;rw[List.takeWhile_cons,if_pos (by simp[h])];rfl
theorem eol_nl {c:UInt8}(t:List UInt8)(h:c.toNat=10):eol (c :: t)=0:=by
 unfold eol;rw[List.takeWhile_cons,if_neg (by simp[h])];rfl
theorem eol_le (l:List UInt8):eol l≤l.length:=by
 unfold eol;exact (List.takeWhile_sublist _).length_le
theorem skip_cmt (l:List UInt8):zAb true l=eol l+zAb false (l.drop (eol l)):=by
 induction l with
 | nil=>rfl
 | cons c t ih =>
  by_cases h:c.toNat=10
  ·rw[eol_nl t h,List.drop_zero,Nat.zero_add,skip_sep t (by unfold sepB;simp[h]),zAb]
   simp[h]
  ·rw[eol_cons t h,List.drop_succ_cons,zAb]
   simp only[h,decide_false,Bool.not_false]
   omega
theorem not_sep35 {c:UInt8}(h:c.toNat=35):sepB c=false:=by unfold sepB;rw[h];rfl
theorem skip_hash {c:UInt8}(t:List UInt8)(h:c.toNat=35):zAb false (c :: t)=eol (c :: t)+zAb false ((c :: t).drop (eol (c :: t))):=by
 rw[eol_cons t (by omega),List.drop_succ_cons,zAb,if_neg (by rw[not_sep35 h];decide),if_pos h,skip_cmt]
 omega
theorem lx_hash {c:UInt8}(t:List UInt8)(p:Nat)(h:c.toNat=35):lx (c :: t) p=lx ((c :: t).drop (eol (c :: t))) (p+eol (c :: t)):=by
 rw[lx_skip (c :: t),lx_skip ((c :: t).drop (eol (c :: t))),skip_hash t h,←List.drop_drop,Nat.add_assoc]
theorem skip_zero {c:UInt8}(t:List UInt8)(h:sepB c=false)(h2:c.toNat≠35):zAb false (c :: t)=0:=by
 rw[zAb,if_neg (by rw[h];decide),if_neg h2]
def zBl (l:List UInt8):List Tk × Nat × Nat :=
 if 20000 < l.length then ([],6,20000)
 else if (lx l 0).2.1=0 then ((lx l 0).1,0,0) else ([],(lx l 0).2)
def prep (ts:List Tk)(q:List Tk × Nat × Nat):List Tk × Nat × Nat:=(ts++q.1,q.2)
theorem prep_nil (q:List Tk × Nat × Nat):prep [] q=q:=rfl
theorem prep_tok {ts:List Tk}{r:List UInt8}{p:Nat}(hs:zAb false r=0)(hr:r≠[])(he:tokE r=0) :
 prep ts (lx r p)=prep (ts++[⟨tokK r,r.take (tokN r),p⟩]) (lx (r.drop (tokN r)) (p+tokN r)):=by
 rw[lx_tok p hs hr he];unfold prep;simp
end Go.Proofs.YtpgnlfdindmopaaGreatDoor.LX
namespace Go.Proofs.YtpgnlfdindmopaaGreatDoor.PX
open Go Go.RowKit WM LX
inductive PE where
 | mk (kind n:Int) (name:List UInt8) (op:Int) (kids:List PE)
inductive ST where
 | mk (kind:Int) (name to:List UInt8) (n:Int) (pos value:PE) (args:List PE) (thn els:List ST)
structure PS where
 i:Nat
 f:Bool
def tk0:Tk:=⟨0,[],0⟩
def pk (ts:List Tk)(s:PS):Tk:=if s.f=true then tk0 else ts.getD s.i tk0
def adv (s:PS):PS:=⟨s.i+1,s.f⟩
def fl (s:PS):PS:=⟨s.i,true⟩
def nx (ts:List Tk)(s:PS)(x:List UInt8):Bool:=decide ((pk ts s).text=x)
def acc (ts:List Tk)(s:PS)(x:List UInt8):PS:=if nx ts s x=true then adv s else s
def exs (ts:List Tk)(s:PS)(x:List UInt8):PS:=if nx ts s x=true then adv s else fl s
abbrev zB9:List UInt8:=[97,114,114,97,121]
abbrev zCp:List UInt8:=[102,117,110,99]
abbrev wVar:List UInt8:=[118,97,114]
abbrev zAm:List UInt8:=[114,101,116,117,114,110]
abbrev wIf:List UInt8:=[105,102]
abbrev wElse:List UInt8:=[101,108,115,101]
abbrev zBn:List UInt8:=[119,104,105,108,101]
abbrev wOut:List UInt8:=[111,117,116]
abbrev wTrap:List UInt8:=[116,114,97,112]
def resW:List (List UInt8):=[zB9,zCp,wVar,zAm,wIf,wElse,zBn,wOut,wTrap]
def isNm (t:Tk):Bool:=decide (t.kind=1)&&!resW.contains t.text
def nmV (ts:List Tk)(s:PS):List UInt8:=if isNm (pk ts s)=true then (pk ts s).text else []
def nmS (ts:List Tk)(s:PS):PS:=if isNm (pk ts s)=true then adv s else fl s
def nuB (t:Tk):Bool:=zA0 t.text&&decide (zBb t.text≤1000000)
def nuV (ts:List Tk)(s:PS):Int:=if nuB (pk ts s)=true then zBb (pk ts s).text else 0
def nuS (ts:List Tk)(s:PS):PS:=if nuB (pk ts s)=true then adv s else fl s
abbrev numE (n:Int):PE:=.mk 1 n [] 0 []
abbrev varE (x:List UInt8):PE:=.mk 2 0 x 0 []
abbrev idxE (x:List UInt8)(e:PE):PE:=.mk 3 0 x 0 [e]
abbrev opE (op:Int)(l:List PE):PE:=.mk 4 0 [] op l
abbrev conE (a b c:PE):PE:=.mk 5 0 [] 0 [a,b,c]
abbrev emE:PE:=.mk 0 0 [] 0 []
def opsT:List (List UInt8 × Nat × Nat × Bool) :=
 [([124],1,10,false),([94],2,11,false),([38],3,9,false),([61,61],4,15,false),([33,61],4,16,false),([60],5,17,false),([60,61],5,18,false),
  ([62],5,17,true),([62,61],5,18,true),([60,60],6,12,false),([62,62],6,14,false),([62,62,62],6,13,false),([43],7,4,false),([45],7,5,false),([42],8,6,false),([47],8,7,false),([37],8,8,false)]
def opAt (x:List UInt8):Option (List UInt8 × Nat × Nat × Bool):=opsT.find? fun o=>decide (o.1=x)
def apE (op:Nat)(ex:Bool)(l r:PE):PE:=if ex=true then opE op [r,l] else opE op [l,r]
def negV (x:List UInt8):Int:=if x=[48] then 0 else zBb (45 :: x)
abbrev zBs:List UInt8:=[45]
abbrev cTilde:List UInt8:=[126]
abbrev cBang:List UInt8:=[33]
abbrev cQuest:List UInt8:=[63]
abbrev zCb:List UInt8:=[58]
abbrev cLp:List UInt8:=[40]
abbrev cRp:List UInt8:=[41]
abbrev cLb:List UInt8:=[91]
abbrev cRb:List UInt8:=[93]
abbrev cLc:List UInt8:=[123]
abbrev cRc:List UInt8:=[125]
abbrev zA1:List UInt8:=[59]
abbrev zA7:List UInt8:=[44]
abbrev cEq:List UInt8:=[61]
section
variable (ts:List Tk)
mutual
def exF:Nat→PS→PE × PS
 | 0,s=>(emE,s)
 | n+1,s =>
  let c:=biF n 1 s
  if nx ts c.2 cQuest=true then
   let a:=exF n (adv c.2)
   let b:=exF n (exs ts a.2 zCb)
   (conE c.1 a.1 b.1,b.2)
  else c
def biF:Nat→Nat→PS→PE × PS
 | 0,_,s=>(emE,s)
 | n+1,lv,s=>loF n lv (prF n s).1 (prF n s).2
def loF:Nat→Nat→PE→PS→PE × PS
 | 0,_,l,s=>(l,s)
 | n+1,lv,l,s=>match opAt (pk ts s).text with
  | none=>(l,s)
  | some o=>if o.2.1 < lv then (l,s) else
   let r:=biF n (o.2.1+1) (adv s)
   loF n lv (apE o.2.2.1 o.2.2.2 l r.1) r.2
def prF:Nat→PS→PE × PS
 | 0,s=>(emE,s)
 | n+1,s =>
  if nx ts s zBs=true then
   (if (pk ts (adv s)).kind=2 then (numE (negV (pk ts (adv s)).text),adv (adv s)) else (opE 20 [(prF n (adv s)).1],(prF n (adv s)).2))
  else if nx ts s cTilde=true then (opE 21 [(prF n (adv s)).1],(prF n (adv s)).2)
  else if nx ts s cBang=true then (opE 15 [(prF n (adv s)).1,numE 0],(prF n (adv s)).2)
  else piF n s
def piF:Nat→PS→PE × PS
 | 0,s=>(emE,s)
 | n+1,s =>
  if (pk ts s).kind=2 then (if zA0 (pk ts s).text=true then (numE (zBb (pk ts s).text),adv s) else (emE,fl s))
  else if nx ts s cLp=true then
   ((exF n (adv s)).1,exs ts (exF n (adv s)).2 cRp)
  else if nx ts (nmS ts s) cLb=true then
   (idxE (nmV ts s) (exF n (adv (nmS ts s))).1,exs ts (exF n (adv (nmS ts s))).2 cRb)
  else (varE (nmV ts s),nmS ts s)
end
def ms (s:PS):Nat:=if s.f=true then 0 else ts.length - s.i+1
end
variable {ts:List Tk}
theorem zCr {s:PS}(h:(pk ts s).text≠[]∨(pk ts s).kind≠0):s.f=false∧s.i < ts.length:=by
 unfold pk at h
 by_cases hf:s.f=true
 ·rw[if_pos hf] at h;simp[tk0] at h
 ·rw[if_neg hf] at h
  refine⟨by simpa using hf,?_⟩
  apply Classical.byContradiction
  intro hn
  rw[List.getD_eq_getElem?_getD,List.getElem?_eq_none (by omega)] at h
  simp[tk0] at h
theorem zA5 {s:PS}{x:List UInt8}(hx:x≠[])(h:nx ts s x=true):s.f=false∧s.i < ts.length :=
 zCr (Or.inl (by unfold nx at h;rw[of_decide_eq_true h];exact hx))
theorem zAj {s:PS}(h:s.f=false∧s.i < ts.length):ms ts (adv s)+1=ms ts s:=by
 unfold ms adv
 rw[h.1]
 simp
 omega
theorem ms_fl (s:PS):ms ts (fl s)=0:=by unfold ms fl;simp
theorem zAp (s:PS){x:List UInt8}(hx:x≠[]):ms ts (exs ts s x)≤ms ts s:=by
 unfold exs
 split
 ·next h=>have:=zAj (zA5 hx h);omega
 ·rw[ms_fl];exact Nat.zero_le _
theorem isNm_kind {t:Tk}(h:isNm t=true):t.kind=1:=by
 unfold isNm at h;simp at h;exact h.1
theorem zCk (s:PS):ms ts (nmS ts s)≤ms ts s:=by
 unfold nmS
 split
 ·next h=>have:=zAj (zCr (ts:=ts) (s:=s) (Or.inr (by rw[isNm_kind h];decide)));omega
 ·rw[ms_fl];exact Nat.zero_le _
theorem parseB_nil:zA0 []=false:=by decide +kernel
theorem nuB_text {t:Tk}(h:nuB t=true):t.text≠[]:=by
 intro hn
 unfold nuB at h;rw[hn,parseB_nil] at h;cases h
theorem ms_nuS (s:PS):ms ts (nuS ts s)≤ms ts s:=by
 unfold nuS
 split
 ·next h=>have:=zAj (zCr (ts:=ts) (s:=s) (Or.inl (nuB_text h)));omega
 ·rw[ms_fl];exact Nat.zero_le _
theorem opAt_text {x:List UInt8}{o:List UInt8 × Nat × Nat × Bool}(h:opAt x=some o):x≠[]∧1≤o.2.1∧o.2.1≤8∧4≤o.2.2.1∧o.2.2.1≤18∧o∈opsT:=by
 have hm:=List.mem_of_find?_eq_some h
 have hx:o.1=x:=by
  unfold opAt at h
  exact of_decide_eq_true (List.find?_some (p:=fun o:List UInt8 × Nat × Nat × Bool=>decide (o.1=x)) h)
 subst hx
 have:∀ o∈opsT,o.1≠[]∧1≤o.2.1∧o.2.1≤8∧4≤o.2.2.1∧o.2.2.1≤18:=by decide
 obtain⟨a,b,c,d,e⟩:=this o hm
 exact⟨a,b,c,d,e,hm⟩
theorem ms_all (n:Nat):(∀ s,ms ts (exF ts n s).2≤ms ts s)∧(∀ lv s,ms ts (biF ts n lv s).2≤ms ts s)∧(∀ lv l s,ms ts (loF ts n lv l s).2≤ms ts s)∧(∀ s,ms ts (prF ts n s).2≤ms ts s)∧(∀ s,ms ts (piF ts n s).2≤ms ts s):=by
 induction n with
 | zero=>simp[exF,biF,loF,prF,piF]
 | succ n ih =>
  obtain⟨he,hb,hl,hp,hq⟩:=ih
  refine⟨fun s=>?_,fun lv s=>?_,fun lv l s=>?_,fun s=>?_,fun s=>?_⟩
  ·rw[exF]
   have h1:=hb 1 s
   dsimp only
   split
   ·next h =>
    have h2:=zAj (zA5 (by decide) h)
    have h3:=he (adv (biF ts n 1 s).2)
    have h4:=zAp (ts:=ts) (exF ts n (adv (biF ts n 1 s).2)).2 (x:=zCb) (by decide)
    have h5:=he (exs ts (exF ts n (adv (biF ts n 1 s).2)).2 zCb)
    show ms ts (exF ts n (exs ts (exF ts n (adv (biF ts n 1 s).2)).2 zCb)).2≤_
    omega
   ·exact h1
  ·rw[biF]
   exact Nat.le_trans (hl _ _ _) (hp s)
  ·rw[loF]
   split
   ·exact Lr _
   ·next o h =>
    split
    ·exact Lr _
    ·have h2:=zAj (zCr (ts:=ts) (s:=s) (Or.inl (opAt_text h).1))
     exact Nat.le_trans (hl _ _ _) (Nat.le_trans (hb _ _) (by omega))
  ·rw[prF]
   have h1:=hp (adv s)
   have h2:=hq s
   have h3:∀ {x:List UInt8},x≠[]→nx ts s x=true→ms ts (adv s)+1=ms ts s:=fun hx h=>zAj (zA5 hx h)
   split
   ·next h =>
    have:=h3 (by decide) h
    split
    ·next h' =>
     have:=zAj (zCr (ts:=ts) (s:=adv s) (Or.inr (by rw[h'];decide)))
     show ms ts (adv (adv s))≤_
     omega
    ·show ms ts (prF ts n (adv s)).2≤_
     omega
   ·split
    ·next h=>have:=h3 (by decide) h;show ms ts (prF ts n (adv s)).2≤_;omega
    ·split
     ·next h=>have:=h3 (by decide) h;show ms ts (prF ts n (adv s)).2≤_;omega
     ·exact h2
  ·rw[piF]
   split
   ·next h =>
    have:=zAj (zCr (ts:=ts) (s:=s) (Or.inr (by rw[h];decide)))
    split
    ·show ms ts (adv s)≤_;omega
    ·show ms ts (fl s)≤_;rw[ms_fl];exact Nat.zero_le _
   ·split
    ·next h =>
     have:=zAj (zA5 (by decide) h)
     have h2:=he (adv s)
     have h3:=zAp (ts:=ts) (exF ts n (adv s)).2 (x:=cRp) (by decide)
     show ms ts (exs ts (exF ts n (adv s)).2 cRp)≤_
     omega
    ·have h4:=zCk (ts:=ts) s
     split
     ·next h =>
      have:=zAj (zA5 (by decide) h)
      have h2:=he (adv (nmS ts s))
      have h3:=zAp (ts:=ts) (exF ts n (adv (nmS ts s))).2 (x:=cRb) (by decide)
      show ms ts (exs ts (exF ts n (adv (nmS ts s))).2 cRb)≤_
      omega
     ·exact h4
end Go.Proofs.YtpgnlfdindmopaaGreatDoor.PX
namespace Go.Proofs.YtpgnlfdindmopaaGreatDoor.PX
open Go Go.RowKit WM LX
abbrev emS:ST:=.mk 0 [] [] 0 emE emE [] [] []
structure FN where
 name:List UInt8
 params:List (List UInt8)
 locals:List (List UInt8)
 body:List ST
 value:PE
structure PG where
 arrays:List (List UInt8 × Int)
 funcs:List FN
section
variable (ts:List Tk)
def mNF:Nat→PS→List (List UInt8) × PS
 | 0,s=>([],s)
 | n+1,s=>if nx ts s zA7=true then (nmV ts (adv s) :: (mNF n (nmS ts (adv s))).1,(mNF n (nmS ts (adv s))).2) else ([],s)
def lNF (n:Nat)(s:PS):List (List UInt8) × PS:=(nmV ts s :: (mNF ts n (nmS ts s)).1,(mNF ts n (nmS ts s)).2)
def pNF (n:Nat)(s:PS):List (List UInt8) × PS :=
 if nx ts (exs ts s cLp) cRp=true then ([],adv (exs ts s cLp)) else ((lNF ts n (exs ts s cLp)).1,exs ts (lNF ts n (exs ts s cLp)).2 cRp)
def mEF:Nat→PS→List PE × PS
 | 0,s=>([],s)
 | n+1,s=>if nx ts s zA7=true then ((exF ts n (adv s)).1 :: (mEF n (exF ts n (adv s)).2).1,(mEF n (exF ts n (adv s)).2).2) else ([],s)
def lEF (n:Nat)(s:PS):List PE × PS:=((exF ts n s).1 :: (mEF ts n (exF ts n s).2).1,(mEF ts n (exF ts n s).2).2)
def pEF (n:Nat)(s:PS):List PE × PS :=
 if nx ts (exs ts s cLp) cRp=true then ([],adv (exs ts s cLp)) else ((lEF ts n (exs ts s cLp)).1,exs ts (lEF ts n (exs ts s cLp)).2 cRp)
def cdF (n:Nat)(s:PS):PE × PS:=((exF ts n (exs ts s cLp)).1,exs ts (exF ts n (exs ts s cLp)).2 cRp)
def clB (s:PS):Bool:=isNm (pk ts s)&&decide ((ts.getD (s.i+1) tk0).text=cLp)
def ouF (n:Nat)(s:PS):ST × PS:=(.mk 5 [] [] 0 emE (exF ts n s).1 [] [] [],exs ts (exF ts n s).2 zA1)
def tpF (s:PS):ST × PS:=(.mk 7 [] [] (nuV ts s) emE emE [] [] [],exs ts (nuS ts s) zA1)
def soF (n:Nat)(x:List UInt8)(s:PS):ST × PS :=
 let a:=exF ts n s
 let b:=exF ts n (exs ts (exs ts a.2 cRb) cEq)
 (.mk 2 x [] 0 a.1 b.1 [] [] [],exs ts b.2 zA1)
def caF (n:Nat)(x:List UInt8)(s:PS):ST × PS :=
 let q:=pEF ts n (nmS ts s)
 (.mk 6 x (nmV ts s) 0 emE emE q.1 [] [],exs ts q.2 zA1)
def asF (n:Nat)(x:List UInt8)(s:PS):ST × PS:=(.mk 1 x [] 0 emE (exF ts n s).1 [] [] [],exs ts (exF ts n s).2 zA1)
mutual
def ssF:Nat→PS→List ST × PS
 | 0,s=>([],s)
 | n+1,s=>if (s.f||nx ts s cRc||nx ts s zAm)=true then ([],s) else ((stF n s).1 :: (ssF n (stF n s).2).1,(ssF n (stF n s).2).2)
def stF:Nat→PS→ST × PS
 | 0,s=>(emS,s)
 | n+1,s =>
  if nx ts s wIf=true then ifF n (adv s)
  else if nx ts s zBn=true then whF n (adv s)
  else if nx ts s wOut=true then ouF ts n (adv s)
  else if nx ts s wTrap=true then tpF ts (adv s)
  else if nx ts (nmS ts s) cLb=true then soF ts n (nmV ts s) (adv (nmS ts s))
  else if clB ts (exs ts (nmS ts s) cEq)=true then caF ts n (nmV ts s) (exs ts (nmS ts s) cEq)
  else asF ts n (nmV ts s) (exs ts (nmS ts s) cEq)
def ifF:Nat→PS→ST × PS
 | 0,s=>(emS,s)
 | n+1,s =>
  let c:=cdF ts n s
  let t:=blF n c.2
  if nx ts t.2 wElse=true then (.mk 3 [] [] 0 emE c.1 [] t.1 (blF n (adv t.2)).1,(blF n (adv t.2)).2) else (.mk 3 [] [] 0 emE c.1 [] t.1 [],t.2)
def whF:Nat→PS→ST × PS
 | 0,s=>(emS,s)
 | n+1,s=>(.mk 4 [] [] 0 emE (cdF ts n s).1 [] (blF n (cdF ts n s).2).1 [],(blF n (cdF ts n s).2).2)
def blF:Nat→PS→List ST × PS
 | 0,s=>([],s)
 | n+1,s=>((ssF n (exs ts s cLc)).1,exs ts (ssF n (exs ts s cLc)).2 cRc)
end
def arF (s:PS):(List UInt8 × Int) × PS:=((nmV ts s,nuV ts (nmS ts s)),exs ts (nuS ts (nmS ts s)) zA1)
def fnL (n:Nat)(s:PS):List (List UInt8) × PS:=if nx ts s wVar=true then lNF ts n (adv s) else ([],s)
def fnF (n:Nat)(s:PS):FN × PS :=
 let p:=pNF ts n (nmS ts s)
 let l:=fnL ts n p.2
 let b:=ssF ts n (exs ts l.2 cLc)
 let v:=exF ts n (exs ts b.2 zAm)
 (⟨nmV ts s,p.1,l.1,b.1,v.1⟩,exs ts (exs ts v.2 zA1) cRc)
def pgF:Nat→PS→PG × PS
 | 0,s=>(⟨[],[]⟩,s)
 | n+1,s =>
  if (s.f||decide (ts.length≤s.i))=true then (⟨[],[]⟩,s)
  else if nx ts s zB9=true then (⟨(arF ts (adv s)).1 :: (pgF n (arF ts (adv s)).2).1.arrays,(pgF n (arF ts (adv s)).2).1.funcs⟩,(pgF n (arF ts (adv s)).2).2)
  else if nx ts s zCp=true then (⟨(pgF n (fnF ts n (adv s)).2).1.arrays,(fnF ts n (adv s)).1 :: (pgF n (fnF ts n (adv s)).2).1.funcs⟩,(pgF n (fnF ts n (adv s)).2).2)
  else (⟨[],[]⟩,fl s)
end
def parseF (l:List UInt8):PG × Nat × Nat :=
 let q:=zBl l
 if q.2.1=0 then
  let r:=pgF q.1 (5 * q.1.length+20) ⟨0,false⟩
  if r.2.f=true then (⟨[],[]⟩,2,if r.2.i < q.1.length then (q.1.getD r.2.i tk0).pos else l.length) else (r.1,0,0)
 else (⟨[],[]⟩,q.2)
variable {ts:List Tk}
theorem ms_ex (n:Nat)(s:PS):ms ts (exF ts n s).2≤ms ts s:=(ms_all n).1 s
theorem ms_mN (n:Nat):∀ s,ms ts (mNF ts n s).2≤ms ts s:=by
 induction n with
 | zero=>intro s;exact Lr _
 | succ n ih =>
  intro s
  rw[mNF]
  split
  ·next h =>
   have:=zAj (zA5 (by decide) h)
   have h2:=zCk (ts:=ts) (adv s)
   have h3:=ih (nmS ts (adv s))
   show ms ts (mNF ts n (nmS ts (adv s))).2≤_
   omega
  ·exact Lr _
theorem ms_lN (n:Nat)(s:PS):ms ts (lNF ts n s).2≤ms ts s:=Nat.le_trans (ms_mN n _) (zCk s)
theorem ms_pN (n:Nat)(s:PS):ms ts (pNF ts n s).2≤ms ts s:=by
 have h0:=zAp (ts:=ts) s (x:=cLp) (by decide)
 unfold pNF
 split
 ·next h=>have:=zAj (zA5 (by decide) h);show ms ts (adv (exs ts s cLp))≤_;omega
 ·have h1:=ms_lN (ts:=ts) n (exs ts s cLp)
  have h2:=zAp (ts:=ts) (lNF ts n (exs ts s cLp)).2 (x:=cRp) (by decide)
  show ms ts (exs ts (lNF ts n (exs ts s cLp)).2 cRp)≤_
  omega
theorem ms_mE (n:Nat):∀ s,ms ts (mEF ts n s).2≤ms ts s:=by
 induction n with
 | zero=>intro s;exact Lr _
 | succ n ih =>
  intro s
  rw[mEF]
  split
  ·next h =>
   have:=zAj (zA5 (by decide) h)
   have h2:=ms_ex (ts:=ts) n (adv s)
   have h3:=ih (exF ts n (adv s)).2
   show ms ts (mEF ts n (exF ts n (adv s)).2).2≤_
   omega
  ·exact Lr _
theorem ms_lE (n:Nat)(s:PS):ms ts (lEF ts n s).2≤ms ts s:=Nat.le_trans (ms_mE n _) (ms_ex n s)
theorem ms_pE (n:Nat)(s:PS):ms ts (pEF ts n s).2≤ms ts s:=by
 have h0:=zAp (ts:=ts) s (x:=cLp) (by decide)
 unfold pEF
 split
 ·next h=>have:=zAj (zA5 (by decide) h);show ms ts (adv (exs ts s cLp))≤_;omega
 ·have h1:=ms_lE (ts:=ts) n (exs ts s cLp)
  have h2:=zAp (ts:=ts) (lEF ts n (exs ts s cLp)).2 (x:=cRp) (by decide)
  show ms ts (exs ts (lEF ts n (exs ts s cLp)).2 cRp)≤_
  omega
theorem ms_cd (n:Nat)(s:PS):ms ts (cdF ts n s).2≤ms ts s:=by
 have h0:=zAp (ts:=ts) s (x:=cLp) (by decide)
 have h1:=ms_ex (ts:=ts) n (exs ts s cLp)
 have h2:=zAp (ts:=ts) (exF ts n (exs ts s cLp)).2 (x:=cRp) (by decide)
 show ms ts (exs ts (exF ts n (exs ts s cLp)).2 cRp)≤_
 omega
theorem ms_nmS_lt {s:PS}(h:s.f=false):ms ts (nmS ts s)+1≤ms ts s:=by
 unfold nmS
 split
 ·next h=>have:=zAj (zCr (ts:=ts) (s:=s) (Or.inr (by rw[isNm_kind h];decide)));omega
 ·rw[ms_fl];unfold ms;rw[h];simp
theorem ms_ou (n:Nat)(s:PS):ms ts (ouF ts n s).2≤ms ts s:=Nat.le_trans (zAp _ (by decide)) (ms_ex n s)
theorem ms_tr (s:PS):ms ts (tpF ts s).2≤ms ts s:=Nat.le_trans (zAp _ (by decide)) (ms_nuS s)
theorem ms_so (n:Nat)(x:List UInt8)(s:PS):ms ts (soF ts n x s).2≤ms ts s:=by
 unfold soF
 exact Nat.le_trans (zAp _ (by decide)) (Nat.le_trans (ms_ex n _) (Nat.le_trans (zAp _ (by decide)) (Nat.le_trans (zAp _ (by decide)) (ms_ex n s))))
theorem ms_ca (n:Nat)(x:List UInt8)(s:PS):ms ts (caF ts n x s).2≤ms ts s:=by
 unfold caF
 exact Nat.le_trans (zAp _ (by decide)) (Nat.le_trans (ms_pE n _) (zCk s))
theorem ms_as (n:Nat)(x:List UInt8)(s:PS):ms ts (asF ts n x s).2≤ms ts s:=Nat.le_trans (zAp _ (by decide)) (ms_ex n s)
theorem ms_st (n:Nat):(∀ s,ms ts (ssF ts n s).2≤ms ts s)∧(∀ s,ms ts (stF ts n s).2≤ms ts s)∧(∀ s,s.f=false→0 < n→ms ts (stF ts n s).2+1≤ms ts s)∧(∀ s,ms ts (ifF ts n s).2≤ms ts s)∧(∀ s,ms ts (whF ts n s).2≤ms ts s)∧(∀ s,ms ts (blF ts n s).2≤ms ts s):=by
 induction n with
 | zero=>simp[ssF,stF,ifF,whF,blF]
 | succ n ih =>
  obtain⟨hs,ht,_,hi,hw,hb⟩:=ih
  have key:∀ s,(s.f=false→ms ts (stF ts (n+1) s).2+1≤ms ts s)∧ms ts (stF ts (n+1) s).2≤ms ts s:=by
   intro s
   rw[stF]
   have h3:∀ {x:List UInt8},x≠[]→nx ts s x=true→ms ts (adv s)+1=ms ts s:=fun hx h=>zAj (zA5 hx h)
   split
   ·next h=>have:=h3 (by decide) h;have:=hi (adv s);exact⟨fun _=>by omega,by omega⟩
   split
   ·next h=>have:=h3 (by decide) h;have:=hw (adv s);exact⟨fun _=>by omega,by omega⟩
   split
   ·next h=>have:=h3 (by decide) h;have:=ms_ou (ts:=ts) n (adv s);exact⟨fun _=>by omega,by omega⟩
   split
   ·next h=>have:=h3 (by decide) h;have:=ms_tr (ts:=ts) (adv s);exact⟨fun _=>by omega,by omega⟩
   have h4:=zCk (ts:=ts) s
   have h5:s.f=false→ms ts (nmS ts s)+1≤ms ts s:=fun h=>ms_nmS_lt h
   split
   ·next h =>
    have:=zAj (zA5 (by decide) h)
    have:=ms_so (ts:=ts) n (nmV ts s) (adv (nmS ts s))
    exact⟨fun h=>by have:=h5 h;omega,by omega⟩
   have h6:=zAp (ts:=ts) (nmS ts s) (x:=cEq) (by decide)
   split
   ·have:=ms_ca (ts:=ts) n (nmV ts s) (exs ts (nmS ts s) cEq)
    exact⟨fun h=>by have:=h5 h;omega,by omega⟩
   ·have:=ms_as (ts:=ts) n (nmV ts s) (exs ts (nmS ts s) cEq)
    exact⟨fun h=>by have:=h5 h;omega,by omega⟩
  refine⟨fun s=>?_,fun s=>(key s).2,fun s h _=>(key s).1 h,fun s=>?_,fun s=>?_,fun s=>?_⟩
  ·rw[ssF]
   split
   ·exact Lr _
   ·exact Nat.le_trans (hs _) (ht s)
  ·rw[ifF]
   have h1:=ms_cd (ts:=ts) n s
   have h2:=hb (cdF ts n s).2
   split
   ·next h =>
    have:=zAj (zA5 (by decide) h)
    have:=hb (adv (blF ts n (cdF ts n s).2).2)
    show ms ts (blF ts n (adv (blF ts n (cdF ts n s).2).2)).2≤_
    omega
   ·show ms ts (blF ts n (cdF ts n s).2).2≤_
    omega
  ·rw[whF]
   exact Nat.le_trans (hb _) (ms_cd n s)
  ·rw[blF]
   exact Nat.le_trans (zAp _ (by decide)) (Nat.le_trans (hs _) (zAp _ (by decide)))
theorem ms_ar (s:PS):ms ts (arF ts s).2≤ms ts s:=Nat.le_trans (zAp _ (by decide)) (Nat.le_trans (ms_nuS _) (zCk s))
theorem ms_fnL (n:Nat)(s:PS):ms ts (fnL ts n s).2≤ms ts s:=by
 unfold fnL
 split
 ·next h=>have:=zAj (zA5 (by decide) h);have:=ms_lN (ts:=ts) n (adv s);omega
 ·exact Lr _
theorem ms_fn (n:Nat)(s:PS):ms ts (fnF ts n s).2≤ms ts s:=by
 unfold fnF
 exact Nat.le_trans (zAp _ (by decide)) (Nat.le_trans (zAp _ (by decide)) (Nat.le_trans (ms_ex n _) (Nat.le_trans (zAp _ (by decide)) (Nat.le_trans ((ms_st n).1 _) (Nat.le_trans (zAp _ (by decide)) (Nat.le_trans (ms_fnL n _) (Nat.le_trans (ms_pN n _) (zCk s))))))))
end Go.Proofs.YtpgnlfdindmopaaGreatDoor.PX
namespace Go.Proofs.YtpgnlfdindmopaaGreatDoor.PX
open Go Go.RowKit WM LX
def lxN:Nat→List UInt8→Nat→List Tk × Nat × Nat
 | 0,_,_=>([],0,0)
 | m+1,l,p =>
  if l.drop (zAb false l)=[] then ([],0,0)
  else if tokE (l.drop (zAb false l))=0 then
   let n:=zAb false l
   let r:=l.drop n
   let q:=lxN m (r.drop (tokN r)) (p+n+tokN r)
   (⟨tokK r,r.take (tokN r),p+n⟩ :: q.1,q.2)
  else ([],tokE (l.drop (zAb false l)),p+zAb false l)
theorem lxN_eq (m:Nat):∀ l p,l.length < m→lxN m l p=lx l p:=by
 induction m with
 | zero=>intro l p h;omega
 | succ m ih =>
  intro l p h
  rw[lxN,lx]
  by_cases h1:l.drop (zAb false l)=[]
  ·rw[if_pos h1,dif_pos h1]
  ·rw[if_neg h1,dif_neg h1]
   by_cases h2:tokE (l.drop (zAb false l))=0
   ·rw[if_pos h2,dif_pos h2]
    have h3:=zCi h1 h2
    have h4:1≤(l.drop (zAb false l)).length:=by
     cases hh:l.drop (zAb false l) with
     | nil=>exact absurd hh h1
     | cons a t=>simp
    rw[List.length_drop] at h4
    have h5:=ih ((l.drop (zAb false l)).drop (tokN (l.drop (zAb false l)))) (p+zAb false l+tokN (l.drop (zAb false l))) (by rw[List.length_drop,List.length_drop];omega)
    dsimp only
    rw[h5]
   ·rw[if_neg h2,dif_neg h2]
def scanN (l:List UInt8):List Tk × Nat × Nat :=
 if 20000 < l.length then ([],6,20000)
 else if (lxN (l.length+1) l 0).2.1=0 then ((lxN (l.length+1) l 0).1,0,0) else ([],(lxN (l.length+1) l 0).2)
theorem scanN_eq (l:List UInt8):scanN l=zBl l:=by
 unfold scanN zBl
 rw[lxN_eq _ _ _ (Nat.lt_succ_self _)]
def parseT (ts:List Tk)(len:Nat):PG × Nat × Nat :=
 let r:=pgF ts (5 * ts.length+20) ⟨0,false⟩
 if r.2.f=true then (⟨[],[]⟩,2,if r.2.i < ts.length then (ts.getD r.2.i tk0).pos else len) else (r.1,0,0)
end Go.Proofs.YtpgnlfdindmopaaGreatDoor.PX
