/- Words and walks for the laws of the interpreter. -/
import Derived.Test.YtpgnlfdindmopaaGreatDoorJ1
import Derived.Test.YtpgnlfdindmopaaGreatDoorChecked
import Derived.WalkKit
import Derived.Lib.Hide
import Derived.Test.YtpgnlfdindmopaaGreatDoorI1
import Derived.Test.YtpgnlfdindmopaaGreatDoorK5
import Derived.Maps.OwnSet
import Derived.Maps.Views
import Derived.Deep.QuietTactic
import Derived.BigQuiet
import Derived.Deep.RegionWith
import Derived.Deep.RegionHeld3
namespace Go.Proofs.YtpgnlfdindmopaaGreatDoor
open Go.RowKit (wrap64)
open WM
theorem zAk (p:Bool)(w:World):Calls Tryz.prog 176 #[.bool p] w fun e w'=>e=.returned (.int .i64 (tr p))∧w=w':=by
 cases p
 all_goals
  go_enter Tryz.func176,Tryz.ntmps176
  go_wp2
  go_ret
  exact⟨rfl,rfl⟩
theorem zAl (b:Int)(w:World):Calls Tryz.prog 175 #[.int .i64 b] w fun e w'=>e=.returned (.int .u64 (shc b))∧w=w':=by
 have h:=bits63w b
 go_enter Tryz.func175,Tryz.ntmps175
 go_wp2
 go_ret
 exact⟨rfl,rfl⟩
theorem zAx (a b:Int)(w:World):Calls Tryz.prog 173 #[.int .i64 a,.int .i64 b] w fun e w'=>e=.returned (.int .i64 (divF a b))∧w=w':=by
 unfold divF
 by_cases hb:b=0
 ·subst hb
  go_enter Tryz.func173,Tryz.ntmps173
  go_wp2
  go_ret
  exact⟨rfl,rfl⟩
 ·rw[if_neg hb]
  have hb':(b==0)=false:=by simpa using hb
  go_enter Tryz.func173,Tryz.ntmps173
  go_wp2
  go_ret
  exact⟨rfl,rfl⟩
theorem zA8 (a b:Int)(w:World):Calls Tryz.prog 174 #[.int .i64 a,.int .i64 b] w fun e w'=>e=.returned (.int .i64 (remF a b))∧w=w':=by
 unfold remF
 by_cases hb:b=0
 ·subst hb
  go_enter Tryz.func174,Tryz.ntmps174
  go_wp2
  go_ret
  exact⟨rfl,rfl⟩
 ·rw[if_neg hb]
  have hb':(b==0)=false:=by simpa using hb
  go_enter Tryz.func174,Tryz.ntmps174
  go_wp2
  go_ret
  exact⟨rfl,rfl⟩
set_option maxRecDepth 100000
theorem bin_4 (a b:Int)(w:World):Calls Tryz.prog 136 #[.int .i64 4,.int .i64 a,.int .i64 b] w fun e w'=>e=.returned (.int .i64 (binF 4 a b))∧w=w':=by
 have hs:=zCa b
 go_enter Tryz.func136,Tryz.ntmps136
 go_wp2_with (first
  | (go_at_call 173;refine (zAx _ _ _).mono ?_;rintro e w' ⟨rfl,rfl⟩)
  | (go_at_call 174;refine (zA8 _ _ _).mono ?_;rintro e w' ⟨rfl,rfl⟩)
  | (go_at_call 175;refine (zAl _ _).mono ?_;rintro e w' ⟨rfl,rfl⟩)
  | (go_at_call 176;refine (zAk _ _).mono ?_;rintro e w' ⟨rfl,rfl⟩))
 go_ret
 exact⟨rfl,rfl⟩
theorem bin_5 (a b:Int)(w:World):Calls Tryz.prog 136 #[.int .i64 5,.int .i64 a,.int .i64 b] w fun e w'=>e=.returned (.int .i64 (binF 5 a b))∧w=w':=by
 have hs:=zCa b
 go_enter Tryz.func136,Tryz.ntmps136
 go_wp2_with (first
  | (go_at_call 173;refine (zAx _ _ _).mono ?_;rintro e w' ⟨rfl,rfl⟩)
  | (go_at_call 174;refine (zA8 _ _ _).mono ?_;rintro e w' ⟨rfl,rfl⟩)
  | (go_at_call 175;refine (zAl _ _).mono ?_;rintro e w' ⟨rfl,rfl⟩)
  | (go_at_call 176;refine (zAk _ _).mono ?_;rintro e w' ⟨rfl,rfl⟩))
 go_ret
 exact⟨rfl,rfl⟩
theorem bin_6 (a b:Int)(w:World):Calls Tryz.prog 136 #[.int .i64 6,.int .i64 a,.int .i64 b] w fun e w'=>e=.returned (.int .i64 (binF 6 a b))∧w=w':=by
 have hs:=zCa b
 go_enter Tryz.func136,Tryz.ntmps136
 go_wp2_with (first
  | (go_at_call 173;refine (zAx _ _ _).mono ?_;rintro e w' ⟨rfl,rfl⟩)
  | (go_at_call 174;refine (zA8 _ _ _).mono ?_;rintro e w' ⟨rfl,rfl⟩)
  | (go_at_call 175;refine (zAl _ _).mono ?_;rintro e w' ⟨rfl,rfl⟩)
  | (go_at_call 176;refine (zAk _ _).mono ?_;rintro e w' ⟨rfl,rfl⟩))
 go_ret
 exact⟨rfl,rfl⟩
theorem bin_7 (a b:Int)(w:World):Calls Tryz.prog 136 #[.int .i64 7,.int .i64 a,.int .i64 b] w fun e w'=>e=.returned (.int .i64 (binF 7 a b))∧w=w':=by
 have hs:=zCa b
 go_enter Tryz.func136,Tryz.ntmps136
 go_wp2_with (first
  | (go_at_call 173;refine (zAx _ _ _).mono ?_;rintro e w' ⟨rfl,rfl⟩)
  | (go_at_call 174;refine (zA8 _ _ _).mono ?_;rintro e w' ⟨rfl,rfl⟩)
  | (go_at_call 175;refine (zAl _ _).mono ?_;rintro e w' ⟨rfl,rfl⟩)
  | (go_at_call 176;refine (zAk _ _).mono ?_;rintro e w' ⟨rfl,rfl⟩))
 go_ret
 exact⟨rfl,rfl⟩
theorem bin_8 (a b:Int)(w:World):Calls Tryz.prog 136 #[.int .i64 8,.int .i64 a,.int .i64 b] w fun e w'=>e=.returned (.int .i64 (binF 8 a b))∧w=w':=by
 have hs:=zCa b
 go_enter Tryz.func136,Tryz.ntmps136
 go_wp2_with (first
  | (go_at_call 173;refine (zAx _ _ _).mono ?_;rintro e w' ⟨rfl,rfl⟩)
  | (go_at_call 174;refine (zA8 _ _ _).mono ?_;rintro e w' ⟨rfl,rfl⟩)
  | (go_at_call 175;refine (zAl _ _).mono ?_;rintro e w' ⟨rfl,rfl⟩)
  | (go_at_call 176;refine (zAk _ _).mono ?_;rintro e w' ⟨rfl,rfl⟩))
 go_ret
 exact⟨rfl,rfl⟩
theorem bin_9 (a b:Int)(w:World):Calls Tryz.prog 136 #[.int .i64 9,.int .i64 a,.int .i64 b] w fun e w'=>e=.returned (.int .i64 (binF 9 a b))∧w=w':=by
 have hs:=zCa b
 go_enter Tryz.func136,Tryz.ntmps136
 go_wp2_with (first
  | (go_at_call 173;refine (zAx _ _ _).mono ?_;rintro e w' ⟨rfl,rfl⟩)
  | (go_at_call 174;refine (zA8 _ _ _).mono ?_;rintro e w' ⟨rfl,rfl⟩)
  | (go_at_call 175;refine (zAl _ _).mono ?_;rintro e w' ⟨rfl,rfl⟩)
  | (go_at_call 176;refine (zAk _ _).mono ?_;rintro e w' ⟨rfl,rfl⟩))
 go_ret
 exact⟨rfl,rfl⟩
theorem bin_10 (a b:Int)(w:World):Calls Tryz.prog 136 #[.int .i64 10,.int .i64 a,.int .i64 b] w fun e w'=>e=.returned (.int .i64 (binF 10 a b))∧w=w':=by
 have hs:=zCa b
 go_enter Tryz.func136,Tryz.ntmps136
 go_wp2_with (first
  | (go_at_call 173;refine (zAx _ _ _).mono ?_;rintro e w' ⟨rfl,rfl⟩)
  | (go_at_call 174;refine (zA8 _ _ _).mono ?_;rintro e w' ⟨rfl,rfl⟩)
  | (go_at_call 175;refine (zAl _ _).mono ?_;rintro e w' ⟨rfl,rfl⟩)
  | (go_at_call 176;refine (zAk _ _).mono ?_;rintro e w' ⟨rfl,rfl⟩))
 go_ret
 exact⟨rfl,rfl⟩
theorem bin_11 (a b:Int)(w:World):Calls Tryz.prog 136 #[.int .i64 11,.int .i64 a,.int .i64 b] w fun e w'=>e=.returned (.int .i64 (binF 11 a b))∧w=w':=by
 have hs:=zCa b
 go_enter Tryz.func136,Tryz.ntmps136
 go_wp2_with (first
  | (go_at_call 173;refine (zAx _ _ _).mono ?_;rintro e w' ⟨rfl,rfl⟩)
  | (go_at_call 174;refine (zA8 _ _ _).mono ?_;rintro e w' ⟨rfl,rfl⟩)
  | (go_at_call 175;refine (zAl _ _).mono ?_;rintro e w' ⟨rfl,rfl⟩)
  | (go_at_call 176;refine (zAk _ _).mono ?_;rintro e w' ⟨rfl,rfl⟩))
 go_ret
 exact⟨rfl,rfl⟩
theorem bin_12 (a b:Int)(w:World):Calls Tryz.prog 136 #[.int .i64 12,.int .i64 a,.int .i64 b] w fun e w'=>e=.returned (.int .i64 (binF 12 a b))∧w=w':=by
 have hs:=zCa b
 go_enter Tryz.func136,Tryz.ntmps136
 go_wp2_with (first
  | (go_at_call 173;refine (zAx _ _ _).mono ?_;rintro e w' ⟨rfl,rfl⟩)
  | (go_at_call 174;refine (zA8 _ _ _).mono ?_;rintro e w' ⟨rfl,rfl⟩)
  | (go_at_call 175;refine (zAl _ _).mono ?_;rintro e w' ⟨rfl,rfl⟩)
  | (go_at_call 176;refine (zAk _ _).mono ?_;rintro e w' ⟨rfl,rfl⟩))
 go_ret
 exact⟨rfl,rfl⟩
theorem bin_13 (a b:Int)(w:World):Calls Tryz.prog 136 #[.int .i64 13,.int .i64 a,.int .i64 b] w fun e w'=>e=.returned (.int .i64 (binF 13 a b))∧w=w':=by
 have hs:=zCa b
 go_enter Tryz.func136,Tryz.ntmps136
 go_wp2_with (first
  | (go_at_call 173;refine (zAx _ _ _).mono ?_;rintro e w' ⟨rfl,rfl⟩)
  | (go_at_call 174;refine (zA8 _ _ _).mono ?_;rintro e w' ⟨rfl,rfl⟩)
  | (go_at_call 175;refine (zAl _ _).mono ?_;rintro e w' ⟨rfl,rfl⟩)
  | (go_at_call 176;refine (zAk _ _).mono ?_;rintro e w' ⟨rfl,rfl⟩))
 go_ret
 exact⟨rfl,rfl⟩
theorem bin_14 (a b:Int)(w:World):Calls Tryz.prog 136 #[.int .i64 14,.int .i64 a,.int .i64 b] w fun e w'=>e=.returned (.int .i64 (binF 14 a b))∧w=w':=by
 have hs:=zCa b
 go_enter Tryz.func136,Tryz.ntmps136
 go_wp2_with (first
  | (go_at_call 173;refine (zAx _ _ _).mono ?_;rintro e w' ⟨rfl,rfl⟩)
  | (go_at_call 174;refine (zA8 _ _ _).mono ?_;rintro e w' ⟨rfl,rfl⟩)
  | (go_at_call 175;refine (zAl _ _).mono ?_;rintro e w' ⟨rfl,rfl⟩)
  | (go_at_call 176;refine (zAk _ _).mono ?_;rintro e w' ⟨rfl,rfl⟩))
 go_ret
 exact⟨rfl,rfl⟩
theorem bin_15 (a b:Int)(w:World):Calls Tryz.prog 136 #[.int .i64 15,.int .i64 a,.int .i64 b] w fun e w'=>e=.returned (.int .i64 (binF 15 a b))∧w=w':=by
 have hs:=zCa b
 go_enter Tryz.func136,Tryz.ntmps136
 go_wp2_with (first
  | (go_at_call 173;refine (zAx _ _ _).mono ?_;rintro e w' ⟨rfl,rfl⟩)
  | (go_at_call 174;refine (zA8 _ _ _).mono ?_;rintro e w' ⟨rfl,rfl⟩)
  | (go_at_call 175;refine (zAl _ _).mono ?_;rintro e w' ⟨rfl,rfl⟩)
  | (go_at_call 176;refine (zAk _ _).mono ?_;rintro e w' ⟨rfl,rfl⟩))
 go_ret
 exact⟨rfl,rfl⟩
theorem bin_16 (a b:Int)(w:World):Calls Tryz.prog 136 #[.int .i64 16,.int .i64 a,.int .i64 b] w fun e w'=>e=.returned (.int .i64 (binF 16 a b))∧w=w':=by
 have hs:=zCa b
 go_enter Tryz.func136,Tryz.ntmps136
 go_wp2_with (first
  | (go_at_call 173;refine (zAx _ _ _).mono ?_;rintro e w' ⟨rfl,rfl⟩)
  | (go_at_call 174;refine (zA8 _ _ _).mono ?_;rintro e w' ⟨rfl,rfl⟩)
  | (go_at_call 175;refine (zAl _ _).mono ?_;rintro e w' ⟨rfl,rfl⟩)
  | (go_at_call 176;refine (zAk _ _).mono ?_;rintro e w' ⟨rfl,rfl⟩))
 go_ret
 exact⟨rfl,rfl⟩
theorem bin_17 (a b:Int)(w:World):Calls Tryz.prog 136 #[.int .i64 17,.int .i64 a,.int .i64 b] w fun e w'=>e=.returned (.int .i64 (binF 17 a b))∧w=w':=by
 have hs:=zCa b
 go_enter Tryz.func136,Tryz.ntmps136
 go_wp2_with (first
  | (go_at_call 173;refine (zAx _ _ _).mono ?_;rintro e w' ⟨rfl,rfl⟩)
  | (go_at_call 174;refine (zA8 _ _ _).mono ?_;rintro e w' ⟨rfl,rfl⟩)
  | (go_at_call 175;refine (zAl _ _).mono ?_;rintro e w' ⟨rfl,rfl⟩)
  | (go_at_call 176;refine (zAk _ _).mono ?_;rintro e w' ⟨rfl,rfl⟩))
 go_ret
 exact⟨rfl,rfl⟩
theorem bin_18 (a b:Int)(w:World):Calls Tryz.prog 136 #[.int .i64 18,.int .i64 a,.int .i64 b] w fun e w'=>e=.returned (.int .i64 (binF 18 a b))∧w=w':=by
 have hs:=zCa b
 go_enter Tryz.func136,Tryz.ntmps136
 go_wp2_with (first
  | (go_at_call 173;refine (zAx _ _ _).mono ?_;rintro e w' ⟨rfl,rfl⟩)
  | (go_at_call 174;refine (zA8 _ _ _).mono ?_;rintro e w' ⟨rfl,rfl⟩)
  | (go_at_call 175;refine (zAl _ _).mono ?_;rintro e w' ⟨rfl,rfl⟩)
  | (go_at_call 176;refine (zAk _ _).mono ?_;rintro e w' ⟨rfl,rfl⟩))
 go_ret
 exact⟨rfl,rfl⟩
theorem bin_19 (a b:Int)(w:World):Calls Tryz.prog 136 #[.int .i64 19,.int .i64 a,.int .i64 b] w fun e w'=>e=.returned (.int .i64 (binF 19 a b))∧w=w':=by
 have hs:=zCa b
 go_enter Tryz.func136,Tryz.ntmps136
 go_wp2_with (first
  | (go_at_call 173;refine (zAx _ _ _).mono ?_;rintro e w' ⟨rfl,rfl⟩)
  | (go_at_call 174;refine (zA8 _ _ _).mono ?_;rintro e w' ⟨rfl,rfl⟩)
  | (go_at_call 175;refine (zAl _ _).mono ?_;rintro e w' ⟨rfl,rfl⟩)
  | (go_at_call 176;refine (zAk _ _).mono ?_;rintro e w' ⟨rfl,rfl⟩))
 go_ret
 exact⟨rfl,rfl⟩
theorem wbin_any (op a b:Int)(w:World):Calls Tryz.prog 136 #[.int .i64 op,.int .i64 a,.int .i64 b] w fun e w'=>e=.returned (.int .i64 (binF op a b))∧w=w':=by
 by_cases h4:op=4
 ·subst h4;exact bin_4 a b w
 by_cases h5:op=5
 ·subst h5;exact bin_5 a b w
 by_cases h6:op=6
 ·subst h6;exact bin_6 a b w
 by_cases h7:op=7
 ·subst h7;exact bin_7 a b w
 by_cases h8:op=8
 ·subst h8;exact bin_8 a b w
 by_cases h9:op=9
 ·subst h9;exact bin_9 a b w
 by_cases h10:op=10
 ·subst h10;exact bin_10 a b w
 by_cases h11:op=11
 ·subst h11;exact bin_11 a b w
 by_cases h12:op=12
 ·subst h12;exact bin_12 a b w
 by_cases h13:op=13
 ·subst h13;exact bin_13 a b w
 by_cases h14:op=14
 ·subst h14;exact bin_14 a b w
 by_cases h15:op=15
 ·subst h15;exact bin_15 a b w
 by_cases h16:op=16
 ·subst h16;exact bin_16 a b w
 by_cases h17:op=17
 ·subst h17;exact bin_17 a b w
 by_cases h18:op=18
 ·subst h18;exact bin_18 a b w
 by_cases h19:op=19
 ·subst h19;exact bin_19 a b w
 have hz:binF op a b=0:=by
  unfold binF
  simp only[h4,h5,h6,h7,h8,h9,h10,h11,h12,h13,h14,h15,h16,h17,h18,h19,if_false]
 rw[hz]
 have g4:(op==4)=false:=by simpa using h4
 have g5:(op==5)=false:=by simpa using h5
 have g6:(op==6)=false:=by simpa using h6
 have g7:(op==7)=false:=by simpa using h7
 have g8:(op==8)=false:=by simpa using h8
 have g9:(op==9)=false:=by simpa using h9
 have g10:(op==10)=false:=by simpa using h10
 have g11:(op==11)=false:=by simpa using h11
 have g12:(op==12)=false:=by simpa using h12
 have g13:(op==13)=false:=by simpa using h13
 have g14:(op==14)=false:=by simpa using h14
 have g15:(op==15)=false:=by simpa using h15
 have g16:(op==16)=false:=by simpa using h16
 have g17:(op==17)=false:=by simpa using h17
 have g18:(op==18)=false:=by simpa using h18
 have g19:(op==19)=false:=by simpa using h19
 clear h4
 clear h5
 clear h6
 clear h7
 clear h8
 clear h9
 clear h10
 clear h11
 clear h12
 clear h13
 clear h14
 clear h15
 clear h16
 clear h17
 clear h18
 clear h19
 clear hz
 go_enter Tryz.func136,Tryz.ntmps136
 go_wp2_with fail
 go_ret
 exact⟨rfl,rfl⟩
theorem wun_any (op a:Int)(w:World):Calls Tryz.prog 135 #[.int .i64 op,.int .i64 a] w fun e w'=>e=.returned (.int .i64 (unF op a))∧w=w':=by
 by_cases h20:op=20
 ·subst h20
  go_enter Tryz.func135,Tryz.ntmps135
  go_wp2_with fail
  go_ret
  exact⟨by simp[unF],rfl⟩
 by_cases h21:op=21
 ·subst h21
  go_enter Tryz.func135,Tryz.ntmps135
  go_wp2_with fail
  go_ret
  exact⟨rfl,rfl⟩
 have hz:unF op a=0:=by
  unfold unF
  simp only[h20,h21,if_false]
 rw[hz]
 have g20:(op==20)=false:=by simpa using h20
 have g21:(op==21)=false:=by simpa using h21
 clear h20 h21 hz
 go_enter Tryz.func135,Tryz.ntmps135
 go_wp2_with fail
 go_ret
 exact⟨rfl,rfl⟩
end Go.Proofs.YtpgnlfdindmopaaGreatDoor
namespace Go.Proofs.YtpgnlfdindmopaaGreatDoor
open Go.RowKit (wrap64 intOf)
open Go Go.RowKit WM LX PX CX IX
set_option maxRecDepth 100000
set_option maxHeartbeats 4000000
def hel (v:Value):Option (DataW Value × List MemPlace):=some (.held v,[])
def gat (g:List UInt8→Option Value)(x:List UInt8)(z:DataW Value):DataW Value:=match g x with
 | none=>z
 | some v=>.held v
def HMp (B c:Nat)(g:List UInt8→Option Value)(w:World):Prop :=
 ∃ (n:Nat) (D:DataW Value),n≤c∧w.ownsMap Tryz.prog 9 hel B n D∧Maps.IsMap D∧∀ (x:List UInt8) (z:DataW Value),D.atKey (.string x) z=gat g x z
section
variable {B c c':Nat} {g:List UInt8→Option Value} {w w':World}
theorem HMp.lt (h:HMp B c g w):B < w.heap.size:=by
 obtain⟨n,D,_,h,_⟩:=h
 exact h.lt
theorem HMp.same (h:HMp B c g w)(hb:w'.heap[B]?=w.heap[B]?):HMp B c g w':=by
 obtain⟨n,D,hn,⟨es,clock,h1,h2⟩,hx⟩:=h
 exact⟨n,D,hn,⟨es,clock,hb.trans h1,h2⟩,hx⟩
theorem HMp.mono (h:HMp B c g w)(hc:c≤c'):HMp B c' g w:=by
 obtain⟨n,D,hn,h⟩:=h
 exact⟨n,D,Nat.le_trans hn hc,h⟩
theorem hmp_made (w:World):HMp w.heap.size 0 (fun _=>none) (w.alloc (.map #[] 0)) :=
 ⟨0,.map [],Lr _,World.ownsMap_made w _ _ _,⟨[],rfl⟩,fun _ _=>rfl⟩
theorem HMp.look (h:HMp B c g w){t e:TypeId}(ht:Tryz.prog.underlying t=some (.map 9 e)){z:Value}(hz:(zeroValue e).run Tryz.prog w=.ok z w)(x:List UInt8)(hx:x.length≤1000000000) :
 (Instr.lookup t (.map (some B)) (.string ⟨x.toArray⟩) false).run Tryz.prog w=.ok ((g x).getD z) w:=by
 obtain⟨n,D,hn,h,hm,hD⟩:=h
 obtain⟨v,ps,hrun,hv⟩:=h.lookup lawS ht hz (show hel z=some (.held z,[]) from rfl) (keyS x hx)
 rw[hD x] at hv
 unfold hel gat at hv
 rw[hrun]
 cases hg:g x with
 | none =>
  rw[hg] at hv
  simp at hv
  rw[hv.1]
  rfl
 | some u =>
  rw[hg] at hv
  simp at hv
  rw[hv.1]
  rfl
theorem HMp.lookOk (h:HMp B c g w){t e:TypeId}(ht:Tryz.prog.underlying t=some (.map 9 e)){z:Value}(hz:(zeroValue e).run Tryz.prog w=.ok z w)(x:List UInt8)(hx:x.length≤1000000000) :
 (Instr.lookup t (.map (some B)) (.string ⟨x.toArray⟩) true).run Tryz.prog w=.ok (.tuple #[(g x).getD z,.bool (g x).isSome]) w:=by
 obtain⟨n,D,hn,h,hm,hD⟩:=h
 obtain⟨v,ps,hrun,hv⟩:=h.look_ok lawS ht hz (show hel z=some (.held z,[]) from rfl) (keyS x hx)
 rw[hD x] at hv
 rw[hrun]
 cases hg:g x with
 | none =>
  unfold hel gat at hv
  rw[hg] at hv
  simp at hv
  rw[hv.1,Maps.has_false_of_atKey (fun z=>by rw[hD x z];unfold gat;rw[hg])]
  rfl
 | some u =>
  unfold hel gat at hv
  rw[hg] at hv
  simp at hv
  rw[hv.1,Maps.has_true_of_atKey (y:=.held u) (fun z=>by rw[hD x z];unfold gat;rw[hg])]
  rfl
theorem HMp.put (h:HMp B c g w){t e:TypeId}(ht:Tryz.prog.underlying t=some (.map 9 e))(hc:c < maxLen)(x:List UInt8)(hx:x.length≤1000000000)(v:Value) :
 ∃ w',(Instr.mapUpdate t (.map (some B)) (.string ⟨x.toArray⟩) v).run Tryz.prog w=.ok () w'∧HMp B (c+1) (upd g x (some v)) w'∧w.grownBy w' (some B):=by
 obtain⟨n,D,hn,h,hm,hD⟩:=h
 obtain⟨w',r1,r2,r3⟩:=h.update lawS ht (by omega) (keyS x hx) (show hel v=some (.held v,[]) from rfl)
 refine⟨w',r1,⟨n+1,_,by omega,r2,hm.put _ _,fun y z=>?_⟩,r3⟩
 unfold gat upd
 by_cases hxy:x=y
 ·subst hxy
  rw[Maps.atKey_put_same hm (lawS.key (keyS x hx)),if_pos rfl]
 ·rw[Maps.atKey_put_other (fun e=>hxy (by injection e with e;exact e.symm)),if_neg hxy]
  exact hD y z
end
theorem mapV:Tryz.prog.underlying 112=some (.map 9 2):=Tryz.underlying112
theorem mapF:Tryz.prog.underlying 81=some (.map 9 38):=Tryz.underlying81
theorem mapC:Tryz.prog.underlying 82=some (.map 9 41):=Tryz.underlying82
structure Cf where
 R:Nat
 F:Nat
 Cm:Nat
 G:List UInt8→Nat
 len:List UInt8→Nat
 fs:List FN
 b:Nat
 ok:Nat→Prop
def SS (K:Cf)(o:Option Nat)(i:Nat):Prop:=i=K.R∨o=some i∨∃ x,0 < K.len x∧i=K.G x
structure CfOK (K:Cf):Prop where
 r:K.b≤K.R
 f:K.b≤K.F
 c:K.b≤K.Cm
 g:∀ x,0 < K.len x→K.b≤K.G x
 rf:K.R≠K.F
 rc:K.R≠K.Cm
 gr:∀ x,0 < K.len x→K.G x≠K.R∧K.G x≠K.F∧K.G x≠K.Cm
 gg:∀ x y,x≠y→0 < K.len x→0 < K.len y→K.G x≠K.G y
 ok:∀ g,K.ok g→g < K.b
def FMp (K:Cf)(w:World):Prop :=
 ∃ c g,HMp K.F c g w∧∀ x,match fnOf K.fs x with
  | none=>g x=none
  | some f=>∃ cs,g x=some (.agg cs.toArray)∧RepF w K.ok f cs
def ints (l:List Int):Array Value:=(l.map (Value.int .i64)).toArray
def AMp (K:Cf)(C:Cs)(w:World):Prop :=
 ∃ c g,HMp K.Cm c g w∧∀ x,(C x).length=K.len x∧∃ A cp,(g x).getD (.slice none 0 0)=.slice A (K.len x) cp∧(0 < K.len x→A=some ⟨K.G x,0,none⟩∧Blk w (K.G x) 2 (ints (C x)))
def rnC (K:Cf)(fu kind code:Int)(ov:Value)(val:Int):Array Value:=#[.map (some K.F),.map (some K.Cm),.int .i64 fu,.int .i64 kind,.int .i64 code,ov,.int .i64 val]
structure MSt (K:Cf)(o:Option Nat)(m:MS)(w:World):Prop where
 F:FMp K w
 A:AMp K m.C w
 R:∃ ov,Blk w K.R 84 (rnC K m.fuel 0 0 ov 0)∧w.ownsRow K.b 2 1 ov m.out.length (m.out.map (Value.int .i64))∧ov.ownBlock=o
 fu:m.fuel≤1000
 k:m.out.length≤m.k
 lt:∀ i,SS K o i→i < w.heap.size
 o:∀ i,o=some i→K.b≤i∧i≠K.R∧i≠K.F∧i≠K.Cm∧∀ x,0 < K.len x→i≠K.G x
structure VMp (K:Cf)(o:Option Nat)(V c:Nat)(Vs:Vs)(w:World):Prop where
 m:∃ g,HMp V (3000+c) g w∧∀ x,(g x).getD (.int .i64 0)=.int .i64 (Vs x)
 b:K.b≤V
 n:V≠K.F∧V≠K.Cm
 s:¬ SS K o V
structure Gr (T:Nat→Prop)(w w':World):Prop where
 os:w'.os=w.os
 tape:w'.tape=w.tape
 output:w'.output=w.output
 size:w.heap.size≤w'.heap.size
 block:∀ i,i < w.heap.size→¬ T i→w'.heap[i]?=w.heap[i]?
section
variable {T:Nat→Prop} {w w1 w2 w':World} {K:Cf} {o o1 o2 o':Option Nat} {m m':MS} {V c c':Nat} {Vs Vs':IX.Vs}
theorem Gr.refl (T:Nat→Prop)(w:World):Gr T w w:=⟨rfl,rfl,rfl,Lr _,fun _ _ _=>rfl⟩
theorem gr_below (h:Below w.heap.size w w')(T:Nat→Prop):Gr T w w':=⟨h.os,h.tape,h.output,h.size,fun i hi _=>h.block i hi⟩
theorem gr_to (h:Gr T w w1)(k:Gr T w1 w2):Gr T w w2 :=
 ⟨k.os.trans h.os,k.tape.trans h.tape,k.output.trans h.output,Nat.le_trans h.size k.size,fun i hi hn=>(k.block i (Ll hi h.size) hn).trans (h.block i hi hn)⟩
theorem zCc {p:Nat}(h:w.grownBy w' (some p)):Gr (fun i=>i=p) w w':=⟨h.os,h.tape,h.output,h.size,fun i hi hn=>h.block i hi (fun e=>hn (by injection e))⟩
theorem Gr.weak {T':Nat→Prop}(h:Gr T w w')(ht:∀ i,i < w.heap.size→T i→T' i):Gr T' w w':=⟨h.os,h.tape,h.output,h.size,fun i hi hn=>h.block i hi (fun e=>hn (ht i hi e))⟩
theorem Gr.under {b:Nat}(h:Gr T w w')(ht:∀ i,T i→b≤i)(hb:b≤w.heap.size):Below b w w':=⟨h.os,h.tape,h.output,h.size,fun i hi=>h.block i (Ll hi hb) (fun e=>by have:=ht i e;omega)⟩
theorem MSt.keep (h:MSt K o m w)(hK:CfOK K)(g:Gr T w w')(hT:∀ i,T i→K.b≤i∧i≠K.F∧i≠K.Cm∧¬ SS K o i):MSt K o m w':=by
 obtain⟨⟨cf,gf,hF1,hF2⟩,⟨ca,ga,hA1,hA2⟩,⟨ov,hR,hO,ho⟩,h1,h2,h3,h4⟩:=h
 have hs:=fun i (hi:SS K o i)=>g.block i (h3 i hi) (fun e=>(hT i e).2.2.2 hi)
 have hRlt:K.R < w.heap.size:=h3 _ (Or.inl rfl)
 refine⟨⟨cf,gf,hF1.same (g.block _ hF1.lt (fun e=>(hT _ e).2.1 rfl)),fun x=>?_⟩,⟨ca,ga,hA1.same (g.block _ hA1.lt (fun e=>(hT _ e).2.2.1 rfl)),fun x=>?_⟩,⟨ov,?_,?_,ho⟩,h1,h2,fun i hi=>Ll (h3 i hi) g.size,h4⟩
 ·have:=hF2 x
  cases hx:fnOf K.fs x with
  | none=>rw[hx] at this;exact this
  | some f =>
   rw[hx] at this
   obtain⟨cs,e1,e2⟩:=this
   exact⟨cs,e1,keepsF.k e2 (fun _ h=>h) (fun i hi=>g.block i (by have:=hK.ok i hi;have:=hK.r;omega) (fun e=>by have:=(hT i e).1;have:=hK.ok i hi;omega))⟩
 ·obtain⟨e1,A,cp,e2,e3⟩:=hA2 x
  exact⟨e1,A,cp,e2,fun h0=>⟨(e3 h0).1,(hs _ (Or.inr (Or.inr ⟨x,h0,rfl⟩))).trans (e3 h0).2⟩⟩
 ·exact (hs _ (Or.inl rfl)).trans hR
 ·rcases hO with ⟨l1,⟨rfl,l2⟩ | ⟨gg,cap,cur,rfl,l3,l4,l5⟩⟩
  ·exact⟨l1,Or.inl ⟨rfl,l2⟩⟩
  ·exact⟨l1,Or.inr ⟨gg,cap,cur,rfl,l3,(hs gg (Or.inr (Or.inl (by rw[←ho];rfl)))).trans l4,l5⟩⟩
theorem MSt.low (h:MSt K o m w)(hK:CfOK K)(hb:Below w.heap.size w w'):MSt K o m w':=h.keep hK (gr_below hb (fun _=>False)) (fun _ h=>h.elim)
theorem MSt.size (h:MSt K o m w)(hK:CfOK K):K.b≤w.heap.size:=by have:=h.lt _ (Or.inl rfl);have:=hK.r;omega
theorem VMp.lt (h:VMp K o V c Vs w):V < w.heap.size:=by obtain⟨g,h,_⟩:=h.m;exact h.lt
theorem VMp.keep (h:VMp K o V c Vs w)(g:Gr T w w')(hT:¬ T V):VMp K o V c Vs w':=by
 have hl:=h.lt
 obtain⟨⟨f,h1,h2⟩,hb,hn,hs⟩:=h
 exact⟨⟨f,h1.same (g.block V hl hT),h2⟩,hb,hn,hs⟩
theorem VMp.low (h:VMp K o V c Vs w)(hb:Below w.heap.size w w'):VMp K o V c Vs w':=h.keep (gr_below hb (fun _=>False)) (fun h=>h.elim)
theorem VMp.mono (h:VMp K o V c Vs w)(hc:c≤c'):VMp K o V c' Vs w:=by
 obtain⟨⟨f,h1,h2⟩,hb,hn,hs⟩:=h
 exact⟨⟨f,h1.mono (by omega),h2⟩,hb,hn,hs⟩
def OO (w:World)(o o':Option Nat):Prop:=∀ i,o'=some i→o=some i∨w.heap.size≤i
structure Step (K:Cf)(v:Option Nat)(o:Option Nat)(w:World)(o':Option Nat)(w':World):Prop where
 g:Gr (fun i=>SS K o i∨v=some i) w w'
 oo:OO w o o'
theorem OO.refl (w:World)(o:Option Nat):OO w o o:=fun _ h=>Or.inl h
theorem Step.low {v:Option Nat}(hb:Below w.heap.size w w'):Step K v o w o w':=⟨gr_below hb _,OO.refl _ _⟩
theorem Step.to {v:Option Nat}(h:Step K v o w o1 w1)(k:Step K v o1 w1 o2 w2):Step K v o w o2 w2 :=
 ⟨⟨k.g.os.trans h.g.os,k.g.tape.trans h.g.tape,k.g.output.trans h.g.output,Nat.le_trans h.g.size k.g.size,fun i hi hn=>(k.g.block i (Ll hi h.g.size) (fun e=>hn (by
  rcases e with (e | e | e) | e
  ·exact Or.inl (Or.inl e)
  ·rcases h.oo i e with e | e
   ·exact Or.inl (Or.inr (Or.inl e))
   ·omega
  ·exact Or.inl (Or.inr (Or.inr e))
  ·exact Or.inr e))).trans (h.g.block i hi hn)⟩,
  fun i e=>by
   rcases k.oo i e with e | e
   ·exact h.oo i e
   ·exact Or.inr (Nat.le_trans h.g.size e)⟩
theorem Step.blk {v:Option Nat}{g:Nat}{t:TypeId}{cs:Array Value}(h:Step K v o w o' w')(k:Blk w g t cs)(hs:¬ SS K o g)(hv:v≠some g):Blk w' g t cs :=
 (h.g.block g k.lt (fun e=>by rcases e with e | e;exact hs e;exact hv e)).trans k
theorem SS.not {v:Option Nat}{g:Nat}(h:¬ SS K o g)(s:Step K v o w o' w')(hg:g < w.heap.size):¬ SS K o' g:=fun e=>h (by
 rcases e with e | e | e
 ·exact Or.inl e
 ·rcases s.oo g e with e | e
  ·exact Or.inr (Or.inl e)
  ·omega
 ·exact Or.inr (Or.inr e))
theorem Step.below {v:Option Nat}(h:Step K v o w o' w')(hK:CfOK K)(hm:MSt K o m w)(hv:∀ i,v=some i→K.b≤i):Below K.b w w' :=
 h.g.under (fun i e=>by
  rcases e with (e | e | ⟨x,e1,e2⟩) | e
  ·rw[e];exact hK.r
  ·exact (hm.o i e).1
  ·rw[e2];exact hK.g x e1
  ·exact hv i e) (hm.size hK)
def EndW (K:Cf)(kind code:Int)(out:List Int)(w w':World):Prop :=
 Below K.b w w'∧∃ ov fu,Blk w' K.R 84 (rnC K fu kind code ov 0)∧w'.ownsRow K.b 2 1 ov out.length (out.map (Value.int .i64))
theorem EndW.from {kind code:Int}{out:List Int}(h:EndW K kind code out w w'){w0:World}(hb:Below K.b w0 w):EndW K kind code out w0 w':=⟨hb.trans h.1,h.2⟩
end
def EvP (K:Cf)(out:List Int)(r:Rs)(w:World)(e:Ending)(w':World):Prop:=match r with
 | .val n=>e=.returned (.tuple #[.int .i64 n,.bool true])∧Below w.heap.size w w'
 | .trap c=>e=.returned (.tuple #[.int .i64 0,.bool false])∧EndW K 2 c out w w'∧w.grownBy w' (some K.R)
def XrP (K:Cf)(V:Nat)(o:Option Nat)(r:XR)(w:World)(e:Ending)(w':World):Prop:=match r with
 | .ok m' Vs'=>e=.returned (.bool true)∧∃ o',Step K (some V) o w o' w'∧MSt K o' m' w'∧VMp K o' V m'.k Vs' w'
 | .ended k c out=>e=.returned (.bool false)∧EndW K k c out w w'
def CrP (K:Cf)(o:Option Nat)(r:CR)(w:World)(e:Ending)(w':World):Prop:=match r with
 | .val m' n=>e=.returned (.tuple #[.int .i64 n,.bool true])∧∃ o',Step K none o w o' w'∧MSt K o' m' w'
 | .ended k c out=>e=.returned (.tuple #[.int .i64 0,.bool false])∧EndW K k c out w w'
abbrev acV (R V:Nat):Value:=.agg #[.pointer (some ⟨R,0,none⟩),.map (some V)]
set_option maxRecDepth 100000
set_option maxHeartbeats 4000000
theorem Blk.cells7 {w:World}{g:Nat}{t:TypeId}{a b c d e f v:Value}(h:Blk w g t #[a,b,c,d,e,f,v]):w.cell? ⟨g,0,none⟩=some a∧w.cell? ⟨g,1,none⟩=some b∧w.cell? ⟨g,2,none⟩=some c∧w.cell? ⟨g,3,none⟩=some d∧w.cell? ⟨g,4,none⟩=some e∧w.cell? ⟨g,5,none⟩=some f∧w.cell? ⟨g,6,none⟩=some v :=
 ⟨h.cell 0,h.cell 1,h.cell 2,h.cell 3,h.cell 4,h.cell 5,h.cell 6⟩
theorem zCx {K:Cf}(hK:CfOK K){o:Option Nat}{m:MS}{w:World}(h:MSt K o m w)(c:Int) :
 Calls Tryz.prog 133 #[.pointer (some ⟨K.R,0,none⟩),.int .i64 c] w (fun e w'=>e=.returned (.bool false)∧EndW K 2 c m.out w w'∧w.grownBy w' (some K.R)):=by
 have hsz:=h.size hK
 have ho:=h.o
 obtain⟨ov,hR,hO,rfl⟩:=h.R
 have x3:=hR.free 3
 have x4:=hR.free 4
 have y3:w.cell? ⟨K.R,3,none⟩=some (.int .i64 0):=hR.cell 3
 have y4:w.cell? ⟨K.R,4,none⟩=some (.int .i64 0):=hR.cell 4
 have hne:ov.ownBlock≠some K.R:=fun e=>(ho _ e).2.1 rfl
 have hend:EndW K 2 c m.out w ((w.setCell ⟨K.R,3,none⟩ (.int .i64 2)).setCell ⟨K.R,4,none⟩ (.int .i64 c)) :=
  ⟨((Below.refl _ _).setCell hK.r _).setCell hK.r _,ov,m.fuel,(hR.set 3 _).set 4 _,own_setne (own_setne hO hne _) hne _⟩
 have hgw:w.grownBy ((w.setCell ⟨K.R,3,none⟩ (.int .i64 2)).setCell ⟨K.R,4,none⟩ (.int .i64 c)) (some K.R):=zAz (zAz (grown_id _ _) _) _
 obtain⟨R,hRR⟩:∃ R,K.R=R:=⟨_,rfl⟩
 rw[hRR] at hend hgw x3 x4 y3 y4 ⊢
 have HE:=Hd (Ai hend hgw)
 clear hend hgw hR hO hne ho h hsz hRR hK
 go_enter Tryz.func133,Tryz.ntmps133
 go_wp2_with fail
 go_ret
 exact⟨rfl,HE.out⟩
def TkP (K:Cf)(o:Option Nat)(m:MS)(w:World)(e:Ending)(w':World):Prop :=
 if m.fuel=0 then e=.returned (.bool false)∧EndW K 3 0 m.out w w'
 else e=.returned (.bool true)∧Step K none o w o w'∧MSt K o ⟨m.fuel - 1,m.C,m.out,m.k⟩ w'
theorem step_R {K:Cf}{o v:Option Nat}{w:World}{i:Nat}(u:Value):Step K v o w o (w.setCell ⟨K.R,i,none⟩ u) :=
 ⟨(zCc (World.grownBy.refl w (some K.R) |> fun h=>zAz h u)).weak (fun _ _ e=>Or.inl (Or.inl e)),OO.refl _ _⟩
theorem MSt.setR {K:Cf}{o:Option Nat}{m:MS}{w:World}(h:MSt K o m w)(hK:CfOK K)(i:Nat)(u:Value)(fu:Nat)(hfu:fu≤1000)(hcs:∀ ov:Value,(rnC K m.fuel 0 0 ov 0).setIfInBounds i u=rnC K fu 0 0 ov 0):MSt K o ⟨fu,m.C,m.out,m.k⟩ (w.setCell ⟨K.R,i,none⟩ u):=by
 have hsz:=h.size hK
 have ho:=h.o
 have hg:∀ j,j≠K.R→(w.setCell ⟨K.R,i,none⟩ u).heap[j]?=w.heap[j]?:=fun j hj=>Below.heap_setCell w _ u j hj
 have hr:=hK.rf
 have hc:=hK.rc
 obtain⟨⟨cf,gf,hF1,hF2⟩,⟨ca,ga,hA1,hA2⟩,⟨ov,hR,hO,rfl⟩,h1,h2,h3,h4⟩:=h
 refine⟨⟨cf,gf,hF1.same (hg _ (Ne.symm hr)),fun x=>?_⟩,⟨ca,ga,hA1.same (hg _ (Ne.symm hc)),fun x=>?_⟩,⟨ov,?_,?_,rfl⟩,hfu,h2,fun j hj=>by simpa[World.setCell] using h3 j hj,h4⟩
 ·have:=hF2 x
  cases hx:fnOf K.fs x with
  | none=>rw[hx] at this;exact this
  | some f =>
   rw[hx] at this
   obtain⟨cs,e1,e2⟩:=this
   exact⟨cs,e1,keepsF.k e2 (fun _ h=>h) (fun j hj=>hg j (fun e=>by have:=hK.ok j hj;have:=hK.r;omega))⟩
 ·obtain⟨e1,A,cp,e2,e3⟩:=hA2 x
  exact⟨e1,A,cp,e2,fun h0=>⟨(e3 h0).1,(hg _ (hK.gr x h0).1).trans (e3 h0).2⟩⟩
 ·rw[←hcs ov]
  exact hR.set i u
 ·exact own_setne hO (fun e=>(ho _ e).2.1 rfl) u
theorem ir_tick {K:Cf}(hK:CfOK K){o:Option Nat}{m:MS}{w:World}(h:MSt K o m w) :
 Calls Tryz.prog 171 #[.pointer (some ⟨K.R,0,none⟩)] w (TkP K o m w):=by
 have hsz:=h.size hK
 have hfu:=h.fu
 have ho:=h.o
 have hM:=h
 obtain⟨ov,hR,hO,rfl⟩:=h.R
 have x2:=hR.free 2
 have x3:=hR.free 3
 have y2:w.cell? ⟨K.R,2,none⟩=some (.int .i64 (m.fuel:Int)):=hR.cell 2
 have y3:w.cell? ⟨K.R,3,none⟩=some (.int .i64 0):=hR.cell 3
 have hne:ov.ownBlock≠some K.R:=fun e=>(ho _ e).2.1 rfl
 by_cases h0:m.fuel=0
 ·suffices hs:Calls Tryz.prog 171 #[.pointer (some ⟨K.R,0,none⟩)] w (fun e w'=>e=.returned (.bool false)∧EndW K 3 0 m.out w w') from
   hs.mono fun e w' hs=>by unfold TkP;rw[if_pos h0];exact hs
  have hend:EndW K 3 0 m.out w (w.setCell ⟨K.R,3,none⟩ (.int .i64 3)):=⟨(Below.refl _ _).setCell hK.r _,ov,m.fuel,hR.set 3 _,own_setne hO hne _⟩
  rw[h0] at y2
  have y2:w.cell? ⟨K.R,2,none⟩=some (.int .i64 0):=y2
  obtain⟨R,hRR⟩:∃ R,K.R=R:=⟨_,rfl⟩
  rw[hRR] at hend x2 x3 y2 y3 ⊢
  have HE:=Hd hend
  clear hend hR hO hne ho h hM hsz hRR hK h0 hfu
  go_enter Tryz.func171,Tryz.ntmps171
  go_wp2_with fail
  go_ret
  exact⟨rfl,HE.out⟩
 ·suffices hs:Calls Tryz.prog 171 #[.pointer (some ⟨K.R,0,none⟩)] w (fun e w'=>e=.returned (.bool true)∧Step K none ov.ownBlock w ov.ownBlock w'∧MSt K ov.ownBlock ⟨m.fuel - 1,m.C,m.out,m.k⟩ w') from
   hs.mono fun e w' hs=>by unfold TkP;rw[if_neg h0];exact hs
  obtain⟨f,hf⟩:∃ f,m.fuel=f+1:=⟨m.fuel - 1,by omega⟩
  have hend:Step K none ov.ownBlock w ov.ownBlock (w.setCell ⟨K.R,2,none⟩ (.int .i64 (f:Int)))∧MSt K ov.ownBlock ⟨m.fuel - 1,m.C,m.out,m.k⟩ (w.setCell ⟨K.R,2,none⟩ (.int .i64 (f:Int))):=by
   rw[hf]
   exact⟨step_R _,hM.setR hK 2 _ f (by omega) (fun ov=>rfl)⟩
  rw[hf] at y2
  have y2:w.cell? ⟨K.R,2,none⟩=some (.int .i64 ((f:Int)+1)):=y2
  have hf1:(f:Int)≤1000:=by omega
  have hz:(((f:Int)+1)==0)=false:=by rw[beq_eq_false_iff_ne];omega
  have hs1:(f:Int)+1 - 1=(f:Int):=by omega
  obtain⟨R,hRR⟩:∃ R,K.R=R:=⟨_,rfl⟩
  rw[hRR] at hend x2 x3 y2 y3 ⊢
  have HE:=Hd hend
  clear hend hR hO hne ho h hM hsz hRR hK h0 hfu hf
  go_enter Tryz.func171,Tryz.ntmps171
  go_wp2_with fail
  go_ret
  exact⟨rfl,HE.out⟩
def ClP (K:Cf)(m:MS)(x:List UInt8)(n:Int)(w:World)(e:Ending)(w':World):Prop :=
 if oob n (m.C x).length=true then e=.returned (.tuple #[.pointer none,.bool false])∧EndW K 2 2 m.out w w'∧w.grownBy w' (some K.R)
 else e=.returned (.tuple #[.pointer (some ⟨K.G x,n.toNat,none⟩),.bool true])∧w'=w
theorem ir_cell {K:Cf}(hK:CfOK K){o:Option Nat}{m:MS}{w:World}(h:MSt K o m w)(x:List UInt8)(hx:nmOK x=true)(n:Int) :
 Calls Tryz.prog 134 #[.pointer (some ⟨K.R,0,none⟩),.string ⟨x.toArray⟩,.int .i64 n] w (ClP K m x n w):=by
 have hx:x.length≤1000000000:=of_decide_eq_true hx
 have htr:=zCx hK h 2
 obtain⟨ca,ga,hA1,hA2⟩:=h.A
 obtain⟨e1,A,cp,e2,e3⟩:=hA2 x
 obtain⟨ov,hR,hO,_⟩:=h.R
 have y1:w.cell? ⟨K.R,1,none⟩=some (.map (some K.Cm)):=hR.cell 1
 have hrun:=hA1.look mapC (z:=.slice none 0 0) (by kernel_rfl) x hx
 rw[e2] at hrun
 have hcl:∀ b:Bool,oob n (m.C x).length=b→ClP K m x n w=if b=true then (fun e w'=>e=.returned (.tuple #[.pointer none,.bool false])∧EndW K 2 2 m.out w w'∧w.grownBy w' (some K.R)) else (fun e w'=>e=.returned (.tuple #[.pointer (some ⟨K.G x,n.toNat,none⟩),.bool true])∧w'=w):=fun b hb=>by
  funext e w'
  unfold ClP
  rw[hb]
  cases b <;> rfl
 rw[e1] at hcl
 obtain⟨sx,hsx⟩:∃ sx:ByteArray,(⟨x.toArray⟩:ByteArray)=sx:=⟨_,rfl⟩
 rw[hsx] at hrun ⊢
 obtain⟨R,hRR⟩:∃ R,K.R=R:=⟨_,rfl⟩
 rw[hRR] at htr y1 hcl ⊢
 obtain⟨L,hL⟩:∃ L,K.len x=L:=⟨_,rfl⟩
 rw[hL] at hrun e3 hcl
 obtain⟨Cm,hCm⟩:∃ Cm,K.Cm=Cm:=⟨_,rfl⟩
 rw[hCm] at hrun y1
 have HT:=Hd htr
 clear htr hR hO hA2 hA1 e1 e2 hsx hRR hL hCm h hK hx
 by_cases hn:n < 0
 ·rw[hcl true (by unfold oob;rw[decide_eq_true hn];rfl),if_pos rfl]
  clear hcl
  clear e3
  go_enter Tryz.func134,Tryz.ntmps134
  go_wp2_with fail
  refine HT.out.mono ?_
  rintro e w2 ⟨rfl,hb⟩
  have HB:=Hd hb
  clear hb
  go_wp2_with fail
  go_ret2
  exact⟨rfl,HB.out⟩
 ·by_cases hl:(L:Int)≤n
  ·rw[hcl true (by unfold oob;rw[decide_eq_true hl];simp),if_pos rfl]
   clear hcl
   clear e3
   go_enter Tryz.func134,Tryz.ntmps134
   go_wp2_with fail
   refine HT.out.mono ?_
   rintro e w2 ⟨rfl,hb⟩
   have HB:=Hd hb
   clear hb
   go_wp2_with fail
   go_ret2
   exact⟨rfl,HB.out⟩
  ·rw[hcl false (by unfold oob;rw[decide_eq_false hn,decide_eq_false hl];rfl),if_neg (by decide)]
   clear hcl
   obtain⟨rfl,_⟩:=e3 (by omega)
   obtain⟨k,rfl⟩:∃ k:Nat,n=(k:Int):=⟨n.toNat,by omega⟩
   obtain⟨G,hG⟩:∃ G,K.G x=G:=⟨_,rfl⟩
   rw[hG] at hrun ⊢
   have hk:k < L:=by omega
   clear e3 hG HT hn hl
   go_enter Tryz.func134,Tryz.ntmps134
   go_wp2_with fail
   go_ret2
   exact⟨rfl,rfl⟩
set_option maxRecDepth 100000
set_option maxHeartbeats 4000000
def EvC (g:Nat):Prop:=∀ (K:Cf)(o:Option Nat)(m:MS)(Vs:IX.Vs)(V c:Nat)(e:PE)(r:Rs)(cs:List Value)(w:World),CfOK K→evE g Vs m.C e=some r→RepE w K.ok e cs→MSt K o m w→VMp K o V c Vs w →
 Calls Tryz.prog 50 #[acV K.R V,.agg cs.toArray] w (EvP K m.out r w)
theorem exC_is {w:World}{ok:Nat→Prop}{e:PE}{cs:List Value}(h:RepE w ok e cs):∃ k1 n1 x1 o1 A1 L1 c1,cs=exC k1 n1 x1 o1 A1 L1 c1:=by
 cases h with
 | mk kind n name op kids A c g F hA hc hk=>exact⟨_,_,_,_,_,_,_,rfl⟩
theorem zCo {w:World}{ok:Nat→Prop}{kd n:Int}{nm:List UInt8}{op:Int}{kids:List PE}{cs:List Value}(h:RepE w ok (.mk kd n nm op kids) cs) :
 ∃ A c,cs=exC kd n nm op A kids.length c∧∀ (i:Nat) (a:PE),kids[i]?=some a→∃ g k1 n1 x1 o1 A1 L1 c1,A=some ⟨g,0,none⟩∧ok g∧RepE w ok a (exC k1 n1 x1 o1 A1 L1 c1) ∧
  w.cell? ⟨g,i * 5+0,none⟩=some (.int .i64 k1)∧w.cell? ⟨g,i * 5+1,none⟩=some (.int .i64 n1)∧w.cell? ⟨g,i * 5+2,none⟩=some (.string ⟨x1.toArray⟩)∧w.cell? ⟨g,i * 5+3,none⟩=some (.int .i64 o1)∧w.cell? ⟨g,i * 5+4,none⟩=some (.slice A1 L1 c1):=by
 cases h with
 | mk _ _ _ _ _ A c g F hA hc hk =>
  refine⟨A,c,rfl,fun i a ha=>?_⟩
  have hi:=(Gs.1 ha).1
  have hne:kids≠[]:=fun h=>by rw[h] at hi;exact absurd hi (Nat.not_lt_zero i)
  have hr:=hk i a ha
  obtain⟨k1,n1,x1,o1,A1,L1,c1,hF⟩:=exC_is hr
  rw[hF] at hr
  have hcc:=fun j u hu=>hc i j u hi hu
  rw[hF] at hcc
  exact⟨g,k1,n1,x1,o1,A1,L1,c1,(hA hne).1,(hA hne).2,hr,hcc 0 _ rfl,hcc 1 _ rfl,hcc 2 _ rfl,hcc 3 _ rfl,hcc 4 _ rfl⟩
theorem bk {w w':World}{b:Nat}(h:Below w.heap.size w w')(hb:b≤w.heap.size):Below b w w':=below_down h hb
theorem zA3 {K:Cf}{out:List Int}{r:Rs}{w:World}{e:Ending}{w':World}(h:EvP K out r w e w'):∃ n b,e=.returned (.tuple #[.int .i64 n,.bool b])∧EvP K out r w (.returned (.tuple #[.int .i64 n,.bool b])) w':=by
 cases r with
 | val n=>obtain⟨rfl,h⟩:=h;exact⟨n,true,rfl,rfl,h⟩
 | trap c=>obtain⟨rfl,h⟩:=h;exact⟨0,false,rfl,rfl,h⟩
theorem EvP.world {K:Cf}{out:List Int}{r:Rs}{w0 w:World}{e:Ending}{w':World}(h:EvP K out r w e w')(h1:w'.os=w.os→w'.os=w0.os)(h2:w'.tape=w.tape→w'.tape=w0.tape)(h3:w'.output=w.output→w'.output=w0.output)(h4:w.heap=w0.heap):EvP K out r w0 e w':=by
 cases r with
 | val n=>exact⟨h.1,h1 h.2.os,h2 h.2.tape,h3 h.2.output,h4 ▸ h.2.size,h4 ▸ h.2.block⟩
 | trap c=>exact⟨h.1,⟨⟨h1 h.2.1.1.os,h2 h.2.1.1.tape,h3 h.2.1.1.output,h4 ▸ h.2.1.1.size,h4 ▸ h.2.1.1.block⟩,h.2.1.2⟩,⟨h1 h.2.2.os,h2 h.2.2.tape,h3 h.2.2.output,h4 ▸ h.2.2.size,h4 ▸ h.2.2.block⟩⟩
theorem EvP.grown {K:Cf}{out:List Int}{r:Rs}{w:World}{e:Ending}{w':World}(h:EvP K out r w e w'):w.grownBy w' (some K.R):=by
 cases r with
 | val n=>exact zAa h.2 _
 | trap c=>exact h.2.2
theorem EvP.at {K:Cf}{out:List Int}{r:Rs}{w:World}{e:Ending}{w':World}(h:EvP K out r w e w'){b i:Nat}(hb:b < w.heap.size)(hn:b≠K.R):w'.cell? ⟨b,i,none⟩=w.cell? ⟨b,i,none⟩ :=
 Cb (h.grown.block b hb (fun e=>hn (by injection e)))
theorem EvP.back {K:Cf}{out:List Int}{r:Rs}{w0 w:World}{e:Ending}{w':World}(h:EvP K out r w e w')(hb:Below w0.heap.size w0 w)(hs:K.b≤w0.heap.size):EvP K out r w0 e w':=by
 cases r with
 | val n=>exact⟨h.1,hb.trans (below_down h.2 hb.size)⟩
 | trap c=>exact⟨h.1,h.2.1.from (bk hb hs),grown_to (zAa hb _) h.2.2⟩
theorem evT {K:Cf}{out:List Int}{c:Int}{w0 w w':World}(h:EndW K 2 c out w w')(g:w.grownBy w' (some K.R))(hb:Below w0.heap.size w0 w)(hs:K.b≤w0.heap.size):EvP K out (.trap c) w0 (.returned (.tuple #[.int .i64 0,.bool false])) w':=⟨rfl,h.from (bk hb hs),grown_to (zAa hb _) g⟩
theorem evV {K:Cf}{out:List Int}{n n':Int}{w w':World}(hn:n'=n)(h:Below w.heap.size w w'):EvP K out (.val n) w (.returned (.tuple #[.int .i64 n',.bool true])) w':=⟨by rw[hn],h⟩
theorem MSt.cellAt {K:Cf}{o:Option Nat}{m:MS}{w:World}(h:MSt K o m w){x:List UInt8}{i:Int}(hi:oob i (m.C x).length=false):w.cell? ⟨K.G x,i.toNat,none⟩=some (.int .i64 ((m.C x).getD i.toNat 0)):=by
 obtain⟨ca,ga,hA1,hA2⟩:=h.A
 obtain⟨e1,A,cp,e2,e3⟩:=hA2 x
 unfold oob at hi
 simp only[Bool.or_eq_false_iff,decide_eq_false_iff_not] at hi
 obtain⟨_,hb⟩:=e3 (by omega)
 rw[hb.cell]
 unfold ints
 rw[List.getElem?_toArray,List.getElem?_map,Ge (by omega),List.getD_eq_getElem?_getD,Ge (by omega)]
 rfl
def ClQ (K:Cf)(m:MS)(x:List UInt8)(n:Int)(b:Bool)(w:World)(e:Ending)(w':World):Prop:=match b with
 | true=>e=.returned (.tuple #[.pointer none,.bool false])∧EndW K 2 2 m.out w w'∧w.grownBy w' (some K.R)
 | false=>e=.returned (.tuple #[.pointer (some ⟨K.G x,n.toNat,none⟩),.bool true])∧w'=w∧w.cell? ⟨K.G x,n.toNat,none⟩=some (.int .i64 ((m.C x).getD n.toNat 0))
theorem ir_cellQ {K:Cf}(hK:CfOK K){o:Option Nat}{m:MS}{w:World}(h:MSt K o m w)(x:List UInt8)(hx:nmOK x=true)(n:Int)(b:Bool)(hb:oob n (m.C x).length=b) :
 Calls Tryz.prog 134 #[.pointer (some ⟨K.R,0,none⟩),.string ⟨x.toArray⟩,.int .i64 n] w (ClQ K m x n b w) :=
 (ir_cell hK h x hx n).mono fun e w' hc=>by
  unfold ClP at hc
  rw[hb] at hc
  cases b with
  | true=>rw[if_pos rfl] at hc;exact hc
  | false=>rw[if_neg (by decide)] at hc;exact⟨hc.1,hc.2,h.cellAt hb⟩
theorem iv_load (g:Nat)(ih:EvC g){K:Cf}(hK:CfOK K){o:Option Nat}{m:MS}{Vs:IX.Vs}{V c:Nat}{n:Int}{nm:List UInt8}{op:Int}{kids:List PE}{cs:List Value}{w:World}
 {a:PE} {ra:Rs} (hnm:nmOK nm=true) (ha:kids[0]?=some a) (hra:evE g Vs m.C a=some ra) (hE:RepE w K.ok (.mk 3 n nm op kids) cs) (hM:MSt K o m w) (hV:VMp K o V c Vs w) :
 Calls Tryz.prog 88 #[acV K.R V,.agg cs.toArray] w (EvP K m.out (idxR (m.C nm) ra) w):=by
 obtain⟨A,cc,rfl,hkid⟩:=zCo hE
 obtain⟨gb0,k0,n0,x0,o0,A0,L0,c0,hA0,hok0,hrep0,q00,q01,q02,q03,q04⟩:=hkid 0 a ha
 obtain rfl:=hA0
 have hsz:=hM.size hK
 have hgb:gb0 < w.heap.size:=Ll (hK.ok gb0 hok0) hsz
 have hRlt:K.R < w.heap.size:=hM.lt _ (Or.inl rfl)
 have hgR:gb0≠K.R:=fun e=>by have h1:=hK.ok _ hok0;have h2:=hK.r;omega
 have hlen0:0 < kids.length:=(Gs.1 ha).1
 obtain⟨W2,hW2⟩:∃ W2,(w.alloc (.cells #[.pointer (some ⟨K.R,0,none⟩),.map (some V)] 114)).alloc (.cells #[.int .i64 3,.int .i64 n,.string ⟨nm.toArray⟩,.int .i64 op,.slice (some ⟨gb0,0,none⟩) kids.length cc] 36)=W2:=⟨_,rfl⟩
 have hb2:Below w.heap.size w W2:=by rw[←hW2];exact ((Below.refl _ _).alloc (Lr _) _).alloc (by simp) _
 have j1:Blk W2 w.heap.size 114 #[.pointer (some ⟨K.R,0,none⟩),.map (some V)]:=by rw[←hW2];exact (Blk.new _ _ _).alloc _
 have j2:Blk W2 (w.heap.size+1) 36 #[.int .i64 3,.int .i64 n,.string ⟨nm.toArray⟩,.int .i64 op,.slice (some ⟨gb0,0,none⟩) kids.length cc]:=by rw[←hW2];exact blk_at (by simp) _ _
 have hc0:∀ W,Below W2.heap.size W2 W→Calls Tryz.prog 50 #[acV K.R V,.agg #[.int .i64 k0,.int .i64 n0,.string ⟨x0.toArray⟩,.int .i64 o0,.slice A0 L0 c0]] W (EvP K m.out ra W):=fun W hW=>by
  have hbW:Below w.heap.size w W:=hb2.trans (below_down hW hb2.size)
  exact ih K o m Vs V c a ra _ W hK hra (hrep0.keep (fun _ h=>h) (fun i hi=>hbW.block i (Ll (hK.ok i hi) hsz))) (hM.low hK hbW) (hV.low hbW)
 have z00:W2.cell? ⟨gb0,0,none⟩=some (.int .i64 k0):=(hb2.cell (p:=⟨gb0,0,none⟩) hgb).trans q00
 have z01:W2.cell? ⟨gb0,1,none⟩=some (.int .i64 n0):=(hb2.cell (p:=⟨gb0,1,none⟩) hgb).trans q01
 have z02:W2.cell? ⟨gb0,2,none⟩=some (.string ⟨x0.toArray⟩):=(hb2.cell (p:=⟨gb0,2,none⟩) hgb).trans q02
 have z03:W2.cell? ⟨gb0,3,none⟩=some (.int .i64 o0):=(hb2.cell (p:=⟨gb0,3,none⟩) hgb).trans q03
 have z04:W2.cell? ⟨gb0,4,none⟩=some (.slice A0 L0 c0):=(hb2.cell (p:=⟨gb0,4,none⟩) hgb).trans q04
 have hMW:∀ W,Below w.heap.size w W→MSt K o m W:=fun W hW=>hM.low hK hW
 have htr:∀ W,Below w.heap.size w W→∀ c,Calls Tryz.prog 133 #[.pointer (some ⟨K.R,0,none⟩),.int .i64 c] W (fun e w'=>e=.returned (.bool false)∧EndW K 2 c m.out W w'∧W.grownBy w' (some K.R)):=fun W hW c=>zCx hK (hM.low hK hW) c
 obtain⟨L,hL⟩:∃ L,kids.length=L:=⟨_,rfl⟩
 obtain⟨sx,hsx⟩:∃ sx:ByteArray,(⟨nm.toArray⟩:ByteArray)=sx:=⟨_,rfl⟩
 obtain⟨s0,hs0⟩:∃ sx:ByteArray,(⟨x0.toArray⟩:ByteArray)=sx:=⟨_,rfl⟩
 rw[hs0] at hc0 z02
 obtain⟨R,hRR⟩:∃ R,K.R=R:=⟨_,rfl⟩
 show Calls Tryz.prog 88 #[acV K.R V,.agg #[.int .i64 3,.int .i64 n,.string ⟨nm.toArray⟩,.int .i64 op,.slice (some ⟨gb0,0,none⟩) kids.length cc]] w _
 rw[hL] at hlen0 hW2 j2  ⊢
 rw[hsx] at hW2 j2 ⊢
 rw[hRR] at hW2 j1 hc0 htr hRlt hgR ⊢
 obtain⟨u0,u1,_,_⟩:=j1.cells2
 have v2:W2.cell? ⟨w.heap.size+1,2,none⟩=some (.string sx):=j2.cell 2
 have v3:W2.cell? ⟨w.heap.size+1,3,none⟩=some (.int .i64 op):=j2.cell 3
 have v4:W2.cell? ⟨w.heap.size+1,4,none⟩=some (.slice (some ⟨gb0,0,none⟩) L cc):=j2.cell 4
 have HC0:=Hd hc0
 have HW:=Hd (Ai hW2 (Ai hb2 (Ai hsz (Ai htr (Ai j1.lt (Ai j2.lt (Ai hMW (Ai hsx hRR))))))))
 clear hc0 hrep0 hok0 hs0 q00 q01 q02 q03 q04 ha hra hW2 hb2 hsz htr hMW j1 j2 hM hV hE hkid hL hsx hRR
 go_enter Tryz.func88,Tryz.ntmps88
 go_wp2_with fail
 rw[HW.out.1]
 go_region_held3 (fun w'=>w'.cell? ⟨gb0,0,none⟩=some (.int .i64 k0)∧w'.cell? ⟨gb0,1,none⟩=some (.int .i64 n0)∧w'.cell? ⟨gb0,2,none⟩=some (.string s0)∧w'.cell? ⟨gb0,3,none⟩=some (.int .i64 o0)∧w'.cell? ⟨gb0,4,none⟩=some (.slice A0 L0 c0)∧w'.cell? ⟨w.heap.size,0,none⟩=some (.pointer (some ⟨R,0,none⟩))∧w'.cell? ⟨w.heap.size,1,none⟩=some (.map (some V))∧w'.cell? ⟨w.heap.size+1,4,none⟩=some (.slice (some ⟨gb0,0,none⟩) L cc)) (first | exact⟨z00,z01,z02,z03,z04,u0,u1,v4⟩ | exact⟨e0,e1,e2,e3,e4,e5,e6,e7⟩)
  ((go_at_call 50;((with_reducible refine (HC0.out _ ?_).mono ?_));rotate_left;(rintro e w3 h3;obtain⟨n3,b3,rfl,h3⟩:=zA3 h3;have h3:EvP K m.out ra W2 (.returned (.tuple #[.int .i64 n3,.bool b3])) w3:=h3.world id id id rfl;have e0:=(h3.at (b:=gb0) (i:=0) (Ll hgb HW.out.2.1.size) (HW.out.2.2.2.2.2.2.2.2 ▸ hgR)).trans z00;have e1:=(h3.at (b:=gb0) (i:=1) (Ll hgb HW.out.2.1.size) (HW.out.2.2.2.2.2.2.2.2 ▸ hgR)).trans z01;have e2:=(h3.at (b:=gb0) (i:=2) (Ll hgb HW.out.2.1.size) (HW.out.2.2.2.2.2.2.2.2 ▸ hgR)).trans z02;have e3:=(h3.at (b:=gb0) (i:=3) (Ll hgb HW.out.2.1.size) (HW.out.2.2.2.2.2.2.2.2 ▸ hgR)).trans z03;have e4:=(h3.at (b:=gb0) (i:=4) (Ll hgb HW.out.2.1.size) (HW.out.2.2.2.2.2.2.2.2 ▸ hgR)).trans z04;have e5:=(h3.at (b:=w.heap.size) (i:=0) HW.out.2.2.2.2.1 (HW.out.2.2.2.2.2.2.2.2 ▸ (Nat.ne_of_gt hRlt))).trans u0;have e6:=(h3.at (b:=w.heap.size) (i:=1) HW.out.2.2.2.2.1 (HW.out.2.2.2.2.2.2.2.2 ▸ (Nat.ne_of_gt hRlt))).trans u1;have e7:=(h3.at (b:=w.heap.size+1) (i:=4) HW.out.2.2.2.2.2.1 (HW.out.2.2.2.2.2.2.2.2 ▸ (Nat.ne_of_gt (Nat.lt_succ_of_lt hRlt)))).trans v4);rotate_left;(first | exact Below.refl _ _ | exact below_drewN (Below.refl _ _) _)))
 have HA:=Hd h3
 clear h3
 cases ra with
 | trap ct =>
  obtain⟨hx,hend,hgr⟩:=HA.out
  obtain⟨rfl,rfl⟩:n3=0∧b3=false:=by injection hx with hx;injection hx with hx;simp at hx;exact hx
  have HE:=Hd (Ai hend hgr)
  clear hx hend hgr HA
  go_wp2_with fail
  go_ret2
  exact evT HE.out.1 HE.out.2 HW.out.2.1 HW.out.2.2.1
 | val x =>
  obtain⟨hx,hbw⟩:=HA.out
  obtain⟨rfl,rfl⟩:n3=x∧b3=true:=by injection hx with hx;injection hx with hx;simp at hx;exact hx
  have HB:=Hd hbw
  clear hx hbw HA
  have p2:w3.cell? ⟨w.heap.size+1,2,none⟩=some (.string sx):=(HB.out.cell (p:=⟨w.heap.size+1,2,none⟩) HW.out.2.2.2.2.2.1).trans v2
  obtain⟨b,hb⟩:∃ b,oob n3 (m.C nm).length=b:=⟨_,rfl⟩
  have HI:Hid (idxR (m.C nm) (.val n3)=if b=true then .trap 2 else .val ((m.C nm).getD n3.toNat 0)):=Hd (by rw[←hb];rfl)
  have hb3:Below w.heap.size w w3:=HW.out.2.1.trans (below_down HB.out HW.out.2.1.size)
  have hcl:=ir_cellQ hK (HW.out.2.2.2.2.2.2.1 w3 hb3) nm hnm n3 b hb
  rw[HW.out.2.2.2.2.2.2.2.1,HW.out.2.2.2.2.2.2.2.2] at hcl
  have HL:=Hd hcl
  have H3:=Hd hb3
  obtain⟨cv,hcv⟩:∃ cv,(m.C nm).getD n3.toNat 0=cv:=⟨_,rfl⟩
  obtain⟨G,hG⟩:∃ G,K.G nm=G:=⟨_,rfl⟩
  obtain⟨it,hit⟩:∃ n,n3.toNat=n:=⟨_,rfl⟩
  have HV:=Hd (Ai hcv (Ai hG hit))
  clear hcl hb3 hcv hG hit hb
  cases b with
  | true =>
   go_wp2_with fail
   refine HL.out.mono ?_
   rintro e w4 ⟨rfl,hb4⟩
   have H4:=Hd hb4
   clear hb4
   go_wp2_with fail
   go_ret2
   rw[HI.out]
   exact evT H4.out.1 H4.out.2 H3.out HW.out.2.2.1
  | false =>
   go_wp2_with fail
   refine HL.out.mono ?_
   rintro e w4 ⟨rfl,rfl,y9⟩
   rw[HV.out.1,HV.out.2.1,HV.out.2.2] at y9
   rw[HV.out.2.1,HV.out.2.2]
   go_wp2_with fail
   go_ret2
   rw[HI.out,HV.out.1]
   exact evV rfl H3.out
end Go.Proofs.YtpgnlfdindmopaaGreatDoor
