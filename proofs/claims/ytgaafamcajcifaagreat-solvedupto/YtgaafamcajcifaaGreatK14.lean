/- Joined: XInt7 XInt8. -/
import Derived.Test.YtgaafamcajcifaaGreatK13
set_option linter.unusedVariables false
set_option linter.unusedSimpArgs false
set_option maxRecDepth 100000
namespace Go.Proofs.YtgaafamcajcifaaGreat
open Go.RowKit
theorem Pl.yI {A B:Int} (a0:0<=A) (b0:0<=B) (ha:A<1073741824) (hb:B<1073741824):0<=A*B∧A*B<4611686018427387904:=by
 have h1:=Y_ a0 b0;have h2:A*B<=1073741823*1073741823:=Int.mul_le_mul (by omega) (by omega) b0 (by omega);omega
theorem Pl.yJ {A B:Int} (a0:0<=A) (b0:0<B) (h:A<=4611686018427387903/B):0<=A*B∧A*B<4611686018427387904:=by
 have h1:=Y_ a0 (aaO b0);have h2:A*B<=4611686018427387903/B*B:=A_ h (aaO b0);have h3:=aay 4611686018427387903 B;have h4:=aaS 4611686018427387903 (show B≠0 by omega);rw [u_] at h3;omega
def R8 (a b:Int) (e:Ending):Prop:=∃ f,e=.returned (.bool f)∧(f=true->-4611686018427387904<a*b∧a*b<4611686018427387904)
set_option maxHeartbeats 4000000 in
theorem PE (a b:Int) (w:World) (ha:-4611686018427387904<a∧a<4611686018427387904) (hb:-4611686018427387904<b∧b<4611686018427387904) :
  Calls Tryz.prog 80 #[.int .i64 a,.int .i64 b] w λe w'=>R8 a b e∧w'=w:=by
 obtain ⟨a1,a2⟩:=ha;obtain ⟨b1,b2⟩:=hb;by_cases ha:a<0
 ·by_cases hb:b<0
  ·obtain ⟨A,hA⟩:∃ A,-a=A:=⟨_,rfl⟩;obtain ⟨B,hB⟩:∃ B,-b=B:=⟨_,rfl⟩;have heq:a*b=(A*B):=by rw [<-hA,<-hB,Int.neg_mul_neg]
   by_cases t1:A<1073741824∧B<1073741824
   ·have hf:=Pl.yI (A:=A) (B:=B) (by omega) (by omega) t1.1 t1.2;have HG:Hid (-4611686018427387904<a*b∧a*b<4611686018427387904):=⟨by omega,by omega⟩;obtain ⟨t2,t3⟩:=t1;clear hf heq;go_enter Tryz.func80,Tryz.ntmps80;go_wp2;go_ret;exact ⟨⟨true,rfl,λ_=>uh HG⟩,rfl⟩
   ·by_cases t4:b=0
    ·have HG:Hid (-4611686018427387904<a*b∧a*b<4611686018427387904):=by rw [t4,X_];exact ⟨by omega,by omega⟩
     clear heq;subst t4;exact absurd hb (by omega)
    ·have hf:=λh=>Pl.yJ (A:=A) (B:=B) (by omega) (by omega) h;have HG:Hid (A<=4611686018427387903/(B)->-4611686018427387904<a*b∧a*b<4611686018427387904):=λh=>by have:=hf h;exact ⟨by omega,by omega⟩
     have t5:((B) == 0)=false:=by simp;omega
     have hq0:0<=4611686018427387903/(B):=abl (by omega) (by omega);have hq1:4611686018427387903/(B)<=4611686018427387903:=abo _ (by omega);clear hf heq;by_cases t6:A<1073741824
     ·have t7:¬ B<1073741824:=λh=>t1 ⟨t6,h⟩;clear t1;go_enter Tryz.func80,Tryz.ntmps80;go_wp2;go_ret;exact ⟨⟨_,rfl,λh=>uh HG (by simpa using h)⟩,rfl⟩
     ·clear t1;go_enter Tryz.func80,Tryz.ntmps80;go_wp2;go_ret;exact ⟨⟨_,rfl,λh=>uh HG (by simpa using h)⟩,rfl⟩
  ·obtain ⟨A,hA⟩:∃ A,-a=A:=⟨_,rfl⟩;have heq:a*b=-(A*b):=by rw [<-hA,aaP,abM]
   by_cases t1:A<1073741824∧b<1073741824
   ·have hf:=Pl.yI (A:=A) (B:=b) (by omega) (by omega) t1.1 t1.2;have HG:Hid (-4611686018427387904<a*b∧a*b<4611686018427387904):=⟨by omega,by omega⟩;obtain ⟨t2,t3⟩:=t1;clear hf heq;go_enter Tryz.func80,Tryz.ntmps80;go_wp2;go_ret;exact ⟨⟨true,rfl,λ_=>uh HG⟩,rfl⟩
   ·by_cases t4:b=0
    ·have HG:Hid (-4611686018427387904<a*b∧a*b<4611686018427387904):=by rw [t4,X_];exact ⟨by omega,by omega⟩
     clear heq;subst t4;go_enter Tryz.func80,Tryz.ntmps80;go_wp2;go_ret;exact ⟨⟨_,rfl,λ_=>uh HG⟩,rfl⟩
    ·have hf:=λh=>Pl.yJ (A:=A) (B:=b) (by omega) (by omega) h;have HG:Hid (A<=4611686018427387903/(b)->-4611686018427387904<a*b∧a*b<4611686018427387904):=λh=>by have:=hf h;exact ⟨by omega,by omega⟩
     have t5:((b) == 0)=false:=by simp;omega
     have hq0:0<=4611686018427387903/(b):=abl (by omega) (by omega);have hq1:4611686018427387903/(b)<=4611686018427387903:=abo _ (by omega);clear hf heq;by_cases t6:A<1073741824
     ·have t7:¬ b<1073741824:=λh=>t1 ⟨t6,h⟩;clear t1;go_enter Tryz.func80,Tryz.ntmps80;go_wp2;go_ret;exact ⟨⟨_,rfl,λh=>uh HG (by simpa using h)⟩,rfl⟩
     ·clear t1;go_enter Tryz.func80,Tryz.ntmps80;go_wp2;go_ret;exact ⟨⟨_,rfl,λh=>uh HG (by simpa using h)⟩,rfl⟩
 ·by_cases hb:b<0
  ·obtain ⟨B,hB⟩:∃ B,-b=B:=⟨_,rfl⟩;have heq:a*b=-(a*B):=by rw [<-hB,abC,abM]
   by_cases t1:a<1073741824∧B<1073741824
   ·have hf:=Pl.yI (A:=a) (B:=B) (by omega) (by omega) t1.1 t1.2;have HG:Hid (-4611686018427387904<a*b∧a*b<4611686018427387904):=⟨by omega,by omega⟩;obtain ⟨t2,t3⟩:=t1;clear hf heq;go_enter Tryz.func80,Tryz.ntmps80;go_wp2;go_ret;exact ⟨⟨true,rfl,λ_=>uh HG⟩,rfl⟩
   ·by_cases t4:b=0
    ·have HG:Hid (-4611686018427387904<a*b∧a*b<4611686018427387904):=by rw [t4,X_];exact ⟨by omega,by omega⟩
     clear heq;subst t4;exact absurd hb (by omega)
    ·have hf:=λh=>Pl.yJ (A:=a) (B:=B) (by omega) (by omega) h;have HG:Hid (a<=4611686018427387903/(B)->-4611686018427387904<a*b∧a*b<4611686018427387904):=λh=>by have:=hf h;exact ⟨by omega,by omega⟩
     have t5:((B) == 0)=false:=by simp;omega
     have hq0:0<=4611686018427387903/(B):=abl (by omega) (by omega);have hq1:4611686018427387903/(B)<=4611686018427387903:=abo _ (by omega);clear hf heq;by_cases t6:a<1073741824
     ·have t7:¬ B<1073741824:=λh=>t1 ⟨t6,h⟩;clear t1;go_enter Tryz.func80,Tryz.ntmps80;go_wp2;go_ret;exact ⟨⟨_,rfl,λh=>uh HG (by simpa using h)⟩,rfl⟩
     ·clear t1;go_enter Tryz.func80,Tryz.ntmps80;go_wp2;go_ret;exact ⟨⟨_,rfl,λh=>uh HG (by simpa using h)⟩,rfl⟩
  ·have heq:a*b=(a*b):=by rfl
   by_cases t1:a<1073741824∧b<1073741824
   ·have hf:=Pl.yI (A:=a) (B:=b) (by omega) (by omega) t1.1 t1.2;have HG:Hid (-4611686018427387904<a*b∧a*b<4611686018427387904):=⟨by omega,by omega⟩;obtain ⟨t2,t3⟩:=t1;clear hf heq;go_enter Tryz.func80,Tryz.ntmps80;go_wp2;go_ret;exact ⟨⟨true,rfl,λ_=>uh HG⟩,rfl⟩
   ·by_cases t4:b=0
    ·have HG:Hid (-4611686018427387904<a*b∧a*b<4611686018427387904):=by rw [t4,X_];exact ⟨by omega,by omega⟩
     clear heq;subst t4;go_enter Tryz.func80,Tryz.ntmps80;go_wp2;go_ret;exact ⟨⟨_,rfl,λ_=>uh HG⟩,rfl⟩
    ·have hf:=λh=>Pl.yJ (A:=a) (B:=b) (by omega) (by omega) h;have HG:Hid (a<=4611686018427387903/(b)->-4611686018427387904<a*b∧a*b<4611686018427387904):=λh=>by have:=hf h;exact ⟨by omega,by omega⟩
     have t5:((b) == 0)=false:=by simp;omega
     have hq0:0<=4611686018427387903/(b):=abl (by omega) (by omega);have hq1:4611686018427387903/(b)<=4611686018427387903:=abo _ (by omega);clear hf heq;by_cases t6:a<1073741824
     ·have t7:¬ b<1073741824:=λh=>t1 ⟨t6,h⟩;clear t1;go_enter Tryz.func80,Tryz.ntmps80;go_wp2;go_ret;exact ⟨⟨_,rfl,λh=>uh HG (by simpa using h)⟩,rfl⟩
     ·clear t1;go_enter Tryz.func80,Tryz.ntmps80;go_wp2;go_ret;exact ⟨⟨_,rfl,λh=>uh HG (by simpa using h)⟩,rfl⟩
theorem Pl.PG (a b:Int):Int.sign a*Int.sign b*((a.natAbs:Int)*b.natAbs)=a*b:=by
 have e1:=Int.sign_mul_natAbs a;have e2:=Int.sign_mul_natAbs b
 calc Int.sign a*Int.sign b*((a.natAbs:Int)*b.natAbs)=(Int.sign a*a.natAbs)*(Int.sign b*b.natAbs):=by rw [y_,y_,r_ (Int.sign b)]
  _=a*b:=by rw [e1,e2]
theorem Pl.vZ (a b:Int):(Int.sign a*Int.sign b=1∨Int.sign a*Int.sign b=-1)∨(Int.sign a*Int.sign b=0∧(a.natAbs:Int)*b.natAbs=0):=by
 rcases (show a<0∨a=0∨0<a by omega) with h|h|h
 ·rcases (show b<0∨b=0∨0<b by omega) with k | k | k
  ·rw [E_ h,E_ k];exact .inl (.inl rfl)
  ·subst k;exact .inr ⟨by simp,by simp⟩
  ·rw [E_ h,J_ k];exact .inl (.inr rfl)
 ·subst h;exact .inr ⟨by simp,by simp⟩
 ·rcases (show b<0∨b=0∨0<b by omega) with k | k | k
  ·rw [J_ h,E_ k];exact .inl (.inr rfl)
  ·subst k;exact .inr ⟨by simp,by simp⟩
  ·rw [J_ h,J_ k];exact .inl (.inl rfl)
theorem aJ.held {w:World} {u v u2 v2:Value} {o3:Obj} {w1:World} (h:aJ w (.cells #[u,v] 78) (.cells #[u2,v2] 78) o3 w1) :
  w1.cell? ⟨w.heap.size,0,none⟩=some u∧w1.cell? ⟨w.heap.size,1,none⟩=some v∧w1.cell? ⟨w.heap.size+1,0,none⟩=some u2∧w1.cell? ⟨w.heap.size+1,1,none⟩=some v2:=by
 obtain ⟨k1,k2⟩:=bX h (nN w _ _ _);obtain ⟨k3,k4⟩:=bX h (jo w _ _ _);exact ⟨k1,k2,k3,k4⟩
theorem aJ.xA {w:World} {u v u2 v2:Value} {o3:Obj} {w1:World} (h:aJ w (.cells #[u,v] 78) (.cells #[u2,v2] 78) o3 w1) (p q:Value) :
  ((w1.setCell ⟨w.heap.size+1+1,0,none⟩ p).setCell ⟨w.heap.size+1+1,1,none⟩ q).cell? ⟨w.heap.size,0,none⟩=some u∧((w1.setCell ⟨w.heap.size+1+1,0,none⟩ p).setCell ⟨w.heap.size+1+1,1,none⟩ q).cell? ⟨w.heap.size,1,none⟩=some v∧((w1.setCell ⟨w.heap.size+1+1,0,none⟩ p).setCell ⟨w.heap.size+1+1,1,none⟩ q).cell? ⟨w.heap.size+1,0,none⟩=some u2∧((w1.setCell ⟨w.heap.size+1+1,0,none⟩ p).setCell ⟨w.heap.size+1+1,1,none⟩ q).cell? ⟨w.heap.size+1,1,none⟩=some v2:=by
 obtain ⟨k1,k2,k3,k4⟩:=aJ.held h;refine ⟨?_,?_,?_,?_⟩
 all_goals
  rw [World.cell?_setCell_far _ _ _ _ (by simp <;> omega),World.cell?_setCell_far _ _ _ _ (by simp <;> omega)]
  assumption
set_option maxHeartbeats 16000000 in
theorem eD (P:Nat->Prop) (K:Nat) (a b:Int) (va vb:Value) (w:World) (hP:∀ b,w.heap.size<=b->P b) (ha:aj P w va a) (hb:aj P w vb b) (hK:K<=1500000000000) (hA:(a.natAbs:Int)<1073741824^K) (hB:(b.natAbs:Int)<1073741824^K) :
  Calls Tryz.prog 58 #[va,vb] w λe w'=>∃ v',e=.returned v'∧aj P w' v' (a*b)∧Below w.heap.size w w':=by
 have I4:=af (λo1 o2 o3=>jF P va a (((w.alloc o1).alloc o2).alloc o3) (ha.below (ay w o1 o2 o3)));have Gd:=af (λw1 (h:Below w.heap.size w w1)=>bY P va a w1 (ha.below h));have Gf:=af (λw1 (h:Below w.heap.size w w1)=>bY P vb b w1 (hb.below h));have zO:=af (Pl.PG a b);have VA:Hid (∀ t:Int,t=(a.natAbs:Int)*b.natAbs->(Int.sign a*Int.sign b=1∨Int.sign a*Int.sign b=-1)∨(Int.sign a*Int.sign b=0∧t=0)):=λt ht=>by rw [ht];exact Pl.vZ a b
 have Fz:-1<=Int.sign a*Int.sign b∧Int.sign a*Int.sign b<=1:=by rcases Pl.vZ a b with (h | h) | ⟨h,_⟩ <;> omega
 obtain ⟨sa,hsa⟩:∃ sa,Int.sign a=sa:=⟨_,rfl⟩;obtain ⟨sb,hsb⟩:∃ sb,Int.sign b=sb:=⟨_,rfl⟩;rw [hsa] at Gd;rw [hsb] at Gf;rw [hsa,hsb] at zO VA Fz;obtain ⟨mK,hab⟩:∃ mK,sa*sb=mK:=⟨_,rfl⟩;rw [hab] at Fz;have HV:Hid (mK*((a.natAbs:Int)*b.natAbs)=a*b):=by rw [<-hab];exact uh zO
 have HQ:Hid (∀ t:Int,t=(a.natAbs:Int)*b.natAbs->(mK=1∨mK=-1)∨(mK=0∧t=0)):=by rw [<-hab];exact uh VA
 have hwp:wrap64 (sa*sb)=mK:=by rw [hab];unfold wrap64;omega
 have hws:IntKind.i64.wrap mK=mK:=by rcases (show mK=-1∨mK=0∨mK=1 by omega) with h | h | h <;> rw [h] <;> decide
 clear hsa hsb zO VA;obtain ⟨x,ad,m,cap,rfl,hx1,hx2,hx3,hx4,hx5⟩:=ha.oK;obtain ⟨y,fH,m2,cap2,rfl,hy1,hy2,hy3,hy4,DT⟩:=hb.oK;by_cases hm:m=0
 ·by_cases hm0:m2=0
  ·have hm1:((m:Int) == 0)=true:=by simp [hm]
   have hm2:((m2:Int) == 0)=true:=by simp [hm0]
   have vY:Hid (x=a∧y=b):=⟨(hx5 hm).1,(DT hm0).1⟩;have hft:=af (λw1=>PE x y w1 ⟨hx3,hx4⟩ ⟨hy3,hy4⟩);clear hm hm0 hx5 DT;go_enter Tryz.func58,Tryz.ntmps58;go_wp2_with fail;refine (uh hft _).mono ?_;rintro e w1 ⟨⟨f,rfl,hf⟩,hw1⟩;rw [hw1];clear hw1 w1 hft;have HPt:=af hf;clear hf;cases f with
   | true =>
    have acs:=(uh HPt rfl).1;have acu:=(uh HPt rfl).2;clear HPt;go_wp2;exact t_ (v:=.agg #[.int .i64 (x*y),.slice none 0 0]) (by simp [results,Tryz.results58,go_sem]) rfl ⟨_,rfl,.inl ⟨by rw [(uh vY).1,(uh vY).2],by rw [<-(uh vY).1,<-(uh vY).2];exact acs,by rw [<-(uh vY).1,<-(uh vY).2];exact acu⟩,ay w _ _ _⟩
   | false =>
    clear HPt vY;go_wp2_with fail;refine (uh I4 _ _ _).mono ?_;rintro e w1 ⟨sl1,l1,rfl,hi1,o1,v1,z1,hw1⟩;have Eo:=af (jF P _ b w1 ((hb.below (ay w _ _ _)).below hw1));have hlen1:=Pl.fU o1 v1 z1 hA;have jq:=af (x_ o1 v1);obtain ⟨Rl,iQ,rfl⟩:=az hi1;have HI1:=af hi1;have HW1:=af hw1;obtain ⟨k1,k2⟩:=bX hw1 (jo w _ _ _);clear hi1 o1 v1 z1 hw1 I4;go_wp2_with fail;refine (uh Eo).mono ?_;rintro e w2 ⟨sl2,l2,rfl,hi2,o2,v2,z2,hw2⟩;have Ep:=Pl.fU o2 v2 z2 hB;have iT:=af (x_ o2 v2);obtain ⟨MS,Er,rfl⟩:=az hi2;have lU:=af ((uh HI1).below hw2);have HL2:=af hi2;have HW2:Hid (aJ w (.cells #[.int .i64 x,.slice ad m cap] 78) (.cells #[.int .i64 y,.slice fH m2 cap2] 78) (.cells #[.int .i64 0,.slice none 0 0] 78) w2):=aJ.step (w1:=w1) (uh HW1) hw2;obtain ⟨k3,k4⟩:=bX (uh HW2) (nN w _ _ _);obtain ⟨k5,k6⟩:=bX (uh HW2) (jo w _ _ _);clear k1 k2;clear hi2 o2 v2 z2 hw2 HI1 HW1 Eo;go_wp2_with fail
    go_region_held (λw'=>w'.cell? ⟨w.heap.size,0,none⟩=some (.int .i64 x)∧w'.cell? ⟨w.heap.size,1,none⟩=some (.slice ad m cap)∧w'.cell? ⟨w.heap.size+1,0,none⟩=some (.int .i64 y)∧w'.cell? ⟨w.heap.size+1,1,none⟩=some (.slice fH m2 cap2)) (first | exact aJ.xA (uh wQ) _ _ | exact aJ.held (uh wQ) | exact aJ.held (uh yK) | exact aJ.held (uh xB) | exact aJ.held (uh HW3) | exact aJ.held (aJ.drew (uh HW2)) | go_keep) (first
     | (go_at_call_of 46 (Value.agg #[Value.int .i64 x,Value.slice ad m cap]);refine (uh Gd _ (aJ.below (aJ.drew (uh HW2)))).mono ?_;rintro e w3 ⟨rfl,hw3⟩;have HW3:Hid (aJ w (.cells #[.int .i64 x,.slice ad m cap] 78) (.cells #[.int .i64 y,.slice fH m2 cap2] 78) (.cells #[.int .i64 0,.slice none 0 0] 78) w3):=aJ.step (aJ.drew (uh HW2)) hw3;have HB3:Hid (Below w2.heap.size w2 w3):=aa2 (aaF (n_ _ _)) hw3;clear hw3)
     | (go_at_call_of 46 (Value.agg #[Value.int .i64 y,Value.slice fH m2 cap2]);refine (uh Gf _ (aJ.below (uh HW3))).mono ?_;rintro e w4 ⟨rfl,hw4⟩;have xB:Hid (aJ w (.cells #[.int .i64 x,.slice ad m cap] 78) (.cells #[.int .i64 y,.slice fH m2 cap2] 78) (.cells #[.int .i64 0,.slice none 0 0] 78) w4):=aJ.step (uh HW3) hw4;have jO:Hid (Below w2.heap.size w2 w4):=(uh HB3).trans (aam hw4 (uh HB3).size);clear hw4)
     | (go_at_call 81;refine (tC l1 l2 _ _ _ ((uh lU).below (uh jO)) ((uh HL2).below (uh jO)) (by omega) (by omega) (uh jq).1 (uh iT).1).mono ?_;rintro e w5 ⟨v3,s,rfl,ho3,os,ls,hs,pK⟩;have yK:Hid (aJ w (.cells #[.int .i64 x,.slice ad m cap] 78) (.cells #[.int .i64 y,.slice fH m2 cap2] 78) (.cells #[.int .i64 0,.slice none 0 0] 78) w5):=aJ.step (uh xB) pK;have HM:=af (x_ ho3 (x_ os (x_ ls hs)));obtain ⟨Dv,qI,rfl⟩:=az (cO ho3);clear ho3 os ls hs pK)
     | (go_at_call 75;(try rw [hws]);refine (fQ P mK s _ w4.heap.size _ (uh HM).1 (λb hb=>hP b (by have:=(aJ.below (uh xB)).size;omega)) (uh HM).2.1 (by have:=(uh HM).2.2.1;omega) (uh HQ _ (by rw [(uh HM).2.2.2,(uh jq).2,(uh iT).2]))).mono ?_;rintro e w6 ⟨v',rfl,hv,uB⟩;rw [show mK*Pl.lv s=a*b by rw [(uh HM).2.2.2,(uh jq).2,(uh iT).2];exact uh HV] at hv;have wQ:Hid (aJ w (.cells #[.int .i64 x,.slice ad m cap] 78) (.cells #[.int .i64 y,.slice fH m2 cap2] 78) (.cells #[.int .i64 0,.slice none 0 0] 78) w6):=aJ.step (uh yK) uB;obtain ⟨x4,jW,m4,cap4,rfl,c0,c1,f0,f1,HF⟩:=aY (ay w (.cells #[.int .i64 x,.slice ad m cap] 78) (.cells #[.int .i64 y,.slice fH m2 cap2] 78) (.cells #[.int .i64 0,.slice none 0 0] 78)) (aJ.step (uh yK) uB) (bn w _ _ _) (by omega) hv;clear hv uB))
    all_goals
     go_wp2;exact t_ (v:=.agg #[.int .i64 x4,.slice jW m4 cap4]) (by simp [results,Tryz.results58,go_sem,(uh HF).2.2.1,(uh HF).2.2.2]) rfl ⟨_,rfl,(uh HF).1,(uh HF).2.1⟩
  ·have hm1:((m:Int) == 0)=true:=by simp [hm]
   have hm2:((m2:Int) == 0)=false:=by simp;omega
   clear hm hm0 hx5 DT;go_enter Tryz.func58,Tryz.ntmps58;go_wp2_with fail;refine (uh I4 _ _ _).mono ?_;rintro e w1 ⟨sl1,l1,rfl,hi1,o1,v1,z1,hw1⟩;have Eo:=af (jF P _ b w1 ((hb.below (ay w _ _ _)).below hw1));have hlen1:=Pl.fU o1 v1 z1 hA;have jq:=af (x_ o1 v1);obtain ⟨Rl,iQ,rfl⟩:=az hi1;have HI1:=af hi1;have HW1:=af hw1;obtain ⟨k1,k2⟩:=bX hw1 (jo w _ _ _);clear hi1 o1 v1 z1 hw1 I4;go_wp2_with fail;refine (uh Eo).mono ?_;rintro e w2 ⟨sl2,l2,rfl,hi2,o2,v2,z2,hw2⟩;have Ep:=Pl.fU o2 v2 z2 hB;have iT:=af (x_ o2 v2);obtain ⟨MS,Er,rfl⟩:=az hi2;have lU:=af ((uh HI1).below hw2);have HL2:=af hi2;have HW2:Hid (aJ w (.cells #[.int .i64 x,.slice ad m cap] 78) (.cells #[.int .i64 y,.slice fH m2 cap2] 78) (.cells #[.int .i64 0,.slice none 0 0] 78) w2):=aJ.step (w1:=w1) (uh HW1) hw2;obtain ⟨k3,k4⟩:=bX (uh HW2) (nN w _ _ _);obtain ⟨k5,k6⟩:=bX (uh HW2) (jo w _ _ _);clear k1 k2;clear hi2 o2 v2 z2 hw2 HI1 HW1 Eo;go_wp2_with fail
   go_region_held (λw'=>w'.cell? ⟨w.heap.size,0,none⟩=some (.int .i64 x)∧w'.cell? ⟨w.heap.size,1,none⟩=some (.slice ad m cap)∧w'.cell? ⟨w.heap.size+1,0,none⟩=some (.int .i64 y)∧w'.cell? ⟨w.heap.size+1,1,none⟩=some (.slice fH m2 cap2)) (first | exact aJ.xA (uh wQ) _ _ | exact aJ.held (uh wQ) | exact aJ.held (uh yK) | exact aJ.held (uh xB) | exact aJ.held (uh HW3) | exact aJ.held (aJ.drew (uh HW2)) | go_keep) (first
    | (go_at_call_of 46 (Value.agg #[Value.int .i64 x,Value.slice ad m cap]);refine (uh Gd _ (aJ.below (aJ.drew (uh HW2)))).mono ?_;rintro e w3 ⟨rfl,hw3⟩;have HW3:Hid (aJ w (.cells #[.int .i64 x,.slice ad m cap] 78) (.cells #[.int .i64 y,.slice fH m2 cap2] 78) (.cells #[.int .i64 0,.slice none 0 0] 78) w3):=aJ.step (aJ.drew (uh HW2)) hw3;have HB3:Hid (Below w2.heap.size w2 w3):=aa2 (aaF (n_ _ _)) hw3;clear hw3)
    | (go_at_call_of 46 (Value.agg #[Value.int .i64 y,Value.slice fH m2 cap2]);refine (uh Gf _ (aJ.below (uh HW3))).mono ?_;rintro e w4 ⟨rfl,hw4⟩;have xB:Hid (aJ w (.cells #[.int .i64 x,.slice ad m cap] 78) (.cells #[.int .i64 y,.slice fH m2 cap2] 78) (.cells #[.int .i64 0,.slice none 0 0] 78) w4):=aJ.step (uh HW3) hw4;have jO:Hid (Below w2.heap.size w2 w4):=(uh HB3).trans (aam hw4 (uh HB3).size);clear hw4)
    | (go_at_call 81;refine (tC l1 l2 _ _ _ ((uh lU).below (uh jO)) ((uh HL2).below (uh jO)) (by omega) (by omega) (uh jq).1 (uh iT).1).mono ?_;rintro e w5 ⟨v3,s,rfl,ho3,os,ls,hs,pK⟩;have yK:Hid (aJ w (.cells #[.int .i64 x,.slice ad m cap] 78) (.cells #[.int .i64 y,.slice fH m2 cap2] 78) (.cells #[.int .i64 0,.slice none 0 0] 78) w5):=aJ.step (uh xB) pK;have HM:=af (x_ ho3 (x_ os (x_ ls hs)));obtain ⟨Dv,qI,rfl⟩:=az (cO ho3);clear ho3 os ls hs pK)
    | (go_at_call 75;(try rw [hws]);refine (fQ P mK s _ w4.heap.size _ (uh HM).1 (λb hb=>hP b (by have:=(aJ.below (uh xB)).size;omega)) (uh HM).2.1 (by have:=(uh HM).2.2.1;omega) (uh HQ _ (by rw [(uh HM).2.2.2,(uh jq).2,(uh iT).2]))).mono ?_;rintro e w6 ⟨v',rfl,hv,uB⟩;rw [show mK*Pl.lv s=a*b by rw [(uh HM).2.2.2,(uh jq).2,(uh iT).2];exact uh HV] at hv;have wQ:Hid (aJ w (.cells #[.int .i64 x,.slice ad m cap] 78) (.cells #[.int .i64 y,.slice fH m2 cap2] 78) (.cells #[.int .i64 0,.slice none 0 0] 78) w6):=aJ.step (uh yK) uB;obtain ⟨x4,jW,m4,cap4,rfl,c0,c1,f0,f1,HF⟩:=aY (ay w (.cells #[.int .i64 x,.slice ad m cap] 78) (.cells #[.int .i64 y,.slice fH m2 cap2] 78) (.cells #[.int .i64 0,.slice none 0 0] 78)) (aJ.step (uh yK) uB) (bn w _ _ _) (by omega) hv;clear hv uB))
   all_goals
    go_wp2;exact t_ (v:=.agg #[.int .i64 x4,.slice jW m4 cap4]) (by simp [results,Tryz.results58,go_sem,(uh HF).2.2.1,(uh HF).2.2.2]) rfl ⟨_,rfl,(uh HF).1,(uh HF).2.1⟩
 ·have hm1:((m:Int) == 0)=false:=by simp;omega
  clear hm hx5 DT;go_enter Tryz.func58,Tryz.ntmps58;go_wp2_with fail;refine (uh I4 _ _ _).mono ?_;rintro e w1 ⟨sl1,l1,rfl,hi1,o1,v1,z1,hw1⟩;have Eo:=af (jF P _ b w1 ((hb.below (ay w _ _ _)).below hw1));have hlen1:=Pl.fU o1 v1 z1 hA;have jq:=af (x_ o1 v1);obtain ⟨Rl,iQ,rfl⟩:=az hi1;have HI1:=af hi1;have HW1:=af hw1;obtain ⟨k1,k2⟩:=bX hw1 (jo w _ _ _);clear hi1 o1 v1 z1 hw1 I4;go_wp2_with fail;refine (uh Eo).mono ?_;rintro e w2 ⟨sl2,l2,rfl,hi2,o2,v2,z2,hw2⟩;have Ep:=Pl.fU o2 v2 z2 hB;have iT:=af (x_ o2 v2);obtain ⟨MS,Er,rfl⟩:=az hi2;have lU:=af ((uh HI1).below hw2);have HL2:=af hi2;have HW2:Hid (aJ w (.cells #[.int .i64 x,.slice ad m cap] 78) (.cells #[.int .i64 y,.slice fH m2 cap2] 78) (.cells #[.int .i64 0,.slice none 0 0] 78) w2):=aJ.step (w1:=w1) (uh HW1) hw2;obtain ⟨k3,k4⟩:=bX (uh HW2) (nN w _ _ _);obtain ⟨k5,k6⟩:=bX (uh HW2) (jo w _ _ _);clear k1 k2;clear hi2 o2 v2 z2 hw2 HI1 HW1 Eo;go_wp2_with fail
  go_region_held (λw'=>w'.cell? ⟨w.heap.size,0,none⟩=some (.int .i64 x)∧w'.cell? ⟨w.heap.size,1,none⟩=some (.slice ad m cap)∧w'.cell? ⟨w.heap.size+1,0,none⟩=some (.int .i64 y)∧w'.cell? ⟨w.heap.size+1,1,none⟩=some (.slice fH m2 cap2)) (first | exact aJ.xA (uh wQ) _ _ | exact aJ.held (uh wQ) | exact aJ.held (uh yK) | exact aJ.held (uh xB) | exact aJ.held (uh HW3) | exact aJ.held (aJ.drew (uh HW2)) | go_keep) (first
   | (go_at_call_of 46 (Value.agg #[Value.int .i64 x,Value.slice ad m cap]);refine (uh Gd _ (aJ.below (aJ.drew (uh HW2)))).mono ?_;rintro e w3 ⟨rfl,hw3⟩;have HW3:Hid (aJ w (.cells #[.int .i64 x,.slice ad m cap] 78) (.cells #[.int .i64 y,.slice fH m2 cap2] 78) (.cells #[.int .i64 0,.slice none 0 0] 78) w3):=aJ.step (aJ.drew (uh HW2)) hw3;have HB3:Hid (Below w2.heap.size w2 w3):=aa2 (aaF (n_ _ _)) hw3;clear hw3)
   | (go_at_call_of 46 (Value.agg #[Value.int .i64 y,Value.slice fH m2 cap2]);refine (uh Gf _ (aJ.below (uh HW3))).mono ?_;rintro e w4 ⟨rfl,hw4⟩;have xB:Hid (aJ w (.cells #[.int .i64 x,.slice ad m cap] 78) (.cells #[.int .i64 y,.slice fH m2 cap2] 78) (.cells #[.int .i64 0,.slice none 0 0] 78) w4):=aJ.step (uh HW3) hw4;have jO:Hid (Below w2.heap.size w2 w4):=(uh HB3).trans (aam hw4 (uh HB3).size);clear hw4)
   | (go_at_call 81;refine (tC l1 l2 _ _ _ ((uh lU).below (uh jO)) ((uh HL2).below (uh jO)) (by omega) (by omega) (uh jq).1 (uh iT).1).mono ?_;rintro e w5 ⟨v3,s,rfl,ho3,os,ls,hs,pK⟩;have yK:Hid (aJ w (.cells #[.int .i64 x,.slice ad m cap] 78) (.cells #[.int .i64 y,.slice fH m2 cap2] 78) (.cells #[.int .i64 0,.slice none 0 0] 78) w5):=aJ.step (uh xB) pK;have HM:=af (x_ ho3 (x_ os (x_ ls hs)));obtain ⟨Dv,qI,rfl⟩:=az (cO ho3);clear ho3 os ls hs pK)
   | (go_at_call 75;(try rw [hws]);refine (fQ P mK s _ w4.heap.size _ (uh HM).1 (λb hb=>hP b (by have:=(aJ.below (uh xB)).size;omega)) (uh HM).2.1 (by have:=(uh HM).2.2.1;omega) (uh HQ _ (by rw [(uh HM).2.2.2,(uh jq).2,(uh iT).2]))).mono ?_;rintro e w6 ⟨v',rfl,hv,uB⟩;rw [show mK*Pl.lv s=a*b by rw [(uh HM).2.2.2,(uh jq).2,(uh iT).2];exact uh HV] at hv;have wQ:Hid (aJ w (.cells #[.int .i64 x,.slice ad m cap] 78) (.cells #[.int .i64 y,.slice fH m2 cap2] 78) (.cells #[.int .i64 0,.slice none 0 0] 78) w6):=aJ.step (uh yK) uB;obtain ⟨x4,jW,m4,cap4,rfl,c0,c1,f0,f1,HF⟩:=aY (ay w (.cells #[.int .i64 x,.slice ad m cap] 78) (.cells #[.int .i64 y,.slice fH m2 cap2] 78) (.cells #[.int .i64 0,.slice none 0 0] 78)) (aJ.step (uh yK) uB) (bn w _ _ _) (by omega) hv;clear hv uB))
  all_goals
   go_wp2;exact t_ (v:=.agg #[.int .i64 x4,.slice jW m4 cap4]) (by simp [results,Tryz.results58,go_sem,(uh HF).2.2.1,(uh HF).2.2.2]) rfl ⟨_,rfl,(uh HF).1,(uh HF).2.1⟩
end Go.Proofs.YtgaafamcajcifaaGreat
