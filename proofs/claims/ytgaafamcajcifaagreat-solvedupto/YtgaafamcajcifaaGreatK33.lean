/- Joined: XSet4 XSet5 XSet6 XSet7 XHall. -/
import Derived.Test.YtgaafamcajcifaaGreatK07
import Derived.Test.YtgaafamcajcifaaGreatK22
import Derived.Test.YtgaafamcajcifaaGreatK28
import Derived.Test.YtgaafamcajcifaaGreatK29
import Derived.Test.YtgaafamcajcifaaGreatK32
set_option linter.unusedVariables false
set_option linter.unusedSimpArgs false
set_option maxRecDepth 100000
namespace Go.Proofs.YtgaafamcajcifaaGreat
open Go.RowKit Go.Sort
theorem aP.xQ {r:aP} (h0:0<r.zero.length):r.zero=r.zero.dropLast++[r.bN]:=by
 have hne:r.zero≠[]:=λh=>by rw [h] at h0;exact absurd h0 (Nat.lt_irrefl 0)
 have e:r.zero.getLast hne=r.bN:=by
  unfold aP.bN;rw [List.getLast_eq_getElem,a_,f_ (by omega)]
  rfl
 rw [<-e];exact (List.dropLast_concat_getLast hne).symm
theorem aP.C9 {r:aP} (h0:0<r.zero.length) (x:Nat->Int):r.dV.Has x↔r.less.dV.Has x∧Pl.ev r.size (lf r.bN) (Pl.pt x)=0:=by
 have e:=r.xQ h0;constructor
 ·intro h;refine ⟨⟨λs hs=>?_,λs hs=>h.least s hs⟩,?_⟩
  ·obtain ⟨a,ha,rfl⟩:=m_.1 hs;exact h.zero _ (m_.2 ⟨a,by rw [e];exact F_.2 (.inl ha),rfl⟩)
  ·exact h.zero _ (m_.2 ⟨r.bN,by rw [e];exact F_.2 (.inr (I_.2 rfl)),rfl⟩)
 ·rintro ⟨h,h1⟩;refine ⟨λs hs=>?_,λs hs=>h.least s hs⟩;obtain ⟨a,ha,rfl⟩:=m_.1 hs;rw [e] at ha;rcases F_.1 ha with ha|ha
  ·exact h.zero _ (m_.2 ⟨a,ha,rfl⟩)
  ·rw [I_.1 ha];exact h1
theorem uo.qG {r r':aP} (h:uo r r') (A:List Int):r'.dV.kU A↔r.dV.kU A:=by
 rw [h.2.qG A];constructor
 ·rintro ⟨x,h1,h2,h3⟩;exact ⟨x,(aP.C9 h.1 x).2 ⟨h1,h3⟩,h2⟩
 ·rintro ⟨x,h1,h2⟩;obtain ⟨h3,h4⟩:=(aP.C9 h.1 x).1 h1;exact ⟨x,h3,h2,h4⟩
theorem fD.qG {r0 r:aP} {k:Nat} (h:fD r0 k r) (A:List Int):r.dV.kU A↔r0.dV.kU A:=by
 obtain ⟨T,e0,e1,h2⟩:=h;subst e1
 induction k with
 | zero=>rw [e0]
 | succ k ih=>exact ((h2 k (by omega)).qG A).trans (ih λi hi=>h2 i (by omega))
theorem QC {r:aP} (h0:0<r.zero.length) (h:Lm r.less (λk=>r.bN.getD k 0)) (A:List Int):¬ r.dV.kU A:=by
 rintro ⟨x,h1,_⟩;exact h.none x ((aP.C9 h0 x).1 h1).2
theorem ER {n t:Nat} {x:Int} {St:Nat->Nat->Int} (ht:t<n) (a:List Int) (D:Nat->Int):Pl.dir (n - 1) (Pl.qw t x (Pl.qb n St (lf a))) D=Pl.dir (n - 1) (lf (eX (dH a (iR n St) n) t x)) D:=by
 unfold Pl.dir;refine Pl.aC λj hj=>?_;rw [C8];congr 1;unfold Pl.qw;rw [g_ (show ¬ (j+1=0) by omega),g_ (show ¬ (j+1=0) by omega)];by_cases h:j+1<=t
 ·rw [h_ h,h_ h];exact (je a (j+1) (by omega)).symm
 ·rw [g_ h,g_ h];exact (je a (j+1+1) (by omega)).symm
theorem uo.mJ {r r':aP} (h:uo r r') (ht:r.dV.gJ):r'.dV.gJ:=by
 obtain ⟨h0,hw⟩:=h;have e:=r.xQ h0;rcases hw with ⟨rfl,_,kk,St,hr,hz⟩|⟨at_,kk,St,x,h1,_,_,rfl⟩
 ·have key:∀ D,Pl.dir r.size (lf r.bN) D=0:=λD=>by
   obtain ⟨y,hy⟩:=hr.N9.reach D;have e1:Pl.dir r.size (lf r.bN) D=Pl.dir r.size (Pl.qb r.size St (lf r.bN)) y:=by
    rw [Pl.yA];exact Pl.Eh hy
   rw [e1];unfold Pl.dir;exact Pl.kD λi hi=>by
    rw [Pl.lS];have h3:Pl.aQ r.size St (lf r.bN) i=0:=hz i hi;rw [h3,aaM]
  intro D d1 d2;refine ht D (λs hs=>?_) d2;obtain ⟨a,ha,rfl⟩:=m_.1 hs;rw [e] at ha;rcases F_.1 ha with ha|ha
  ·exact d1 _ (m_.2 ⟨a,ha,rfl⟩)
  ·rw [I_.1 ha];exact key D
 ·have hlt:at_<r.size:=h1.lt;have hT:=(ht.uH (St:=St) h1.rounds.N9).fix (t:=at_) hlt x;intro D d1 d2 i hi;refine hT D (λs hs=>?_) (λs hs=>?_) i hi
  ·obtain ⟨s1,hs1,rfl⟩:=m_.1 hs;obtain ⟨s2,hs2,rfl⟩:=m_.1 hs1;obtain ⟨a,ha,rfl⟩:=m_.1 hs2;rw [e] at ha;rcases F_.1 ha with ha|ha
   ·have h3:=d1 (lf (eX (dH a (iR r.size St) r.size) at_ x)) (m_.2 ⟨_,m_.2 ⟨_,m_.2 ⟨a,ha,rfl⟩,rfl⟩,rfl⟩);exact Eq.trans (ER hlt a D) h3
   ·rw [I_.1 ha];show Pl.dir (r.size - 1) _ D=0;unfold Pl.dir;refine Pl.kD λj hj=>?_;have h4:Pl.qw at_ x (Pl.qb r.size St (lf r.bN)) (j+1)=0:=by
     unfold Pl.qw;rw [g_ (by omega)]
     split
     ·rw [Pl.lS];exact h1.only j (show j<r.size by omega) (by omega)
     ·rw [Pl.lS];exact h1.only (j+1) (show j+1<r.size by omega) (by omega)
    exact (congrArg (·*D j) h4).trans (aaM _)
  ·obtain ⟨s1,hs1,rfl⟩:=m_.1 hs;obtain ⟨s2,hs2,rfl⟩:=m_.1 hs1;obtain ⟨a,ha,rfl⟩:=m_.1 hs2;have h3:=d2 (lf (eX (dH a (iR r.size St) r.size) at_ x)) (m_.2 ⟨_,m_.2 ⟨_,m_.2 ⟨a,ha,rfl⟩,rfl⟩,rfl⟩);exact Int.le_trans h3 (Int.le_of_eq (ER hlt a D).symm)
theorem qA (a:List Int):∀ n,0<=bC a n
 | 0=>aaU _
 | _+1=>Int.natCast_nonneg _
theorem vH (a:List Int):∀ n i,i<n->bC a n∣a.getD (i+1) 0
 | n+1,i,hi=>by
  show (Int.gcd (bC a n) (a.getD (n+1) 0):Int)∣_;by_cases e:i=n
  ·subst e;exact Int.gcd_dvd_right _ _
  ·exact Int.dvd_trans (Int.gcd_dvd_left _ _) (vH a n i (by omega))
theorem uf {a:List Int} {n:Nat} (h:bC a n=0) {i:Nat} (hi:i<n):a.getD (i+1) 0=0:=by
 have h1:=vH a n i hi;rw [h] at h1;exact Int.zero_dvd.1 h1
def gQ (n:Nat) (a:List Int) (d:Int):List Int:=(List.range (n+1)).map λk=>Int.fdiv (a.getD k 0) d
def jB (n:Nat) (a:List Int):List (List Int):=if bC a n=0 then [] else [gQ n a (bC a n)]
def aP.whole (r:aP):aP:=⟨r.size,r.zero,r.least.flatMap (jB r.size),r.told⟩
theorem vI {n:Nat} {a:List Int} {d:Int} {k:Nat} (hk:k<=n):lf (gQ n a d) k=Int.fdiv (a.getD k 0) d:=by
 unfold lf gQ;exact Pl.bJ _ _ _ (by omega)
theorem p9 {n:Nat} {a:List Int} (h:bC a n≠0) {i:Nat} (hi:i<n):lf a (i+1)=bC a n*lf (gQ n a (bC a n)) (i+1):=by
 rw [vI (by omega)];obtain ⟨q,hq⟩:=vH a n i hi;show a.getD (i+1) 0=_;rw [hq,Int.mul_fdiv_cancel_left _ h]
theorem ES {n:Nat} {a:List Int} (hc:bC a n=0->0<=a.getD 0 0) (x:Nat->Int):0<=Pl.ev n (lf a) (Pl.pt x)↔∀ b∈jB n a,0<=Pl.ev n (lf b) (Pl.pt x):=by
 unfold jB;by_cases h:bC a n=0
 ·rw [h_ h,Pl.ze (λi hi=>uf h hi)];exact ⟨λ_ b hb=>absurd hb List.not_mem_nil,λ_=>hc h⟩
 ·rw [g_ h];have hp:0<bC a n:=by have:=qA a n;omega
  have:=Pl.Ip hp (vI (aaZ n)) (λi hi=>p9 h hi) x;constructor
  ·intro h1 b hb;rw [I_.1 hb];exact this.2 h1
  ·intro h1;exact this.1 (h1 _ (I_.2 rfl))
theorem ET {r:aP} (hc:∀ a∈r.least,bC a r.size=0->0<=a.getD 0 0) (x:Nat->Int):r.whole.dV.Has x↔r.dV.Has x:=by
 constructor
 ·intro h;refine ⟨h.zero,λs hs=>?_⟩;obtain ⟨a,ha,rfl⟩:=m_.1 hs;exact (ES (hc a ha) x).2 λb hb=>h.least _ (m_.2 ⟨b,List.mem_flatMap.2 ⟨a,ha,hb⟩,rfl⟩)
 ·intro h;refine ⟨h.zero,λs hs=>?_⟩;obtain ⟨b,hb,rfl⟩:=m_.1 hs;obtain ⟨a,ha,hb2⟩:=List.mem_flatMap.1 hb;exact (ES (hc a ha) x).1 (h.least _ (m_.2 ⟨a,ha,rfl⟩)) b hb2
theorem Mr {r:aP} (hc:∀ a∈r.least,bC a r.size=0->0<=a.getD 0 0) (A:List Int):r.whole.dV.kU A↔r.dV.kU A :=
 ⟨λ⟨x,h1,h2⟩=>⟨x,(ET hc x).1 h1,h2⟩,λ⟨x,h1,h2⟩=>⟨x,(ET hc x).2 h1,h2⟩⟩
theorem Kt {r:aP} {a:List Int} (ha:a∈r.least) (h0:bC a r.size=0) (hn:a.getD 0 0<0) (A:List Int):¬ r.dV.kU A:=by
 rintro ⟨x,h1,_⟩;have h2:0<=Pl.ev r.size (lf a) (Pl.pt x):=h1.least _ (m_.2 ⟨a,ha,rfl⟩);rw [Pl.ze (λi hi=>uf h0 hi)] at h2;have h3:(0:Int)<=a.getD 0 0:=h2;omega
theorem Jz {r:aP} (ht:r.dV.gJ):r.whole.dV.gJ:=by
 intro D d1 d2;refine ht D d1 λs hs=>?_;obtain ⟨a,ha,rfl⟩:=m_.1 hs;show 0<=Pl.dir r.size (lf a) D;by_cases h:bC a r.size=0
 ·have:Pl.dir r.size (lf a) D=0:=Pl.kD λi hi=>by
   have h3:lf a (i+1)=0:=uf h hi;rw [h3,aaM]
  omega
 ·have hp:0<bC a r.size:=by have:=qA a r.size;omega
  have h2:0<=Pl.dir r.size (lf (gQ r.size a (bC a r.size))) D:=d2 _ (m_.2 ⟨_,List.mem_flatMap.2 ⟨a,ha,by unfold jB;rw [g_ h];exact I_.2 rfl⟩,rfl⟩);have e:Pl.dir r.size (lf a) D=bC a r.size*Pl.dir r.size (lf (gQ r.size a (bC a r.size))) D:=by
   unfold Pl.dir;rw [<-Pl.dz];exact Pl.aC λi hi=>by rw [p9 h hi,y_]
  rw [e];exact Y_ (by omega) h2
theorem NA (n:Nat) (a:List Int):(jB n a).length<=1:=by unfold jB;split <;> simp
theorem zF {n:Nat} {a b:List Int} (h:b∈jB n a):b=gQ n a (bC a n)∧0<bC a n:=by
 unfold jB at h;by_cases e:bC a n=0
 ·rw [h_ e] at h;exact absurd h List.not_mem_nil
 ·rw [g_ e] at h;exact ⟨I_.1 h,by have:=qA a n;omega⟩
theorem yz (n:Nat):∀ ls:List (List Int),(ls.flatMap (jB n)).length<=ls.length
 | []=>d_ _
 | a::ls=>by
  rw [List.flatMap_cons,C_,List.length_cons];have:=NA n a;have:=yz n ls;omega
theorem eH.whole {r:aP} (h:eH r):eH r.whole:=⟨h.iY,λl hl=>by
 obtain ⟨a,_,hb⟩:=List.mem_flatMap.1 hl;rw [(zF hb).1];show (gQ _ _ _).length=r.size+1;simp [gQ],h.gT,h.Aw,w_ (yz _ _) h.vg,h.uN⟩
theorem AP (ls:List (List Int)) (i:Nat):ls.getD i []∈ls∨ls.getD i []=[]:=by
 rw [a_];rcases hi:ls[i]? with _|a
 ·exact .inr rfl
 ·exact .inl (abn hi)
theorem dF.whole {K:Nat} {r:aP} (h:dF K r):dF K r.whole:=⟨h.zero,λi k=>by
 show Pl.Lt K (((r.least.flatMap (jB r.size)).getD i []).getD k 0);rcases AP (r.least.flatMap (jB r.size)) i with hm|e
 ·obtain ⟨a,ha,hb⟩:=List.mem_flatMap.1 hm;obtain ⟨e,hp⟩:=zF hb;rw [e];obtain ⟨j,hj,rfl⟩:=aa5.1 ha;by_cases hk:k<=r.size
  ·have e2:(gQ r.size r.least[j] (bC r.least[j] r.size)).getD k 0=Int.fdiv (r.least[j].getD k 0) (bC r.least[j] r.size):=vI hk;rw [e2];have h1:=h.least j k;have e3:r.least.getD j []=r.least[j]:=by rw [a_,f_ hj];rfl
   rw [e3] at h1;exact h1.fdiv hp
  ·have e2:(gQ r.size r.least[j] (bC r.least[j] r.size)).getD k 0=0:=by
    rw [a_,O_ (by simp [gQ];omega)];rfl
   rw [e2];exact lq K
 ·rw [e];exact lq K,h.told⟩
structure mI (P:Nat->Prop) (w0 w:World) (r:aP) (za:Option Addr) (zn zc:Nat) (la:Option Addr) (ln lc:Nat) (ta:Option Addr) (tn tc:Nat):Prop where
 own:w.heap[w0.heap.size]?=some (.cells #[.int .i64 r.size,.slice za zn zc,.slice la ln lc,.slice ta tn tc] 74 (0,0))
 res:w.heap[w0.heap.size+1]?=some (.cells #[.int .i64 0,.slice none 0 0,.slice none 0 0,.slice none 0 0] 74 (0,0))
 rows:oW P w (.slice za zn zc) (.slice la ln lc) (.slice ta tn tc) r
 cZ:ae w0 w
theorem oW.holds {P:Nat->Prop} {w w':World} {vz vl vt:Value} {r:aP} (h:oW P w vz vl vt r) (hh:Holds P w w'):oW P w' vz vl vt r:=⟨h.zero.holds hh,h.least.holds hh,h.told.holds hh⟩
theorem oW.grow {P:Nat->Prop} {w w':World} {vz vl vt:Value} {r:aP} (h:oW P w vz vl vt r) (hg:ae w w'):oW P w' vz vl vt r:=h.holds (.aX hg)
theorem mI.grow {P:Nat->Prop} {w0 w w':World} {r:aP} {za la ta:Option Addr} {zn zc ln lc tn tc:Nat} (h:mI P w0 w r za zn zc la ln lc ta tn tc) (hg:ae w w'):mI P w0 w' r za zn zc la ln lc ta tn tc :=
 ⟨Below.same hg _ _ h.own,Below.same hg _ _ h.res,h.rows.grow hg,h.cZ.trans hg⟩
theorem aM.len {P:Nat->Prop} {w:World} {ad:Option Addr} {n c:Nat} {ls:List (List Int)} (h:aM P w (.slice ad n c) ls):n=ls.length:=by
 obtain ⟨_,_,e,_⟩:=h;cases e;rfl
theorem mI.less {P:Nat->Prop} {w0 w:World} {r:aP} {za la ta:Option Addr} {m zc ln lc tn tc:Nat} (h:mI P w0 w r za (m+1) zc la ln lc ta tn tc):mI P w0 (w.setCell ⟨w0.heap.size,1,none⟩ (.slice za m zc)) r.less za m zc la ln lc ta tn tc:=by
 have hb:=h.own;have hh:Holds P w (w.setCell ⟨w0.heap.size,1,none⟩ (.slice za m zc)):=bQ hb (by decide) (λe=>absurd e (by decide)) _ _;have hlen:=h.rows.zero.len;refine ⟨?_,?_,⟨?_,h.rows.least.holds hh,h.rows.told.holds hh⟩,B_ (p:=⟨w0.heap.size,1,none⟩) h.cZ (d_ _) _⟩
 ·have:=j_ w w0.heap.size 1 _ _ (.slice za m zc) hb;exact this
 ·exact (l_ _ _ _ _ (show w0.heap.size+1≠w0.heap.size by omega)).trans h.res
 ·have h1:=h.rows.zero;rw [aP.xQ (show 0<r.zero.length by omega)] at h1;exact h1.front.holds hh
theorem EU (ls:List (List Int)) {i:Nat} (h:i<ls.length):ls.take (i+1)=ls.take i++[ls.getD i []]:=by
 rw [W_ h,a_,f_ h];rfl
theorem mI.store {P:Nat->Prop} {w0 w:World} {r r2:aP} {za la ta:Option Addr} {zn zc ln lc tn tc:Nat} (h:mI P w0 w r za zn zc la ln lc ta tn tc) {a1 a2 a3:Option Addr} {m1 c1 m2 c2 m3 c3:Nat} (h2:oW P w (.slice a1 m1 c1) (.slice a2 m2 c2) (.slice a3 m3 c3) r2) :
  mI P w0 ((((w.setCell ⟨w0.heap.size,0,none⟩ (.int .i64 r2.size)).setCell ⟨w0.heap.size,1,none⟩ (.slice a1 m1 c1)).setCell ⟨w0.heap.size,2,none⟩ (.slice a2 m2 c2)).setCell ⟨w0.heap.size,3,none⟩ (.slice a3 m3 c3)) r2 a1 m1 c1 a2 m2 c2 a3 m3 c3:=by
 have hs:=iU (P:=P) h.cZ (d_ _) h.own (r2.size:Int) a1 m1 c1 a2 m2 c2 a3 m3 c3;have hne:w0.heap.size+1≠w0.heap.size:=by omega
 refine ⟨?_,?_,h2.holds hs.2,hs.1⟩
 ·have b1:=j_ w w0.heap.size 0 _ _ (.int .i64 r2.size) h.own;have b2:=j_ _ w0.heap.size 1 _ _ (.slice a1 m1 c1) b1;have b3:=j_ _ w0.heap.size 2 _ _ (.slice a2 m2 c2) b2;have b4:=j_ _ w0.heap.size 3 _ _ (.slice a3 m3 c3) b3;exact b4
 ·exact (l_ _ _ _ _ hne).trans ((l_ _ _ _ _ hne).trans ((l_ _ _ _ _ hne).trans ((l_ _ _ _ _ hne).trans h.res)))
theorem mI.ret {P:Nat->Prop} {w0 w:World} {r:aP} {za la ta:Option Addr} {zn zc ln lc tn tc:Nat} (h:mI P w0 w r za zn zc la ln lc ta tn tc) (n:Int) (a1 a2 a3:Option Addr) (m1 c1 m2 c2 m3 c3:Nat) :
  ae w0 ((((w.setCell ⟨w0.heap.size+1,0,none⟩ (.int .i64 n)).setCell ⟨w0.heap.size+1,1,none⟩ (.slice a1 m1 c1)).setCell ⟨w0.heap.size+1,2,none⟩ (.slice a2 m2 c2)).setCell ⟨w0.heap.size+1,3,none⟩ (.slice a3 m3 c3))∧Holds P w ((((w.setCell ⟨w0.heap.size+1,0,none⟩ (.int .i64 n)).setCell ⟨w0.heap.size+1,1,none⟩ (.slice a1 m1 c1)).setCell ⟨w0.heap.size+1,2,none⟩ (.slice a2 m2 c2)).setCell ⟨w0.heap.size+1,3,none⟩ (.slice a3 m3 c3)) :=
 iU (P:=P) h.cZ (show w0.heap.size<=w0.heap.size+1 by omega) h.res n a1 m1 c1 a2 m2 c2 a3 m3 c3
theorem mI.cells {P:Nat->Prop} {w0 w:World} {r:aP} {za la ta:Option Addr} {zn zc ln lc tn tc:Nat} (h:mI P w0 w r za zn zc la ln lc ta tn tc) :
  w.cell? ⟨w0.heap.size,0,none⟩=some (.int .i64 r.size)∧w.cell? ⟨w0.heap.size,1,none⟩=some (.slice za zn zc)∧w.cell? ⟨w0.heap.size,2,none⟩=some (.slice la ln lc)∧w.cell? ⟨w0.heap.size,3,none⟩=some (.slice ta tn tc)∧(∀ o,w.frozen? ⟨w0.heap.size,o,none⟩=false):=by
 refine ⟨?_,?_,?_,?_,λo=>aH h.own o⟩ <;> (rw [cellsOf h.own];rfl)
theorem mI.QD {P:Nat->Prop} {w0 w:World} {r:aP} {za la ta:Option Addr} {zn zc ln lc tn tc:Nat} (h:mI P w0 w r za zn zc la ln lc ta tn tc) :
  w.cell? ⟨w0.heap.size+1,0,none⟩=some (.int .i64 0)∧w.cell? ⟨w0.heap.size+1,1,none⟩=some (.slice none 0 0)∧w.cell? ⟨w0.heap.size+1,2,none⟩=some (.slice none 0 0)∧w.cell? ⟨w0.heap.size+1,3,none⟩=some (.slice none 0 0)∧(∀ o,w.frozen? ⟨w0.heap.size+1,o,none⟩=false):=by
 refine ⟨?_,?_,?_,?_,λo=>aH h.res o⟩ <;> (rw [cellsOf h.res];rfl)
section
attribute [local go_sem] bD Cn
set_option maxHeartbeats 2000000 in
theorem uM (P:Nat->Prop) (L:Nat) (r:aP) (vr:Value) (w:World) (hP:∀ b,w.heap.size<=b->P b) (h:jT P w vr r) (hok:eH r) (hn:r.size<=100) (hlt:dF L r) (hK:20*iE L r.size+10<=1500000000000) :
  Calls Tryz.prog 34 #[vr] w λe w'=>∃ (v':Value) (ok:Bool),e=.returned (.tuple #[v',.bool ok])∧Ku v'∧Below w.heap.size w w'∧(ok=true->∃ r1,jT P w' v' r1.whole∧fD r r.zero.length r1∧∀ a∈r1.least,bC a r1.size=0->0<=a.getD 0 0)∧(ok=false->∀ A,¬ r.dV.kU A):=by
 obtain ⟨vz,vl,vt,rfl,h1,h2,h3⟩:=h;obtain ⟨za,zn,zc,rfl⟩:=h1.aB;obtain ⟨la,ln,lc,rfl⟩:=h2.aB;obtain ⟨ta,tn,tc,rfl⟩:=h3.aB;have HZN:Hid (zn=r.zero.length):=h1.len;have EG:=af hok;have lC:=af hlt;have HI:Hid (mI P w ((w.alloc (.cells #[.int .i64 r.size,.slice za zn zc,.slice la ln lc,.slice ta tn tc] 74)).alloc (.cells #[.int .i64 0,.slice none 0 0,.slice none 0 0,.slice none 0 0] 74)) r za zn zc la ln lc ta tn tc):=by
  have hg:ae w ((w.alloc (.cells #[.int .i64 r.size,.slice za zn zc,.slice la ln lc,.slice ta tn tc] 74)).alloc (.cells #[.int .i64 0,.slice none 0 0,.slice none 0 0,.slice none 0 0] 74)):=ae.trans (ae.alloc _ _) (ae.alloc _ _);refine ⟨Below.same (ae.alloc _ _) _ _ (aG w _),?_,(oW.mk h1 h2 h3).grow hg,hg⟩;have:=aG (w.alloc (.cells #[.int .i64 r.size,.slice za zn zc,.slice la ln lc,.slice ta tn tc] 74)) (.cells #[.int .i64 0,.slice none 0 0,.slice none 0 0,.slice none 0 0] 74);rwa [H_] at this
 clear h1 h2 h3 hok hlt;go_enter Tryz.func34,Tryz.ntmps34;go_wp2_with fail;generalize hW:(w.alloc (.cells #[.int .i64 r.size,.slice za zn zc,.slice la ln lc,.slice ta tn tc] 74)).alloc (.cells #[.int .i64 0,.slice none 0 0,.slice none 0 0,.slice none 0 0] 74)=W at *
 clear hW;go_loopg [] zn (λk wr=>∃ (r':aP) (za:Option Addr) (nz zc:Nat) (la:Option Addr) (ln lc:Nat) (ta:Option Addr) (tn tc j:Nat),nz=k∧j+k=zn∧Hid (mI P w wr r' za nz zc la ln lc ta tn tc∧fD r j r'))
 case atStart=>exact ⟨r,za,zn,zc,la,ln,lc,ta,tn,tc,0,rfl,by omega,uh HI,.start r⟩
 case round =>
  clear HI;obtain ⟨r',za,nz,zc,la,ln,lc,ta,tn,tc,j,hnz,hjk,HR⟩:=hrel;have hown:=(uh HR).1.own;have k0:wr.cell? ⟨w.heap.size,0,none⟩=some (.int .i64 r'.size):=by rw [cellsOf hown];rfl
  have k1:wr.cell? ⟨w.heap.size,1,none⟩=some (.slice za nz zc):=by rw [cellsOf hown];rfl
  have k2:wr.cell? ⟨w.heap.size,2,none⟩=some (.slice la ln lc):=by rw [cellsOf hown];rfl
  have k3:wr.cell? ⟨w.heap.size,3,none⟩=some (.slice ta tn tc):=by rw [cellsOf hown];rfl
  have f1:=aH hown 1;clear hown;have NB:=af ((uh HR).2.inv (uh EG) (uh lC) hn);subst hnz;by_cases h0:0<nz
  ·obtain ⟨m,rfl⟩:∃ m,nz=m+1:=⟨nz - 1,by omega⟩;have hm:m<=1000:=by have h1:=(uh NB).ok.Aw;have h2:=(uh HR).1.rows.zero.len;omega
   have hzl:=(uh HR).1.rows.zero.len;obtain ⟨gz,oz,cz,u,ez,u0,hu,-⟩:=gP (uh HR).1.rows.zero (i:=m) (by omega);have hcz:=(uh HR).1.rows.zero.cap;rw [<-hzl] at ez;cases ez;have Xw:=af hzl;obtain ⟨ua,un,uc,rfl⟩:=hu.aB;have HU:=af hu;clear hzl hu;have hcast:(((m+1:Nat):Int) - 1)=(m:Int):=by omega
   have adX:(((m:Int)+1) - 1)=(m:Int):=by omega
   have hmz:m<=zc:=by omega
   have HL:=af ((uh HR).1.less);generalize hWL:wr.setCell ⟨w.heap.size,1,none⟩ (.slice (some ⟨gz,oz,none⟩) m zc)=WL at *
   have g0:WL.cell? ⟨w.heap.size,0,none⟩=some (.int .i64 r'.size):=by rw [cellsOf (uh HL).own];rfl
   have g1:WL.cell? ⟨w.heap.size,1,none⟩=some (.slice (some ⟨gz,oz,none⟩) m zc):=by rw [cellsOf (uh HL).own];rfl
   have g2:WL.cell? ⟨w.heap.size,2,none⟩=some (.slice la ln lc):=by rw [cellsOf (uh HL).own];rfl
   have g3:WL.cell? ⟨w.heap.size,3,none⟩=some (.slice ta tn tc):=by rw [cellsOf (uh HL).own];rfl
   have HLZ:Hid (r'.bN=r'.zero.getD m []):=by unfold Hid aP.bN;rw [<-uh Xw];rfl
   have ZJ:Hid (aD P WL (.slice ua un uc) r'.bN):=by
    unfold Hid;rw [uh HLZ];rw [<-hWL];exact (uh HU).holds (bQ (uh HR).1.own (by decide) (λe=>absurd e (by decide)) _ _)
   have HWO:=af (IB P (iE L (r.size - r'.size)) r'.less r'.bN (.agg #[.int .i64 r'.size,.slice (some ⟨gz,oz,none⟩) m zc,.slice la ln lc,.slice ta tn tc]) (.slice ua un uc) WL (λb hb=>hP b (by have:=(uh HL).cZ.size;omega)) ⟨_,_,_,rfl,(uh HL).rows.zero,(uh HL).rows.least,(uh HL).rows.told⟩ (uh ZJ) (uh NB).ok.less ((uh NB).ok.bN (by rw [<-uh Xw];omega)) (w_ (uh NB).size hn) (uh NB).lt.less (λk=>(uh NB).lt.bN k) (by have:=CZ L (show r.size - r'.size<=r.size by omega);omega));clear ZJ HU;go_wp2_with fail;refine (uh HWO).mono ?_;rintro e w2 ⟨v',ok,rfl,⟨n',a1,m1,c1,a2,m2,c2,a3,m3,c3,rfl⟩,hb,ht,hf⟩;have HI2:Hid (mI P w (w2.alloc (.cells #[.int .i64 n',.slice a1 m1 c1,.slice a2 m2 c2,.slice a3 m3 c3] 74)) r'.less (some ⟨gz,oz,none⟩) m zc la ln lc ta tn tc):=((uh HL).grow hb).grow (ae.alloc _ _);clear g0 g1 g2 g3 k0 k1 k2 k3 u0 HWO;cases ok with
   | false =>
    have HF:Hid (∀ A,¬ r.dV.kU A):=λA hA=>QC (r:=r') (by rw [<-uh Xw];omega) (hf rfl) A (((uh HR).2.qG A).2 hA);obtain ⟨z0,z1,z2,z3,yf⟩:=(uh HI2).QD;have y0:=yf 0;have y1:=yf 1;have y2:=yf 2;have y3:=yf 3;clear hf ht hb yf;go_wp2;exact t_ (v:=.tuple #[.agg #[.int .i64 0,.slice none 0 0,.slice none 0 0,.slice none 0 0],.bool false]) (by simp [results,Tryz.results34,go_sem,z0,z1,z2,z3]) rfl ⟨_,false,rfl,⟨_,_,_,_,_,_,_,_,_,_,rfl⟩,((uh HI2).ret 0 none none none 0 0 0 0 0 0).1,λh=>(by cases h),λ_=>uh HF⟩
   | true =>
    obtain ⟨r2,⟨vz2,vl2,vt2,e2,hz2,hl2,ht2⟩,hwo⟩:=ht rfl;cases e2;have hal:ae w2 (w2.alloc (.cells #[.int .i64 r2.size,.slice a1 m1 c1,.slice a2 m2 c2,.slice a3 m3 c3] 74)):=ae.alloc _ _;have HS:Hid (oW P (w2.alloc (.cells #[.int .i64 r2.size,.slice a1 m1 c1,.slice a2 m2 c2,.slice a3 m3 c3] 74)) (.slice a1 m1 c1) (.slice a2 m2 c2) (.slice a3 m3 c3) r2):=(oW.mk hz2 hl2 ht2).grow hal;have hm1:m1=m:=by
     have h1:=hz2.len;have h2:=(hwo.ok (uh NB).ok.less).2.2;have h3:=(uh HL).rows.zero.len;omega
    have HST:Hid (fD r (j+1) r2):=(uh HR).2.snoc ⟨by rw [<-uh Xw];omega,hwo⟩;have HI3:=af ((uh HI2).store (uh HS));obtain ⟨k0,k1,k2,k3,kf⟩:=(uh HI2).cells;have f0:=kf 0;have f1:=kf 1;have f2:=kf 2;have f3:=kf 3;have hnb:=aG w2 (.cells #[.int .i64 r2.size,.slice a1 m1 c1,.slice a2 m2 c2,.slice a3 m3 c3] 74);have n0:(w2.alloc (.cells #[.int .i64 r2.size,.slice a1 m1 c1,.slice a2 m2 c2,.slice a3 m3 c3] 74)).cell? ⟨w2.heap.size,0,none⟩=some (.int .i64 r2.size):=by rw [cellsOf hnb];rfl
    have n1:(w2.alloc (.cells #[.int .i64 r2.size,.slice a1 m1 c1,.slice a2 m2 c2,.slice a3 m3 c3] 74)).cell? ⟨w2.heap.size,1,none⟩=some (.slice a1 m1 c1):=by rw [cellsOf hnb];rfl
    have n2:(w2.alloc (.cells #[.int .i64 r2.size,.slice a1 m1 c1,.slice a2 m2 c2,.slice a3 m3 c3] 74)).cell? ⟨w2.heap.size,2,none⟩=some (.slice a2 m2 c2):=by rw [cellsOf hnb];rfl
    have n3:(w2.alloc (.cells #[.int .i64 r2.size,.slice a1 m1 c1,.slice a2 m2 c2,.slice a3 m3 c3] 74)).cell? ⟨w2.heap.size,3,none⟩=some (.slice a3 m3 c3):=by rw [cellsOf hnb];rfl
    clear hf ht hb hz2 hl2 ht2 hwo kf hnb hal;subst hm1;go_wp2;go_roundg m1
    case measure=>omega
    case rel=>exact ⟨r2,a1,m1,c1,a2,m2,c2,a3,m3,c3,j+1,rfl,by omega,uh HI3,uh HST⟩
  ·have hz0:nz=0:=by omega
   subst hz0;have HJ:Hid (fD r r.zero.length r'):=by have h1:=(uh HR).2;have h2:j=r.zero.length:=(by have:=uh HZN;omega);rwa [h2] at h1
   have AA:Hid (ln=r'.least.length):=(uh HR).1.rows.least.len;have uA:=af (uh HR).1;obtain ⟨WE,Yw⟩:∃ WE,WE=wr:=⟨_,rfl⟩;subst Yw;clear HR hjk h0;have hL0:20*iE L (r.size - r'.size)+10<=1500000000000:=by have:=CZ L (show r.size - r'.size<=r.size by omega);omega
   have hns:r'.size<=100:=w_ (uh NB).size hn;have hln:ln<=1000:=by have h1:=(uh NB).ok.vg;have h2:=uh AA;omega
   go_wp2_with fail;go_loopg [7,8] ln (λk vl iv wr=>∃ (i:Nat) (a:Option Addr) (n c:Nat),iv=.int .i64 i∧vl=.slice a n c∧i+k=ln∧Hid (dB P WE.heap.size wr (.slice a n c) ((r'.least.take i).flatMap (jB r'.size))∧ae WE wr∧∀ x∈r'.least.take i,bC x r'.size=0->0<=x.getD 0 0))
   case atStart=>exact ⟨0,none,0,0,rfl,rfl,by omega,by simpa using dB.nil P _ _,ae.refl _,by simp⟩
   case round =>
    obtain ⟨i,aL,nL,cL,rfl,rfl,hik,HR⟩:=hrel;have HI:=af ((uh uA).grow (uh HR).2.1);obtain ⟨k0,k1,k2,k3,kf⟩:=(uh HI).cells;by_cases hlt:i<ln
    ·obtain ⟨gl,ol,cl,u,el,u0,hu,hmem⟩:=gP (uh HI).rows.least (i:=i) (by rw [<-uh AA];exact hlt);rw [<-uh AA] at el;cases el;obtain ⟨ua,un,uc,rfl⟩:=hu.aB;have HU:=af hu;have HM:=af hmem;have I6:Hid ((r'.least.getD i []).length=r'.size+1):=(uh NB).ok.dQ _ hmem;have hi0:¬ ((i:Int)<0):=by omega
     have HC:=af (Kv P (iE L (r.size - r'.size)) r'.size (r'.least.getD i []) _ wr (λb hb=>hP b (by have:=(uh HI).cZ.size;omega)) hu (uh I6) hns ((uh NB).lt.least i) (by omega));clear hu hmem kf;go_wp2_with fail;refine (uh HC).mono ?_;rintro e w1 ⟨v1,rfl,hv1,hb1⟩;obtain ⟨dx,da,dm,dc,rfl⟩:=hv1.shape;have zO:=af (dC hv1);have HG2:Hid (ae wr (w1.alloc (.cells #[.int .i64 dx,.slice da dm dc] 78))):=ae.trans hb1 (ae.alloc _ _);have hge:wr.heap.size<=w1.heap.size:=hb1.size;clear hv1 hb1 HC;have q0:=(uh zO).cells.1;have q1:=(uh zO).cells.2.1;go_wp2_with fail;refine (bY P _ _ _ (uh zO).val).mono ?_;rintro e w3 ⟨rfl,hw3⟩;have HV:=af ((uh zO).grow hw3);have jb:=af (ae.trans (uh HG2) hw3);have HI3:=af ((uh HI).grow (uh jb));have oG:=af ((uh HR).1.grow (uh jb));have HU3:=af ((uh HU).below (uh jb));have g2:=(uh HI3).cells.2.2.1;have v0:=(uh HV).cells.1;have v1:=(uh HV).cells.2.1;have u3:=(uh jb).cell u0;clear hw3 zO HG2 HI HU q0 q1 k0 k1 k2 k3 u0;generalize w1.heap.size=gd at *
     by_cases hc:bC (r'.least.getD i []) r'.size=0
     ·have hs0:Int.sign (bC (r'.least.getD i []) r'.size)=0:=by rw [hc];rfl
      rw [hs0];obtain ⟨gs,os,ac,px,pa,pm,pc,es,p0,p1,hpv⟩:=eU (uh HU3) (i:=0) (by rw [uh I6];omega);rw [uh I6] at es;cases es;rw [show os+0*2=os by omega] at p0 p1;have wy:=af hpv;have HC0:=af hc;clear hc hs0 hpv;go_wp2_with fail;refine (bY P _ _ _ (uh wy)).mono ?_;rintro e w4 ⟨rfl,hw4⟩;have kC:=af (ae.trans (uh jb) hw4);have HI4:=af ((uh HI3).grow hw4);have ZK:=af ((uh oG).grow hw4);clear hw4 g2 v0 v1 u3 p0 p1;by_cases hneg:(r'.least.getD i []).getD 0 0<0
      ·rw [E_ hneg];have HF:Hid (∀ A,¬ r.dV.kU A):=λA hA=>Kt (uh HM) (uh HC0) hneg A (((uh HJ).qG A).2 hA);obtain ⟨z0,z1,z2,z3,yf⟩:=(uh HI4).QD;have y0:=yf 0;have y1:=yf 1;have y2:=yf 2;have y3:=yf 3;clear hneg yf;go_wp2;exact t_ (v:=.tuple #[.agg #[.int .i64 0,.slice none 0 0,.slice none 0 0,.slice none 0 0],.bool false]) (by simp [results,Tryz.results34,go_sem,z0,z1,z2,z3]) rfl ⟨_,false,rfl,⟨_,_,_,_,_,_,_,_,_,_,rfl⟩,((uh HI4).ret 0 none none none 0 0 0 0 0 0).1,λh=>(by cases h),λ_=>uh HF⟩
      ·obtain ⟨sg,hsg⟩:∃ sg,Int.sign ((r'.least.getD i []).getD 0 0)=sg:=⟨_,rfl⟩;have d0:decide (sg<0)=false:=by
        rw [<-hsg];simp only [decide_eq_false_iff_not,Int.not_lt];rcases (show (r'.least.getD i []).getD 0 0=0∨0<(r'.least.getD i []).getD 0 0 by omega) with h | h
        ·rw [h];decide
        ·rw [J_ h];decide
       have d1:¬ (sg<0):=by simpa using d0
       rw [hsg];have HN:Hid ((r'.least.take (i+1)).flatMap (jB r'.size)=(r'.least.take i).flatMap (jB r'.size)∧∀ x∈r'.least.take (i+1),bC x r'.size=0->0<=x.getD 0 0):=by
        have e:=EU (r'.least) (i:=i) (by rw [<-uh AA];exact hlt);constructor
        ·rw [e,List.flatMap_append];rw [List.flatMap_singleton,jB,h_ (uh HC0),abk]
        ·rw [e];intro x hx hx0;rcases F_.1 hx with h|h
         ·exact (uh HR).2.2 x h hx0
         ·rw [I_] at h;rw [h];omega
       clear hneg hsg;go_wp2;go_roundg (gk - 1)
       case measure=>omega
       case rel=>exact ⟨i+1,aL,nL,cL,by simp,rfl,by omega,by rw [(uh HN).1];exact uh ZK,(uh HR).2.1.trans (uh kC),(uh HN).2⟩
     ·obtain ⟨sg,hsg⟩:∃ sg,Int.sign (bC (r'.least.getD i []) r'.size)=sg:=⟨_,rfl⟩;have hs1:sg≠0:=by rw [<-hsg];intro h;exact hc (abe.1 h)
      have d1:(sg != 0)=true:=by simpa using hs1
      have d2:(sg == 0)=false:=by simp [hs1]
      rw [hsg];have ZB:=af hc;clear hsg hc hs1;obtain ⟨row,hrow⟩:∃ row,gQ r'.size (r'.least.getD i []) (bC (r'.least.getD i []) r'.size)=row:=⟨_,rfl⟩;have sM:=af hrow;have Xi:Hid (∀ wq,ae w3 wq->Calls Tryz.prog 47 #[.slice ua un uc,.agg #[.int .i64 dx,.slice da dm dc]] wq λe w'=>∃ v',e=.returned v'∧aD P w' v' row∧Below wq.heap.size wq w'):=λwq hg=>by
       rw [<-hrow];exact IC P (iE L (r.size - r'.size)) (r'.size+1) (r'.least.getD i []) (bC (r'.least.getD i []) r'.size) _ _ wq (λb' hb'=>hP b' (by have h1:=(uh HI3).cZ.size;have h2:=hg.size;omega)) ((uh HU3).below hg) ((uh HV).val.below hg) (uh I6) (by omega) ((uh NB).lt.least i) (zW ((uh NB).lt.least i) _) (by omega)
      clear hrow;go_wp2_with fail;have x2:=b_ g2;have x3:=b_ u3;have x4:=b_ v0;have x5:=b_ v1;clear g2 u3 v0 v1;refine zN (bZ [(63,λv w=>aD P w v row),(64,fJ P row)]) (gL [(63,aZ),(64,pV)]) 79 9 (by kernel_rfl) (by rfl) (by kernel_rfl) (aN (λ_ _ _=>aD.below) (aN (λ_ _ _=>fJ.grow) cK)) ?_
      iterate 7 (refine aO λK hK=>?_;go_simp;refine hK _ ?_;clear hK K)
      refine ai aZ 47 #[.slice ua un uc,.agg #[.int .i64 dx,.slice da dm dc]] (by rfl) (by rfl) aZ.some (λw=>by go_simp) (λwq hg hf=>(uh Xi wq hg).mono (by rintro e w' ⟨v',rfl,hv,hb⟩;exact ⟨_,rfl,hb,hv.aB,λt ht=>by cases ht;exact hv⟩)) ?_;rintro _ ⟨xa,xm,xc,rfl⟩;refine eO pV (by rfl) (by rfl) pV.some (λwq hg hf=>⟨.slice (some ⟨wq.heap.size,0,none⟩) 1 1,wq.alloc (.cells #[.slice xa xm xc] 69),by go_simp,ae.alloc _ _,⟨_,rfl⟩,λt ht=>by cases ht;exact fJ.new (hf 7 (by kernel_rfl) _ 63 rfl rfl)⟩) ?_;rintro _ ⟨gx,rfl⟩;refine aF ?_;intro w4 hg4 aK;have hfr:fJ P row (.slice (some ⟨gx,0,none⟩) 1 1) w4:=aK 8 _ 64 (by decide) rfl rfl;clear aK;obtain ⟨gx',u,ex,hbx,Ro⟩:=hfr;cases ex;have ZK:=af ((uh oG).grow hg4);have hB4:WE.heap.size<=w4.heap.size:=((uh HR).2.1.trans ((uh jb).trans hg4)).size;have Uu:((r'.least.take i).flatMap (jB r'.size)).length<=1000000:=by
       have h1:=yz r'.size (r'.least.take i);rw [T_] at h1;have h2:=uh AA;omega
      have hnL:nL=((r'.least.take i).flatMap (jB r'.size)).length:=(uh ZK).len;refine DC (P:=P) (.tmp 56) (.tmp 64) rfl WE.heap.size (.slice aL nL cL) ((r'.least.take i).flatMap (jB r'.size)) row u rfl (uh ZK) gx 1 rfl hbx Ro Uu hB4 ?_;intro g cap w5 hown5 Uv _;have gD:Hid (Below WE.heap.size WE w5):=aa2 ((uh HR).2.1.trans ((uh jb).trans hg4)) Uv;have HN:Hid (dB P WE.heap.size w5 (.slice (some ⟨g,0,none⟩) (((r'.least.take i).flatMap (jB r'.size)).length+1) cap) ((r'.least.take (i+1)).flatMap (jB r'.size))∧∀ x∈r'.least.take (i+1),bC x r'.size=0->0<=x.getD 0 0):=by
       have e:=EU (r'.least) (i:=i) (by rw [<-uh AA];exact hlt);constructor
       ·rw [e,List.flatMap_append,List.flatMap_singleton,jB,g_ (uh ZB),uh sM];exact hown5
       ·rw [e];intro x hx hx0;rcases F_.1 hx with h|h
        ·exact (uh HR).2.2 x h hx0
        ·rw [I_] at h;rw [h] at hx0;exact absurd hx0 (uh ZB)
      generalize (((r'.least.take i).flatMap (jB r'.size)).length+1)=n5 at *
      clear hown5 Uv hg4 hbx Ro ZK hB4 Uu hnL;show Oper.wp _ _ _ _ _ _;go_wp2;go_roundg (gk - 1)
      case measure=>omega
      case rel=>exact ⟨i+1,_,_,_,by simp,rfl,by omega,(uh HN).1,uh gD,(uh HN).2⟩
    ·have hin:i=ln:=by omega
     have HF:Hid (dB P WE.heap.size wr (.slice aL nL cL) (r'.least.flatMap (jB r'.size))∧∀ x∈r'.least,bC x r'.size=0->0<=x.getD 0 0):=by
      have h1:=(uh HR).1;have h2:=(uh HR).2.2;rw [hin,uh AA,aaG] at h1 h2;exact ⟨h1,h2⟩
     have MG:Hid (oW P wr (.slice za 0 zc) (.slice aL nL cL) (.slice ta tn tc) r'.whole):=⟨(uh HI).rows.zero,(uh HF).1.rows (λg hg=>hP g (w_ (uh uA).cZ.size hg)),(uh HI).rows.told⟩;have f2:=kf 2;have hb:=(uh HI).own;have HH:Hid (Holds P wr (wr.setCell ⟨w.heap.size,2,none⟩ (.slice aL nL cL))):=bQ hb (by decide) (λe=>absurd e (by decide)) _ _;have HI2:Hid (mI P w (wr.setCell ⟨w.heap.size,2,none⟩ (.slice aL nL cL)) r'.whole za 0 zc aL nL cL ta tn tc):=by
      refine ⟨?_,?_,(uh MG).holds (uh HH),B_ (p:=⟨w.heap.size,2,none⟩) (uh HI).cZ (d_ _) _⟩
      ·have:=j_ wr w.heap.size 2 _ _ (.slice aL nL cL) hb;exact this
      ·exact (l_ _ _ _ _ (show w.heap.size+1≠w.heap.size by omega)).trans (uh HI).res
     generalize VC:wr.setCell ⟨w.heap.size,2,none⟩ (.slice aL nL cL)=WF at *
     obtain ⟨j0',j1,j2,j3,_⟩:=(uh HI2).cells;have j0:WF.cell? ⟨w.heap.size,0,none⟩=some (.int .i64 r'.size):=j0';obtain ⟨z0,z1,z2,z3,yf⟩:=(uh HI2).QD;have y0:=yf 0;have y1:=yf 1;have y2:=yf 2;have y3:=yf 3;have Ey:=af ((uh HI2).ret (r'.size:Int) za aL ta 0 zc nL cL tn tc);have Qw:=af ((uh HI2).rows.holds (uh Ey).2);clear kf hb yf j0';go_wp2;exact t_ (v:=.tuple #[.agg #[.int .i64 (r'.size:Int),.slice za 0 zc,.slice aL nL cL,.slice ta tn tc],.bool true]) (by simp [results,Tryz.results34,go_sem,z0,z1,z2,z3]) rfl ⟨_,true,rfl,⟨_,_,_,_,_,_,_,_,_,_,rfl⟩,(uh Ey).1,λ_=>⟨r',⟨_,_,_,rfl,(uh Qw).zero,(uh Qw).least,(uh Qw).told⟩,uh HJ,(uh HF).2⟩,λh=>(by cases h)⟩
end
theorem sU {P:Nat->Prop} {w w':World} {b gl gc:Nat} {t:Pl.aR} (h:aV P w b gl gc t) (ht:bG (mh b gl gc) w w'):Holds P w w':=by
 intro k cs T hT hk hc;refine ht.block k (z_ hc) ?_;obtain ⟨⟨fE,jl,sx,sa,sm,sc,h1,h2,cs1,h3,_⟩,_,h10⟩:=h;rintro (e|e|e)
 ·rw [e,h1] at hc;simp only [Option.some.injEq,Obj.cells.injEq] at hc;rw [<-hc.2.1] at hT;rcases hT with h|h|h <;> exact absurd h (by decide)
 ·rw [e,h3] at hc;simp only [Option.some.injEq,Obj.cells.injEq] at hc;rw [<-hc.2.1] at hT;rcases hT with h|h|h <;> exact absurd h (by decide)
 ·rw [e] at hk;exact h10 hk
theorem Fy {F:Int->Nat->Int} {n L:Nat} {U:List Int} {t:Pl.aR} (hn:n<=9) (hok:Pl.bM F n t) (hst:Pl.Stat U n t) (hU:∀ x∈U,∀ k,k<n+1->Pl.Lt L (F x k)):qg ((n+1)*L+1) t:=by
 have hs:Pl.Small F n t (1073741824^L):=⟨jV L,λc hc k hk=>Co (hU _ (hst.aS _ ⟨c,hc,rfl⟩) k hk),λr hr k hk=>Co (hU _ (hst.lines _ ⟨r,hr,rfl⟩) k hk)⟩;have hp:=hok.pos;have hb:=xq (n:=n) (L:=L) hn;refine ⟨λr j hr hj=>?_,?_⟩
 ·rw [hok.aS] at hj;obtain ⟨h1,h2⟩:=hok.KZ hs hr hj;exact En h1 h2 hb
 ·have h1:=hok.GN hs;exact En (by omega) (aaU _) (by omega)
def aP.S (r:aP) (i k:Nat):Int:=(r.least.getD i []).getD k 0
theorem Vo {r:aP} {L:Nat} (hL:1<=L) (hl:dF L r) {x:Int} (hx:x∈Pl.gU r.size r.least.length) (k:Nat):Pl.Lt L (Pl.gH r.S x k):=by
 rcases F_.1 hx with h|h
 ·obtain ⟨i,_,rfl⟩:=m_.1 h;rw [Pl.iW];exact hl.least i k
 ·obtain ⟨j,_,rfl⟩:=m_.1 h;rw [Pl.xu];unfold Pl.unit;obtain ⟨L',rfl⟩:∃ L',L=L'+1:=⟨L - 1,by omega⟩
  split <;> exact dR (by decide)
theorem RV {F:Int->Nat->Int} {U:List Int} {L:Nat} {s:List Int} (hU:∀ x∈U,∀ k,Pl.Lt L (F x k)) (hs:∀ k,Pl.Lt L (s.getD k 0)):∀ x∈(-1073741824:Int)::U,∀ k,Pl.Lt L (mi F s x k):=by
 intro x hx k;by_cases e:x=-1073741824
 ·rw [e,rQ];exact hs k
 ·rw [fP e];rcases aa0.1 hx with h|h
  ·exact absurd h e
  ·exact hU x h k
theorem RX {n m:Nat} {S:Nat->Nat->Int} (hn:n<=100) (hm:m<=1000) {D:List Nat} {U:List Int} (hU:Pl.dJ n m D U):xw (Pl.gH S) n U:=by
 refine ⟨λk h1 h2=>?_,λx hx=>?_,λk h1 h2=>?_⟩
 ·have e:-(k:Int)=-1 - ((k - 1:Nat):Int):=by omega
  rw [e,Pl.xu,show k - 1+1=k by omega]
 ·rcases F_.1 ((hU x).1 hx).1 with h | h
  ·obtain ⟨i,hi,rfl⟩:=m_.1 h;have:=V_.1 hi;omega
  ·obtain ⟨i,hi,rfl⟩:=m_.1 h;have:=V_.1 hi;omega
 ·refine (hU _).2 ⟨F_.2 (.inr (m_.2 ⟨k - 1,V_.2 (by omega),by omega⟩)),λj _=>by omega⟩
theorem GQ {r:aP} (hz:r.zero=[]) (ht:r.dV.gJ):Pl.gJ (Pl.gH r.S) r.size r.least.length:=by
 intro D d0 hD k hk;have key:=ht (λi=>D (i+1)) (λs hs=>by
  have:r.dV.zero=[]:=by show r.zero.map lf=[];rw [hz];rfl
  rw [this] at hs;cases hs) (λs hs=>by
  obtain ⟨a,ha,rfl⟩:=m_.1 hs;obtain ⟨i,hi,e⟩:=aa5.1 ha;have h1:=hD i hi;rw [Pl.iW] at h1;have e2:r.S i=lf a:=by
   funext k;unfold aP.S lf;rw [a_ (l:=r.least),f_ hi,e];rfl
  rw [e2] at h1;unfold Pl.ev at h1;rw [Pl.yG,d0,X_,Int.zero_add] at h1;exact h1)
 rcases k with _|k
 ·exact d0
 ·exact key k (by show k<r.size;omega)
theorem rR {r:aP} (x:Nat->Int):(∀ a∈r.least,0<=Pl.ev r.size (lf a) (Pl.pt x))↔Pl.nY r.size r.least.length r.S (Pl.pt x):=by
 have e2:∀ i (hi:i<r.least.length),r.S i=lf r.least[i]:=λi hi=>by
  funext k;unfold aP.S lf;rw [a_ (l:=r.least),f_ hi];rfl
 constructor
 ·intro h i hi;rw [e2 i hi];exact h _ (aak hi)
 ·intro h a ha;obtain ⟨i,hi,e⟩:=aa5.1 ha;rw [<-e,<-e2 i hi];exact h i hi
theorem MI {r:aP} (hz:r.zero=[]) (ht:r.dV.gJ) (hn:0<r.size):0<r.least.length:=by
 apply v_;intro hc;have hl:r.least=[]:=aaz (by omega);have:=ht (λ_=>1) (λs hs=>by
  have:r.dV.zero=[]:=by show r.zero.map lf=[];rw [hz];rfl
  rw [this] at hs;cases hs) (λs hs=>by
  have:r.dV.least=[]:=by show r.least.map lf=[];rw [hl];rfl
  rw [this] at hs;cases hs) 0 hn
 simp at this
end Go.Proofs.YtgaafamcajcifaaGreat
