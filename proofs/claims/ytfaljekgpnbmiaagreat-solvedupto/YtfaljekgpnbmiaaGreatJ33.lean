/- Joined: XSet4 XSet5 XSet6 XSet7 XHall. -/
import Derived.Test.YtfaljekgpnbmiaaGreatJ06
import Derived.Test.YtfaljekgpnbmiaaGreatJ22
import Derived.Test.YtfaljekgpnbmiaaGreatJ28
import Derived.Test.YtfaljekgpnbmiaaGreatJ29
import Derived.Test.YtfaljekgpnbmiaaGreatJ32
set_option linter.unusedVariables false
set_option linter.unusedSimpArgs false
set_option maxRecDepth 100000
namespace Go.Proofs.YtfaljekgpnbmiaaGreat
open Go.RowKit Go.Sort
theorem aP.xS {r:aP} (h0:0<r.zero.length):r.zero=r.zero.dropLast++[r.bO]:=by
 have hne:r.zero≠[]:=λh=>by rw [h] at h0;exact absurd h0 (Nat.lt_irrefl 0)
 have e:r.zero.getLast hne=r.bO:=by
  unfold aP.bO;rw [List.getLast_eq_getElem,a_,f_ (by omega)]
  rfl
 rw [<-e];exact (List.dropLast_concat_getLast hne).symm
theorem aP.Db {r:aP} (h0:0<r.zero.length) (x:Nat->Int):r.dX.Has x↔r.less.dX.Has x∧Pl.ev r.size (lf r.bO) (Pl.pt x)=0:=by
 have e:=r.xS h0;constructor
 ·intro h;refine ⟨⟨λs hs=>?_,λs hs=>h.least s hs⟩,?_⟩
  ·obtain ⟨a,ha,rfl⟩:=m_.1 hs;exact h.zero _ (m_.2 ⟨a,by rw [e];exact F_.2 (.inl ha),rfl⟩)
  ·exact h.zero _ (m_.2 ⟨r.bO,by rw [e];exact F_.2 (.inr (I_.2 rfl)),rfl⟩)
 ·rintro ⟨h,h1⟩;refine ⟨λs hs=>?_,λs hs=>h.least s hs⟩;obtain ⟨a,ha,rfl⟩:=m_.1 hs;rw [e] at ha;rcases F_.1 ha with ha|ha
  ·exact h.zero _ (m_.2 ⟨a,ha,rfl⟩)
  ·rw [I_.1 ha];exact h1
theorem uw.qI {r r':aP} (h:uw r r') (A:List Int):r'.dX.kW A↔r.dX.kW A:=by
 rw [h.2.qI A];constructor
 ·rintro ⟨x,h1,h2,h3⟩;exact ⟨x,(aP.Db h.1 x).2 ⟨h1,h3⟩,h2⟩
 ·rintro ⟨x,h1,h2⟩;obtain ⟨h3,h4⟩:=(aP.Db h.1 x).1 h1;exact ⟨x,h3,h2,h4⟩
theorem fF.qI {r0 r:aP} {k:Nat} (h:fF r0 k r) (A:List Int):r.dX.kW A↔r0.dX.kW A:=by
 obtain ⟨T,e0,e1,h2⟩:=h;subst e1
 induction k with
 | zero=>rw [e0]
 | succ k ih=>exact ((h2 k (by omega)).qI A).trans (ih λi hi=>h2 i (by omega))
theorem Rk {r:aP} (h0:0<r.zero.length) (h:Md r.less (λk=>r.bO.getD k 0)) (A:List Int):¬ r.dX.kW A:=by
 rintro ⟨x,h1,_⟩;exact h.none x ((aP.Db h0 x).1 h1).2
theorem EU {n t:Nat} {x:Int} {St:Nat->Nat->Int} (ht:t<n) (a:List Int) (D:Nat->Int):Pl.dir (n - 1) (Pl.qz t x (Pl.qg n St (lf a))) D=Pl.dir (n - 1) (lf (eZ (dI a (iU n St) n) t x)) D:=by
 unfold Pl.dir;refine Pl.aC λj hj=>?_;rw [Da];congr 1;unfold Pl.qz;rw [g_ (show ¬ (j+1=0) by omega),g_ (show ¬ (j+1=0) by omega)];by_cases h:j+1<=t
 ·rw [h_ h,h_ h];exact (jh a (j+1) (by omega)).symm
 ·rw [g_ h,g_ h];exact (jh a (j+1+1) (by omega)).symm
theorem uw.mO {r r':aP} (h:uw r r') (ht:r.dX.gM):r'.dX.gM:=by
 obtain ⟨h0,hw⟩:=h;have e:=r.xS h0;rcases hw with ⟨rfl,_,kk,St,hr,hz⟩|⟨at_,kk,St,x,h1,_,_,rfl⟩
 ·have key:∀ D,Pl.dir r.size (lf r.bO) D=0:=λD=>by
   obtain ⟨y,hy⟩:=hr.OX.reach D;have e1:Pl.dir r.size (lf r.bO) D=Pl.dir r.size (Pl.qg r.size St (lf r.bO)) y:=by
    rw [Pl.yC];exact Pl.El hy
   rw [e1];unfold Pl.dir;exact Pl.kF λi hi=>by
    rw [Pl.lU];have h3:Pl.aQ r.size St (lf r.bO) i=0:=hz i hi;rw [h3,aa_]
  intro D d1 d2;refine ht D (λs hs=>?_) d2;obtain ⟨a,ha,rfl⟩:=m_.1 hs;rw [e] at ha;rcases F_.1 ha with ha|ha
  ·exact d1 _ (m_.2 ⟨a,ha,rfl⟩)
  ·rw [I_.1 ha];exact key D
 ·have hlt:at_<r.size:=h1.lt;have hT:=(ht.uJ (St:=St) h1.rounds.OX).fix (t:=at_) hlt x;intro D d1 d2 i hi;refine hT D (λs hs=>?_) (λs hs=>?_) i hi
  ·obtain ⟨s1,hs1,rfl⟩:=m_.1 hs;obtain ⟨s2,hs2,rfl⟩:=m_.1 hs1;obtain ⟨a,ha,rfl⟩:=m_.1 hs2;rw [e] at ha;rcases F_.1 ha with ha|ha
   ·have h3:=d1 (lf (eZ (dI a (iU r.size St) r.size) at_ x)) (m_.2 ⟨_,m_.2 ⟨_,m_.2 ⟨a,ha,rfl⟩,rfl⟩,rfl⟩);exact Eq.trans (EU hlt a D) h3
   ·rw [I_.1 ha];show Pl.dir (r.size - 1) _ D=0;unfold Pl.dir;refine Pl.kF λj hj=>?_;have h4:Pl.qz at_ x (Pl.qg r.size St (lf r.bO)) (j+1)=0:=by
     unfold Pl.qz;rw [g_ (by omega)]
     split
     ·rw [Pl.lU];exact h1.only j (show j<r.size by omega) (by omega)
     ·rw [Pl.lU];exact h1.only (j+1) (show j+1<r.size by omega) (by omega)
    exact (congrArg (·*D j) h4).trans (aa_ _)
  ·obtain ⟨s1,hs1,rfl⟩:=m_.1 hs;obtain ⟨s2,hs2,rfl⟩:=m_.1 hs1;obtain ⟨a,ha,rfl⟩:=m_.1 hs2;have h3:=d2 (lf (eZ (dI a (iU r.size St) r.size) at_ x)) (m_.2 ⟨_,m_.2 ⟨_,m_.2 ⟨a,ha,rfl⟩,rfl⟩,rfl⟩);exact acW h3 (Int.le_of_eq (EU hlt a D).symm)
theorem qC (a:List Int):∀ n,0<=bD a n
 | 0=>abk _
 | _+1=>Int.natCast_nonneg _
theorem vJ (a:List Int):∀ n i,i<n->bD a n∣a.getD (i+1) 0
 | n+1,i,hi=>by
  show (Int.gcd (bD a n) (a.getD (n+1) 0):Int)∣_;by_cases e:i=n
  ·subst e;exact Int.gcd_dvd_right _ _
  ·exact Int.dvd_trans (Int.gcd_dvd_left _ _) (vJ a n i (by omega))
theorem ui {a:List Int} {n:Nat} (h:bD a n=0) {i:Nat} (hi:i<n):a.getD (i+1) 0=0:=by
 have h1:=vJ a n i hi;rw [h] at h1;exact Int.zero_dvd.1 h1
def gU (n:Nat) (a:List Int) (d:Int):List Int:=(List.range (n+1)).map λk=>Int.fdiv (a.getD k 0) d
def jD (n:Nat) (a:List Int):List (List Int):=if bD a n=0 then [] else [gU n a (bD a n)]
def aP.whole (r:aP):aP:=⟨r.size,r.zero,r.least.flatMap (jD r.size),r.told⟩
theorem vK {n:Nat} {a:List Int} {d:Int} {k:Nat} (hk:k<=n):lf (gU n a d) k=Int.fdiv (a.getD k 0) d:=by
 unfold lf gU;exact Pl.bK _ _ _ (by omega)
theorem qd {n:Nat} {a:List Int} (h:bD a n≠0) {i:Nat} (hi:i<n):lf a (i+1)=bD a n*lf (gU n a (bD a n)) (i+1):=by
 rw [vK (by omega)];obtain ⟨q,hq⟩:=vJ a n i hi;show a.getD (i+1) 0=_;rw [hq,Int.mul_fdiv_cancel_left _ h]
theorem EW {n:Nat} {a:List Int} (hc:bD a n=0->0<=a.getD 0 0) (x:Nat->Int):0<=Pl.ev n (lf a) (Pl.pt x)↔∀ b∈jD n a,0<=Pl.ev n (lf b) (Pl.pt x):=by
 unfold jD;by_cases h:bD a n=0
 ·rw [h_ h,Pl.zh (λi hi=>ui h hi)];exact ⟨λ_ b hb=>absurd hb List.not_mem_nil,λ_=>hc h⟩
 ·rw [g_ h];have hp:0<bD a n:=by have:=qC a n;omega
  have:=Pl.Iy hp (vK (abo n)) (λi hi=>qd h hi) x;constructor
  ·intro h1 b hb;rw [I_.1 hb];exact this.2 h1
  ·intro h1;exact this.1 (h1 _ (I_.2 rfl))
theorem EX {r:aP} (hc:∀ a∈r.least,bD a r.size=0->0<=a.getD 0 0) (x:Nat->Int):r.whole.dX.Has x↔r.dX.Has x:=by
 constructor
 ·intro h;refine ⟨h.zero,λs hs=>?_⟩;obtain ⟨a,ha,rfl⟩:=m_.1 hs;exact (EW (hc a ha) x).2 λb hb=>h.least _ (m_.2 ⟨b,abT.2 ⟨a,ha,hb⟩,rfl⟩)
 ·intro h;refine ⟨h.zero,λs hs=>?_⟩;obtain ⟨b,hb,rfl⟩:=m_.1 hs;obtain ⟨a,ha,hb2⟩:=abT.1 hb;exact (EW (hc a ha) x).1 (h.least _ (m_.2 ⟨a,ha,rfl⟩)) b hb2
theorem Nc {r:aP} (hc:∀ a∈r.least,bD a r.size=0->0<=a.getD 0 0) (A:List Int):r.whole.dX.kW A↔r.dX.kW A :=
 ⟨λ⟨x,h1,h2⟩=>⟨x,(EX hc x).1 h1,h2⟩,λ⟨x,h1,h2⟩=>⟨x,(EX hc x).2 h1,h2⟩⟩
theorem KY {r:aP} {a:List Int} (ha:a∈r.least) (h0:bD a r.size=0) (hn:a.getD 0 0<0) (A:List Int):¬ r.dX.kW A:=by
 rintro ⟨x,h1,_⟩;have h2:0<=Pl.ev r.size (lf a) (Pl.pt x):=h1.least _ (m_.2 ⟨a,ha,rfl⟩);rw [Pl.zh (λi hi=>ui h0 hi)] at h2;have h3:(0:Int)<=a.getD 0 0:=h2;omega
theorem J4 {r:aP} (ht:r.dX.gM):r.whole.dX.gM:=by
 intro D d1 d2;refine ht D d1 λs hs=>?_;obtain ⟨a,ha,rfl⟩:=m_.1 hs;show 0<=Pl.dir r.size (lf a) D;by_cases h:bD a r.size=0
 ·have:Pl.dir r.size (lf a) D=0:=Pl.kF λi hi=>by
   have h3:lf a (i+1)=0:=ui h hi;rw [h3,aa_]
  omega
 ·have hp:0<bD a r.size:=by have:=qC a r.size;omega
  have h2:0<=Pl.dir r.size (lf (gU r.size a (bD a r.size))) D:=d2 _ (m_.2 ⟨_,abT.2 ⟨a,ha,by unfold jD;rw [g_ h];exact I_.2 rfl⟩,rfl⟩);have e:Pl.dir r.size (lf a) D=bD a r.size*Pl.dir r.size (lf (gU r.size a (bD a r.size))) D:=by
   unfold Pl.dir;rw [<-Pl.dA];exact Pl.aC λi hi=>by rw [qd h hi,y_]
  rw [e];exact Z_ (by omega) h2
theorem Oq (n:Nat) (a:List Int):(jD n a).length<=1:=by unfold jD;split <;> simp
theorem zH {n:Nat} {a b:List Int} (h:b∈jD n a):b=gU n a (bD a n)∧0<bD a n:=by
 unfold jD at h;by_cases e:bD a n=0
 ·rw [h_ e] at h;exact absurd h List.not_mem_nil
 ·rw [g_ e] at h;exact ⟨I_.1 h,by have:=qC a n;omega⟩
theorem yB (n:Nat):∀ ls:List (List Int),(ls.flatMap (jD n)).length<=ls.length
 | []=>d_ _
 | a::ls=>by
  rw [List.flatMap_cons,C_,ab6];have:=Oq n a;have:=yB n ls;omega
theorem eP.whole {r:aP} (h:eP r):eP r.whole:=⟨h.jb,λl hl=>by
 obtain ⟨a,_,hb⟩:=abT.1 hl;rw [(zH hb).1];show (gU _ _ _).length=r.size+1;simp [gU],h.gV,h.Az,w_ (yB _ _) h.vB,h.uP⟩
theorem AR (ls:List (List Int)) (i:Nat):ls.getD i []∈ls∨ls.getD i []=[]:=by
 rw [a_];rcases hi:ls[i]? with _|a
 ·exact .inr rfl
 ·exact .inl (abR hi)
theorem dG.whole {K:Nat} {r:aP} (h:dG K r):dG K r.whole:=⟨h.zero,λi k=>by
 show Pl.Lt K (((r.least.flatMap (jD r.size)).getD i []).getD k 0);rcases AR (r.least.flatMap (jD r.size)) i with hm|e
 ·obtain ⟨a,ha,hb⟩:=abT.1 hm;obtain ⟨e,hp⟩:=zH hb;rw [e];obtain ⟨j,hj,rfl⟩:=abw.1 ha;by_cases hk:k<=r.size
  ·have e2:(gU r.size r.least[j] (bD r.least[j] r.size)).getD k 0=Int.fdiv (r.least[j].getD k 0) (bD r.least[j] r.size):=vK hk;rw [e2];have h1:=h.least j k;have e3:r.least.getD j []=r.least[j]:=by rw [a_,f_ hj];rfl
   rw [e3] at h1;exact h1.fdiv hp
  ·have e2:(gU r.size r.least[j] (bD r.least[j] r.size)).getD k 0=0:=by
    rw [a_,P_ (by simp [gU];omega)];rfl
   rw [e2];exact lC K
 ·rw [e];exact lC K,h.told⟩
structure mM (P:Nat->Prop) (w0 w:World) (r:aP) (za:Option Addr) (zn zc:Nat) (la:Option Addr) (ln lc:Nat) (ta:Option Addr) (tn tc:Nat):Prop where
 own:w.heap[w0.heap.size]?=some (.cells #[.int .i64 r.size,.slice za zn zc,.slice la ln lc,.slice ta tn tc] 164 (0,0))
 res:w.heap[w0.heap.size+1]?=some (.cells #[.int .i64 0,.slice none 0 0,.slice none 0 0,.slice none 0 0] 164 (0,0))
 rows:o5 P w (.slice za zn zc) (.slice la ln lc) (.slice ta tn tc) r
 dh:ae w0 w
theorem o5.holds {P:Nat->Prop} {w w':World} {vz vl vt:Value} {r:aP} (h:o5 P w vz vl vt r) (hh:Holds P w w'):o5 P w' vz vl vt r:=⟨h.zero.holds hh,h.least.holds hh,h.told.holds hh⟩
theorem o5.grow {P:Nat->Prop} {w w':World} {vz vl vt:Value} {r:aP} (h:o5 P w vz vl vt r) (hg:ae w w'):o5 P w' vz vl vt r:=h.holds (.aX hg)
theorem mM.grow {P:Nat->Prop} {w0 w w':World} {r:aP} {za la ta:Option Addr} {zn zc ln lc tn tc:Nat} (h:mM P w0 w r za zn zc la ln lc ta tn tc) (hg:ae w w'):mM P w0 w' r za zn zc la ln lc ta tn tc :=
 ⟨Below.same hg _ _ h.own,Below.same hg _ _ h.res,h.rows.grow hg,h.dh.trans hg⟩
theorem aM.len {P:Nat->Prop} {w:World} {ad:Option Addr} {n c:Nat} {ls:List (List Int)} (h:aM P w (.slice ad n c) ls):n=ls.length:=by
 obtain ⟨_,_,e,_⟩:=h;cases e;rfl
theorem mM.less {P:Nat->Prop} {w0 w:World} {r:aP} {za la ta:Option Addr} {m zc ln lc tn tc:Nat} (h:mM P w0 w r za (m+1) zc la ln lc ta tn tc):mM P w0 (w.setCell ⟨w0.heap.size,1,none⟩ (.slice za m zc)) r.less za m zc la ln lc ta tn tc:=by
 have hb:=h.own;have hh:Holds P w (w.setCell ⟨w0.heap.size,1,none⟩ (.slice za m zc)):=bR hb (by decide) (λe=>absurd e (by decide)) _ _;have hlen:=h.rows.zero.len;refine ⟨?_,?_,⟨?_,h.rows.least.holds hh,h.rows.told.holds hh⟩,B_ (p:=⟨w0.heap.size,1,none⟩) h.dh (d_ _) _⟩
 ·have:=j_ w w0.heap.size 1 _ _ (.slice za m zc) hb;exact this
 ·exact (l_ _ _ _ _ (show w0.heap.size+1≠w0.heap.size by omega)).trans h.res
 ·have h1:=h.rows.zero;rw [aP.xS (show 0<r.zero.length by omega)] at h1;exact h1.front.holds hh
theorem EY (ls:List (List Int)) {i:Nat} (h:i<ls.length):ls.take (i+1)=ls.take i++[ls.getD i []]:=by
 rw [X_ h,a_,f_ h];rfl
theorem mM.store {P:Nat->Prop} {w0 w:World} {r r2:aP} {za la ta:Option Addr} {zn zc ln lc tn tc:Nat} (h:mM P w0 w r za zn zc la ln lc ta tn tc) {a1 a2 a3:Option Addr} {m1 c1 m2 c2 m3 c3:Nat} (h2:o5 P w (.slice a1 m1 c1) (.slice a2 m2 c2) (.slice a3 m3 c3) r2) :
  mM P w0 ((((w.setCell ⟨w0.heap.size,0,none⟩ (.int .i64 r2.size)).setCell ⟨w0.heap.size,1,none⟩ (.slice a1 m1 c1)).setCell ⟨w0.heap.size,2,none⟩ (.slice a2 m2 c2)).setCell ⟨w0.heap.size,3,none⟩ (.slice a3 m3 c3)) r2 a1 m1 c1 a2 m2 c2 a3 m3 c3:=by
 have hs:=iW (P:=P) h.dh (d_ _) h.own (r2.size:Int) a1 m1 c1 a2 m2 c2 a3 m3 c3;have hne:w0.heap.size+1≠w0.heap.size:=by omega
 refine ⟨?_,?_,h2.holds hs.2,hs.1⟩
 ·have b1:=j_ w w0.heap.size 0 _ _ (.int .i64 r2.size) h.own;have b2:=j_ _ w0.heap.size 1 _ _ (.slice a1 m1 c1) b1;have b3:=j_ _ w0.heap.size 2 _ _ (.slice a2 m2 c2) b2;have b4:=j_ _ w0.heap.size 3 _ _ (.slice a3 m3 c3) b3;exact b4
 ·exact (l_ _ _ _ _ hne).trans ((l_ _ _ _ _ hne).trans ((l_ _ _ _ _ hne).trans ((l_ _ _ _ _ hne).trans h.res)))
theorem mM.ret {P:Nat->Prop} {w0 w:World} {r:aP} {za la ta:Option Addr} {zn zc ln lc tn tc:Nat} (h:mM P w0 w r za zn zc la ln lc ta tn tc) (n:Int) (a1 a2 a3:Option Addr) (m1 c1 m2 c2 m3 c3:Nat) :
  ae w0 ((((w.setCell ⟨w0.heap.size+1,0,none⟩ (.int .i64 n)).setCell ⟨w0.heap.size+1,1,none⟩ (.slice a1 m1 c1)).setCell ⟨w0.heap.size+1,2,none⟩ (.slice a2 m2 c2)).setCell ⟨w0.heap.size+1,3,none⟩ (.slice a3 m3 c3))∧Holds P w ((((w.setCell ⟨w0.heap.size+1,0,none⟩ (.int .i64 n)).setCell ⟨w0.heap.size+1,1,none⟩ (.slice a1 m1 c1)).setCell ⟨w0.heap.size+1,2,none⟩ (.slice a2 m2 c2)).setCell ⟨w0.heap.size+1,3,none⟩ (.slice a3 m3 c3)) :=
 iW (P:=P) h.dh (show w0.heap.size<=w0.heap.size+1 by omega) h.res n a1 m1 c1 a2 m2 c2 a3 m3 c3
theorem mM.cells {P:Nat->Prop} {w0 w:World} {r:aP} {za la ta:Option Addr} {zn zc ln lc tn tc:Nat} (h:mM P w0 w r za zn zc la ln lc ta tn tc) :
  w.cell? ⟨w0.heap.size,0,none⟩=some (.int .i64 r.size)∧w.cell? ⟨w0.heap.size,1,none⟩=some (.slice za zn zc)∧w.cell? ⟨w0.heap.size,2,none⟩=some (.slice la ln lc)∧w.cell? ⟨w0.heap.size,3,none⟩=some (.slice ta tn tc)∧(∀ o,w.frozen? ⟨w0.heap.size,o,none⟩=false):=by
 refine ⟨?_,?_,?_,?_,λo=>aH h.own o⟩ <;> (rw [cellsOf h.own];rfl)
theorem mM.Rl {P:Nat->Prop} {w0 w:World} {r:aP} {za la ta:Option Addr} {zn zc ln lc tn tc:Nat} (h:mM P w0 w r za zn zc la ln lc ta tn tc) :
  w.cell? ⟨w0.heap.size+1,0,none⟩=some (.int .i64 0)∧w.cell? ⟨w0.heap.size+1,1,none⟩=some (.slice none 0 0)∧w.cell? ⟨w0.heap.size+1,2,none⟩=some (.slice none 0 0)∧w.cell? ⟨w0.heap.size+1,3,none⟩=some (.slice none 0 0)∧(∀ o,w.frozen? ⟨w0.heap.size+1,o,none⟩=false):=by
 refine ⟨?_,?_,?_,?_,λo=>aH h.res o⟩ <;> (rw [cellsOf h.res];rfl)
section
attribute [local go_sem] bE Cq
set_option maxHeartbeats 2000000 in
theorem uO (P:Nat->Prop) (L:Nat) (r:aP) (vr:Value) (w:World) (hP:∀ b,w.heap.size<=b->P b) (h:jV P w vr r) (hok:eP r) (hn:r.size<=100) (hlt:dG L r) (hK:20*iG L r.size+10<=1500000000000) :
  Calls Tryz.prog 162 #[vr] w λe w'=>∃ (v':Value) (ok:Bool),e=.returned (.tuple #[v',.bool ok])∧KZ v'∧Below w.heap.size w w'∧(ok=true->∃ r1,jV P w' v' r1.whole∧fF r r.zero.length r1∧∀ a∈r1.least,bD a r1.size=0->0<=a.getD 0 0)∧(ok=false->∀ A,¬ r.dX.kW A):=by
 obtain ⟨vz,vl,vt,rfl,h1,h2,h3⟩:=h;obtain ⟨za,zn,zc,rfl⟩:=h1.aB;obtain ⟨la,ln,lc,rfl⟩:=h2.aB;obtain ⟨ta,tn,tc,rfl⟩:=h3.aB;have HZN:Hid (zn=r.zero.length):=h1.len;have EJ:=af hok;have lF:=af hlt;have HI:Hid (mM P w ((w.alloc (.cells #[.int .i64 r.size,.slice za zn zc,.slice la ln lc,.slice ta tn tc] 164)).alloc (.cells #[.int .i64 0,.slice none 0 0,.slice none 0 0,.slice none 0 0] 164)) r za zn zc la ln lc ta tn tc):=by
  have hg:ae w ((w.alloc (.cells #[.int .i64 r.size,.slice za zn zc,.slice la ln lc,.slice ta tn tc] 164)).alloc (.cells #[.int .i64 0,.slice none 0 0,.slice none 0 0,.slice none 0 0] 164)):=ae.trans (ae.alloc _ _) (ae.alloc _ _);refine ⟨Below.same (ae.alloc _ _) _ _ (aG w _),?_,(o5.mk h1 h2 h3).grow hg,hg⟩;have:=aG (w.alloc (.cells #[.int .i64 r.size,.slice za zn zc,.slice la ln lc,.slice ta tn tc] 164)) (.cells #[.int .i64 0,.slice none 0 0,.slice none 0 0,.slice none 0 0] 164);rwa [H_] at this
 clear h1 h2 h3 hok hlt;go_enter Tryz.func162,Tryz.ntmps162;go_wp2_with fail;generalize hW:(w.alloc (.cells #[.int .i64 r.size,.slice za zn zc,.slice la ln lc,.slice ta tn tc] 164)).alloc (.cells #[.int .i64 0,.slice none 0 0,.slice none 0 0,.slice none 0 0] 164)=W at *
 clear hW;go_loopg [] zn (λk wr=>∃ (r':aP) (za:Option Addr) (nz zc:Nat) (la:Option Addr) (ln lc:Nat) (ta:Option Addr) (tn tc j:Nat),nz=k∧j+k=zn∧Hid (mM P w wr r' za nz zc la ln lc ta tn tc∧fF r j r'))
 case atStart=>exact ⟨r,za,zn,zc,la,ln,lc,ta,tn,tc,0,rfl,by omega,uh HI,.start r⟩
 case round =>
  clear HI;obtain ⟨r',za,nz,zc,la,ln,lc,ta,tn,tc,j,hnz,hjk,HR⟩:=hrel;have hown:=(uh HR).1.own;have k0:wr.cell? ⟨w.heap.size,0,none⟩=some (.int .i64 r'.size):=by rw [cellsOf hown];rfl
  have k1:wr.cell? ⟨w.heap.size,1,none⟩=some (.slice za nz zc):=by rw [cellsOf hown];rfl
  have k2:wr.cell? ⟨w.heap.size,2,none⟩=some (.slice la ln lc):=by rw [cellsOf hown];rfl
  have k3:wr.cell? ⟨w.heap.size,3,none⟩=some (.slice ta tn tc):=by rw [cellsOf hown];rfl
  have f1:=aH hown 1;clear hown;have Ot:=af ((uh HR).2.inv (uh EJ) (uh lF) hn);subst hnz;by_cases h0:0<nz
  ·obtain ⟨m,rfl⟩:∃ m,nz=m+1:=⟨nz - 1,by omega⟩;have hm:m<=1000:=by have h1:=(uh Ot).ok.Az;have h2:=(uh HR).1.rows.zero.len;omega
   have hzl:=(uh HR).1.rows.zero.len;obtain ⟨gz,oz,cz,u,ez,u0,hu,-⟩:=gT (uh HR).1.rows.zero (i:=m) (by omega);have hcz:=(uh HR).1.rows.zero.cap;rw [<-hzl] at ez;cases ez;have Yd:=af hzl;obtain ⟨ua,un,uc,rfl⟩:=hu.aB;have HU:=af hu;clear hzl hu;have hcast:(((m+1:Nat):Int) - 1)=(m:Int):=by omega
   have aeL:(((m:Int)+1) - 1)=(m:Int):=by omega
   have hmz:m<=zc:=by omega
   have HL:=af ((uh HR).1.less);generalize hWL:wr.setCell ⟨w.heap.size,1,none⟩ (.slice (some ⟨gz,oz,none⟩) m zc)=WL at *
   have g0:WL.cell? ⟨w.heap.size,0,none⟩=some (.int .i64 r'.size):=by rw [cellsOf (uh HL).own];rfl
   have g1:WL.cell? ⟨w.heap.size,1,none⟩=some (.slice (some ⟨gz,oz,none⟩) m zc):=by rw [cellsOf (uh HL).own];rfl
   have g2:WL.cell? ⟨w.heap.size,2,none⟩=some (.slice la ln lc):=by rw [cellsOf (uh HL).own];rfl
   have g3:WL.cell? ⟨w.heap.size,3,none⟩=some (.slice ta tn tc):=by rw [cellsOf (uh HL).own];rfl
   have HLZ:Hid (r'.bO=r'.zero.getD m []):=by unfold Hid aP.bO;rw [<-uh Yd];rfl
   have aar:Hid (aD P WL (.slice ua un uc) r'.bO):=by
    unfold Hid;rw [uh HLZ];rw [<-hWL];exact (uh HU).holds (bR (uh HR).1.own (by decide) (λe=>absurd e (by decide)) _ _)
   have HWO:=af (IJ P (iG L (r.size - r'.size)) r'.less r'.bO (.agg #[.int .i64 r'.size,.slice (some ⟨gz,oz,none⟩) m zc,.slice la ln lc,.slice ta tn tc]) (.slice ua un uc) WL (λb hb=>hP b (by have:=(uh HL).dh.size;omega)) ⟨_,_,_,rfl,(uh HL).rows.zero,(uh HL).rows.least,(uh HL).rows.told⟩ (uh aar) (uh Ot).ok.less ((uh Ot).ok.bO (by rw [<-uh Yd];omega)) (w_ (uh Ot).size hn) (uh Ot).lt.less (λk=>(uh Ot).lt.bO k) (by have:=C9 L (show r.size - r'.size<=r.size by omega);omega));clear aar HU;go_wp2_with fail;refine (uh HWO).mono ?_;rintro e w2 ⟨v',ok,rfl,⟨n',a1,m1,c1,a2,m2,c2,a3,m3,c3,rfl⟩,hb,ht,hf⟩;have HI2:Hid (mM P w (w2.alloc (.cells #[.int .i64 n',.slice a1 m1 c1,.slice a2 m2 c2,.slice a3 m3 c3] 164)) r'.less (some ⟨gz,oz,none⟩) m zc la ln lc ta tn tc):=((uh HL).grow hb).grow (ae.alloc _ _);clear g0 g1 g2 g3 k0 k1 k2 k3 u0 HWO;cases ok with
   | false =>
    have HF:Hid (∀ A,¬ r.dX.kW A):=λA hA=>Rk (r:=r') (by rw [<-uh Yd];omega) (hf rfl) A (((uh HR).2.qI A).2 hA);obtain ⟨z0,z1,z2,z3,yf⟩:=(uh HI2).Rl;have y0:=yf 0;have y1:=yf 1;have y2:=yf 2;have y3:=yf 3;clear hf ht hb yf;go_wp2;exact t_ (v:=.tuple #[.agg #[.int .i64 0,.slice none 0 0,.slice none 0 0,.slice none 0 0],.bool false]) (by simp [results,Tryz.results162,go_sem,z0,z1,z2,z3]) rfl ⟨_,false,rfl,⟨_,_,_,_,_,_,_,_,_,_,rfl⟩,((uh HI2).ret 0 none none none 0 0 0 0 0 0).1,λh=>(by cases h),λ_=>uh HF⟩
   | true =>
    obtain ⟨r2,⟨vz2,vl2,vt2,e2,hz2,hl2,ht2⟩,hwo⟩:=ht rfl;cases e2;have hal:ae w2 (w2.alloc (.cells #[.int .i64 r2.size,.slice a1 m1 c1,.slice a2 m2 c2,.slice a3 m3 c3] 164)):=ae.alloc _ _;have HS:Hid (o5 P (w2.alloc (.cells #[.int .i64 r2.size,.slice a1 m1 c1,.slice a2 m2 c2,.slice a3 m3 c3] 164)) (.slice a1 m1 c1) (.slice a2 m2 c2) (.slice a3 m3 c3) r2):=(o5.mk hz2 hl2 ht2).grow hal;have hm1:m1=m:=by
     have h1:=hz2.len;have h2:=(hwo.ok (uh Ot).ok.less).2.2;have h3:=(uh HL).rows.zero.len;omega
    have HST:Hid (fF r (j+1) r2):=(uh HR).2.snoc ⟨by rw [<-uh Yd];omega,hwo⟩;have HI3:=af ((uh HI2).store (uh HS));obtain ⟨k0,k1,k2,k3,kf⟩:=(uh HI2).cells;have f0:=kf 0;have f1:=kf 1;have f2:=kf 2;have f3:=kf 3;have hnb:=aG w2 (.cells #[.int .i64 r2.size,.slice a1 m1 c1,.slice a2 m2 c2,.slice a3 m3 c3] 164);have n0:(w2.alloc (.cells #[.int .i64 r2.size,.slice a1 m1 c1,.slice a2 m2 c2,.slice a3 m3 c3] 164)).cell? ⟨w2.heap.size,0,none⟩=some (.int .i64 r2.size):=by rw [cellsOf hnb];rfl
    have n1:(w2.alloc (.cells #[.int .i64 r2.size,.slice a1 m1 c1,.slice a2 m2 c2,.slice a3 m3 c3] 164)).cell? ⟨w2.heap.size,1,none⟩=some (.slice a1 m1 c1):=by rw [cellsOf hnb];rfl
    have n2:(w2.alloc (.cells #[.int .i64 r2.size,.slice a1 m1 c1,.slice a2 m2 c2,.slice a3 m3 c3] 164)).cell? ⟨w2.heap.size,2,none⟩=some (.slice a2 m2 c2):=by rw [cellsOf hnb];rfl
    have n3:(w2.alloc (.cells #[.int .i64 r2.size,.slice a1 m1 c1,.slice a2 m2 c2,.slice a3 m3 c3] 164)).cell? ⟨w2.heap.size,3,none⟩=some (.slice a3 m3 c3):=by rw [cellsOf hnb];rfl
    clear hf ht hb hz2 hl2 ht2 hwo kf hnb hal;subst hm1;go_wp2;go_roundg m1
    case measure=>omega
    case rel=>exact ⟨r2,a1,m1,c1,a2,m2,c2,a3,m3,c3,j+1,rfl,by omega,uh HI3,uh HST⟩
  ·have hz0:nz=0:=by omega
   subst hz0;have HJ:Hid (fF r r.zero.length r'):=by have h1:=(uh HR).2;have h2:j=r.zero.length:=(by have:=uh HZN;omega);rwa [h2] at h1
   have AJ:Hid (ln=r'.least.length):=(uh HR).1.rows.least.len;have uC:=af (uh HR).1;obtain ⟨WE,Za⟩:∃ WE,WE=wr:=⟨_,rfl⟩;subst Za;clear HR hjk h0;have hL0:20*iG L (r.size - r'.size)+10<=1500000000000:=by have:=C9 L (show r.size - r'.size<=r.size by omega);omega
   have hns:r'.size<=100:=w_ (uh Ot).size hn;have hln:ln<=1000:=by have h1:=(uh Ot).ok.vB;have h2:=uh AJ;omega
   go_wp2_with fail;go_loopg [7,8] ln (λk vl iv wr=>∃ (i:Nat) (a:Option Addr) (n c:Nat),iv=.int .i64 i∧vl=.slice a n c∧i+k=ln∧Hid (dC P WE.heap.size wr (.slice a n c) ((r'.least.take i).flatMap (jD r'.size))∧ae WE wr∧∀ x∈r'.least.take i,bD x r'.size=0->0<=x.getD 0 0))
   case atStart=>exact ⟨0,none,0,0,rfl,rfl,by omega,by simpa using dC.nil P _ _,ae.refl _,by simp⟩
   case round =>
    obtain ⟨i,aL,nL,cL,rfl,rfl,hik,HR⟩:=hrel;have HI:=af ((uh uC).grow (uh HR).2.1);obtain ⟨k0,k1,k2,k3,kf⟩:=(uh HI).cells;by_cases hlt:i<ln
    ·obtain ⟨gl,ol,cl,u,el,u0,hu,hmem⟩:=gT (uh HI).rows.least (i:=i) (by rw [<-uh AJ];exact hlt);rw [<-uh AJ] at el;cases el;obtain ⟨ua,un,uc,rfl⟩:=hu.aB;have HU:=af hu;have HM:=af hmem;have Jb:Hid ((r'.least.getD i []).length=r'.size+1):=(uh Ot).ok.dS _ hmem;have hi0:¬ ((i:Int)<0):=by omega
     have HC:=af (K3 P (iG L (r.size - r'.size)) r'.size (r'.least.getD i []) _ wr (λb hb=>hP b (by have:=(uh HI).dh.size;omega)) hu (uh Jb) hns ((uh Ot).lt.least i) (by omega));clear hu hmem kf;go_wp2_with fail;refine (uh HC).mono ?_;rintro e w1 ⟨v1,rfl,hv1,hb1⟩;obtain ⟨dx,da,dm,dc,rfl⟩:=hv1.shape;have zQ:=af (dD hv1);have HG2:Hid (ae wr (w1.alloc (.cells #[.int .i64 dx,.slice da dm dc] 168))):=ae.trans hb1 (ae.alloc _ _);have hge:wr.heap.size<=w1.heap.size:=hb1.size;clear hv1 hb1 HC;have q0:=(uh zQ).cells.1;have q1:=(uh zQ).cells.2.1;go_wp2_with fail;refine (bZ P _ _ _ (uh zQ).val).mono ?_;rintro e w3 ⟨rfl,hw3⟩;have HV:=af ((uh zQ).grow hw3);have je:=af (ae.trans (uh HG2) hw3);have HI3:=af ((uh HI).grow (uh je));have oJ:=af ((uh HR).1.grow (uh je));have HU3:=af ((uh HU).below (uh je));have g2:=(uh HI3).cells.2.2.1;have v0:=(uh HV).cells.1;have v1:=(uh HV).cells.2.1;have u3:=(uh je).cell u0;clear hw3 zQ HG2 HI HU q0 q1 k0 k1 k2 k3 u0;generalize w1.heap.size=gd at *
     by_cases hc:bD (r'.least.getD i []) r'.size=0
     ·have hs0:Int.sign (bD (r'.least.getD i []) r'.size)=0:=by rw [hc];rfl
      rw [hs0];obtain ⟨gs,os,ac,px,pa,pm,pc,es,p0,p1,hpv⟩:=eY (uh HU3) (i:=0) (by rw [uh Jb];omega);rw [uh Jb] at es;cases es;rw [show os+0*2=os by omega] at p0 p1;have wB:=af hpv;have HC0:=af hc;clear hc hs0 hpv;go_wp2_with fail;refine (bZ P _ _ _ (uh wB)).mono ?_;rintro e w4 ⟨rfl,hw4⟩;have kE:=af (ae.trans (uh je) hw4);have HI4:=af ((uh HI3).grow hw4);have HO4:=af ((uh oJ).grow hw4);clear hw4 g2 v0 v1 u3 p0 p1;by_cases hneg:(r'.least.getD i []).getD 0 0<0
      ·rw [E_ hneg];have HF:Hid (∀ A,¬ r.dX.kW A):=λA hA=>KY (uh HM) (uh HC0) hneg A (((uh HJ).qI A).2 hA);obtain ⟨z0,z1,z2,z3,yf⟩:=(uh HI4).Rl;have y0:=yf 0;have y1:=yf 1;have y2:=yf 2;have y3:=yf 3;clear hneg yf;go_wp2;exact t_ (v:=.tuple #[.agg #[.int .i64 0,.slice none 0 0,.slice none 0 0,.slice none 0 0],.bool false]) (by simp [results,Tryz.results162,go_sem,z0,z1,z2,z3]) rfl ⟨_,false,rfl,⟨_,_,_,_,_,_,_,_,_,_,rfl⟩,((uh HI4).ret 0 none none none 0 0 0 0 0 0).1,λh=>(by cases h),λ_=>uh HF⟩
      ·obtain ⟨sg,hsg⟩:∃ sg,Int.sign ((r'.least.getD i []).getD 0 0)=sg:=⟨_,rfl⟩;have d0:decide (sg<0)=false:=by
        rw [<-hsg];simp only [decide_eq_false_iff_not,Int.not_lt];rcases (show (r'.least.getD i []).getD 0 0=0∨0<(r'.least.getD i []).getD 0 0 by omega) with h | h
        ·rw [h];decide
        ·rw [J_ h];decide
       have d1:¬ (sg<0):=by simpa using d0
       rw [hsg];have HN:Hid ((r'.least.take (i+1)).flatMap (jD r'.size)=(r'.least.take i).flatMap (jD r'.size)∧∀ x∈r'.least.take (i+1),bD x r'.size=0->0<=x.getD 0 0):=by
        have e:=EY (r'.least) (i:=i) (by rw [<-uh AJ];exact hlt);constructor
        ·rw [e,List.flatMap_append];rw [List.flatMap_singleton,jD,h_ (uh HC0),abN]
        ·rw [e];intro x hx hx0;rcases F_.1 hx with h|h
         ·exact (uh HR).2.2 x h hx0
         ·rw [I_] at h;rw [h];omega
       clear hneg hsg;go_wp2;go_roundg (gk - 1)
       case measure=>omega
       case rel=>exact ⟨i+1,aL,nL,cL,by simp,rfl,by omega,by rw [(uh HN).1];exact uh HO4,(uh HR).2.1.trans (uh kE),(uh HN).2⟩
     ·obtain ⟨sg,hsg⟩:∃ sg,Int.sign (bD (r'.least.getD i []) r'.size)=sg:=⟨_,rfl⟩;have hs1:sg≠0:=by rw [<-hsg];intro h;exact hc (abI.1 h)
      have d1:(sg != 0)=true:=by simpa using hs1
      have d2:(sg == 0)=false:=by simp [hs1]
      rw [hsg];have HC1:=af hc;clear hsg hc hs1;obtain ⟨row,hrow⟩:∃ row,gU r'.size (r'.least.getD i []) (bD (r'.least.getD i []) r'.size)=row:=⟨_,rfl⟩;have sO:=af hrow;have XX:Hid (∀ wq,ae w3 wq->Calls Tryz.prog 215 #[.slice ua un uc,.agg #[.int .i64 dx,.slice da dm dc]] wq λe w'=>∃ v',e=.returned v'∧aD P w' v' row∧Below wq.heap.size wq w'):=λwq hg=>by
       rw [<-hrow];exact IK P (iG L (r.size - r'.size)) (r'.size+1) (r'.least.getD i []) (bD (r'.least.getD i []) r'.size) _ _ wq (λb' hb'=>hP b' (by have h1:=(uh HI3).dh.size;have h2:=hg.size;omega)) ((uh HU3).below hg) ((uh HV).val.below hg) (uh Jb) (by omega) ((uh Ot).lt.least i) (zY ((uh Ot).lt.least i) _) (by omega)
      clear hrow;go_wp2_with fail;have x2:=b_ g2;have x3:=b_ u3;have x4:=b_ v0;have x5:=b_ v1;clear g2 u3 v0 v1;refine zP (cK [(63,λv w=>aD P w v row),(64,fM P row)]) (gL [(63,bf),(64,pX)]) 79 9 (by kernel_rfl) (by rfl) (by kernel_rfl) (aN (λ_ _ _=>aD.below) (aN (λ_ _ _=>fM.grow) cO)) ?_
      iterate 7 (refine aO λK hK=>?_;go_simp;refine hK _ ?_;clear hK K)
      refine ai bf 215 #[.slice ua un uc,.agg #[.int .i64 dx,.slice da dm dc]] (by rfl) (by rfl) bf.some (λw=>by go_simp) (λwq hg hf=>(uh XX wq hg).mono (by rintro e w' ⟨v',rfl,hv,hb⟩;exact ⟨_,rfl,hb,hv.aB,λt ht=>by cases ht;exact hv⟩)) ?_;rintro _ ⟨xa,xm,xc,rfl⟩;refine eT pX (by rfl) (by rfl) pX.some (λwq hg hf=>⟨.slice (some ⟨wq.heap.size,0,none⟩) 1 1,wq.alloc (.cells #[.slice xa xm xc] 159),by go_simp,ae.alloc _ _,⟨_,rfl⟩,λt ht=>by cases ht;exact fM.new (hf 7 (by kernel_rfl) _ 63 rfl rfl)⟩) ?_;rintro _ ⟨gx,rfl⟩;refine aF ?_;intro w4 hg4 aK;have hfr:fM P row (.slice (some ⟨gx,0,none⟩) 1 1) w4:=aK 8 _ 64 (by decide) rfl rfl;clear aK;obtain ⟨gx',u,ex,hbx,Sg⟩:=hfr;cases ex;have HO4:=af ((uh oJ).grow hg4);have hB4:WE.heap.size<=w4.heap.size:=((uh HR).2.1.trans ((uh je).trans hg4)).size;have Va:((r'.least.take i).flatMap (jD r'.size)).length<=1000000:=by
       have h1:=yB r'.size (r'.least.take i);rw [U_] at h1;have h2:=uh AJ;omega
      have hnL:nL=((r'.least.take i).flatMap (jD r'.size)).length:=(uh HO4).len;refine DI (P:=P) (.tmp 56) (.tmp 64) rfl WE.heap.size (.slice aL nL cL) ((r'.least.take i).flatMap (jD r'.size)) row u rfl (uh HO4) gx 1 rfl hbx Sg Va hB4 ?_;intro g cap w5 hown5 Vb _;have gG:Hid (Below WE.heap.size WE w5):=abt ((uh HR).2.1.trans ((uh je).trans hg4)) Vb;have HN:Hid (dC P WE.heap.size w5 (.slice (some ⟨g,0,none⟩) (((r'.least.take i).flatMap (jD r'.size)).length+1) cap) ((r'.least.take (i+1)).flatMap (jD r'.size))∧∀ x∈r'.least.take (i+1),bD x r'.size=0->0<=x.getD 0 0):=by
       have e:=EY (r'.least) (i:=i) (by rw [<-uh AJ];exact hlt);constructor
       ·rw [e,List.flatMap_append,List.flatMap_singleton,jD,g_ (uh HC1),uh sO];exact hown5
       ·rw [e];intro x hx hx0;rcases F_.1 hx with h|h
        ·exact (uh HR).2.2 x h hx0
        ·rw [I_] at h;rw [h] at hx0;exact absurd hx0 (uh HC1)
      generalize (((r'.least.take i).flatMap (jD r'.size)).length+1)=n5 at *
      clear hown5 Vb hg4 hbx Sg HO4 hB4 Va hnL;show Oper.wp _ _ _ _ _ _;go_wp2;go_roundg (gk - 1)
      case measure=>omega
      case rel=>exact ⟨i+1,_,_,_,by simp,rfl,by omega,(uh HN).1,uh gG,(uh HN).2⟩
    ·have hin:i=ln:=by omega
     have HF:Hid (dC P WE.heap.size wr (.slice aL nL cL) (r'.least.flatMap (jD r'.size))∧∀ x∈r'.least,bD x r'.size=0->0<=x.getD 0 0):=by
      have h1:=(uh HR).1;have h2:=(uh HR).2.2;rw [hin,uh AJ,aaV] at h1 h2;exact ⟨h1,h2⟩
     have Nq:Hid (o5 P wr (.slice za 0 zc) (.slice aL nL cL) (.slice ta tn tc) r'.whole):=⟨(uh HI).rows.zero,(uh HF).1.rows (λg hg=>hP g (w_ (uh uC).dh.size hg)),(uh HI).rows.told⟩;have f2:=kf 2;have hb:=(uh HI).own;have HH:Hid (Holds P wr (wr.setCell ⟨w.heap.size,2,none⟩ (.slice aL nL cL))):=bR hb (by decide) (λe=>absurd e (by decide)) _ _;have HI2:Hid (mM P w (wr.setCell ⟨w.heap.size,2,none⟩ (.slice aL nL cL)) r'.whole za 0 zc aL nL cL ta tn tc):=by
      refine ⟨?_,?_,(uh Nq).holds (uh HH),B_ (p:=⟨w.heap.size,2,none⟩) (uh HI).dh (d_ _) _⟩
      ·have:=j_ wr w.heap.size 2 _ _ (.slice aL nL cL) hb;exact this
      ·exact (l_ _ _ _ _ (show w.heap.size+1≠w.heap.size by omega)).trans (uh HI).res
     generalize Wq:wr.setCell ⟨w.heap.size,2,none⟩ (.slice aL nL cL)=WF at *
     obtain ⟨j0',j1,j2,j3,_⟩:=(uh HI2).cells;have j0:WF.cell? ⟨w.heap.size,0,none⟩=some (.int .i64 r'.size):=j0';obtain ⟨z0,z1,z2,z3,yf⟩:=(uh HI2).Rl;have y0:=yf 0;have y1:=yf 1;have y2:=yf 2;have y3:=yf 3;have EB:=af ((uh HI2).ret (r'.size:Int) za aL ta 0 zc nL cL tn tc);have Rc:=af ((uh HI2).rows.holds (uh EB).2);clear kf hb yf j0';go_wp2;exact t_ (v:=.tuple #[.agg #[.int .i64 (r'.size:Int),.slice za 0 zc,.slice aL nL cL,.slice ta tn tc],.bool true]) (by simp [results,Tryz.results162,go_sem,z0,z1,z2,z3]) rfl ⟨_,true,rfl,⟨_,_,_,_,_,_,_,_,_,_,rfl⟩,(uh EB).1,λ_=>⟨r',⟨_,_,_,rfl,(uh Rc).zero,(uh Rc).least,(uh Rc).told⟩,uh HJ,(uh HF).2⟩,λh=>(by cases h)⟩
end
theorem sZ {P:Nat->Prop} {w w':World} {b gl gc:Nat} {t:Pl.aR} (h:aV P w b gl gc t) (ht:bH (mD b gl gc) w w'):Holds P w w':=by
 intro k cs T hT hk hc;refine ht.block k (z_ hc) ?_;obtain ⟨⟨fG,jq,sx,sa,sm,sc,h1,h2,cs1,h3,_⟩,_,h10⟩:=h;rintro (e|e|e)
 ·rw [e,h1] at hc;simp only [Option.some.injEq,Obj.cells.injEq] at hc;rw [<-hc.2.1] at hT;rcases hT with h|h|h <;> exact absurd h (by decide)
 ·rw [e,h3] at hc;simp only [Option.some.injEq,Obj.cells.injEq] at hc;rw [<-hc.2.1] at hT;rcases hT with h|h|h <;> exact absurd h (by decide)
 ·rw [e] at hk;exact h10 hk
theorem FE {F:Int->Nat->Int} {n L:Nat} {U:List Int} {t:Pl.aR} (hn:n<=9) (hok:Pl.bN F n t) (hst:Pl.Stat U n t) (hU:∀ x∈U,∀ k,k<n+1->Pl.Lt L (F x k)):qi ((n+1)*L+1) t:=by
 have hs:Pl.Small F n t (1073741824^L):=⟨jX L,λc hc k hk=>Cr (hU _ (hst.aS _ ⟨c,hc,rfl⟩) k hk),λr hr k hk=>Cr (hU _ (hst.lines _ ⟨r,hr,rfl⟩) k hk)⟩;have hp:=hok.pos;have hb:=xw (n:=n) (L:=L) hn;refine ⟨λr j hr hj=>?_,?_⟩
 ·rw [hok.aS] at hj;obtain ⟨h1,h2⟩:=hok.LC hs hr hj;exact Er h1 h2 hb
 ·have h1:=hok.GX hs;exact Er (by omega) (abk _) (by omega)
def aP.S (r:aP) (i k:Nat):Int:=(r.least.getD i []).getD k 0
theorem V5 {r:aP} {L:Nat} (hL:1<=L) (hl:dG L r) {x:Int} (hx:x∈Pl.gX r.size r.least.length) (k:Nat):Pl.Lt L (Pl.gJ r.S x k):=by
 rcases F_.1 hx with h|h
 ·obtain ⟨i,_,rfl⟩:=m_.1 h;rw [Pl.iY];exact hl.least i k
 ·obtain ⟨j,_,rfl⟩:=m_.1 h;rw [Pl.xy];unfold Pl.unit;obtain ⟨L',rfl⟩:∃ L',L=L'+1:=⟨L - 1,by omega⟩
  split <;> exact dU (by decide)
theorem SV {F:Int->Nat->Int} {U:List Int} {L:Nat} {s:List Int} (hU:∀ x∈U,∀ k,Pl.Lt L (F x k)) (hs:∀ k,Pl.Lt L (s.getD k 0)):∀ x∈(-1073741824:Int)::U,∀ k,Pl.Lt L (mE F s x k):=by
 intro x hx k;by_cases e:x=-1073741824
 ·rw [e,rT];exact hs k
 ·rw [fT e];rcases abp.1 hx with h|h
  ·exact absurd h e
  ·exact hU x h k
theorem SX {n m:Nat} {S:Nat->Nat->Int} (hn:n<=100) (hm:m<=1000) {D:List Nat} {U:List Int} (hU:Pl.dK n m D U):xz (Pl.gJ S) n U:=by
 refine ⟨λk h1 h2=>?_,λx hx=>?_,λk h1 h2=>?_⟩
 ·have e:-(k:Int)=-1 - ((k - 1:Nat):Int):=by omega
  rw [e,Pl.xy,show k - 1+1=k by omega]
 ·rcases F_.1 ((hU x).1 hx).1 with h | h
  ·obtain ⟨i,hi,rfl⟩:=m_.1 h;have:=W_.1 hi;omega
  ·obtain ⟨i,hi,rfl⟩:=m_.1 h;have:=W_.1 hi;omega
 ·refine (hU _).2 ⟨F_.2 (.inr (m_.2 ⟨k - 1,W_.2 (by omega),by omega⟩)),λj _=>by omega⟩
theorem GY {r:aP} (hz:r.zero=[]) (ht:r.dX.gM):Pl.gM (Pl.gJ r.S) r.size r.least.length:=by
 intro D d0 hD k hk;have key:=ht (λi=>D (i+1)) (λs hs=>by
  have:r.dX.zero=[]:=by show r.zero.map lf=[];rw [hz];rfl
  rw [this] at hs;cases hs) (λs hs=>by
  obtain ⟨a,ha,rfl⟩:=m_.1 hs;obtain ⟨i,hi,e⟩:=abw.1 ha;have h1:=hD i hi;rw [Pl.iY] at h1;have e2:r.S i=lf a:=by
   funext k;unfold aP.S lf;rw [a_ (l:=r.least),f_ hi,e];rfl
  rw [e2] at h1;unfold Pl.ev at h1;rw [Pl.yI,d0,Y_,Int.zero_add] at h1;exact h1)
 rcases k with _|k
 ·exact d0
 ·exact key k (by show k<r.size;omega)
theorem rU {r:aP} (x:Nat->Int):(∀ a∈r.least,0<=Pl.ev r.size (lf a) (Pl.pt x))↔Pl.oo r.size r.least.length r.S (Pl.pt x):=by
 have e2:∀ i (hi:i<r.least.length),r.S i=lf r.least[i]:=λi hi=>by
  funext k;unfold aP.S lf;rw [a_ (l:=r.least),f_ hi];rfl
 constructor
 ·intro h i hi;rw [e2 i hi];exact h _ (aan hi)
 ·intro h a ha;obtain ⟨i,hi,e⟩:=abw.1 ha;rw [<-e,<-e2 i hi];exact h i hi
theorem Ns {r:aP} (hz:r.zero=[]) (ht:r.dX.gM) (hn:0<r.size):0<r.least.length:=by
 apply v_;intro hc;have hl:r.least=[]:=aaD (by omega);have:=ht (λ_=>1) (λs hs=>by
  have:r.dX.zero=[]:=by show r.zero.map lf=[];rw [hz];rfl
  rw [this] at hs;cases hs) (λs hs=>by
  have:r.dX.least=[]:=by show r.least.map lf=[];rw [hl];rfl
  rw [this] at hs;cases hs) 0 hn
 simp at this
end Go.Proofs.YtfaljekgpnbmiaaGreat
