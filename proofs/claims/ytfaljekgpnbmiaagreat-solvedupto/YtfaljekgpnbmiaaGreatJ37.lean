/- Joined: XFind2 XFind3 XFind4 XLow1 XSim0. -/
import Derived.Test.YtfaljekgpnbmiaaGreatJ22
import Derived.Test.YtfaljekgpnbmiaaGreatJ34
import Derived.Test.YtfaljekgpnbmiaaGreatJ36
set_option linter.unusedVariables false
set_option linter.unusedSimpArgs false
set_option maxRecDepth 100000
namespace Go.Proofs.YtfaljekgpnbmiaaGreat
open Go.RowKit Go.Sort
section
variable {r r1:aP} {L k:Nat}
theorem fF.mO (h:fF r k r1) (ht:r.dX.gM):r1.dX.gM:=by
 obtain ⟨T,h0,hk,hs⟩:=h;have:∀ i,i<=k->(T i).dX.gM:=λi=>by
  induction i with
  | zero=>intro _;rw [h0];exact ht
  | succ i ih=>intro hi;exact (hs i (by omega)).mO (ih (by omega))
 rw [<-hk];exact this k (d_ _)
structure SK (r r2:aP) (L:Nat):Prop where
 zero:r2.zero=[]
 ok:eP r2
 size:r2.size<=r.size
 lt:dG (iG L (r.size - r2.size)) r2
 mO:r2.dX.gM
 qI:∀ A,r2.dX.kW A↔r.dX.kW A
 told:r2.told.length=r.told.length
 pK:r2.least.length<=r.least.length
 some:∀ a∈r2.least,∃ i,i<r2.size∧a.getD (i+1) 0≠0
theorem jC.lens {s:Nat->Int} {r':aP} (h:jC r s r'):r'.told.length=r.told.length∧r'.least.length=r.least.length:=by
 rcases h with ⟨rfl,_⟩|⟨at_,kk,St,x,_,_,_,rfl⟩
 ·exact ⟨rfl,rfl⟩
 ·simp [aP.fixed,aP.bL]
theorem fF.lens (h:fF r k r1):r1.told.length=r.told.length∧r1.least.length=r.least.length:=by
 obtain ⟨T,h0,hk,hs⟩:=h;have:∀ i,i<=k->(T i).told.length=r.told.length∧(T i).least.length=r.least.length:=λi=>by
  induction i with
  | zero=>intro _;rw [h0];exact ⟨rfl,rfl⟩
  | succ i ih =>
   intro hi;have h1:=(hs i (by omega)).2.lens;have h2:=ih (by omega);exact ⟨h1.1.trans h2.1,h1.2.trans h2.2⟩
 rw [<-hk];exact this k (d_ _)
theorem Fw {n:Nat} {a:List Int} (h:bD a n≠0):∃ i,i<n∧(gU n a (bD a n)).getD (i+1) 0≠0:=by
 apply v_;intro hc;have hz:∀ i,i<n->a.getD (i+1) 0=0:=λi hi=>by
  have h1:=qd h hi;have h2:lf (gU n a (bD a n)) (i+1)=0:=v_ λh3=>hc ⟨i,hi,h3⟩;rw [h2,Y_] at h1;exact h1
 have:∀ m,m<=n->bD a m=0:=λm=>by
  induction m with
  | zero=>intro _;rfl
  | succ m ih =>
   intro hm;show (Int.gcd (bD a m) (a.getD (m+1) 0):Int)=0;rw [ih (by omega),hz m (by omega)];rfl
 exact h (this n (d_ _))
theorem uI (hok:eP r) (hlt:dG L r) (hn:r.size<=100) (ht:r.dX.gM) (h:fF r r.zero.length r1) (hc:∀ a∈r1.least,bD a r1.size=0->0<=a.getD 0 0):SK r r1.whole L:=by
 have hi:=h.inv hok hlt hn;have hz:r1.zero=[]:=aaD (by have:=hi.left;omega);refine ⟨hz,hi.ok.whole,hi.size,hi.lt.whole,J4 (h.mO ht),λA=>(Nc hc A).trans (h.qI A),h.lens.1,?_,λa ha=>?_⟩
 ·have h1:(r1.least.flatMap (jD r1.size)).length<=r1.least.length:=yB r1.size r1.least;have h2:=h.lens.2;show (r1.least.flatMap (jD r1.size)).length<=_;omega
 ·obtain ⟨b,hb,hb2⟩:=abT.1 ha;obtain ⟨e,hp⟩:=zH hb2;rw [e];exact Fw (n:=r1.size) (Int.ne_of_gt hp)
end
section
variable {r r1 r':aP} {L k:Nat}
def aP.Cf (r:aP):Prop:=0<r.zero.length∧∃ i,i<r.size∧r.bO.getD (i+1) 0≠0
theorem P5 {n:Nat} {s:Nat->Int} {i:Nat} (hi:i<n):Pl.dir n s (Pl.unit i)=s (i+1):=by
 unfold Pl.dir;rw [Pl.iM i hi λj _ hj=>by unfold Pl.unit;rw [g_ (λe=>hj e.symm),Y_]];unfold Pl.unit;rw [h_ rfl,adr]
theorem uw.lead (h:uw r r') (hl:r.Cf):r'.size+1=r.size:=by
 obtain ⟨h0,hw⟩:=h;rcases hw with ⟨rfl,_,kk,St,hr,hz⟩|⟨at_,kk,St,x,h1,_,_,rfl⟩
 ·exfalso;obtain ⟨_,i,hi,hne⟩:=hl;refine hne ?_;have hi':i<r.less.size:=hi;have e0:=P5 (s:=lf r.bO) hi';obtain ⟨y,hy⟩:=hr.OX.reach (Pl.unit i);have e1:Pl.dir r.less.size (lf r.bO) (Pl.unit i)=Pl.dir r.less.size (Pl.qg r.less.size St (lf r.bO)) y:=by
   rw [Pl.yC];exact Pl.El hy
  have e2:Pl.dir r.less.size (Pl.qg r.less.size St (lf r.bO)) y=0:=by
   unfold Pl.dir;exact Pl.kF λj hj=>by
    rw [Pl.lU];have h3:Pl.aQ r.less.size St (lf r.bO) j=0:=hz j hj;rw [h3,aa_]
  have:lf r.bO (i+1)=0:=by rw [<-e0,e1,e2]
  exact this
 ·have:=h1.lt;show r.size - 1+1=r.size;have e:r.less.size=r.size:=rfl;omega
theorem uw.size (h:uw r r'):r'.size<=r.size:=by
 obtain ⟨_,hw⟩:=h;rcases hw with ⟨rfl,_⟩|⟨at_,kk,St,x,h1,_,_,rfl⟩
 ·exact d_ _
 ·exact Nat.sub_le _ _
theorem fF.lead (h:fF r k r1) (hk:0<k) (hl:r.Cf):r1.size<r.size:=by
 obtain ⟨T,h0,e,hs⟩:=h;have h1:=(hs 0 hk).lead (by rw [h0];exact hl);have:∀ i,i<k->(T (i+1)).size<=(T 1).size:=λi=>by
  induction i with
  | zero=>intro _;exact d_ _
  | succ i ih=>intro hi;exact w_ (hs (i+1) hi).size (ih (by omega))
 have h2:=this (k - 1) (by omega);rw [show k - 1+1=k by omega,e] at h2;rw [h0] at h1;simp only [M_] at h1;omega
theorem SL {r:aP} (h0:0<r.zero.length) (h:∀ a∈r.zero,∃ i,i<r.size∧a.getD (i+1) 0≠0):r.Cf:=by
 refine ⟨h0,h _ ?_⟩;unfold aP.bO;rw [a_,f_ (by omega)];exact aan _
theorem Nf {K M:Nat} {a st:List Int} (ha:∀ k,Pl.Lt K (a.getD k 0)) (hs:∀ k,Pl.Lt M (st.getD k 0)) {i:Nat} (hi:i<=1000):Pl.Lt (K+M+1) (nu a st i) :=
 Pl.Lt.sum (λk _=>(ha (k+1)).mul (hs k)) (by omega)
theorem dG.SN {L K:Nat} {r:aP} {M:List (List Int)} (h:dG L r) (hM:∀ i k,Pl.Lt K ((M.getD i []).getD k 0)) (hn:r.size<=100):dG (L+K+1) (r.bL M):=by
 have key:∀ ls:List (List Int),(∀ i k,Pl.Lt L ((ls.getD i []).getD k 0))->∀ i k,Pl.Lt (L+K+1) (((ls.map (λa=>dI a M r.size)).getD i []).getD k 0):=λls hls i k=>by
  rcases hi:ls[i]? with _|a
  ·have e:(ls.map (λa=>dI a M r.size)).getD i []=[]:=by rw [a_,aas,hi];rfl
   rw [e];exact lC _
  ·have e:(ls.map (λa=>dI a M r.size)).getD i []=dI a M r.size:=by rw [a_,aas,hi];rfl
   have ha:ls.getD i []=a:=by rw [a_,hi];rfl
   have DK:=hls i;rw [ha] at DK;rw [e];unfold dI;by_cases hk:k<r.size+1
   ·rw [Pl.bK _ _ _ hk];unfold mh
    split
    ·exact (DK 0).mono (by omega)
    ·exact Nf DK (hM _) (by omega)
   ·rw [a_,P_ (by simp;omega)];exact lC _
 exact ⟨key _ h.zero,key _ h.least,key _ h.told⟩
theorem GH {n:Nat} {s t:Nat->Int} (h:∀ k,k<=n->s k=t k) (D:Nat->Int):Pl.dir n s D=Pl.dir n t D:=by
 unfold Pl.dir;exact Pl.aC λi hi=>by rw [h (i+1) (by omega)]
theorem J5 {f g:List Int->Nat->Int} {r:aP} {n:Nat} (h:∀ a k,k<=n->f a k=g a k) (ht:(oM f r n).gM):(oM g r n).gM:=by
 intro D d1 d2;refine ht D (λs hs=>?_) (λs hs=>?_)
 ·obtain ⟨a,ha,rfl⟩:=m_.1 hs;exact (GH (h a) D).trans (d1 (g a) (m_.2 ⟨a,ha,rfl⟩))
 ·obtain ⟨a,ha,rfl⟩:=m_.1 hs;exact acW (d2 (g a) (m_.2 ⟨a,ha,rfl⟩)) (Int.le_of_eq (GH (h a) D).symm)
theorem GI {St:Nat->Nat->Int} (hU:Pl.Em r.size St) (ht:r.dX.gM):(r.bL (iU r.size St)).dX.gM:=by
 have h1:=ht.uJ hU;rw [Fx] at h1;rw [rf];exact J5 (λa k hk=>(jh a k hk).symm) h1
theorem J6 {St:Nat->Nat->Int} (hU:Pl.Em r.size St) (A:List Int):(r.bL (iU r.size St)).dX.kW A↔r.dX.kW A:=by
 rw [rf];refine (Ng jh A).trans ?_;rw [<-Fx];exact Pl.mQ.P6 hU A
theorem En {t:Nat} (ht:t<r.size) (v:Int) (A:List Int):(r.fixed t v).dX.kW A↔∃ x,r.dX.Has x∧r.dX.fD x=A∧x t=v:=by
 rw [sQ];exact Pl.mQ.Bi (r:=r.dX) ht v A
theorem J7 {t:Nat} (ht:t<r.size) (v:Int) (h:r.dX.gM):(r.fixed t v).dX.gM:=by
 rw [sQ];exact Pl.mQ.gM.fix (r:=r.dX) h ht v
end
def YJ (n L:Nat):Nat:=(n+1)*L+1
def UC (n L:Nat):Nat:=2*YJ n L+2*L+1
def VM (n L:Nat):Nat:=zI n (UC n L)
def XR (n L:Nat):Nat:=L+VM n L+1
def GJ (n L:Nat):Nat:=(n+1)*XR n L+1
def srF (n L:Nat):Nat:=XR n L+GJ n L+1
theorem VN (n L:Nat):L<=UC n L:=by unfold UC;omega
theorem P7 (n L:Nat):UC n L<=VM n L:=by
 unfold VM zI oZ;rw [abC,ab4];omega
structure Room (N:Nat) (G:Nat->Nat):Prop where
 size:N<=9
 one:∀ s,s<=N->1<=G s
 drop:∀ s,s<N->15*G (s+1)+6<=G s
 part:∀ s,s<N->srF (s+1) (G (s+1))<=G s
 settle:∀ s,s<=N->20*iG (G s) s+10<=1500000000000
 reduce:∀ s,s<=N->3*((s+1)*wJ s (VM s (G s)) s+1)+20<=1500000000000
 limits:∀ s,s<=N->2*GJ s (G s)+20<=1500000000000
theorem Room.iG {N:Nat} {G:Nat->Nat} (h:Room N G) {s:Nat} (hs:s<=N):∀ k,k<=s->iG (G s) k<=G (s - k)
 | 0,_=>d_ _
 | k+1,hk=>by
  have h1:=Room.iG h hs k (by omega);have h2:=h.drop (s - (k+1)) (by omega);rw [show s - (k+1)+1=s - k by omega] at h2;show 15*Go.Proofs.YtfaljekgpnbmiaaGreat.iG (G s) k+6<=_;omega
def Nh (B:Nat) (v:Value):Prop:=∃ g n cap,v=.slice (some ⟨g,0,none⟩) n cap∧B<=g
theorem Nh.mono {B B':Nat} {v:Value} (h:Nh B v) (hb:B'<=B):Nh B' v:=by
 obtain ⟨g,n,cap,e,h1⟩:=h;exact ⟨g,n,cap,e,by omega⟩
theorem aD.apart {P:Nat->Prop} {w:World} {v:Value} {l:List Int} (hP:aD P w v l) {B k:Nat} {cs:Array Value} (hv:Nh B v) (hk:k<B) (hb:w.heap[k]?=some (.cells cs 168 (0,0))):aD (λj=>P j∧j≠k) w v l:=by
 obtain ⟨g,n,cap,rfl,hg⟩:=hv;obtain ⟨ad,cap',e,h1,h2⟩:=hP;refine ⟨ad,cap',e,h1,λi hi=>?_⟩;obtain ⟨g',off,x,a,m,c,e',c1,c2,hw,hp,hcs⟩:=h2 i hi;have eg:g'=g:=by rw [e'] at e;cases e;rfl
 refine ⟨g',off,x,a,m,c,e',c1,c2,?_,⟨hp,by omega⟩,hcs⟩;rcases hw with hw|⟨l',b,off',YK,cs',sg,h3,h4,h5,h6⟩
 ·exact .inl hw
 ·refine .inr ⟨l',b,off',YK,cs',sg,h3,⟨h4,λe2=>?_⟩,h5,h6⟩;rw [e2,hb] at h5;simp at h5
set_option maxHeartbeats 20000000 in
theorem DL (P:Nat->Prop) (n:Nat) (ls:List (List Int)) (va:Value) (w:World) (hP:∀ b,w.heap.size<=b->P b) (ha:aM P w va ls) (hla:ls.length=n) (hn:n<=1000) (hne:∀ l∈ls,0<l.length) :
  Calls Tryz.prog 216 #[va] w λe w'=>∃ v',e=.returned v'∧aD P w' v' ((List.range n).map λk=>(ls.getD k []).getD 0 0)∧Nh w.heap.size v'∧Below w.heap.size w w':=by
 obtain ⟨i0,hi0,hz0,hz1,hz2⟩:=V_ Tryz.dR;have zA:=af ha;have oL:=af hla;have XT:=af hne;obtain ⟨aa,ac,rfl⟩:∃ ad cap,va=.slice ad n cap:=by obtain ⟨ad,cap,e,_⟩:=ha;rw [hla] at e;exact ⟨ad,cap,e⟩
 clear ha hla hne;go_enter Tryz.func216,Tryz.ntmps216;go_wp2_with (at_make;refine O_ _ rfl _ _ 159 rfl w.heap.size 168 i0 (.agg #[.int .i64 0,.slice none 0 0]) 2 Tryz.underlying159 hi0 hz0 hz1 .i64 .i64 _ _ n rfl rfl ?e1 ?e2 ?c1 ?c2 ?c3 ?_)
 case e1=>first | rfl | omega | simp
 case e2=>first | rfl | omega | simp
 case c1=>rw [hz2];omega
 case c2=>unfold maxLen;omega
 case c3=>first | omega | simp
 ·intro w1 hown hgrow;have hG1:ae w w1:=(n_ _ _).grown hgrow (d_ _) (by intro k hk;cases hk);have uC:Hid (bA P w1 w.heap.size n (λ_=>0)):=bA.made hown;have dP:Hid (ae w w1):=hG1;clear hown hgrow hG1;go_wp2_with fail;go_loopg [4] n (λk iv wr=>∃ (i:Nat),iv=.int .i64 i∧i+k=n∧Hid (bA P wr w.heap.size n (λk=>if k<i then (ls.getD k []).getD 0 0 else 0)∧ae w wr∧True))
  case atStart=>exact ⟨0,rfl,by omega,(uh uC).congr (λi _=>by rw [g_ (by omega)]),uh dP,trivial⟩
  case round =>
   obtain ⟨i,rfl,hik,HR⟩:=hrel;by_cases hlt:i<n
   ·obtain ⟨ox,oy,om,oc,OY,OZ,_⟩:=(uh HR).1.get hlt;obtain ⟨gl,ol,cl,u,el,k0,hur,YL⟩:=gT ((uh zA).below (uh HR).2.1) (i:=i) (by rw [uh oL];exact hlt);rw [uh oL] at el;cases el;have hpos:0<(ls.getD i []).length:=uh XT _ YL;obtain ⟨ga,oa,ca,nx,na,nm,nc,rfl,p0,p1,hv2⟩:=eY hur (i:=0) hpos;have hw2:ae wr wr:=ae.refl _;simp only [acL,Nat.add_zero] at p0 p1;have hR2:=(uh HR).1.grow hw2;have r0:=ae.cell hw2 OY;have r1:=ae.cell hw2 OZ;have f0:=hR2.free (i*2);have f1:=hR2.free (i*2+1);have uK:Hid (bA P ((wr.setCell ⟨w.heap.size,i*2,none⟩ (.int .i64 nx)).setCell ⟨w.heap.size,i*2+1,none⟩ (.slice na nm nc)) (w.heap.size) n (λk=>if k<i+1 then (ls.getD k []).getD 0 0 else 0)):=(hR2.set hlt hv2).congr (λk _=>yD (f:=λk=>(ls.getD k []).getD 0 0) (z:=λ_=>0) k);have HG2:Hid (ae w ((wr.setCell ⟨w.heap.size,i*2,none⟩ (.int .i64 nx)).setCell ⟨w.heap.size,i*2+1,none⟩ (.slice na nm nc))):=(B_ (p:=⟨w.heap.size,i*2,none⟩) (ae.trans (uh HR).2.1 hw2) (by show w.heap.size<=w.heap.size;omega) _).setCell (p:=⟨w.heap.size,i*2+1,none⟩) (by show w.heap.size<=w.heap.size;omega) _;clear hv2 hw2 hR2;go_wp2;go_roundg (gk - 1)
    case measure=>omega
    case rel=>exact ⟨i+1,by simp,by omega,uh uK,uh HG2,trivial⟩
   ·have hin:i=n:=by omega
    have HF:Hid (aD P wr (.slice (some ⟨w.heap.size,0,none⟩) n n) ((List.range n).map λk=>(ls.getD k []).getD 0 0)):=((uh HR).1.congr (f':=λk=>(ls.getD k []).getD 0 0) (λk hk=>by rw [h_ (by omega)])).row (hP _ (d_ _));go_wp2;go_ret;exact ⟨_,rfl,uh HF,⟨_,_,_,rfl,d_ _⟩,(uh HR).2.1⟩
def uL (r:aP) (w:World) (e:Ending) (w':World):Prop:=∃ (vs:Value) (ok:Bool),e=.returned (.tuple #[vs,.bool ok])∧bf vs∧Below w.heap.size w w'∧(ok=true->Nh w.heap.size vs∧∃ A,aD PT w' vs A∧r.dX.kW A)∧(ok=false->∀ A,¬ r.dX.kW A)
def GK (r:aP):Prop:=∀ (v:Value) (w:World),jV PT w v r->Calls Tryz.prog 163 #[v] w (uL r w)
structure bV (P:Nat->Prop) (g:Nat) (w:World) (r:aP) (za:Option Addr) (zn zc:Nat) (la:Option Addr) (ln lc:Nat) (ta:Option Addr) (tn tc:Nat):Prop where
 own:w.heap[g]?=some (.cells #[.int .i64 r.size,.slice za zn zc,.slice la ln lc,.slice ta tn tc] 164 (0,0))
 rows:o5 P w (.slice za zn zc) (.slice la ln lc) (.slice ta tn tc) r
theorem o5.mono {P P':Nat->Prop} {w:World} {vz vl vt:Value} {r:aP} (h:o5 P w vz vl vt r) (hp:∀ k,k<w.heap.size->P k->P' k):o5 P' w vz vl vt r:=⟨h.zero.mono hp,h.least.mono hp,h.told.mono hp⟩
section
variable {P:Nat->Prop} {g:Nat} {w w':World} {r:aP} {za la ta:Option Addr} {zn zc ln lc tn tc:Nat}
theorem bV.holds (h:bV P g w r za zn zc la ln lc ta tn tc) (hh:Holds P w w') (hb:w'.heap[g]?=w.heap[g]?):bV P g w' r za zn zc la ln lc ta tn tc:=⟨hb.trans h.own,h.rows.holds hh⟩
theorem bV.mono {P':Nat->Prop} (h:bV P g w r za zn zc la ln lc ta tn tc) (hp:∀ k,k<w.heap.size->P k->P' k):bV P' g w r za zn zc la ln lc ta tn tc:=⟨h.own,h.rows.mono hp⟩
theorem bV.all (h:bV P g w r za zn zc la ln lc ta tn tc):bV PT g w r za zn zc la ln lc ta tn tc:=h.mono λ_ _ _=>trivial
theorem bV.grow (h:bV P g w r za zn zc la ln lc ta tn tc) (hg:ae w w'):bV P g w' r za zn zc la ln lc ta tn tc:=⟨Below.same hg _ _ h.own,h.rows.grow hg⟩
theorem bV.at (h:bV P g w r za zn zc la ln lc ta tn tc):jV PT w (.agg #[.int .i64 r.size,.slice za zn zc,.slice la ln lc,.slice ta tn tc]) r:=⟨_,_,_,rfl,h.all.rows.zero,h.all.rows.least,h.all.rows.told⟩
theorem bV.cells (h:bV P g w r za zn zc la ln lc ta tn tc) :
  w.cell? ⟨g,0,none⟩=some (.int .i64 r.size)∧w.cell? ⟨g,1,none⟩=some (.slice za zn zc)∧w.cell? ⟨g,2,none⟩=some (.slice la ln lc)∧w.cell? ⟨g,3,none⟩=some (.slice ta tn tc)∧(∀ o,w.frozen? ⟨g,o,none⟩=false):=by
 refine ⟨?_,?_,?_,?_,λo=>aH h.own o⟩ <;> (rw [cellsOf h.own];rfl)
theorem bV.new (h:o5 PT w (.slice za zn zc) (.slice la ln lc) (.slice ta tn tc) r):bV PT w.heap.size (w.alloc (.cells #[.int .i64 r.size,.slice za zn zc,.slice la ln lc,.slice ta tn tc] 164)) r za zn zc la ln lc ta tn tc:=⟨aG _ _,h.grow (ae.alloc _ _)⟩
theorem bV.store {w0:World} {cs:Array Value} (hG:ae w0 w) (hg:w0.heap.size<=g) (hb:w.heap[g]?=some (.cells cs 164 (0,0))) (hn:cs.size=4) (h2:o5 PT w (.slice za zn zc) (.slice la ln lc) (.slice ta tn tc) r) :
  bV PT g ((((w.setCell ⟨g,0,none⟩ (.int .i64 r.size)).setCell ⟨g,1,none⟩ (.slice za zn zc)).setCell ⟨g,2,none⟩ (.slice la ln lc)).setCell ⟨g,3,none⟩ (.slice ta tn tc)) r za zn zc la ln lc ta tn tc∧ae w0 ((((w.setCell ⟨g,0,none⟩ (.int .i64 r.size)).setCell ⟨g,1,none⟩ (.slice za zn zc)).setCell ⟨g,2,none⟩ (.slice la ln lc)).setCell ⟨g,3,none⟩ (.slice ta tn tc))∧Holds PT w ((((w.setCell ⟨g,0,none⟩ (.int .i64 r.size)).setCell ⟨g,1,none⟩ (.slice za zn zc)).setCell ⟨g,2,none⟩ (.slice la ln lc)).setCell ⟨g,3,none⟩ (.slice ta tn tc)):=by
 have hs:=iW (P:=PT) hG hg hb (r.size:Int) za zn zc la ln lc ta tn tc;refine ⟨⟨?_,h2.holds hs.2⟩,hs.1,hs.2⟩;obtain ⟨a,b,c,d,rfl⟩:∃ a b c d,cs=#[a,b,c,d]:=by
  rcases cs with ⟨_|⟨a,_|⟨b,_|⟨c,_|⟨d,_|⟨e,t⟩⟩⟩⟩⟩⟩ <;> simp at hn
  exact ⟨a,b,c,d,rfl⟩
 have b1:=j_ w g 0 _ _ (.int .i64 r.size) hb;have b2:=j_ _ g 1 _ _ (.slice za zn zc) b1;have b3:=j_ _ g 2 _ _ (.slice la ln lc) b2;have b4:=j_ _ g 3 _ _ (.slice ta tn tc) b3;exact b4
theorem bV.var {B k:Nat} (h:bV (·<B) g w r za zn zc la ln lc ta tn tc) (hk:B<=k) (hne:g≠k) (u v:Value):bV (·<B) g ((w.setCell ⟨k,0,none⟩ u).setCell ⟨k,1,none⟩ v) r za zn zc la ln lc ta tn tc :=
 h.holds (Holds.trans (P:=(·<B)) (fA (P:=(·<B)) (Nat.not_lt.2 hk) _ _) (fA (P:=(·<B)) (Nat.not_lt.2 hk) _ _)) (jP hne _ _)
end
theorem Ni {r:aP} {i:Nat} (h:i<r.told.length) (x:Nat->Int):(r.dX.fD x).getD i 0=Pl.ev r.size (lf (r.told.getD i [])) (Pl.pt x):=by
 have e:r.dX.fD x=r.told.map λa=>Pl.ev r.size (lf a) (Pl.pt x):=by
  show ((r.told.map lf).map λs=>Pl.ev r.size s (Pl.pt x))=_;rw [ab7];rfl
 rw [e,a_,aas,a_ (l:=r.told),f_ h];rfl
structure GL (B:Nat) (w0 w:World) (R:aP) (ya:Option Addr) (yn yc:Nat) (ua:Option Addr) (un uc:Nat) (ra:Option Addr) (rn rc:Nat) (g8 g9 g10 g11:Nat) (lx:Int) (la:Option Addr) (lm lc:Nat) (lo:Int) (hx:Int) (ha:Option Addr) (hm hc:Nat) (hi:Int) (mx:Int) (ma:Option Addr) (mm mc:Nat) (lq:Int) (ox:Int) (oa:Option Addr) (om oc:Nat) (off:Int):Prop where
 box:bV (·<B) w0.heap.size w R ya yn yc ua un uc ra rn rc
 v8:bC PT w g8 lx la lm lc lo
 v9:bC PT w g9 hx ha hm hc hi
 v10:bC PT w g10 mx ma mm mc lq
 v11:bC PT w g11 ox oa om oc off
 dh:ae w0 w
 n8:g8≠g11
 n9:g9≠g11
 n10:g10≠g11
 new:w0.heap.size<g11
 b11:B<=g11
section
variable {B:Nat} {w0 w w':World} {R:aP} {ya ua ra la ha ma oa:Option Addr} {yn yc un uc rn rc g8 g9 g10 g11 lm lc hm hc mm mc om oc:Nat} {lx lo hx hi mx lq ox off:Int}
theorem GL.grow (h:GL B w0 w R ya yn yc ua un uc ra rn rc g8 g9 g10 g11 lx la lm lc lo hx ha hm hc hi mx ma mm mc lq ox oa om oc off) (hg:ae w w'):GL B w0 w' R ya yn yc ua un uc ra rn rc g8 g9 g10 g11 lx la lm lc lo hx ha hm hc hi mx ma mm mc lq ox oa om oc off :=
 ⟨h.box.grow hg,h.v8.grow hg,h.v9.grow hg,h.v10.grow hg,h.v11.grow hg,h.dh.trans hg,h.n8,h.n9,h.n10,h.new,h.b11⟩
theorem GL.set (h:GL B w0 w R ya yn yc ua un uc ra rn rc g8 g9 g10 g11 lx la lm lc lo hx ha hm hc hi mx ma mm mc lq ox oa om oc off) {x:Int} {a:Option Addr} {m c:Nat} {n:Int} (hv:aj PT w (.agg #[.int .i64 x,.slice a m c]) n):GL B w0 ((w.setCell ⟨g11,0,none⟩ (.int .i64 x)).setCell ⟨g11,1,none⟩ (.slice a m c)) R ya yn yc ua un uc ra rn rc g8 g9 g10 g11 lx la lm lc lo hx ha hm hc hi mx ma mm mc lq x a m c n :=
 ⟨h.box.var h.b11 (Nat.ne_of_lt h.new) _ _,h.v8.put ⟨_,h.v11.heap⟩ h.n8 _ _ _ _,h.v9.put ⟨_,h.v11.heap⟩ h.n9 _ _ _ _,h.v10.put ⟨_,h.v11.heap⟩ h.n10 _ _ _ _,⟨jW h.v11.heap _ _,hv.kG h.v11.heap _ _⟩,(B_ (p:=⟨g11,0,none⟩) h.dh (ab0 h.new) _).setCell (p:=⟨g11,1,none⟩) (ab0 h.new) _,h.n8,h.n9,h.n10,h.new,h.b11⟩
end
theorem VO {K:Nat} (h:K≠0):Pl.Lt K 2:=by
 obtain ⟨K',rfl⟩:∃ K',K=K'+1:=⟨K - 1,by omega⟩;rw [Pl.eB,acm];have:=abx (n:=K') (show 0<1073741824 by omega);show 2<_;omega
theorem J8 {r:aP} {L K:Nat} (hf:iO L r) {St:Nat->Nat->Int} (hU:Pl.Em r.size St) (hS:∀ a b,a<r.size->b<r.size->Pl.Lt K (St a b)):iO (L+K+1) (r.bL (iU r.size St)) :=
 ⟨by show r.zero.map _=[];rw [hf.zero];rfl,GI hU hf.mO,hf.ok.bL,hf.lt.SN (vW hS) (by have:=hf.size;omega),by omega,hf.Aj,hf.size,by show (r.least.map _).length<=800;rw [L_];exact hf.pK⟩
theorem ny {K:Nat} {a b x:Int} (ha:Pl.Lt K a) (hb:Pl.Lt K b) (h1:a<=x) (h2:x<=b):Pl.Lt K x:=by
 rw [Pl.eB] at *;omega
structure Nj (R:aP) (last:Nat) (lo hi:Int) (k:Nat):Prop where
 all:∀ j,j<k->Int.fdiv (lo+hi) 2+lZ j<=hi∧(lo<=Int.fdiv (lo+hi) 2+lZ j->∀ A,¬ (R.fixed last (Int.fdiv (lo+hi) 2+lZ j)).dX.kW A)
theorem Nj.pK {R:aP} {last k:Nat} {lo hi:Int} (h:Nj R last lo hi k):k<=2*(hi - Int.fdiv (lo+hi) 2).toNat+2:=by
 apply v_;intro hc;have h1:=(h.all (2*(hi - Int.fdiv (lo+hi) 2).toNat+1) (by omega)).1;rw [(qM _).2] at h1;omega
theorem Nj.next {R:aP} {last k:Nat} {lo hi:Int} (h:Nj R last lo hi k) (h1:Int.fdiv (lo+hi) 2+lZ k<=hi) (h2:lo<=Int.fdiv (lo+hi) 2+lZ k->∀ A,¬ (R.fixed last (Int.fdiv (lo+hi) 2+lZ k)).dX.kW A):Nj R last lo hi (k+1) :=
 ⟨λj hj=>by
  by_cases e:j=k
  ·rw [e];exact ⟨h1,h2⟩
  ·exact h.all j (by omega)⟩
theorem Nj.none {R:aP} {last k:Nat} {lo hi:Int} (h:Nj R last lo hi k) (hl:last<R.size) (hlim:∀ x,R.dX.Has x->lo<=x last∧x last<=hi) (hend:hi<Int.fdiv (lo+hi) 2+lZ k) (A:List Int):¬ R.dX.kW A:=by
 rintro ⟨x,hx,ht⟩;obtain ⟨h1,h2⟩:=hlim x hx;obtain ⟨j,hj,e⟩:=Nb hend h1 h2;refine (h.all j hj).2 (by omega) A ((En hl _ A).2 ⟨x,hx,ht,e.symm⟩)
theorem Nj.lt {R:aP} {last k K:Nat} {lo hi:Int} (h:Nj R last lo hi k) (hl:Pl.Lt K lo) (hh:Pl.Lt K hi):Pl.Lt (K+1) (Int.fdiv (lo+hi) 2)∧Pl.Lt (K+3) (lZ k)∧Pl.Lt (K+4) (Int.fdiv (lo+hi) 2+lZ k):=by
 have m1:Pl.Lt (K+1) (Int.fdiv (lo+hi) 2):=(hl.add hh).fdiv (by decide);have m2:Pl.Lt (K+2) (hi - Int.fdiv (lo+hi) 2):=(Pl.Lt.mono hh (show K<=K+1 by omega)).sub m1;have hf:=h.pK;have m3:Pl.Lt (K+3) (lZ k):=by
  have h1:(lZ k).natAbs<=(hi - Int.fdiv (lo+hi) 2).natAbs+1:=by
   rcases (show ∃ t,k=2*t∨k=2*t+1 from ⟨k/2,by omega⟩) with ⟨t,e|e⟩
   ·rw [e,(qM t).1];omega
   ·rw [e,(qM t).2];omega
  rw [Pl.eB] at m2 ⊢;have e2:(1073741824:Nat)^(K+3)=1073741824^(K+2)*1073741824:=acm _ _;have hp:0<(1073741824:Nat)^(K+2):=abx (by omega);omega
 exact ⟨m1,m3,(Pl.Lt.mono m1 (by omega)).add m3⟩
section
variable {r r1 r2:aP} {L k:Nat}
def aP.part (r:aP) (row:List Int):aP:=⟨r.size,r.zero,r.least++[row],r.told⟩
def aP.bound (r:aP) (row:List Int):aP:=⟨r.size,r.zero++[row],r.least,r.told⟩
theorem wz (a:List Int) (v:Int) (h0:0<a.length) (k:Nat):lf (bQ a v) k=if k=0 then lf a 0+v else lf a k:=by
 unfold lf bQ;rw [a_,abH,a_ (l:=a) (i:=k),a_ (l:=a) (i:=0)];by_cases e:k=0
 ·subst e;rw [f_ h0];simp
 ·rw [g_ e];cases a[k]? with
  | none=>rfl
  | some z=>simp [e]
theorem nE (n:Nat) (a:List Int) (v:Int) (h0:0<a.length) (x:Nat->Int):Pl.ev n (lf (bQ a v)) (Pl.pt x)=Pl.ev n (lf a) (Pl.pt x)+v:=by
 rw [Pl.kT,Pl.kT,wz a v h0,h_ rfl,Pl.aC (g:=λi=>lf a (i+1)*x i) λi _=>by rw [wz a v h0,g_ (by omega)]];omega
theorem tN (a:List Int) (v:Int):(bQ a v).length=a.length:=by unfold bQ;rw [abQ]
theorem rZ {K:Nat} {a:List Int} {v:Int} (ha:∀ k,Pl.Lt K (a.getD k 0)) (hv:Pl.Lt K v) (k:Nat):Pl.Lt (K+1) ((bQ a v).getD k 0):=by
 by_cases h0:0<a.length
 ·have e:=wz a v h0 k;unfold lf at e;rw [e]
  split
  ·exact (ha 0).add hv
  ·exact (ha k).mono (by omega)
 ·have:a=[]:=aaD (by omega);subst this;exact lC _
theorem CK {K:Nat} {a:List Int} (ha:∀ k,Pl.Lt K (a.getD k 0)) (k:Nat):Pl.Lt K ((a.map λx=>-x).getD k 0):=by
 have:=congrFun (tL a) k;unfold lf at this;rw [this];exact (ha k).neg
theorem yT {i:Nat} (h:i<r.told.length):r.told.getD i []∈r.told:=by
 rw [a_,f_ h];exact aan _
theorem vk {i:Nat} (h:i<r.told.length) (x:Nat->Int):(r.dX.fD x).getD i 0=Pl.ev r.size (lf (r.told.getD i [])) (Pl.pt x):=by
 have e:r.dX.fD x=r.told.map λa=>Pl.ev r.size (lf a) (Pl.pt x):=by
  show ((r.told.map lf).map λs=>Pl.ev r.size s (Pl.pt x))=_;rw [ab7];rfl
 rw [e,a_,aas,a_ (l:=r.told),f_ h];rfl
theorem FT {A:List Int} (h:r.dX.kW A):A.length=r.told.length:=by
 obtain ⟨x,_,rfl⟩:=h;show ((r.told.map lf).map _).length=_;rw [L_,L_]
def ky (a:List Int) (top:Int):List Int:=bQ (a.map λx=>-x) top
theorem EF (n:Nat) (a:List Int) (top:Int) (h0:0<a.length) (x:Nat->Int):Pl.ev n (lf (ky a top)) (Pl.pt x)=top - Pl.ev n (lf a) (Pl.pt x):=by
 unfold ky;rw [nE _ _ _ (by rw [L_];exact h0),tL,zS];omega
theorem yU (hok:eP r) {i:Nat} (h:i<r.told.length) (top:Int) (A:List Int):(r.part (ky (r.told.getD i []) top)).dX.kW A↔r.dX.kW A∧A.getD i 0<=top:=by
 have h0:0<(r.told.getD i []).length:=by rw [hok.gV _ (yT h)];omega
 constructor
 ·rintro ⟨x,hx,rfl⟩;have hx1:r.dX.Has x:=⟨hx.zero,λs hs=>hx.least s (by
   obtain ⟨a,ha,rfl⟩:=m_.1 hs;exact m_.2 ⟨a,F_.2 (.inl ha),rfl⟩)⟩
  refine ⟨⟨x,hx1,rfl⟩,?_⟩;have h2:0<=Pl.ev r.size (lf (ky (r.told.getD i []) top)) (Pl.pt x):=hx.least _ (m_.2 ⟨_,F_.2 (.inr (I_.2 rfl)),rfl⟩);rw [EF _ _ _ h0] at h2;have h3:(r.dX.fD x).getD i 0<=top:=by rw [vk h];omega
  exact h3
 ·rintro ⟨⟨x,hx,rfl⟩,h1⟩;rw [vk h] at h1;refine ⟨x,⟨hx.zero,λs hs=>?_⟩,rfl⟩;obtain ⟨a,ha,rfl⟩:=m_.1 hs;rcases F_.1 ha with ha|ha
  ·exact hx.least _ (m_.2 ⟨a,ha,rfl⟩)
  ·rw [I_.1 ha];show 0<=Pl.ev r.size _ _;rw [EF _ _ _ h0];omega
theorem LU (hok:eP r) {i:Nat} (h:i<r.told.length) (top:Int) (hn:r.least.length<1000):eP (r.part (ky (r.told.getD i []) top)) :=
 ⟨hok.jb,λl hl=>by
  rcases F_.1 hl with h1|h1
  ·exact hok.dS l h1
  ·rw [I_.1 h1];unfold ky;rw [tN,L_];exact hok.gV _ (yT h),hok.gV,hok.Az,by show (r.least++[_]).length<=1000;rw [C_];simp;omega,hok.uP⟩
theorem EG {K:Nat} {ls:List (List Int)} {row:List Int} (h:∀ i k,Pl.Lt K ((ls.getD i []).getD k 0)) (hr:∀ k,Pl.Lt K (row.getD k 0)) (i k:Nat):Pl.Lt K (((ls++[row]).getD i []).getD k 0):=by
 refine lX (λa ha=>?_) i k;rcases F_.1 ha with h1|h1
 ·exact λk=>KD h h1 k
 ·rw [I_.1 h1];exact hr
theorem LV {K:Nat} (hl:dG K r) (i:Nat) {top:Int} (ht:Pl.Lt K top):dG (K+1) (r.part (ky (r.told.getD i []) top)) :=
 ⟨λi k=>(hl.zero i k).mono (by omega),EG (λi k=>(hl.least i k).mono (by omega)) (rZ (CK (hl.told i)) ht),λi k=>(hl.told i k).mono (by omega)⟩
theorem EH (ht:r.dX.gM) (row:List Int):(r.part row).dX.gM :=
 Pl.mQ.gM.more ht rfl (λs hs=>hs) (λs hs=>by
  obtain ⟨a,ha,rfl⟩:=m_.1 hs;exact m_.2 ⟨a,F_.2 (.inl ha),rfl⟩)
theorem NT (hok:eP r) {i:Nat} (h:i<r.told.length) (v:Int) (A:List Int):(r.bound (bQ (r.told.getD i []) (-v))).dX.kW A↔r.dX.kW A∧A.getD i 0=v:=by
 have h0:0<(r.told.getD i []).length:=by rw [hok.gV _ (yT h)];omega
 constructor
 ·rintro ⟨x,hx,rfl⟩;have hx1:r.dX.Has x:=⟨λs hs=>hx.zero s (by
   obtain ⟨a,ha,rfl⟩:=m_.1 hs;exact m_.2 ⟨a,F_.2 (.inl ha),rfl⟩),hx.least⟩
  refine ⟨⟨x,hx1,rfl⟩,?_⟩;have h2:Pl.ev r.size (lf (bQ (r.told.getD i []) (-v))) (Pl.pt x)=0:=hx.zero _ (m_.2 ⟨_,F_.2 (.inr (I_.2 rfl)),rfl⟩);rw [nE _ _ _ h0] at h2;have h3:(r.dX.fD x).getD i 0=v:=by rw [vk h];omega
  exact h3
 ·rintro ⟨⟨x,hx,rfl⟩,h1⟩;rw [vk h] at h1;refine ⟨x,⟨λs hs=>?_,hx.least⟩,rfl⟩;obtain ⟨a,ha,rfl⟩:=m_.1 hs;rcases F_.1 ha with ha|ha
  ·exact hx.zero _ (m_.2 ⟨a,ha,rfl⟩)
  ·rw [I_.1 ha];show Pl.ev r.size _ _=0;rw [nE _ _ _ h0];omega
theorem QG (hok:eP r) {i:Nat} (h:i<r.told.length) (v:Int) (hn:r.zero.length<1000):eP (r.bound (bQ (r.told.getD i []) v)) :=
 ⟨λl hl=>by
  rcases F_.1 hl with h1|h1
  ·exact hok.jb l h1
  ·rw [I_.1 h1,tN];exact hok.gV _ (yT h),hok.dS,hok.gV,by show (r.zero++[_]).length<=1000;rw [C_];simp;omega,hok.vB,hok.uP⟩
theorem QH {K:Nat} (hl:dG K r) (i:Nat) {v:Int} (ht:Pl.Lt K v):dG (K+1) (r.bound (bQ (r.told.getD i []) v)) :=
 ⟨EG (λi k=>(hl.zero i k).mono (by omega)) (rZ (hl.told i) ht),λi k=>(hl.least i k).mono (by omega),λi k=>(hl.told i k).mono (by omega)⟩
theorem KE (ht:r.dX.gM) (row:List Int):(r.bound row).dX.gM :=
 Pl.mQ.gM.more ht rfl (λs hs=>by
  obtain ⟨a,ha,rfl⟩:=m_.1 hs;exact m_.2 ⟨a,F_.2 (.inl ha),rfl⟩) (λs hs=>hs)
end
structure iA (d gap reach:Int):Prop where
 ZE:0<=gap
 CL:0<=reach
 some:∃ b:Nat,gap*2^b<=d∧reach+1<=4^b*(4*(d+1))
theorem iA.start {d:Int} (h:0<=d):iA d d 0:=⟨h,abk _,0,by omega,by omega⟩
theorem iA.lower {d gap yV reach:Int} (h:iA d gap reach) (h0:0<=yV) (h1:yV<=gap):iA d yV reach:=by
 obtain ⟨b,h2,h3⟩:=h.some;exact ⟨h0,h.CL,b,acW (A_ h1 (Int.pow_nonneg (by decide))) h2,h3⟩
theorem iA.adS {d gap yV reach:Int} (h:iA d gap reach) (h0:0<=yV) (h1:yV<=gap) (hr:reach+1<=gap):iA d yV (reach*4+3):=by
 obtain ⟨b,h2,h3⟩:=h.some;have hp:(1:Int)<=2^b:=Int.pow_pos (by decide);have hq:(1:Int)<=4^b:=Int.pow_pos (by decide);have hg:gap<=d:=by
  have:=o_ hp h.ZE;omega
 have h4:1*(4*(d+1))<=4^b*(4*(d+1)):=A_ hq (by have:=h.ZE;omega);exact ⟨h0,by have:=h.CL;omega,b,acW (A_ h1 (by omega)) h2,by omega⟩
theorem iA.half {d gap yV reach:Int} (h:iA d gap reach) (h0:0<=yV) (h1:2*yV<=gap):iA d yV (reach*4+3):=by
 obtain ⟨b,h2,h3⟩:=h.some;refine ⟨h0,by have:=h.CL;omega,b+1,?_,?_⟩
 ·have e:yV*2^(b+1)=(2*yV)*2^b:=by rw [aaJ,u_ 2 yV,y_,u_ 2 (2^b)]
  rw [e];exact acW (A_ h1 (Int.pow_nonneg (by decide))) h2
 ·have e:(4:Int)^(b+1)*(4*(d+1))=4*(4^b*(4*(d+1))):=by rw [aaJ,u_ (4^b) 4,y_]
  rw [e];omega
theorem iA.le {d gap reach:Int} (h:iA d gap reach) (hg:0<gap):reach+1<=d*d*(4*(d+1)):=by
 obtain ⟨b,h2,h3⟩:=h.some;have hp:(1:Int)<=2^b:=Int.pow_pos (by decide);have hb:(2:Int)^b<=d:=by
  have:=A_ (show (1:Int)<=gap by omega) (show (0:Int)<=2^b by omega);omega
 have e:(4:Int)^b=2^b*2^b:=by rw [<-Int.mul_pow];rfl
 have h4:(4:Int)^b<=d*d:=by rw [e];exact ac9 hb hb (by omega) (by omega)
 exact acW h3 (A_ h4 (by omega))
theorem iA.lt {d gap reach:Int} {M:Nat} (h:iA d gap reach) (hg:0<gap) (hM:1<=M) (hd:Pl.Lt M d):Pl.Lt (3*M+2) reach:=by
 have h1:=h.le hg;obtain ⟨M',rfl⟩:∃ M',M=M'+1:=⟨M - 1,by omega⟩;have l4:Pl.Lt (M'+1+2) (4*(d+1)):=by
  have a1:Pl.Lt (M'+1+1) (d+1):=hd.add (dU (by decide));have a2:Pl.Lt (1+(M'+1+1)) (4*(d+1)):=Pl.Lt.mul (K:=1) (by rw [Pl.eB];decide) a1;exact a2.mono (by omega)
 have l5:Pl.Lt ((M'+1)+(M'+1)+(M'+1+2)) (d*d*(4*(d+1))):=(hd.mul hd).mul l4;have l6:Pl.Lt (3*(M'+1)+2) (d*d*(4*(d+1))):=l5.mono (by omega);rw [Pl.eB] at l6 ⊢;have:=h.CL;omega
def lexLt (A B:List Int):Prop:=∃ i,i<A.length∧(∀ j,j<i->A.getD j 0=B.getD j 0)∧A.getD i 0<B.getD i 0
structure AA (S:List Int->Prop) (k:Nat) (A:List Int):Prop where
 mem:S A
 low:∀ B,S B->∀ i,i<k->(∀ j,j<i->B.getD j 0=A.getD j 0)->A.getD i 0<=B.getD i 0
theorem AA.least {S:List Int->Prop} {k:Nat} {A:List Int} (h:AA S k A) {B:List Int} (hB:S B) (hl:B.length<=k):¬ lexLt B A:=by
 rintro ⟨i,hi,h1,h2⟩;have:=h.low B hB i (by omega) h1;omega
theorem AA.step {S S':List Int->Prop} {k:Nat} {A A':List Int} (h:AA S k A) (hS:∀ B,S' B↔S B∧∀ j,j<k->B.getD j 0=A.getD j 0) (hm:S' A') (hl:∀ B,S' B->A'.getD k 0<=B.getD k 0):AA S (k+1) A':=by
 have hA:=(hS A').1 hm;refine ⟨hA.1,λB hB i hi hj=>?_⟩;by_cases e:i=k
 ·subst e;exact hl B ((hS B).2 ⟨hB,λj hj'=>(hj j hj').trans (hA.2 j hj')⟩)
 ·have:=h.low B hB i (by omega) (λj hj'=>(hj j hj').trans (hA.2 j (by omega)));rw [hA.2 i (by omega)];exact this
theorem AA.next {S S':List Int->Prop} {k:Nat} {A A':List Int} (hS:∀ B,S' B↔S B∧∀ j,j<k->B.getD j 0=A.getD j 0) (hm:S' A') (B:List Int):(S' B∧B.getD k 0=A'.getD k 0)↔S B∧∀ j,j<k+1->B.getD j 0=A'.getD j 0:=by
 have hA:=(hS A').1 hm;rw [hS B];constructor
 ·rintro ⟨⟨h1,h2⟩,h3⟩;refine ⟨h1,λj hj=>?_⟩;by_cases e:j=k
  ·rw [e];exact h3
  ·rw [h2 j (by omega),hA.2 j (by omega)]
 ·rintro ⟨h1,h2⟩;exact ⟨⟨h1,λj hj=>(h2 j (by omega)).trans (hA.2 j hj)⟩,h2 k (by omega)⟩
def t0:Pl.aR:=⟨[],[],1⟩
def vC (w:World) (b:Nat):Prop:=w.heap[b]?=some (.cells #[.slice none 0 0,.slice none 0 0,.int .i64 1,.slice none 0 0] 322 (0,0))
theorem zZ (P:Nat->Prop) (w:World):aj P w (.agg #[.int .i64 1,.slice none 0 0]) 1:=.inl ⟨rfl,show (-4611686018427387904:Int)<1 by decide,show (1:Int)<4611686018427387904 by decide⟩
theorem vC.cells {w:World} {b:Nat} (h:vC w b):w.cell? ⟨b,0,none⟩=some (.slice none 0 0)∧w.cell? ⟨b,1,none⟩=some (.slice none 0 0)∧w.cell? ⟨b,2,none⟩=some (.int .i64 1)∧w.cell? ⟨b,3,none⟩=some (.slice none 0 0):=by
 unfold vC at h;refine ⟨?_,?_,?_,?_⟩ <;> (rw [cellsOf h];rfl)
theorem vC.at {w:World} {b:Nat} (h:vC w b):r9 PT w b t0 :=
 ⟨⟨_,h.cells.1,none,0,rfl,λi hi=>absurd hi (aaL i)⟩,⟨_,h.cells.2.1,none,0,rfl,λi hi=>absurd hi (aaL i)⟩,⟨_,_,_,_,h.cells.2.2.1,h.cells.2.2.2,zZ _ _⟩⟩
theorem vC.grow {w w':World} {b:Nat} (h:vC w b) (hg:ae w w'):vC w' b:=Below.same hg _ _ h
theorem Rm:mJ t0:=⟨by decide,by decide,λl hl=>by cases hl⟩
theorem K4 (b:Nat) (w:World) (h:vC w b) :
  Calls Tryz.prog 266 #[.pointer (some ⟨b,0,none⟩)] w λe w'=>e=.returned (.tuple #[])∧Below w.heap.size w w':=by
 have HT:=af h;clear h;go_enter Tryz.func266,Tryz.ntmps266;go_wp2_with fail;go_loopg [2] 0 (λk cv wr=>cv=.int .i64 0∧Hid (ae w wr))
 case atStart=>exact ⟨rfl,n_ _ _⟩
 case round =>
  obtain ⟨rfl,HR⟩:=hrel;have k1:=((uh HT).grow (uh HR)).cells.2.1;go_wp2;go_end0;exact ⟨rfl,uh HR⟩
theorem QI (la:Option Addr) (lc:Nat) (w:World) :
  Calls Tryz.prog 217 #[.slice la 0 lc,.int .i64 0] w λe w'=>∃ b,e=.returned (.pointer (some ⟨b,0,none⟩))∧w.heap.size<=b∧vC w' b∧ae w w':=by
 go_enter Tryz.func217,Tryz.ntmps217;go_wp2_with fail;refine (fP (λ_=>True) 1 _ (λ_ _=>trivial) (by decide) (by decide)).mono ?_;rintro e w1 ⟨v1,rfl,hv1,hw1⟩;have ev:=hv1.fits (by decide);subst ev;have dP:Hid (ae w w1):=hw1;clear hv1 hw1;go_wp2_with fail;have HGt:Hid (ae w (w1.alloc (.cells #[.slice none 0 0,.slice none 0 0,.int .i64 1,.slice none 0 0] 322))):=(uh dP).trans (ae.alloc _ _);have HBt:Hid (vC (w1.alloc (.cells #[.slice none 0 0,.slice none 0 0,.int .i64 1,.slice none 0 0] 322)) w1.heap.size):=aG _ _;have hwb:w.heap.size<=w1.heap.size:=(uh dP).size;generalize hWt:w1.alloc (.cells #[.slice none 0 0,.slice none 0 0,.int .i64 1,.slice none 0 0] 322)=Wt at *
 generalize w1.heap.size=b at *
 clear hWt dP;go_loopg [6] 0 (λk iv wr=>iv=.int .i64 0∧Hid (ae Wt wr))
 case atStart=>exact ⟨rfl,n_ _ _⟩
 case round =>
  obtain ⟨rfl,HR⟩:=hrel;go_wp2_with fail;rename World=>wo;rename Nat=>go;go_loopg [7] 0 (λk iv wr=>iv=.int .i64 0∧Hid (ae Wt wr))
  case atStart=>exact ⟨rfl,uh HR⟩
  case round =>
   obtain ⟨rfl,HR2⟩:=hrel;go_wp2_with fail;refine (K4 b _ ((uh HBt).grow (uh HR2))).mono ?_;rintro e w3 ⟨rfl,hw3⟩;have je:Hid (ae Wt w3):=(uh HR2).trans hw3;clear hw3;go_wp2;go_ret;exact ⟨b,rfl,hwb,(uh HBt).grow (uh je),(uh HGt).trans (uh je)⟩
theorem FU (b:Nat) (w:World) (h:vC w b) :
  Calls Tryz.prog 218 #[.pointer (some ⟨b,0,none⟩)] w λe w'=>e=.returned (.bool false)∧Below w.heap.size w w':=by
 have HT:=af h;clear h;go_enter Tryz.func218,Tryz.ntmps218;go_wp2_with fail;go_loopg [] 0 (λk wr=>Hid (ae w wr))
 case atStart=>exact n_ _ _
 case round =>
  have HR:=hrel;clear hrel;go_wp2_with fail;refine (qQ PT b t0 wr ((uh HT).grow (uh HR)).at Rm).mono ?_;rintro e w1 ⟨c,rfl,mW,hw1⟩;have dP:Hid (ae w w1):=(uh HR).trans hw1;clear hw1;rcases mW with ⟨rfl,hno⟩|⟨r,hr,rfl,hur,kC⟩
  ·clear hno;go_wp2;go_ret;exact ⟨rfl,uh dP⟩
  ·exact absurd hr (aaL r)
end Go.Proofs.YtfaljekgpnbmiaaGreat
