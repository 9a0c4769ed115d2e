/- Joined: XFind2 XFind3 XFind4 XLow1 XSim0. -/
import Derived.Test.YtgaafamcajcifaaGreatK22
import Derived.Test.YtgaafamcajcifaaGreatK34
import Derived.Test.YtgaafamcajcifaaGreatK36
set_option linter.unusedVariables false
set_option linter.unusedSimpArgs false
set_option maxRecDepth 100000
namespace Go.Proofs.YtgaafamcajcifaaGreat
open Go.RowKit Go.Sort
section
variable {r r1:aP} {L k:Nat}
theorem fD.mJ (h:fD r k r1) (ht:r.dV.gJ):r1.dV.gJ:=by
 obtain ⟨T,h0,hk,hs⟩:=h;have:∀ i,i<=k->(T i).dV.gJ:=λi=>by
  induction i with
  | zero=>intro _;rw [h0];exact ht
  | succ i ih=>intro hi;exact (hs i (by omega)).mJ (ih (by omega))
 rw [<-hk];exact this k (d_ _)
structure RO (r r2:aP) (L:Nat):Prop where
 zero:r2.zero=[]
 ok:eH r2
 size:r2.size<=r.size
 lt:dF (iE L (r.size - r2.size)) r2
 mJ:r2.dV.gJ
 qG:∀ A,r2.dV.kU A↔r.dV.kU A
 told:r2.told.length=r.told.length
 pI:r2.least.length<=r.least.length
 some:∀ a∈r2.least,∃ i,i<r2.size∧a.getD (i+1) 0≠0
theorem jA.lens {s:Nat->Int} {r':aP} (h:jA r s r'):r'.told.length=r.told.length∧r'.least.length=r.least.length:=by
 rcases h with ⟨rfl,_⟩|⟨at_,kk,St,x,_,_,_,rfl⟩
 ·exact ⟨rfl,rfl⟩
 ·simp [aP.fixed,aP.bK]
theorem fD.lens (h:fD r k r1):r1.told.length=r.told.length∧r1.least.length=r.least.length:=by
 obtain ⟨T,h0,hk,hs⟩:=h;have:∀ i,i<=k->(T i).told.length=r.told.length∧(T i).least.length=r.least.length:=λi=>by
  induction i with
  | zero=>intro _;rw [h0];exact ⟨rfl,rfl⟩
  | succ i ih =>
   intro hi;have h1:=(hs i (by omega)).2.lens;have h2:=ih (by omega);exact ⟨h1.1.trans h2.1,h1.2.trans h2.2⟩
 rw [<-hk];exact this k (d_ _)
theorem Fp {n:Nat} {a:List Int} (h:bC a n≠0):∃ i,i<n∧(gQ n a (bC a n)).getD (i+1) 0≠0:=by
 apply v_;intro hc;have hz:∀ i,i<n->a.getD (i+1) 0=0:=λi hi=>by
  have h1:=p9 h hi;have h2:lf (gQ n a (bC a n)) (i+1)=0:=v_ λh3=>hc ⟨i,hi,h3⟩;rw [h2,X_] at h1;exact h1
 have:∀ m,m<=n->bC a m=0:=λm=>by
  induction m with
  | zero=>intro _;rfl
  | succ m ih =>
   intro hm;show (Int.gcd (bC a m) (a.getD (m+1) 0):Int)=0;rw [ih (by omega),hz m (by omega)];rfl
 exact h (this n (d_ _))
theorem uG (hok:eH r) (hlt:dF L r) (hn:r.size<=100) (ht:r.dV.gJ) (h:fD r r.zero.length r1) (hc:∀ a∈r1.least,bC a r1.size=0->0<=a.getD 0 0):RO r r1.whole L:=by
 have hi:=h.inv hok hlt hn;have hz:r1.zero=[]:=aaz (by have:=hi.left;omega);refine ⟨hz,hi.ok.whole,hi.size,hi.lt.whole,Jz (h.mJ ht),λA=>(Mr hc A).trans (h.qG A),h.lens.1,?_,λa ha=>?_⟩
 ·have h1:(r1.least.flatMap (jB r1.size)).length<=r1.least.length:=yz r1.size r1.least;have h2:=h.lens.2;show (r1.least.flatMap (jB r1.size)).length<=_;omega
 ·obtain ⟨b,hb,hb2⟩:=List.mem_flatMap.1 ha;obtain ⟨e,hp⟩:=zF hb2;rw [e];exact Fp (n:=r1.size) (Int.ne_of_gt hp)
end
section
variable {r r1 r':aP} {L k:Nat}
def aP.Cc (r:aP):Prop:=0<r.zero.length∧∃ i,i<r.size∧r.bN.getD (i+1) 0≠0
theorem O7 {n:Nat} {s:Nat->Int} {i:Nat} (hi:i<n):Pl.dir n s (Pl.unit i)=s (i+1):=by
 unfold Pl.dir;rw [Pl.iK i hi λj _ hj=>by unfold Pl.unit;rw [g_ (λe=>hj e.symm),X_]];unfold Pl.unit;rw [h_ rfl,Int.mul_one]
theorem uo.lead (h:uo r r') (hl:r.Cc):r'.size+1=r.size:=by
 obtain ⟨h0,hw⟩:=h;rcases hw with ⟨rfl,_,kk,St,hr,hz⟩|⟨at_,kk,St,x,h1,_,_,rfl⟩
 ·exfalso;obtain ⟨_,i,hi,hne⟩:=hl;refine hne ?_;have hi':i<r.less.size:=hi;have e0:=O7 (s:=lf r.bN) hi';obtain ⟨y,hy⟩:=hr.N9.reach (Pl.unit i);have e1:Pl.dir r.less.size (lf r.bN) (Pl.unit i)=Pl.dir r.less.size (Pl.qb r.less.size St (lf r.bN)) y:=by
   rw [Pl.yA];exact Pl.Eh hy
  have e2:Pl.dir r.less.size (Pl.qb r.less.size St (lf r.bN)) y=0:=by
   unfold Pl.dir;exact Pl.kD λj hj=>by
    rw [Pl.lS];have h3:Pl.aQ r.less.size St (lf r.bN) j=0:=hz j hj;rw [h3,aaM]
  have:lf r.bN (i+1)=0:=by rw [<-e0,e1,e2]
  exact this
 ·have:=h1.lt;show r.size - 1+1=r.size;have e:r.less.size=r.size:=rfl;omega
theorem uo.size (h:uo r r'):r'.size<=r.size:=by
 obtain ⟨_,hw⟩:=h;rcases hw with ⟨rfl,_⟩|⟨at_,kk,St,x,h1,_,_,rfl⟩
 ·exact d_ _
 ·exact Nat.sub_le _ _
theorem fD.lead (h:fD r k r1) (hk:0<k) (hl:r.Cc):r1.size<r.size:=by
 obtain ⟨T,h0,e,hs⟩:=h;have h1:=(hs 0 hk).lead (by rw [h0];exact hl);have:∀ i,i<k->(T (i+1)).size<=(T 1).size:=λi=>by
  induction i with
  | zero=>intro _;exact d_ _
  | succ i ih=>intro hi;exact w_ (hs (i+1) hi).size (ih (by omega))
 have h2:=this (k - 1) (by omega);rw [show k - 1+1=k by omega,e] at h2;rw [h0] at h1;simp only [M_] at h1;omega
theorem RP {r:aP} (h0:0<r.zero.length) (h:∀ a∈r.zero,∃ i,i<r.size∧a.getD (i+1) 0≠0):r.Cc:=by
 refine ⟨h0,h _ ?_⟩;unfold aP.bN;rw [a_,f_ (by omega)];exact aak _
theorem Ms {K M:Nat} {a st:List Int} (ha:∀ k,Pl.Lt K (a.getD k 0)) (hs:∀ k,Pl.Lt M (st.getD k 0)) {i:Nat} (hi:i<=1000):Pl.Lt (K+M+1) (mZ a st i) :=
 Pl.Lt.sum (λk _=>(ha (k+1)).mul (hs k)) (by omega)
theorem dF.RQ {L K:Nat} {r:aP} {M:List (List Int)} (h:dF L r) (hM:∀ i k,Pl.Lt K ((M.getD i []).getD k 0)) (hn:r.size<=100):dF (L+K+1) (r.bK M):=by
 have key:∀ ls:List (List Int),(∀ i k,Pl.Lt L ((ls.getD i []).getD k 0))->∀ i k,Pl.Lt (L+K+1) (((ls.map (λa=>dH a M r.size)).getD i []).getD k 0):=λls hls i k=>by
  rcases hi:ls[i]? with _|a
  ·have e:(ls.map (λa=>dH a M r.size)).getD i []=[]:=by rw [a_,aal,hi];rfl
   rw [e];exact lq _
  ·have e:(ls.map (λa=>dH a M r.size)).getD i []=dH a M r.size:=by rw [a_,aal,hi];rfl
   have ha:ls.getD i []=a:=by rw [a_,hi];rfl
   have DF:=hls i;rw [ha] at DF;rw [e];unfold dH;by_cases hk:k<r.size+1
   ·rw [Pl.bJ _ _ _ hk];unfold l9
    split
    ·exact (DF 0).mono (by omega)
    ·exact Ms DF (hM _) (by omega)
   ·rw [a_,O_ (by simp;omega)];exact lq _
 exact ⟨key _ h.zero,key _ h.least,key _ h.told⟩
theorem Gy {n:Nat} {s t:Nat->Int} (h:∀ k,k<=n->s k=t k) (D:Nat->Int):Pl.dir n s D=Pl.dir n t D:=by
 unfold Pl.dir;exact Pl.aC λi hi=>by rw [h (i+1) (by omega)]
theorem JA {f g:List Int->Nat->Int} {r:aP} {n:Nat} (h:∀ a k,k<=n->f a k=g a k) (ht:(oJ f r n).gJ):(oJ g r n).gJ:=by
 intro D d1 d2;refine ht D (λs hs=>?_) (λs hs=>?_)
 ·obtain ⟨a,ha,rfl⟩:=m_.1 hs;exact (Gy (h a) D).trans (d1 (g a) (m_.2 ⟨a,ha,rfl⟩))
 ·obtain ⟨a,ha,rfl⟩:=m_.1 hs;exact Int.le_trans (d2 (g a) (m_.2 ⟨a,ha,rfl⟩)) (Int.le_of_eq (Gy (h a) D).symm)
theorem Gz {St:Nat->Nat->Int} (hU:Pl.Ei r.size St) (ht:r.dV.gJ):(r.bK (iR r.size St)).dV.gJ:=by
 have h1:=ht.uH hU;rw [Fq] at h1;rw [qY];exact JA (λa k hk=>(je a k hk).symm) h1
theorem JB {St:Nat->Nat->Int} (hU:Pl.Ei r.size St) (A:List Int):(r.bK (iR r.size St)).dV.kU A↔r.dV.kU A:=by
 rw [qY];refine (Mt je A).trans ?_;rw [<-Fq];exact Pl.mM.O8 hU A
theorem Ej {t:Nat} (ht:t<r.size) (v:Int) (A:List Int):(r.fixed t v).dV.kU A↔∃ x,r.dV.Has x∧r.dV.fB x=A∧x t=v:=by
 rw [sO];exact Pl.mM.Bg (r:=r.dV) ht v A
theorem JC {t:Nat} (ht:t<r.size) (v:Int) (h:r.dV.gJ):(r.fixed t v).dV.gJ:=by
 rw [sO];exact Pl.mM.gJ.fix (r:=r.dV) h ht v
end
def X4 (n L:Nat):Nat:=(n+1)*L+1
def TP (n L:Nat):Nat:=2*X4 n L+2*L+1
def U7 (n L:Nat):Nat:=zG n (TP n L)
def Xd (n L:Nat):Nat:=L+U7 n L+1
def GA (n L:Nat):Nat:=(n+1)*Xd n L+1
def srF (n L:Nat):Nat:=Xd n L+GA n L+1
theorem U8 (n L:Nat):L<=TP n L:=by unfold TP;omega
theorem O9 (n L:Nat):TP n L<=U7 n L:=by
 unfold U7 zG oV;rw [aa_,abA];omega
structure Room (N:Nat) (G:Nat->Nat):Prop where
 size:N<=9
 one:∀ s,s<=N->1<=G s
 drop:∀ s,s<N->15*G (s+1)+6<=G s
 part:∀ s,s<N->srF (s+1) (G (s+1))<=G s
 settle:∀ s,s<=N->20*iE (G s) s+10<=1500000000000
 reduce:∀ s,s<=N->3*((s+1)*wH s (U7 s (G s)) s+1)+20<=1500000000000
 limits:∀ s,s<=N->2*GA s (G s)+20<=1500000000000
theorem Room.iE {N:Nat} {G:Nat->Nat} (h:Room N G) {s:Nat} (hs:s<=N):∀ k,k<=s->iE (G s) k<=G (s - k)
 | 0,_=>d_ _
 | k+1,hk=>by
  have h1:=Room.iE h hs k (by omega);have h2:=h.drop (s - (k+1)) (by omega);rw [show s - (k+1)+1=s - k by omega] at h2;show 15*Go.Proofs.YtgaafamcajcifaaGreat.iE (G s) k+6<=_;omega
def Mv (B:Nat) (v:Value):Prop:=∃ g n cap,v=.slice (some ⟨g,0,none⟩) n cap∧B<=g
theorem Mv.mono {B B':Nat} {v:Value} (h:Mv B v) (hb:B'<=B):Mv B' v:=by
 obtain ⟨g,n,cap,e,h1⟩:=h;exact ⟨g,n,cap,e,by omega⟩
theorem aD.apart {P:Nat->Prop} {w:World} {v:Value} {l:List Int} (hP:aD P w v l) {B k:Nat} {cs:Array Value} (hv:Mv B v) (hk:k<B) (hb:w.heap[k]?=some (.cells cs 78 (0,0))):aD (λj=>P j∧j≠k) w v l:=by
 obtain ⟨g,n,cap,rfl,hg⟩:=hv;obtain ⟨ad,cap',e,h1,h2⟩:=hP;refine ⟨ad,cap',e,h1,λi hi=>?_⟩;obtain ⟨g',off,x,a,m,c,e',c1,c2,hw,hp,hcs⟩:=h2 i hi;have eg:g'=g:=by rw [e'] at e;cases e;rfl
 refine ⟨g',off,x,a,m,c,e',c1,c2,?_,⟨hp,by omega⟩,hcs⟩;rcases hw with hw|⟨l',b,off',X5,cs',sg,h3,h4,h5,h6⟩
 ·exact .inl hw
 ·refine .inr ⟨l',b,off',X5,cs',sg,h3,⟨h4,λe2=>?_⟩,h5,h6⟩;rw [e2,hb] at h5;simp at h5
set_option maxHeartbeats 20000000 in
theorem DI (P:Nat->Prop) (n:Nat) (ls:List (List Int)) (va:Value) (w:World) (hP:∀ b,w.heap.size<=b->P b) (ha:aM P w va ls) (hla:ls.length=n) (hn:n<=1000) (hne:∀ l∈ls,0<l.length) :
  Calls Tryz.prog 48 #[va] w λe w'=>∃ v',e=.returned v'∧aD P w' v' ((List.range n).map λk=>(ls.getD k []).getD 0 0)∧Mv w.heap.size v'∧Below w.heap.size w w':=by
 obtain ⟨i0,hi0,hz0,hz1,hz2⟩:=U_ Tryz.dP;have zy:=af ha;have oI:=af hla;have Xe:=af hne;obtain ⟨aa,ac,rfl⟩:∃ ad cap,va=.slice ad n cap:=by obtain ⟨ad,cap,e,_⟩:=ha;rw [hla] at e;exact ⟨ad,cap,e⟩
 clear ha hla hne;go_enter Tryz.func48,Tryz.ntmps48;go_wp2_with (at_make;refine wpList_make_full _ rfl _ _ 69 rfl w.heap.size 78 i0 (.agg #[.int .i64 0,.slice none 0 0]) 2 Tryz.underlying69 hi0 hz0 hz1 .i64 .i64 _ _ n rfl rfl ?e1 ?e2 ?c1 ?c2 ?c3 ?_)
 case e1=>first | rfl | omega | simp
 case e2=>first | rfl | omega | simp
 case c1=>rw [hz2];omega
 case c2=>unfold maxLen;omega
 case c3=>first | omega | simp
 ·intro w1 hown hgrow;have hG1:ae w w1:=(n_ _ _).grown hgrow (d_ _) (by intro k hk;cases hk);have uA:Hid (bz P w1 w.heap.size n (λ_=>0)):=bz.made hown;have dN:Hid (ae w w1):=hG1;clear hown hgrow hG1;go_wp2_with fail;go_loopg [4] n (λk iv wr=>∃ (i:Nat),iv=.int .i64 i∧i+k=n∧Hid (bz P wr w.heap.size n (λk=>if k<i then (ls.getD k []).getD 0 0 else 0)∧ae w wr∧True))
  case atStart=>exact ⟨0,rfl,by omega,(uh uA).congr (λi _=>by rw [g_ (by omega)]),uh dN,trivial⟩
  case round =>
   obtain ⟨i,rfl,hik,HR⟩:=hrel;by_cases hlt:i<n
   ·obtain ⟨ox,oy,om,oc,Oa,Ob,_⟩:=(uh HR).1.get hlt;obtain ⟨gl,ol,cl,u,el,k0,hur,X6⟩:=gP ((uh zy).below (uh HR).2.1) (i:=i) (by rw [uh oI];exact hlt);rw [uh oI] at el;cases el;have hpos:0<(ls.getD i []).length:=uh Xe _ X6;obtain ⟨ga,oa,ca,nx,na,nm,nc,rfl,p0,p1,hv2⟩:=eU hur (i:=0) hpos;have hw2:ae wr wr:=ae.refl _;simp only [Nat.zero_mul,Nat.add_zero] at p0 p1;have hR2:=(uh HR).1.grow hw2;have r0:=ae.cell hw2 Oa;have r1:=ae.cell hw2 Ob;have f0:=hR2.free (i*2);have f1:=hR2.free (i*2+1);have uI:Hid (bz P ((wr.setCell ⟨w.heap.size,i*2,none⟩ (.int .i64 nx)).setCell ⟨w.heap.size,i*2+1,none⟩ (.slice na nm nc)) (w.heap.size) n (λk=>if k<i+1 then (ls.getD k []).getD 0 0 else 0)):=(hR2.set hlt hv2).congr (λk _=>yB (f:=λk=>(ls.getD k []).getD 0 0) (z:=λ_=>0) k);have HG2:Hid (ae w ((wr.setCell ⟨w.heap.size,i*2,none⟩ (.int .i64 nx)).setCell ⟨w.heap.size,i*2+1,none⟩ (.slice na nm nc))):=(B_ (p:=⟨w.heap.size,i*2,none⟩) (ae.trans (uh HR).2.1 hw2) (by show w.heap.size<=w.heap.size;omega) _).setCell (p:=⟨w.heap.size,i*2+1,none⟩) (by show w.heap.size<=w.heap.size;omega) _;clear hv2 hw2 hR2;go_wp2;go_roundg (gk - 1)
    case measure=>omega
    case rel=>exact ⟨i+1,by simp,by omega,uh uI,uh HG2,trivial⟩
   ·have hin:i=n:=by omega
    have HF:Hid (aD P wr (.slice (some ⟨w.heap.size,0,none⟩) n n) ((List.range n).map λk=>(ls.getD k []).getD 0 0)):=((uh HR).1.congr (f':=λk=>(ls.getD k []).getD 0 0) (λk hk=>by rw [h_ (by omega)])).row (hP _ (d_ _));go_wp2;go_ret;exact ⟨_,rfl,uh HF,⟨_,_,_,rfl,d_ _⟩,(uh HR).2.1⟩
def uJ (r:aP) (w:World) (e:Ending) (w':World):Prop:=∃ (vs:Value) (ok:Bool),e=.returned (.tuple #[vs,.bool ok])∧aZ vs∧Below w.heap.size w w'∧(ok=true->Mv w.heap.size vs∧∃ A,aD PT w' vs A∧r.dV.kU A)∧(ok=false->∀ A,¬ r.dV.kU A)
def GD (r:aP):Prop:=∀ (v:Value) (w:World),jT PT w v r->Calls Tryz.prog 35 #[v] w (uJ r w)
structure bU (P:Nat->Prop) (g:Nat) (w:World) (r:aP) (za:Option Addr) (zn zc:Nat) (la:Option Addr) (ln lc:Nat) (ta:Option Addr) (tn tc:Nat):Prop where
 own:w.heap[g]?=some (.cells #[.int .i64 r.size,.slice za zn zc,.slice la ln lc,.slice ta tn tc] 74 (0,0))
 rows:oW P w (.slice za zn zc) (.slice la ln lc) (.slice ta tn tc) r
theorem oW.mono {P P':Nat->Prop} {w:World} {vz vl vt:Value} {r:aP} (h:oW P w vz vl vt r) (hp:∀ k,k<w.heap.size->P k->P' k):oW P' w vz vl vt r:=⟨h.zero.mono hp,h.least.mono hp,h.told.mono hp⟩
section
variable {P:Nat->Prop} {g:Nat} {w w':World} {r:aP} {za la ta:Option Addr} {zn zc ln lc tn tc:Nat}
theorem bU.holds (h:bU P g w r za zn zc la ln lc ta tn tc) (hh:Holds P w w') (hb:w'.heap[g]?=w.heap[g]?):bU P g w' r za zn zc la ln lc ta tn tc:=⟨hb.trans h.own,h.rows.holds hh⟩
theorem bU.mono {P':Nat->Prop} (h:bU P g w r za zn zc la ln lc ta tn tc) (hp:∀ k,k<w.heap.size->P k->P' k):bU P' g w r za zn zc la ln lc ta tn tc:=⟨h.own,h.rows.mono hp⟩
theorem bU.all (h:bU P g w r za zn zc la ln lc ta tn tc):bU PT g w r za zn zc la ln lc ta tn tc:=h.mono λ_ _ _=>trivial
theorem bU.grow (h:bU P g w r za zn zc la ln lc ta tn tc) (hg:ae w w'):bU P g w' r za zn zc la ln lc ta tn tc:=⟨Below.same hg _ _ h.own,h.rows.grow hg⟩
theorem bU.at (h:bU P g w r za zn zc la ln lc ta tn tc):jT PT w (.agg #[.int .i64 r.size,.slice za zn zc,.slice la ln lc,.slice ta tn tc]) r:=⟨_,_,_,rfl,h.all.rows.zero,h.all.rows.least,h.all.rows.told⟩
theorem bU.cells (h:bU P g w r za zn zc la ln lc ta tn tc) :
  w.cell? ⟨g,0,none⟩=some (.int .i64 r.size)∧w.cell? ⟨g,1,none⟩=some (.slice za zn zc)∧w.cell? ⟨g,2,none⟩=some (.slice la ln lc)∧w.cell? ⟨g,3,none⟩=some (.slice ta tn tc)∧(∀ o,w.frozen? ⟨g,o,none⟩=false):=by
 refine ⟨?_,?_,?_,?_,λo=>aH h.own o⟩ <;> (rw [cellsOf h.own];rfl)
theorem bU.new (h:oW PT w (.slice za zn zc) (.slice la ln lc) (.slice ta tn tc) r):bU PT w.heap.size (w.alloc (.cells #[.int .i64 r.size,.slice za zn zc,.slice la ln lc,.slice ta tn tc] 74)) r za zn zc la ln lc ta tn tc:=⟨aG _ _,h.grow (ae.alloc _ _)⟩
theorem bU.store {w0:World} {cs:Array Value} (hG:ae w0 w) (hg:w0.heap.size<=g) (hb:w.heap[g]?=some (.cells cs 74 (0,0))) (hn:cs.size=4) (h2:oW PT w (.slice za zn zc) (.slice la ln lc) (.slice ta tn tc) r) :
  bU PT g ((((w.setCell ⟨g,0,none⟩ (.int .i64 r.size)).setCell ⟨g,1,none⟩ (.slice za zn zc)).setCell ⟨g,2,none⟩ (.slice la ln lc)).setCell ⟨g,3,none⟩ (.slice ta tn tc)) r za zn zc la ln lc ta tn tc∧ae w0 ((((w.setCell ⟨g,0,none⟩ (.int .i64 r.size)).setCell ⟨g,1,none⟩ (.slice za zn zc)).setCell ⟨g,2,none⟩ (.slice la ln lc)).setCell ⟨g,3,none⟩ (.slice ta tn tc))∧Holds PT w ((((w.setCell ⟨g,0,none⟩ (.int .i64 r.size)).setCell ⟨g,1,none⟩ (.slice za zn zc)).setCell ⟨g,2,none⟩ (.slice la ln lc)).setCell ⟨g,3,none⟩ (.slice ta tn tc)):=by
 have hs:=iU (P:=PT) hG hg hb (r.size:Int) za zn zc la ln lc ta tn tc;refine ⟨⟨?_,h2.holds hs.2⟩,hs.1,hs.2⟩;obtain ⟨a,b,c,d,rfl⟩:∃ a b c d,cs=#[a,b,c,d]:=by
  rcases cs with ⟨_|⟨a,_|⟨b,_|⟨c,_|⟨d,_|⟨e,t⟩⟩⟩⟩⟩⟩ <;> simp at hn
  exact ⟨a,b,c,d,rfl⟩
 have b1:=j_ w g 0 _ _ (.int .i64 r.size) hb;have b2:=j_ _ g 1 _ _ (.slice za zn zc) b1;have b3:=j_ _ g 2 _ _ (.slice la ln lc) b2;have b4:=j_ _ g 3 _ _ (.slice ta tn tc) b3;exact b4
theorem bU.var {B k:Nat} (h:bU (·<B) g w r za zn zc la ln lc ta tn tc) (hk:B<=k) (hne:g≠k) (u v:Value):bU (·<B) g ((w.setCell ⟨k,0,none⟩ u).setCell ⟨k,1,none⟩ v) r za zn zc la ln lc ta tn tc :=
 h.holds (Holds.trans (P:=(·<B)) (fu (P:=(·<B)) (Nat.not_lt.2 hk) _ _) (fu (P:=(·<B)) (Nat.not_lt.2 hk) _ _)) (jN hne _ _)
end
theorem Mw {r:aP} {i:Nat} (h:i<r.told.length) (x:Nat->Int):(r.dV.fB x).getD i 0=Pl.ev r.size (lf (r.told.getD i [])) (Pl.pt x):=by
 have e:r.dV.fB x=r.told.map λa=>Pl.ev r.size (lf a) (Pl.pt x):=by
  show ((r.told.map lf).map λs=>Pl.ev r.size s (Pl.pt x))=_;rw [List.map_map];rfl
 rw [e,a_,aal,a_ (l:=r.told),f_ h];rfl
structure GG (B:Nat) (w0 w:World) (R:aP) (ya:Option Addr) (yn yc:Nat) (ua:Option Addr) (un uc:Nat) (ra:Option Addr) (rn rc:Nat) (g8 g9 g10 g11:Nat) (lx:Int) (la:Option Addr) (lm lc:Nat) (lo:Int) (hx:Int) (ha:Option Addr) (hm hc:Nat) (hi:Int) (mx:Int) (ma:Option Addr) (mm mc:Nat) (kZ:Int) (ox:Int) (oa:Option Addr) (om oc:Nat) (off:Int):Prop where
 box:bU (·<B) w0.heap.size w R ya yn yc ua un uc ra rn rc
 v8:bB PT w g8 lx la lm lc lo
 v9:bB PT w g9 hx ha hm hc hi
 v10:bB PT w g10 mx ma mm mc kZ
 v11:bB PT w g11 ox oa om oc off
 cZ:ae w0 w
 n8:g8≠g11
 n9:g9≠g11
 n10:g10≠g11
 new:w0.heap.size<g11
 b11:B<=g11
section
variable {B:Nat} {w0 w w':World} {R:aP} {ya ua ra la ha ma oa:Option Addr} {yn yc un uc rn rc g8 g9 g10 g11 lm lc hm hc mm mc om oc:Nat} {lx lo hx hi mx kZ ox off:Int}
theorem GG.grow (h:GG B w0 w R ya yn yc ua un uc ra rn rc g8 g9 g10 g11 lx la lm lc lo hx ha hm hc hi mx ma mm mc kZ ox oa om oc off) (hg:ae w w'):GG B w0 w' R ya yn yc ua un uc ra rn rc g8 g9 g10 g11 lx la lm lc lo hx ha hm hc hi mx ma mm mc kZ ox oa om oc off :=
 ⟨h.box.grow hg,h.v8.grow hg,h.v9.grow hg,h.v10.grow hg,h.v11.grow hg,h.cZ.trans hg,h.n8,h.n9,h.n10,h.new,h.b11⟩
theorem GG.set (h:GG B w0 w R ya yn yc ua un uc ra rn rc g8 g9 g10 g11 lx la lm lc lo hx ha hm hc hi mx ma mm mc kZ ox oa om oc off) {x:Int} {a:Option Addr} {m c:Nat} {n:Int} (hv:aj PT w (.agg #[.int .i64 x,.slice a m c]) n):GG B w0 ((w.setCell ⟨g11,0,none⟩ (.int .i64 x)).setCell ⟨g11,1,none⟩ (.slice a m c)) R ya yn yc ua un uc ra rn rc g8 g9 g10 g11 lx la lm lc lo hx ha hm hc hi mx ma mm mc kZ x a m c n :=
 ⟨h.box.var h.b11 (Nat.ne_of_lt h.new) _ _,h.v8.put ⟨_,h.v11.heap⟩ h.n8 _ _ _ _,h.v9.put ⟨_,h.v11.heap⟩ h.n9 _ _ _ _,h.v10.put ⟨_,h.v11.heap⟩ h.n10 _ _ _ _,⟨jU h.v11.heap _ _,hv.kE h.v11.heap _ _⟩,(B_ (p:=⟨g11,0,none⟩) h.cZ (abv h.new) _).setCell (p:=⟨g11,1,none⟩) (abv h.new) _,h.n8,h.n9,h.n10,h.new,h.b11⟩
end
theorem U9 {K:Nat} (h:K≠0):Pl.Lt K 2:=by
 obtain ⟨K',rfl⟩:∃ K',K=K'+1:=⟨K - 1,by omega⟩;rw [Pl.dZ,abI];have:=aa6 (n:=K') (show 0<1073741824 by omega);show 2<_;omega
theorem JD {r:aP} {L K:Nat} (hf:iM L r) {St:Nat->Nat->Int} (hU:Pl.Ei r.size St) (hS:∀ a b,a<r.size->b<r.size->Pl.Lt K (St a b)):iM (L+K+1) (r.bK (iR r.size St)) :=
 ⟨by show r.zero.map _=[];rw [hf.zero];rfl,Gz hU hf.mJ,hf.ok.bK,hf.lt.RQ (vU hS) (by have:=hf.size;omega),by omega,hf.Ah,hf.size,by show (r.least.map _).length<=800;rw [L_];exact hf.pI⟩
theorem ng {K:Nat} {a b x:Int} (ha:Pl.Lt K a) (hb:Pl.Lt K b) (h1:a<=x) (h2:x<=b):Pl.Lt K x:=by
 rw [Pl.dZ] at *;omega
structure Mx (R:aP) (last:Nat) (lo hi:Int) (k:Nat):Prop where
 all:∀ j,j<k->Int.fdiv (lo+hi) 2+lX j<=hi∧(lo<=Int.fdiv (lo+hi) 2+lX j->∀ A,¬ (R.fixed last (Int.fdiv (lo+hi) 2+lX j)).dV.kU A)
theorem Mx.pI {R:aP} {last k:Nat} {lo hi:Int} (h:Mx R last lo hi k):k<=2*(hi - Int.fdiv (lo+hi) 2).toNat+2:=by
 apply v_;intro hc;have h1:=(h.all (2*(hi - Int.fdiv (lo+hi) 2).toNat+1) (by omega)).1;rw [(qK _).2] at h1;omega
theorem Mx.next {R:aP} {last k:Nat} {lo hi:Int} (h:Mx R last lo hi k) (h1:Int.fdiv (lo+hi) 2+lX k<=hi) (h2:lo<=Int.fdiv (lo+hi) 2+lX k->∀ A,¬ (R.fixed last (Int.fdiv (lo+hi) 2+lX k)).dV.kU A):Mx R last lo hi (k+1) :=
 ⟨λj hj=>by
  by_cases e:j=k
  ·rw [e];exact ⟨h1,h2⟩
  ·exact h.all j (by omega)⟩
theorem Mx.none {R:aP} {last k:Nat} {lo hi:Int} (h:Mx R last lo hi k) (hl:last<R.size) (hlim:∀ x,R.dV.Has x->lo<=x last∧x last<=hi) (hend:hi<Int.fdiv (lo+hi) 2+lX k) (A:List Int):¬ R.dV.kU A:=by
 rintro ⟨x,hx,ht⟩;obtain ⟨h1,h2⟩:=hlim x hx;obtain ⟨j,hj,e⟩:=Mq hend h1 h2;refine (h.all j hj).2 (by omega) A ((Ej hl _ A).2 ⟨x,hx,ht,e.symm⟩)
theorem Mx.lt {R:aP} {last k K:Nat} {lo hi:Int} (h:Mx R last lo hi k) (hl:Pl.Lt K lo) (hh:Pl.Lt K hi):Pl.Lt (K+1) (Int.fdiv (lo+hi) 2)∧Pl.Lt (K+3) (lX k)∧Pl.Lt (K+4) (Int.fdiv (lo+hi) 2+lX k):=by
 have m1:Pl.Lt (K+1) (Int.fdiv (lo+hi) 2):=(hl.add hh).fdiv (by decide);have m2:Pl.Lt (K+2) (hi - Int.fdiv (lo+hi) 2):=(Pl.Lt.mono hh (show K<=K+1 by omega)).sub m1;have hf:=h.pI;have m3:Pl.Lt (K+3) (lX k):=by
  have h1:(lX k).natAbs<=(hi - Int.fdiv (lo+hi) 2).natAbs+1:=by
   rcases (show ∃ t,k=2*t∨k=2*t+1 from ⟨k/2,by omega⟩) with ⟨t,e|e⟩
   ·rw [e,(qK t).1];omega
   ·rw [e,(qK t).2];omega
  rw [Pl.dZ] at m2 ⊢;have e2:(1073741824:Nat)^(K+3)=1073741824^(K+2)*1073741824:=abI _ _;have hp:0<(1073741824:Nat)^(K+2):=aa6 (by omega);omega
 exact ⟨m1,m3,(Pl.Lt.mono m1 (by omega)).add m3⟩
section
variable {r r1 r2:aP} {L k:Nat}
def aP.part (r:aP) (row:List Int):aP:=⟨r.size,r.zero,r.least++[row],r.told⟩
def aP.bound (r:aP) (row:List Int):aP:=⟨r.size,r.zero++[row],r.least,r.told⟩
theorem wu (a:List Int) (v:Int) (h0:0<a.length) (k:Nat):lf (bP a v) k=if k=0 then lf a 0+v else lf a k:=by
 unfold lf bP;rw [a_,List.getElem?_mapIdx,a_ (l:=a) (i:=k),a_ (l:=a) (i:=0)];by_cases e:k=0
 ·subst e;rw [f_ h0];simp
 ·rw [g_ e];cases a[k]? with
  | none=>rfl
  | some z=>simp [e]
theorem nA (n:Nat) (a:List Int) (v:Int) (h0:0<a.length) (x:Nat->Int):Pl.ev n (lf (bP a v)) (Pl.pt x)=Pl.ev n (lf a) (Pl.pt x)+v:=by
 rw [Pl.kR,Pl.kR,wu a v h0,h_ rfl,Pl.aC (g:=λi=>lf a (i+1)*x i) λi _=>by rw [wu a v h0,g_ (by omega)]];omega
theorem tK (a:List Int) (v:Int):(bP a v).length=a.length:=by unfold bP;rw [List.length_mapIdx]
theorem rX {K:Nat} {a:List Int} {v:Int} (ha:∀ k,Pl.Lt K (a.getD k 0)) (hv:Pl.Lt K v) (k:Nat):Pl.Lt (K+1) ((bP a v).getD k 0):=by
 by_cases h0:0<a.length
 ·have e:=wu a v h0 k;unfold lf at e;rw [e]
  split
  ·exact (ha 0).add hv
  ·exact (ha k).mono (by omega)
 ·have:a=[]:=aaz (by omega);subst this;exact lq _
theorem CG {K:Nat} {a:List Int} (ha:∀ k,Pl.Lt K (a.getD k 0)) (k:Nat):Pl.Lt K ((a.map λx=>-x).getD k 0):=by
 have:=congrFun (tJ a) k;unfold lf at this;rw [this];exact (ha k).neg
theorem yR {i:Nat} (h:i<r.told.length):r.told.getD i []∈r.told:=by
 rw [a_,f_ h];exact aak _
theorem ve {i:Nat} (h:i<r.told.length) (x:Nat->Int):(r.dV.fB x).getD i 0=Pl.ev r.size (lf (r.told.getD i [])) (Pl.pt x):=by
 have e:r.dV.fB x=r.told.map λa=>Pl.ev r.size (lf a) (Pl.pt x):=by
  show ((r.told.map lf).map λs=>Pl.ev r.size s (Pl.pt x))=_;rw [List.map_map];rfl
 rw [e,a_,aal,a_ (l:=r.told),f_ h];rfl
theorem FN {A:List Int} (h:r.dV.kU A):A.length=r.told.length:=by
 obtain ⟨x,_,rfl⟩:=h;show ((r.told.map lf).map _).length=_;rw [L_,L_]
def j5 (a:List Int) (top:Int):List Int:=bP (a.map λx=>-x) top
theorem EC (n:Nat) (a:List Int) (top:Int) (h0:0<a.length) (x:Nat->Int):Pl.ev n (lf (j5 a top)) (Pl.pt x)=top - Pl.ev n (lf a) (Pl.pt x):=by
 unfold j5;rw [nA _ _ _ (by rw [L_];exact h0),tJ,zQ];omega
theorem yS (hok:eH r) {i:Nat} (h:i<r.told.length) (top:Int) (A:List Int):(r.part (j5 (r.told.getD i []) top)).dV.kU A↔r.dV.kU A∧A.getD i 0<=top:=by
 have h0:0<(r.told.getD i []).length:=by rw [hok.gT _ (yR h)];omega
 constructor
 ·rintro ⟨x,hx,rfl⟩;have hx1:r.dV.Has x:=⟨hx.zero,λs hs=>hx.least s (by
   obtain ⟨a,ha,rfl⟩:=m_.1 hs;exact m_.2 ⟨a,F_.2 (.inl ha),rfl⟩)⟩
  refine ⟨⟨x,hx1,rfl⟩,?_⟩;have h2:0<=Pl.ev r.size (lf (j5 (r.told.getD i []) top)) (Pl.pt x):=hx.least _ (m_.2 ⟨_,F_.2 (.inr (I_.2 rfl)),rfl⟩);rw [EC _ _ _ h0] at h2;have h3:(r.dV.fB x).getD i 0<=top:=by rw [ve h];omega
  exact h3
 ·rintro ⟨⟨x,hx,rfl⟩,h1⟩;rw [ve h] at h1;refine ⟨x,⟨hx.zero,λs hs=>?_⟩,rfl⟩;obtain ⟨a,ha,rfl⟩:=m_.1 hs;rcases F_.1 ha with ha|ha
  ·exact hx.least _ (m_.2 ⟨a,ha,rfl⟩)
  ·rw [I_.1 ha];show 0<=Pl.ev r.size _ _;rw [EC _ _ _ h0];omega
theorem Lb (hok:eH r) {i:Nat} (h:i<r.told.length) (top:Int) (hn:r.least.length<1000):eH (r.part (j5 (r.told.getD i []) top)) :=
 ⟨hok.iY,λl hl=>by
  rcases F_.1 hl with h1|h1
  ·exact hok.dQ l h1
  ·rw [I_.1 h1];unfold j5;rw [tK,L_];exact hok.gT _ (yR h),hok.gT,hok.Aw,by show (r.least++[_]).length<=1000;rw [C_];simp;omega,hok.uN⟩
theorem ED {K:Nat} {ls:List (List Int)} {row:List Int} (h:∀ i k,Pl.Lt K ((ls.getD i []).getD k 0)) (hr:∀ k,Pl.Lt K (row.getD k 0)) (i k:Nat):Pl.Lt K (((ls++[row]).getD i []).getD k 0):=by
 refine lV (λa ha=>?_) i k;rcases F_.1 ha with h1|h1
 ·exact λk=>J5 h h1 k
 ·rw [I_.1 h1];exact hr
theorem Lc {K:Nat} (hl:dF K r) (i:Nat) {top:Int} (ht:Pl.Lt K top):dF (K+1) (r.part (j5 (r.told.getD i []) top)) :=
 ⟨λi k=>(hl.zero i k).mono (by omega),ED (λi k=>(hl.least i k).mono (by omega)) (rX (CG (hl.told i)) ht),λi k=>(hl.told i k).mono (by omega)⟩
theorem EE (ht:r.dV.gJ) (row:List Int):(r.part row).dV.gJ :=
 Pl.mM.gJ.more ht rfl (λs hs=>hs) (λs hs=>by
  obtain ⟨a,ha,rfl⟩:=m_.1 hs;exact m_.2 ⟨a,F_.2 (.inl ha),rfl⟩)
theorem Na (hok:eH r) {i:Nat} (h:i<r.told.length) (v:Int) (A:List Int):(r.bound (bP (r.told.getD i []) (-v))).dV.kU A↔r.dV.kU A∧A.getD i 0=v:=by
 have h0:0<(r.told.getD i []).length:=by rw [hok.gT _ (yR h)];omega
 constructor
 ·rintro ⟨x,hx,rfl⟩;have hx1:r.dV.Has x:=⟨λs hs=>hx.zero s (by
   obtain ⟨a,ha,rfl⟩:=m_.1 hs;exact m_.2 ⟨a,F_.2 (.inl ha),rfl⟩),hx.least⟩
  refine ⟨⟨x,hx1,rfl⟩,?_⟩;have h2:Pl.ev r.size (lf (bP (r.told.getD i []) (-v))) (Pl.pt x)=0:=hx.zero _ (m_.2 ⟨_,F_.2 (.inr (I_.2 rfl)),rfl⟩);rw [nA _ _ _ h0] at h2;have h3:(r.dV.fB x).getD i 0=v:=by rw [ve h];omega
  exact h3
 ·rintro ⟨⟨x,hx,rfl⟩,h1⟩;rw [ve h] at h1;refine ⟨x,⟨λs hs=>?_,hx.least⟩,rfl⟩;obtain ⟨a,ha,rfl⟩:=m_.1 hs;rcases F_.1 ha with ha|ha
  ·exact hx.zero _ (m_.2 ⟨a,ha,rfl⟩)
  ·rw [I_.1 ha];show Pl.ev r.size _ _=0;rw [nA _ _ _ h0];omega
theorem PY (hok:eH r) {i:Nat} (h:i<r.told.length) (v:Int) (hn:r.zero.length<1000):eH (r.bound (bP (r.told.getD i []) v)) :=
 ⟨λl hl=>by
  rcases F_.1 hl with h1|h1
  ·exact hok.iY l h1
  ·rw [I_.1 h1,tK];exact hok.gT _ (yR h),hok.dQ,hok.gT,by show (r.zero++[_]).length<=1000;rw [C_];simp;omega,hok.vg,hok.uN⟩
theorem PZ {K:Nat} (hl:dF K r) (i:Nat) {v:Int} (ht:Pl.Lt K v):dF (K+1) (r.bound (bP (r.told.getD i []) v)) :=
 ⟨ED (λi k=>(hl.zero i k).mono (by omega)) (rX (hl.told i) ht),λi k=>(hl.least i k).mono (by omega),λi k=>(hl.told i k).mono (by omega)⟩
theorem J6 (ht:r.dV.gJ) (row:List Int):(r.bound row).dV.gJ :=
 Pl.mM.gJ.more ht rfl (λs hs=>by
  obtain ⟨a,ha,rfl⟩:=m_.1 hs;exact m_.2 ⟨a,F_.2 (.inl ha),rfl⟩) (λs hs=>hs)
end
structure iw (d gap reach:Int):Prop where
 YY:0<=gap
 CJ:0<=reach
 some:∃ b:Nat,gap*2^b<=d∧reach+1<=4^b*(4*(d+1))
theorem iw.start {d:Int} (h:0<=d):iw d d 0:=⟨h,aaU _,0,by omega,by omega⟩
theorem iw.lower {d gap yT reach:Int} (h:iw d gap reach) (h0:0<=yT) (h1:yT<=gap):iw d yT reach:=by
 obtain ⟨b,h2,h3⟩:=h.some;exact ⟨h0,h.CJ,b,Int.le_trans (A_ h1 (Int.pow_nonneg (by decide))) h2,h3⟩
theorem iw.ac6 {d gap yT reach:Int} (h:iw d gap reach) (h0:0<=yT) (h1:yT<=gap) (hr:reach+1<=gap):iw d yT (reach*4+3):=by
 obtain ⟨b,h2,h3⟩:=h.some;have hp:(1:Int)<=2^b:=Int.pow_pos (by decide);have hq:(1:Int)<=4^b:=Int.pow_pos (by decide);have hg:gap<=d:=by
  have:=o_ hp h.YY;omega
 have h4:1*(4*(d+1))<=4^b*(4*(d+1)):=A_ hq (by have:=h.YY;omega);exact ⟨h0,by have:=h.CJ;omega,b,Int.le_trans (A_ h1 (by omega)) h2,by omega⟩
theorem iw.half {d gap yT reach:Int} (h:iw d gap reach) (h0:0<=yT) (h1:2*yT<=gap):iw d yT (reach*4+3):=by
 obtain ⟨b,h2,h3⟩:=h.some;refine ⟨h0,by have:=h.CJ;omega,b+1,?_,?_⟩
 ·have e:yT*2^(b+1)=(2*yT)*2^b:=by rw [aaC,u_ 2 yT,y_,u_ 2 (2^b)]
  rw [e];exact Int.le_trans (A_ h1 (Int.pow_nonneg (by decide))) h2
 ·have e:(4:Int)^(b+1)*(4*(d+1))=4*(4^b*(4*(d+1))):=by rw [aaC,u_ (4^b) 4,y_]
  rw [e];omega
theorem iw.le {d gap reach:Int} (h:iw d gap reach) (hg:0<gap):reach+1<=d*d*(4*(d+1)):=by
 obtain ⟨b,h2,h3⟩:=h.some;have hp:(1:Int)<=2^b:=Int.pow_pos (by decide);have hb:(2:Int)^b<=d:=by
  have:=A_ (show (1:Int)<=gap by omega) (show (0:Int)<=2^b by omega);omega
 have e:(4:Int)^b=2^b*2^b:=by rw [<-Int.mul_pow];rfl
 have h4:(4:Int)^b<=d*d:=by rw [e];exact Int.mul_le_mul hb hb (by omega) (by omega)
 exact Int.le_trans h3 (A_ h4 (by omega))
theorem iw.lt {d gap reach:Int} {M:Nat} (h:iw d gap reach) (hg:0<gap) (hM:1<=M) (hd:Pl.Lt M d):Pl.Lt (3*M+2) reach:=by
 have h1:=h.le hg;obtain ⟨M',rfl⟩:∃ M',M=M'+1:=⟨M - 1,by omega⟩;have l4:Pl.Lt (M'+1+2) (4*(d+1)):=by
  have a1:Pl.Lt (M'+1+1) (d+1):=hd.add (dR (by decide));have a2:Pl.Lt (1+(M'+1+1)) (4*(d+1)):=Pl.Lt.mul (K:=1) (by rw [Pl.dZ];decide) a1;exact a2.mono (by omega)
 have l5:Pl.Lt ((M'+1)+(M'+1)+(M'+1+2)) (d*d*(4*(d+1))):=(hd.mul hd).mul l4;have l6:Pl.Lt (3*(M'+1)+2) (d*d*(4*(d+1))):=l5.mono (by omega);rw [Pl.dZ] at l6 ⊢;have:=h.CJ;omega
def lexLt (A B:List Int):Prop:=∃ i,i<A.length∧(∀ j,j<i->A.getD j 0=B.getD j 0)∧A.getD i 0<B.getD i 0
structure Ay (S:List Int->Prop) (k:Nat) (A:List Int):Prop where
 mem:S A
 low:∀ B,S B->∀ i,i<k->(∀ j,j<i->B.getD j 0=A.getD j 0)->A.getD i 0<=B.getD i 0
theorem Ay.least {S:List Int->Prop} {k:Nat} {A:List Int} (h:Ay S k A) {B:List Int} (hB:S B) (hl:B.length<=k):¬ lexLt B A:=by
 rintro ⟨i,hi,h1,h2⟩;have:=h.low B hB i (by omega) h1;omega
theorem Ay.step {S S':List Int->Prop} {k:Nat} {A A':List Int} (h:Ay S k A) (hS:∀ B,S' B↔S B∧∀ j,j<k->B.getD j 0=A.getD j 0) (hm:S' A') (hl:∀ B,S' B->A'.getD k 0<=B.getD k 0):Ay S (k+1) A':=by
 have hA:=(hS A').1 hm;refine ⟨hA.1,λB hB i hi hj=>?_⟩;by_cases e:i=k
 ·subst e;exact hl B ((hS B).2 ⟨hB,λj hj'=>(hj j hj').trans (hA.2 j hj')⟩)
 ·have:=h.low B hB i (by omega) (λj hj'=>(hj j hj').trans (hA.2 j (by omega)));rw [hA.2 i (by omega)];exact this
theorem Ay.next {S S':List Int->Prop} {k:Nat} {A A':List Int} (hS:∀ B,S' B↔S B∧∀ j,j<k->B.getD j 0=A.getD j 0) (hm:S' A') (B:List Int):(S' B∧B.getD k 0=A'.getD k 0)↔S B∧∀ j,j<k+1->B.getD j 0=A'.getD j 0:=by
 have hA:=(hS A').1 hm;rw [hS B];constructor
 ·rintro ⟨⟨h1,h2⟩,h3⟩;refine ⟨h1,λj hj=>?_⟩;by_cases e:j=k
  ·rw [e];exact h3
  ·rw [h2 j (by omega),hA.2 j (by omega)]
 ·rintro ⟨h1,h2⟩;exact ⟨⟨h1,λj hj=>(h2 j (by omega)).trans (hA.2 j hj)⟩,h2 k (by omega)⟩
def t0:Pl.aR:=⟨[],[],1⟩
def vk (w:World) (b:Nat):Prop:=w.heap[b]?=some (.cells #[.slice none 0 0,.slice none 0 0,.int .i64 1,.slice none 0 0] 109 (0,0))
theorem zX (P:Nat->Prop) (w:World):aj P w (.agg #[.int .i64 1,.slice none 0 0]) 1:=.inl ⟨rfl,show (-4611686018427387904:Int)<1 by decide,show (1:Int)<4611686018427387904 by decide⟩
theorem vk.cells {w:World} {b:Nat} (h:vk w b):w.cell? ⟨b,0,none⟩=some (.slice none 0 0)∧w.cell? ⟨b,1,none⟩=some (.slice none 0 0)∧w.cell? ⟨b,2,none⟩=some (.int .i64 1)∧w.cell? ⟨b,3,none⟩=some (.slice none 0 0):=by
 unfold vk at h;refine ⟨?_,?_,?_,?_⟩ <;> (rw [cellsOf h];rfl)
theorem vk.at {w:World} {b:Nat} (h:vk w b):rY PT w b t0 :=
 ⟨⟨_,h.cells.1,none,0,rfl,λi hi=>absurd hi (aaD i)⟩,⟨_,h.cells.2.1,none,0,rfl,λi hi=>absurd hi (aaD i)⟩,⟨_,_,_,_,h.cells.2.2.1,h.cells.2.2.2,zX _ _⟩⟩
theorem vk.grow {w w':World} {b:Nat} (h:vk w b) (hg:ae w w'):vk w' b:=Below.same hg _ _ h
theorem QE:mG t0:=⟨by decide,by decide,λl hl=>by cases hl⟩
theorem Kw (b:Nat) (w:World) (h:vk w b) :
  Calls Tryz.prog 64 #[.pointer (some ⟨b,0,none⟩)] w λe w'=>e=.returned (.tuple #[])∧Below w.heap.size w w':=by
 have HT:=af h;clear h;go_enter Tryz.func64,Tryz.ntmps64;go_wp2_with fail;go_loopg [2] 0 (λk cv wr=>cv=.int .i64 0∧Hid (ae w wr))
 case atStart=>exact ⟨rfl,n_ _ _⟩
 case round =>
  obtain ⟨rfl,HR⟩:=hrel;have k1:=((uh HT).grow (uh HR)).cells.2.1;go_wp2;go_end0;exact ⟨rfl,uh HR⟩
theorem P5 (la:Option Addr) (lc:Nat) (w:World) :
  Calls Tryz.prog 49 #[.slice la 0 lc,.int .i64 0] w λe w'=>∃ b,e=.returned (.pointer (some ⟨b,0,none⟩))∧w.heap.size<=b∧vk w' b∧ae w w':=by
 go_enter Tryz.func49,Tryz.ntmps49;go_wp2_with fail;refine (fM (λ_=>True) 1 _ (λ_ _=>trivial) (by decide) (by decide)).mono ?_;rintro e w1 ⟨v1,rfl,hv1,hw1⟩;have ev:=hv1.fits (by decide);subst ev;have dN:Hid (ae w w1):=hw1;clear hv1 hw1;go_wp2_with fail;have HGt:Hid (ae w (w1.alloc (.cells #[.slice none 0 0,.slice none 0 0,.int .i64 1,.slice none 0 0] 109))):=(uh dN).trans (ae.alloc _ _);have ZM:Hid (vk (w1.alloc (.cells #[.slice none 0 0,.slice none 0 0,.int .i64 1,.slice none 0 0] 109)) w1.heap.size):=aG _ _;have hwb:w.heap.size<=w1.heap.size:=(uh dN).size;generalize hWt:w1.alloc (.cells #[.slice none 0 0,.slice none 0 0,.int .i64 1,.slice none 0 0] 109)=Wt at *
 generalize w1.heap.size=b at *
 clear hWt dN;go_loopg [6] 0 (λk iv wr=>iv=.int .i64 0∧Hid (ae Wt wr))
 case atStart=>exact ⟨rfl,n_ _ _⟩
 case round =>
  obtain ⟨rfl,HR⟩:=hrel;go_wp2_with fail;rename World=>wo;rename Nat=>go;go_loopg [7] 0 (λk iv wr=>iv=.int .i64 0∧Hid (ae Wt wr))
  case atStart=>exact ⟨rfl,uh HR⟩
  case round =>
   obtain ⟨rfl,HR2⟩:=hrel;go_wp2_with fail;refine (Kw b _ ((uh ZM).grow (uh HR2))).mono ?_;rintro e w3 ⟨rfl,hw3⟩;have jb:Hid (ae Wt w3):=(uh HR2).trans hw3;clear hw3;go_wp2;go_ret;exact ⟨b,rfl,hwb,(uh ZM).grow (uh jb),(uh HGt).trans (uh jb)⟩
theorem FO (b:Nat) (w:World) (h:vk w b) :
  Calls Tryz.prog 50 #[.pointer (some ⟨b,0,none⟩)] w λe w'=>e=.returned (.bool false)∧Below w.heap.size w w':=by
 have HT:=af h;clear h;go_enter Tryz.func50,Tryz.ntmps50;go_wp2_with fail;go_loopg [] 0 (λk wr=>Hid (ae w wr))
 case atStart=>exact n_ _ _
 case round =>
  have HR:=hrel;clear hrel;go_wp2_with fail;refine (qO PT b t0 wr ((uh HT).grow (uh HR)).at QE).mono ?_;rintro e w1 ⟨c,rfl,mR,hw1⟩;have dN:Hid (ae w w1):=(uh HR).trans hw1;clear hw1;rcases mR with ⟨rfl,hno⟩|⟨r,hr,rfl,hur,ky⟩
  ·clear hno;go_wp2;go_ret;exact ⟨rfl,uh dN⟩
  ·exact absurd hr (aaD r)
end Go.Proofs.YtgaafamcajcifaaGreat
