/- Joined: XList XSol6 XSol7 XSol8. -/
import Derived.Test.YtfaljekgpnbmiaaGreatJ23
set_option linter.unusedVariables false
set_option linter.unusedSimpArgs false
set_option maxRecDepth 100000
namespace Go.Proofs.YtfaljekgpnbmiaaGreat
open Go.RowKit Go.Sort
theorem aD.UW {P:Nat->Prop} {w:World} {v:Value} {l:List Int} (h:aD P w v l) {k:Nat} {cs:Array Value} (hk:w.heap[k]?=some (.cells cs 159 (0,0))) (o:Nat) (u:Value):aD P (w.setCell ⟨k,o,none⟩ u) v l:=by
 obtain ⟨ad,cap,rfl,hc,h⟩:=h;refine ⟨ad,cap,rfl,hc,λi hi=>?_⟩;obtain ⟨g,off,x,a,m,c,e,c1,c2,hw,hp,cs',hcs⟩:=h i hi;have hs:=aA.setCell (e:=168) hk (by decide) o u g cs' hcs;exact ⟨g,off,x,a,m,c,e,by rw [cellsOf (hs.trans hcs),<-cellsOf hcs];exact c1,by rw [cellsOf (hs.trans hcs),<-cellsOf hcs];exact c2,hw.bX (aA.setCell hk (by decide) o u),hp,cs',hs.trans hcs⟩
def fq (P:Nat->Prop) (w:World) (g n:Nat) (ls:List (List Int)):Prop:=∃ cs:Array Value,w.heap[g]?=some (.cells cs 159 (0,0))∧cs.size=n∧ls.length<=n∧∀ i,(hi:i<ls.length)->∃ u,cs[i]?=some u∧aD P w u ls[i]
theorem fq.grow {P:Nat->Prop} {w w':World} {g n:Nat} {ls:List (List Int)} (h:fq P w g n ls) (hb:ae w w'):fq P w' g n ls:=by
 obtain ⟨cs,h1,h2,h3,h4⟩:=h;refine ⟨cs,Below.same hb _ _ h1,h2,h3,λi hi=>?_⟩;obtain ⟨u,d1,d2⟩:=h4 i hi;exact ⟨u,d1,d2.below hb⟩
theorem fq.lt {P:Nat->Prop} {w:World} {g n:Nat} {ls:List (List Int)} (h:fq P w g n ls):g<w.heap.size:=by
 obtain ⟨cs,h1,_⟩:=h;exact z_ h1
theorem fq.free {P:Nat->Prop} {w:World} {g n:Nat} {ls:List (List Int)} (h:fq P w g n ls) (o:Nat):w.frozen? ⟨g,o,none⟩=false:=by
 obtain ⟨cs,h1,_⟩:=h;exact aH h1 o
theorem fq.cell {P:Nat->Prop} {w:World} {g n:Nat} {ls:List (List Int)} (h:fq P w g n ls) {i:Nat} (hi:i<n):∃ u,w.cell? ⟨g,i,none⟩=some u:=by
 obtain ⟨cs,h1,h2,_⟩:=h;exact ⟨cs[i],by rw [cellsOf h1];exact acf (by omega)⟩
theorem fq.rows {P:Nat->Prop} {w:World} {g n:Nat} {ls:List (List Int)} (h:fq P w g n ls) (hn:ls.length=n) (hp:P g):aM P w (.slice (some ⟨g,0,none⟩) n n) ls:=by
 obtain ⟨cs,h1,h2,h3,h4⟩:=h;refine ⟨some ⟨g,0,none⟩,n,by rw [hn],by omega,λi hi=>?_⟩;obtain ⟨u,d1,d2⟩:=h4 i hi;exact ⟨g,0,u,rfl,by rw [cellsOf h1,M_];exact d1,d2,hp,cs,h1⟩
theorem fq.add {P:Nat->Prop} {w:World} {g n:Nat} {ls:List (List Int)} (h:fq P w g n ls) (hl:ls.length<n) {u:Value} {row:List Int} (hu:aD P w u row):fq P (w.setCell ⟨g,ls.length,none⟩ u) g n (ls++[row]):=by
 obtain ⟨cs,h1,h2,h3,h4⟩:=h;refine ⟨_,j_ w g ls.length _ _ u h1,by simp [h2],by simp;omega,λi hi=>?_⟩;by_cases hlt:i<ls.length
 ·obtain ⟨u',d1,d2⟩:=h4 i hlt;exact ⟨u',by rw [K_ (by omega)];exact d1,by rw [abB hlt];exact d2.UW h1 _ _⟩
 ·have e:i=ls.length:=by simp at hi;omega
  subst e;exact ⟨u,Q_ (by omega),by simpa using hu.UW h1 _ _⟩
theorem fq.made {P:Nat->Prop} {w:World} {B g n:Nat} {xs:List Value} (h:w.ownsRow B 159 1 (.slice (some ⟨g,0,none⟩) n n) n xs):fq P w g n []:=by
 rcases h.2 with ⟨h1,_⟩|⟨g',cap,cur,he,hb,hgg,hle,hm,hcs,htk⟩
 ·simp at h1
 ·simp only [Value.slice.injEq,Option.some.injEq,Addr.mk.injEq,adh,adV] at he;obtain ⟨rfl,rfl⟩:=he;exact ⟨cur,hgg,by omega,by simp,λi hi=>by simp at hi⟩
theorem fq.block {P:Nat->Prop} {w:World} {g n:Nat} {ls:List (List Int)} (h:fq P w g n ls):∃ cs,w.heap[g]?=some (.cells cs 159 (0,0)):=by
 obtain ⟨cs,h1,_⟩:=h;exact ⟨cs,h1⟩
def mh (a:List Int) (St:List (List Int)) (n k:Nat):Int:=if k=0 then a.getD 0 0 else nu a (St.getD (k - 1) []) n
def dI (a:List Int) (St:List (List Int)) (n:Nat):List Int:=(List.range (n+1)).map (mh a St n)
theorem wY (f:List Int->List Int) (ls:List (List Int)) {i:Nat} (hi:i<ls.length):(ls.take (i+1)).map f=(ls.take i).map f++[f (ls.getD i [])]:=by
 rw [X_ hi,abv];have e:ls.getD i []=ls[i]:=by rw [a_,f_ hi];rfl
 rw [e];rfl
section
section
attribute [local go_sem] bE
set_option maxHeartbeats 20000000 in
theorem qF (P:Nat->Prop) (K n:Nat) (ls St:List (List Int)) (va vs:Value) (w:World) (hP:∀ b,w.heap.size<=b->P b) (ha:aM P w va ls) (hs:aM P w vs St) (Vd:St.length=n) (hn:n<=100) (hm:ls.length<=1000) (hlen:∀ l∈ls,l.length=n+1) (Vh:∀ l∈St,l.length=n) (hal:∀ i k,Pl.Lt K ((ls.getD i []).getD k 0)) (hsl:∀ i k,Pl.Lt K ((St.getD i []).getD k 0)) (hK:2*K+1<=1500000000000) :
  Calls Tryz.prog 337 #[va,vs] w λe w'=>∃ v',e=.returned v'∧aM P w' v' (ls.map λa=>dI a St n)∧Below w.heap.size w w':=by
 obtain ⟨i0,hi0,hz0,hz1,hz2⟩:=V_ Tryz.dR;obtain ⟨i1,hi1,hy0,hy1,hy2⟩:=V_ Tryz.l9;have zA:=af ha;have xh:=af hs;have HLEN:=af hlen;have Rf:=af Vh;obtain ⟨N,hN⟩:∃ N,ls.length=N:=⟨_,rfl⟩;have HN:=af hN;have HSN:=af Vd;obtain ⟨aa,ac,rfl⟩:∃ ad cap,va=.slice ad N cap:=by obtain ⟨ad,cap,e,_⟩:=ha;rw [hN] at e;exact ⟨ad,cap,e⟩
 obtain ⟨sa,sc,rfl⟩:∃ ad cap,vs=.slice ad n cap:=by obtain ⟨ad,cap,e,_⟩:=hs;rw [Vd] at e;exact ⟨ad,cap,e⟩
 rw [hN] at hm;clear ha hs hlen Vh hN Vd;go_enter Tryz.func337,Tryz.ntmps337;go_wp2_with (at_make;refine O_ _ rfl _ _ 162 rfl w.heap.size 159 i1 (.slice none 0 0) 1 Tryz.underlying162 hi1 hy0 hy1 .i64 .i64 _ _ N rfl rfl ?e1 ?e2 ?c1 ?c2 ?c3 ?_)
 case e1=>first | rfl | omega | simp
 case e2=>first | rfl | omega | simp
 case c1=>rw [hy2];omega
 case c2=>unfold maxLen;omega
 case c3=>first | omega | simp
 ·intro w1 hown hgrow;have hG1:ae w w1:=(n_ _ _).grown hgrow (d_ _) (by intro k hk;cases hk);have LJ:Hid (fq P w1 w.heap.size N []):=fq.made hown;have dP:=af hG1;clear hown hgrow hG1;go_wp2_with fail;go_loopg [6] N (λk iv wr=>∃ (i:Nat),iv=.int .i64 i∧i+k=N∧Hid (fq P wr w.heap.size N ((ls.take i).map λa=>dI a St n)∧ae w wr))
  case atStart=>exact ⟨0,rfl,by omega,by simpa using uh LJ,uh dP⟩
  case round =>
   rename Nat=>go;rename World=>wo;obtain ⟨i,rfl,hik,HR⟩:=hrel;have TL:Hid (ae w wo):=(uh HR).2;by_cases hlt:i<N
   ·have hil:i<ls.length:=by rw [uh HN];exact hlt
    obtain ⟨gr,orr,cr,u,er,k0,hur,hmem⟩:=gT ((uh zA).below (uh HR).2) hil;rw [uh HN] at er;cases er;have HMi:=af hmem;have hlr:=uh HLEN _ hmem;obtain ⟨ga,oa,ca,zx,za,zm,zc,rfl,p0,p1,hzv⟩:=eY hur (i:=0) (by omega);rw [hlr] at k0 hur;have HLi:Hid (aD P wo (.slice (some ⟨ga,oa,none⟩) (n+1) ca) (ls.getD i [])):=hur;have HZV:=af hzv;simp only [acL,Nat.add_zero] at p0 p1;obtain ⟨ul,kul⟩:=(uh HR).1.cell hlt;have hgl:=(uh HR).1.lt;clear hur hmem hlr hzv;go_wp2_with (at_make;refine O_ _ rfl _ _ 159 rfl wo.heap.size 168 i0 (.agg #[.int .i64 0,.slice none 0 0]) 2 Tryz.underlying159 hi0 hz0 hz1 .i64 .i64 _ _ (n+1) rfl rfl ?e1 ?e2 ?c1 ?c2 ?c3 ?_)
    case e1=>first | rfl | omega | simp
    case e2=>first | rfl | omega | simp
    case c1=>rw [hz2];omega
    case c2=>unfold maxLen;omega
    case c3=>first | omega | simp
    ·intro w2 hown hgrow;have hG2:ae wo w2:=(n_ _ _).grown hgrow (d_ _) (by intro k hk;cases hk);have hR0:bA P w2 wo.heap.size (n+1) (λ_=>0):=bA.made hown;obtain ⟨ox,oy,om,oc,q0,q1,_⟩:=hR0.get (i:=0) (by omega);simp only [acL,M_] at q0 q1;have f0:=hR0.free 0;have f1:=hR0.free 1;have p0':=hG2.cell p0;have p1':=hG2.cell p1;have k0':=hG2.cell k0;have uC:Hid (bA P ((w2.setCell ⟨wo.heap.size,0,none⟩ (.int .i64 zx)).setCell ⟨wo.heap.size,1,none⟩ (.slice za zm zc)) wo.heap.size (n+1) (λk=>if k<0+1 then mh (ls.getD i []) St n k else 0)):=by
      unfold Hid;have h1:=(hR0.set (i:=0) (by omega) ((uh HZV).below hG2)).congr (f':=λk=>if k<0+1 then mh (ls.getD i []) St n k else 0) (λk _=>by
       unfold ql mh;by_cases h:k=0
       ·subst h;simp
       ·rw [g_ h,g_ (by omega)])
      simpa using h1
     have HG2:Hid (ae wo ((w2.setCell ⟨wo.heap.size,0,none⟩ (.int .i64 zx)).setCell ⟨wo.heap.size,1,none⟩ (.slice za zm zc))):=(B_ (p:=⟨wo.heap.size,0,none⟩) hG2 (d_ _) _).setCell (p:=⟨wo.heap.size,1,none⟩) (d_ _) _;clear hown hgrow hG2 hR0;go_wp2_with fail;clear q0 q1 f0 f1 p0' p1' k0';generalize hg2:wo.heap.size=g2 at uC HG2 ⊢;have aaK:wo.heap.size<=g2:=by rw [hg2];exact d_ _
     have TM:w.heap.size<g2:=by omega
     go_loopg [8] n (λk jv wr=>∃ (j:Nat),jv=.int .i64 j∧j+k=n∧Hid (bA P wr g2 (n+1) (λk=>if k<j+1 then mh (ls.getD i []) St n k else 0)∧ae wo wr∧True))
     case atStart=>exact ⟨0,rfl,by omega,uh uC,uh HG2,trivial⟩
     case round =>
      obtain ⟨j,rfl,hjk,HI⟩:=hrel;by_cases hjn:j<n
      ·have hGw:ae w wr:=(uh TL).trans (uh HI).2.1;obtain ⟨gst,ost,cst,us,es,t0,hus,hmj⟩:=gT ((uh xh).below hGw) (i:=j) (by rw [uh HSN];exact hjn);rw [uh HSN] at es;cases es;obtain ⟨tb,tm,tc,rfl⟩:=hus.aB;have HSj:=af hus;have HMj:=af hmj;have Xm:=(uh HI).2.1.cell k0;obtain ⟨ox,oy,om,oc,OY,OZ,_⟩:=(uh HI).1.get (i:=j+1) (by omega);have y1:=b_ t0;have y2:=b_ Xm;have hI:(j:Int)+1<(n:Int)+1:=by omega
       have hI0:(0:Int)<=(j:Int)+1:=by omega
       have Zh:IntKind.i64.wrap ((j:Int)+1)=(j:Int)+1:=by rw [aaE];omega
       have htn:((j:Int)+1).toNat=j+1:=by omega
       clear hus hmj hGw;go_wp2_with fail;clear t0 Xm;refine ah (cK [(47,λv w=>aj P w v (nu (ls.getD i []) (St.getD j []) n))]) (gL [(47,ag)]) 54 13 (by kernel_rfl) (by rfl) (by kernel_rfl) (aN (λ_ _ _=>aj.below) cO) ?_
       iterate 11 (refine aO λK hK=>?_;go_simp;refine hK _ ?_;clear hK K)
       refine ai ag 262 #[.slice (some ⟨ga,oa,none⟩) (n+1) ca,.slice tb tm tc] (by rfl) (by rfl) ag.some (λw=>by go_simp) (λw1 hg hf=>(EZ P K n (ls.getD i []) (St.getD j []) _ _ w1 (λb' hb'=>hP b' (by have:=(ae.trans (uh HI).2.1 hg).size;have:=(uh TL).size;omega)) ((uh HLi).below (ae.trans (uh HI).2.1 hg)) ((uh HSj).below hg) (uh HLEN _ (uh HMi)) (uh Rf _ (uh HMj)) hn (hal _) (hsl _) hK).mono (by rintro e w' ⟨v',rfl,hv,hb⟩;exact ⟨_,rfl,hb,hv.aU,λt ht=>by cases ht;exact hv⟩)) ?_;rintro _ ⟨cx,ca,cm,cc,rfl⟩
       (refine aO λK hK=>?_;go_simp;refine hK _ ?_;clear hK K)
       refine aF ?_;intro w2 hg2 aK;have q47:aj P w2 (.agg #[.int .i64 cx,.slice ca cm cc]) (nu (ls.getD i []) (St.getD j []) n):=aK 11 _ 47 (by decide) rfl rfl;clear aK y1 y2;have hR2:=(uh HI).1.grow hg2;have s0:=ae.cell hg2 OY;have s1:=ae.cell hg2 OZ;have s2:=hR2.free ((j+1)*2);have s3:=hR2.free ((j+1)*2+1);have uK:Hid (bA P ((w2.setCell ⟨g2,(j+1)*2,none⟩ (.int .i64 cx)).setCell ⟨g2,(j+1)*2+1,none⟩ (.slice ca cm cc)) g2 (n+1) (λk=>if k<j+1+1 then mh (ls.getD i []) St n k else 0)):=(hR2.set (i:=j+1) (by omega) q47).congr (λk _=>yD (f:=mh (ls.getD i []) St n) (z:=λ_=>0) k);have HG2:Hid (ae wo ((w2.setCell ⟨g2,(j+1)*2,none⟩ (.int .i64 cx)).setCell ⟨g2,(j+1)*2+1,none⟩ (.slice ca cm cc))):=(B_ (p:=⟨g2,(j+1)*2,none⟩) (ae.trans (uh HI).2.1 hg2) aaK _).setCell (p:=⟨g2,(j+1)*2+1,none⟩) aaK _;clear q47 hR2 hg2 OY OZ;go_wp2;go_roundg (gk - 1)
       case measure=>omega
       case rel=>exact ⟨j+1,by simp,by omega,uh uK,uh HG2,trivial⟩
      ·have OA:j=n:=by omega
       subst OA;have hlt2:((ls.take i).map λa=>dI a St j).length=i:=by simp;omega
       have hL2:=(uh HR).1.grow (uh HI).2.1;have afh:=(uh HI).2.1.cell kul;have ff:=hL2.free i;have hrow:aD P wr (.slice (some ⟨g2,0,none⟩) (j+1) (j+1)) (dI (ls.getD i []) St j):=((uh HI).1.congr (f':=mh (ls.getD i []) St j) (λk hk=>by rw [h_ hk])).row (hP _ (by omega));have R9:Hid (fq P (wr.setCell ⟨w.heap.size,i,none⟩ (.slice (some ⟨g2,0,none⟩) (j+1) (j+1))) w.heap.size N ((ls.take (i+1)).map λa=>dI a St j)):=by
        unfold Hid;rw [wY (λa=>dI a St j) ls hil];have h1:=hL2.add (by rw [hlt2];exact hlt) hrow;rw [hlt2] at h1;exact h1
       have je:Hid (ae w (wr.setCell ⟨w.heap.size,i,none⟩ (.slice (some ⟨g2,0,none⟩) (j+1) (j+1)))):=B_ (p:=⟨w.heap.size,i,none⟩) ((uh TL).trans (uh HI).2.1) (d_ _) _;clear hL2 hrow hlt2;go_wp2;go_roundg (go - 1)
       case measure=>omega
       case rel=>exact ⟨i+1,by simp,by omega,uh R9,uh je⟩
   ·have hin:i=N:=by omega
    have HF:Hid (aM P wo (.slice (some ⟨w.heap.size,0,none⟩) N N) (ls.map λa=>dI a St n)∧ae w wo):=by
     refine ⟨?_,(uh HR).2⟩;have h1:=(uh HR).1;rw [hin,<-uh HN,aaV] at h1;rw [<-uh HN];exact h1.rows (by simp) (hP _ (d_ _))
    clear HR;go_wp2;go_ret;exact ⟨_,rfl,(uh HF).1,(uh HF).2⟩
end
structure pY (P:Nat->Prop) (w:World) (xs:List Value) (l:List Int):Prop where
 len:xs.length=l.length*2
 at_:∀ i,(hi:i<l.length)->∃ x a m c,xs[i*2]?=some (.int .i64 x)∧xs[i*2+1]?=some (.slice a m c)∧aj P w (.agg #[.int .i64 x,.slice a m c]) l[i]
theorem pY.grow {P:Nat->Prop} {w w':World} {xs:List Value} {l:List Int} (h:pY P w xs l) (hg:ae w w'):pY P w' xs l :=
 ⟨h.len,λi hi=>by obtain ⟨x,a,m,c,h1,h2,h3⟩:=h.at_ i hi;exact ⟨x,a,m,c,h1,h2,h3.below hg⟩⟩
theorem pY.nil (P:Nat->Prop) (w:World):pY P w [] []:=⟨rfl,λi hi=>by simp at hi⟩
theorem pY.snoc {P:Nat->Prop} {w:World} {xs:List Value} {l:List Int} (h:pY P w xs l) {x:Int} {a:Option Addr} {m c:Nat} {v:Int} (hv:aj P w (.agg #[.int .i64 x,.slice a m c]) v):pY P w (xs++[.int .i64 x,.slice a m c]) (l++[v]):=by
 refine ⟨by simp [h.len];omega,λi hi=>?_⟩;by_cases hl:i<l.length
 ·obtain ⟨x',a',m',c',h1,h2,h3⟩:=h.at_ i hl;refine ⟨x',a',m',c',?_,?_,?_⟩
  ·rw [aam (by rw [h.len];omega)];exact h1
  ·rw [aam (by rw [h.len];omega)];exact h2
  ·rw [abB hl];exact h3
 ·have e:i=l.length:=by simp at hi;omega
  subst e;refine ⟨x,a,m,c,?_,?_,?_⟩
  ·rw [S_ (by rw [h.len];omega),h.len];simp
  ·rw [S_ (by rw [h.len];omega),h.len];simp
  ·simpa using hv
theorem pY.row {P:Nat->Prop} {w:World} {B:Nat} {v:Value} {xs:List Value} {l:List Int} (h:pY P w xs l) (ho:w.ownsRow B 168 2 v l.length xs) (hP:∀ g,B<=g->P g):aD P w v l:=by
 rcases ho.2 with ⟨rfl,h0⟩|⟨g,cap,cur,rfl,hb,jU,hle,hmx,hsz,htk⟩
 ·exact ⟨none,0,by rw [h0],by omega,λi hi=>by omega⟩
 ·refine ⟨some ⟨g,0,none⟩,cap,rfl,hle,λi hi=>?_⟩;obtain ⟨x,a,m,c,h1,h2,h3⟩:=h.at_ i hi;refine ⟨g,0,x,a,m,c,rfl,?_,?_,h3,hP g hb,cur,jU⟩
  ·rw [cellsOf jU,M_];rw [<-htk,aak (by omega)] at h1
   simpa using h1
  ·rw [cellsOf jU,M_];rw [<-htk,aak (by omega)] at h2
   simpa using h2
def eZ (a:List Int) (t:Nat) (x:Int):List Int:=bQ (a.eraseIdx (t+1)) (a.getD (t+1) 0*x)
theorem II {K:Nat} {a:List Int} (h:∀ k,Pl.Lt K (a.getD k 0)) (t k:Nat):Pl.Lt K ((a.eraseIdx t).getD k 0):=by
 rw [a_,List.getElem?_eraseIdx]
 split
 ·have:=h k;rwa [a_] at this
 ·have:=h (k+1);rwa [a_] at this
def jd (a:List Int) (t j:Nat):List Int:=(a.take j).eraseIdx t
theorem E5 (a:List Int) (t:Nat):jd a t 0=[]:=by simp [jd]
theorem Uh (a:List Int) (t:Nat):jd a t (t+1)=jd a t t:=by
 unfold jd;rw [ac1 (l:=a.take t) (by rw [U_];omega)];by_cases h:t<a.length
 ·rw [X_ h,List.eraseIdx_append_of_length_le (by rw [U_];omega)];have:t - (a.take t).length=0:=by rw [U_];omega
  rw [this];simp
 ·rw [aaN (by omega),aaN (by omega),ac1 (by omega)]
theorem OE (a:List Int) (t:Nat) {j:Nat} (hj:j<a.length) (hne:j≠t):jd a t (j+1)=jd a t j++[a.getD j 0]:=by
 unfold jd;have e:a.getD j 0=a[j]:=by rw [a_,f_ hj];rfl
 rw [X_ hj,e];by_cases h:t<j
 ·rw [List.eraseIdx_append_of_lt_length (by rw [U_];omega)]
 ·rw [ac1 (l:=a.take j) (by rw [U_];omega),ac1 (by rw [C_,U_];simp;omega)]
theorem Rx (a:List Int) (t:Nat):jd a t a.length=a.eraseIdx t:=by unfold jd;rw [aaV]
theorem Ry (a:List Int) (t j:Nat):(jd a t j).length<=j:=by
 unfold jd;have h1:=List.length_eraseIdx_le (a.take j) t;rw [U_] at h1;omega
attribute [local go_sem] bE
set_option maxHeartbeats 20000000 in
theorem rD (P:Nat->Prop) (K n at_:Nat) (ls:List (List Int)) (x:Int) (va vx:Value) (w:World) (hP:∀ b,w.heap.size<=b->P b) (ha:aM P w va ls) (hx:aj P w vx x) (hn0:0<n) (hn:n<=100) (hat:at_<n) (hm:ls.length<=1000) (hlen:∀ l∈ls,l.length=n+1) (hal:∀ i k,Pl.Lt K ((ls.getD i []).getD k 0)) (hxl:Pl.Lt K x) (hK:2*K<=1500000000000) :
  Calls Tryz.prog 338 #[va,.int .i64 at_,vx] w λe w'=>∃ v',e=.returned v'∧aM P w' v' (ls.map λa=>eZ a at_ x)∧Below w.heap.size w w':=by
 obtain ⟨i0,hi0,hz0,hz1,hz2⟩:=V_ Tryz.dR;obtain ⟨i1,hi1,hy0,hy1,hy2⟩:=V_ Tryz.l9;have zA:=af ha;have HLEN:=af hlen;obtain ⟨N,hN⟩:∃ N,ls.length=N:=⟨_,rfl⟩;have HN:=af hN;obtain ⟨aa,ac,rfl⟩:∃ ad cap,va=.slice ad N cap:=by obtain ⟨ad,cap,e,_⟩:=ha;rw [hN] at e;exact ⟨ad,cap,e⟩
 obtain ⟨bx,ba,bm,bc,rfl⟩:=hx.shape;have HD:=af (dD hx);have Rq:Hid (ae w (w.alloc (.cells #[.int .i64 bx,.slice ba bm bc] 168))):=ae.alloc _ _;rw [hN] at hm;have hwa:IntKind.i64.wrap ((at_:Int)+1)=(at_:Int)+1:=by rw [aaE];omega
 have hta:((at_:Int)+1).toNat=at_+1:=by omega
 have hIa:(at_:Int)+1<(n:Int)+1:=by omega
 have amr:(0:Int)<=(at_:Int)+1:=by omega
 clear ha hx hlen hN;go_enter Tryz.func338,Tryz.ntmps338;go_wp2_with (at_make;refine O_ _ rfl _ _ 162 rfl (w.heap.size+1) 159 i1 (.slice none 0 0) 1 Tryz.underlying162 hi1 hy0 hy1 .i64 .i64 _ _ N rfl rfl ?e1 ?e2 ?c1 ?c2 ?c3 ?_)
 case e1=>first | rfl | omega | simp
 case e2=>first | rfl | omega | simp
 case c1=>rw [hy2];omega
 case c2=>unfold maxLen;omega
 case c3=>first | omega | simp
 ·intro w1 hown hgrow;have hG1:ae (w.alloc (.cells #[.int .i64 bx,.slice ba bm bc] 168)) w1:=(n_ _ _).grown hgrow (d_ _) (by intro k hk;cases hk);have LJ:Hid (fq P w1 (w.heap.size+1) N []):=fq.made hown;have dP:Hid (ae w w1):=(uh Rq).trans hG1;have wR:=af ((uh HD).grow hG1);clear hown hgrow hG1;go_wp2_with fail;go_loopg [8] N (λk iv wr=>∃ (i:Nat),iv=.int .i64 i∧i+k=N∧Hid (fq P wr (w.heap.size+1) N ((ls.take i).map λa=>eZ a at_ x)∧ae w wr∧bC P wr w.heap.size bx ba bm bc x))
  case atStart=>exact ⟨0,rfl,by omega,by simpa using uh LJ,uh dP,uh wR⟩
  case round =>
   rename Nat=>go;rename World=>wo;obtain ⟨i,rfl,hik,HR⟩:=hrel;have TL:Hid (ae w wo):=(uh HR).2.1;by_cases hlt:i<N
   ·have hil:i<ls.length:=by rw [uh HN];exact hlt
    obtain ⟨gr,orr,cr,u,er,k0,hur,hmem⟩:=gT ((uh zA).below (uh HR).2.1) hil;rw [uh HN] at er;cases er;have hlr:=uh HLEN _ hmem;obtain ⟨ga,oa,ca,csa,rfl,hga,hcell⟩:=hur.get (by omega);rw [hlr] at k0;have vQ:=af hlr;have Li:=af hcell;obtain ⟨ul,kul⟩:=(uh HR).1.cell hlt;clear hur hmem hlr hcell;go_wp2_with fail;go_loopg [9,10] (n+1) (λk fv jv wr=>∃ (j:Nat) (xs:List Value) (fa:Option Addr) (fn fc:Nat),jv=.int .i64 j∧fv=.slice fa fn fc∧j+k=n+1∧Hid (wr.ownsRow wo.heap.size 168 2 (.slice fa fn fc) (jd (ls.getD i []) (at_+1) j).length xs∧pY P wr xs (jd (ls.getD i []) (at_+1) j)∧ae wo wr))
    case atStart=>exact ⟨0,[],none,0,0,rfl,rfl,by omega,by rw [E5];exact ⟨rfl,.inl ⟨rfl,rfl⟩⟩,by rw [E5];exact pY.nil P wo,ae.refl _⟩
    case round =>
     obtain ⟨j,xs,fa,fn,fc,rfl,rfl,hjk,HI⟩:=hrel;have Xm:=(uh HI).2.2.cell k0;by_cases hjn:j<n+1
     ·obtain ⟨zx,za,zm,zc,z0,z1,hzv⟩:=uh Li j (by rw [uh vQ];exact hjn);have z0:=(uh HI).2.2.cell z0;have z1:=(uh HI).2.2.cell z1;have hjl:j<(ls.getD i []).length:=by rw [uh vQ];exact hjn
      by_cases hja:j=at_+1
      ·subst hja;have HK2:=af (Uh (ls.getD i []) (at_+1));clear hzv hjl;go_wp2;go_roundg (gk - 1)
       case measure=>omega
       case rel=>exact ⟨at_+1+1,xs,fa,fn,fc,by simp,rfl,by omega,by rw [uh HK2];exact (uh HI).1,by rw [uh HK2];exact (uh HI).2.1,(uh HI).2.2⟩
      ·have HK2:=af (OE (ls.getD i []) (at_+1) hjl hja);have hkl:(jd (ls.getD i []) (at_+1) j).length<=101:=by have:=Ry (ls.getD i []) (at_+1) j;omega
       have Fq:Hid (pY P wr (xs++[.int .i64 zx,.slice za zm zc]) (jd (ls.getD i []) (at_+1) j++[(ls.getD i []).getD j 0])):=(uh HI).2.1.snoc (by
        rw [a_,f_ hjl];exact hzv.below (uh HI).2.2)
       obtain ⟨kk,hkk⟩:∃ kk,(jd (ls.getD i []) (at_+1) j).length=kk:=⟨_,rfl⟩;have Gu:=(uh HI).1.alloc (.cells #[.int .i64 zx,.slice za zm zc] 168);rw [hkk] at Gu hkl;have HKK:=af hkk;have tne:((j:Int) != (at_:Int)+1)=true:=by simp;omega
       clear hzv hjl hkk hja;go_wp2_with (at_builtin;refine aau _ rfl _ _ 159 rfl wo.heap.size 168 i0 (.agg #[.int .i64 0,.slice none 0 0]) 2 32 Tryz.underlying159 hi0 hz0 hz1 hz2 rfl (by decide) _ kk xs rfl Gu ⟨_,0,none⟩ 1 1 [.int .i64 zx,.slice za zm zc] rfl rfl ?d1 (by simp [Value.oneCell']) (by decide) ?d2 ?d3 ?d4 _ rfl ?_)
       case d1=>exact λj u hu=>aav (aay _ _) j u hu
       case d2=>unfold maxLen;omega
       case d3=>omega
       case d4=>exact w_ (uh HI).2.2.size (by simp)
       ·intro g cap w2 hown1 hgrow afi hlt2;have hG2:ae wo w2:=abS (ae.trans (uh HI).2.2 (ae.alloc wr _)) hgrow (w_ (uh HI).2.2.size (by simp)) (bT Gu);have hkeep:aA 3 wr w2:=(aA.aX (ae.alloc wr (.cells #[.int .i64 zx,.slice za zm zc] 168))).trans (aA.grown Gu hgrow (by decide));have HX3:Hid (pY P w2 (xs++[.int .i64 zx,.slice za zm zc]) (jd (ls.getD i []) (at_+1) (j+1))):=by
         unfold Hid;rw [uh HK2];exact ⟨(uh Fq).len,λi hi=>by obtain ⟨x',a',m',c',h1,h2,h3⟩:=(uh Fq).at_ i hi;exact ⟨x',a',m',c',h1,h2,h3.bX hkeep⟩⟩
        have iV:=af hown1;have HG2:=af hG2;have Wz:Hid ((jd (ls.getD i []) (at_+1) (j+1)).length=kk+1):=by unfold Hid;rw [uh HK2,C_,uh HKK];rfl
        clear hown1 hgrow afi hlt2 Gu hG2 hkeep;go_wp2;go_roundg (gk - 1)
        case measure=>omega
        case rel=>exact ⟨j+1,xs++[.int .i64 zx,.slice za zm zc],_,_,_,by simp,rfl,by omega,by rw [uh Wz];exact uh iV,uh HX3,uh HG2⟩
     ·have OA:j=n+1:=by omega
      subst OA;have hEL:((ls.getD i []).eraseIdx (at_+1)).length=n:=by rw [List.length_eraseIdx,h_ (by rw [uh vQ];omega),uh vQ];rfl
      have hka:jd (ls.getD i []) (at_+1) (n+1)=(ls.getD i []).eraseIdx (at_+1):=by
       have:=Rx (ls.getD i []) (at_+1);rwa [uh vQ] at this
      have VS:Hid (aD P wr (.slice fa fn fc) ((ls.getD i []).eraseIdx (at_+1))):=by
       unfold Hid;rw [<-hka];exact (uh HI).2.1.row (uh HI).1 (λg hg=>hP g (w_ (uh TL).size hg))
      have HEL:=af hEL;have HGi:Hid (ae w wr):=(uh TL).trans (uh HI).2.2;have HVi:=af ((uh HR).2.2.grow (uh HI).2.2);have HLi:=af ((uh HR).1.grow (uh HI).2.2);have NY:Hid (((ls.take i).map λa=>eZ a at_ x).length=i):=by unfold Hid;simp;omega
      obtain ⟨zx,za,zm,zc,z0,z1,hzv⟩:=uh Li (at_+1) (by rw [uh vQ];omega);have HZV:Hid (aj P wr (.agg #[.int .i64 zx,.slice za zm zc]) ((ls.getD i []).getD (at_+1) 0)):=by
       unfold Hid;rw [a_,f_ (by rw [uh vQ];omega)];exact hzv.below (uh HI).2.2
      have z0:=(uh HI).2.2.cell z0;have z1:=(uh HI).2.2.cell z1;obtain ⟨v0,v1,_⟩:=(uh HVi).cells;have kul:=(uh HI).2.2.cell kul;have y1:=b_ z0;have y2:=b_ z1;have y3:=b_ v0;have y4:=b_ v1;have y5:=b_ Xm;clear hEL hka hzv HI;go_wp2_with fail;clear z0 z1 v0 v1 Xm;refine ah (cK [(55,λv w=>aj P w v ((ls.getD i []).getD (at_+1) 0*x)),(56,λv w=>aD P w v (eZ (ls.getD i []) at_ x))]) (gL [(55,ag),(56,bf)]) 59 15 (by kernel_rfl) (by rfl) (by kernel_rfl) (aN (λ_ _ _=>aj.below) (aN (λ_ _ _=>aD.below) cO)) ?_
      iterate 12 (refine aO λK hK=>?_;go_simp;refine hK _ ?_;clear hK K)
      refine ai ag 226 #[.agg #[.int .i64 zx,.slice za zm zc],.agg #[.int .i64 bx,.slice ba bm bc]] (by rfl) (by rfl) ag.some (λw=>by go_simp) (λw1 hg hf=>(eG P K ((ls.getD i []).getD (at_+1) 0) x _ _ w1 (λb' hb'=>hP b' (by have:=(ae.trans (uh HGi) hg).size;omega)) ((uh HZV).below hg) ((uh HVi).val.below hg) (by omega) (hal _ _) hxl).mono (by rintro e w' ⟨v',rfl,hv,hb⟩;exact ⟨_,rfl,hb,hv.aU,λt ht=>by cases ht;exact hv⟩)) ?_;rintro _ ⟨cx,ca,cm,cc,rfl⟩;refine ai bf 165 #[.slice fa fn fc,.agg #[.int .i64 cx,.slice ca cm cc]] (by rfl) (by rfl) bf.some (λw=>by go_simp) (λw1 hg hf=>(nG P (2*K) n ((ls.getD i []).eraseIdx (at_+1)) ((ls.getD i []).getD (at_+1) 0*x) _ _ w1 (λb' hb'=>hP b' (by have:=(ae.trans (uh HGi) hg).size;omega)) ((uh VS).below hg) (hf 12 (by kernel_rfl) _ 55 rfl rfl) (uh HEL) hn0 (by omega) (λk=>Pl.Lt.mono (II (hal i) _ k) (by omega)) (by rw [acC];exact (hal _ _).mul hxl) (by omega)).mono (by rintro e w' ⟨v',rfl,hv,hb⟩;exact ⟨_,rfl,hb,hv.aB,λt ht=>by cases ht;exact hv⟩)) ?_;rintro _ ⟨ra,rm,rc,rfl⟩
      (refine aO λK hK=>?_;go_simp;refine hK _ ?_;clear hK K)
      refine aF ?_;intro w2 hg2 aK;have q56:aD P w2 (.slice ra rm rc) (eZ (ls.getD i []) at_ x):=aK 13 _ 56 (by decide) rfl rfl;clear aK y1 y2 y3 y4 y5;have hL2:=(uh HLi).grow hg2;have afh:=ae.cell hg2 kul;have ff:=hL2.free i;have R9:Hid (fq P (w2.setCell ⟨w.heap.size+1,i,none⟩ (.slice ra rm rc)) (w.heap.size+1) N ((ls.take (i+1)).map λa=>eZ a at_ x)):=by
       unfold Hid;rw [wY (λa=>eZ a at_ x) ls hil];have h1:=hL2.add (by rw [uh NY];exact hlt) q56;rw [uh NY] at h1;exact h1
      have je:Hid (ae w (w2.setCell ⟨w.heap.size+1,i,none⟩ (.slice ra rm rc))):=B_ (p:=⟨w.heap.size+1,i,none⟩) (ae.trans (uh HGi) hg2) (by show w.heap.size<=w.heap.size+1;omega) _;have wU:Hid (bC P (w2.setCell ⟨w.heap.size+1,i,none⟩ (.slice ra rm rc)) w.heap.size bx ba bm bc x):=by
       refine ⟨(l_ _ _ _ _ (show w.heap.size≠w.heap.size+1 by omega)).trans ((uh HVi).grow hg2).heap,((uh HVi).grow hg2).val.bX (aA.setCell hL2.block.choose_spec (by decide) _ _)⟩
      clear q56 hL2 hg2;go_wp2;go_roundg (go - 1)
      case measure=>omega
      case rel=>exact ⟨i+1,by simp,by omega,uh R9,uh je,uh wU⟩
   ·have hin:i=N:=by omega
    have HF:Hid (aM P wo (.slice (some ⟨w.heap.size+1,0,none⟩) N N) (ls.map λa=>eZ a at_ x)∧ae w wo):=by
     refine ⟨?_,(uh HR).2.1⟩;have h1:=(uh HR).1;rw [hin,<-uh HN,aaV] at h1;rw [<-uh HN];exact h1.rows (by simp) (hP _ (by omega))
    clear HR;go_wp2;go_ret;exact ⟨_,rfl,(uh HF).1,(uh HF).2⟩
end
def qL (n:Int):Int:=if n<0 then -n else n
theorem zt (n:Int):qL n=n.natAbs:=by unfold qL;split <;> omega
attribute [local go_sem] bE
set_option maxHeartbeats 20000000 in
theorem rE (P:Nat->Prop) (K n:Nat) (l:List Int) (v:Value) (w:World) (hP:∀ b,w.heap.size<=b->P b) (h:aD P w v l) (hln:l.length=n) (hn:n<=1000) (hl:∀ k,Pl.Lt K (l.getD k 0)) (hK:K<=1500000000000) :
  Calls Tryz.prog 336 #[v] w λe w'=>∃ c:Int,e=.returned (.int .i64 c)∧mI (λk=>l.getD k 0≠0) (λk=>qL (l.getD k 0)) n c∧Below w.heap.size w w':=by
 have zA:=af h;have oL:=af hln;obtain ⟨aa,ac,rfl⟩:∃ ad cap,v=.slice ad n cap:=by obtain ⟨ad,cap,e,_⟩:=h;rw [hln] at e;exact ⟨ad,cap,e⟩
 clear h hln;go_enter Tryz.func336,Tryz.ntmps336;go_wp2_with fail;go_loopg [3,4] n (λk bv jv wr=>∃ (j:Nat) (c:Int),jv=.int .i64 j∧bv=.int .i64 c∧j+k=n∧Hid (mI (λk=>l.getD k 0≠0) (λk=>qL (l.getD k 0)) j c∧ae w wr))
 case atStart=>exact ⟨0,-1,rfl,rfl,by omega,.inl ⟨rfl,λk hk=>by omega⟩,ae.refl _⟩
 case round =>
  obtain ⟨j,c,rfl,rfl,hjk,HR⟩:=hrel;by_cases hlt:j<n
  ·obtain ⟨ga,oa,ca,px,pa,pm,pc,ea,p0,p1,hpv⟩:=eY ((uh zA).below (uh HR).2) (i:=j) (by rw [uh oL];exact hlt);rw [uh oL] at ea;cases ea;have wB:=af hpv;have Ii:=af (λw1 (hg:ae wr w1)=>bZ P _ (l.getD j 0) w1 (hpv.below hg));obtain ⟨sg,hsg⟩:∃ sg,Int.sign (l.getD j 0)=sg:=⟨_,rfl⟩;rw [hsg] at Ii;have y1:=b_ p0;have y2:=b_ p1;clear hpv;by_cases hz:l.getD j 0=0
   ·have hs0:sg=0:=by rw [<-hsg,hz];rfl
    subst hs0;have HF:=af ((uh HR).1.skip (λh=>h hz));clear hsg hz;go_wp2_with fail;clear p0 p1;refine ah (cK []) (gL [(15,(·=.int .i64 0))]) 37 23 (by kernel_rfl) (by rfl) (by kernel_rfl) (dz (by simp)) ?_
    iterate 4 (refine aO λK hK=>?_;go_simp;refine hK _ ?_;clear hK K)
    refine ai (·=.int .i64 0) 214 #[.agg #[.int .i64 px,.slice pa pm pc]] (by rfl) (by rfl) ⟨_,rfl⟩ (λw=>by go_simp) (λw1 hg hf=>(uh Ii w1 hg).mono (by rintro e w' ⟨rfl,hb⟩;exact ⟨_,rfl,hb,rfl,λt ht=>by cases ht;exact True.intro⟩)) ?_;rintro _ rfl
    iterate 9 (refine aO λK hK=>?_;go_simp;refine hK _ ?_;clear hK K)
    refine Bo (by rfl) (λ_ _ _ t ht=>by cases ht;exact True.intro) ?_
    iterate 4 (refine aO λK hK=>?_;go_simp;refine hK _ ?_;clear hK K)
    refine Bo (by rfl) (λ_ _ _ t ht=>by cases ht;exact True.intro) ?_;refine Bo (by rfl) (λ_ _ _ t ht=>by cases ht;exact True.intro) ?_
    repeat (refine aO λK hK=>?_;go_simp;refine hK _ ?_;clear hK K)
    refine aF ?_;intro w5 hg5 _;have jB:Hid (ae w w5):=(uh HR).2.trans hg5;clear hg5;go_wp2;go_roundg (gk - 1)
    case measure=>omega
    case rel=>exact ⟨j+1,c,by simp,rfl,by omega,uh HF,uh jB⟩
   ·have hs1:sg≠0:=by rw [<-hsg];intro h;exact hz (abI.1 h)
    have d1:(sg != 0)=true:=by simp [hs1]
    rcases (uh HR).1 with ⟨hc1,hno⟩|⟨k,hk1,hk2,hk3,hk4⟩
    ·have HF:=af ((uh HR).1.take hz (λk hk=>by omega));subst hc1;clear hsg hz hno;go_wp2_with fail;clear p0 p1;refine ah (cK []) (gL [(15,(·=.int .i64 sg))]) 37 23 (by kernel_rfl) (by rfl) (by kernel_rfl) (dz (by simp)) ?_
     iterate 4 (refine aO λK hK=>?_;go_simp;refine hK _ ?_;clear hK K)
     refine ai (·=.int .i64 sg) 214 #[.agg #[.int .i64 px,.slice pa pm pc]] (by rfl) (by rfl) ⟨_,rfl⟩ (λw=>by go_simp) (λw1 hg hf=>(uh Ii w1 hg).mono (by rintro e w' ⟨rfl,hb⟩;exact ⟨_,rfl,hb,rfl,λt ht=>by cases ht;exact True.intro⟩)) ?_;rintro _ rfl
     repeat (refine aO λK hK=>?_;go_simp;refine hK _ ?_;clear hK K)
     refine aF ?_;intro w5 hg5 _;have jB:Hid (ae w w5):=(uh HR).2.trans hg5;clear hg5;go_wp2;go_roundg (gk - 1)
     case measure=>omega
     case rel=>exact ⟨j+1,j,by simp,rfl,by omega,uh HF,uh jB⟩
    ·subst hk2;have hkn:k<n:=by omega
     obtain ⟨gb,ob,cb,qx,qa,qm,qc,eb,q0,q1,Rt⟩:=eY ((uh zA).below (uh HR).2) (i:=k) (by rw [uh oL];exact hkn);rw [uh oL] at eb;cases eb;have yO:=af Rt;have y3:=b_ q0;have y4:=b_ q1;have hk0:¬ ((k:Int)<0):=by omega
     have HCM:=af (λw1 (hg:ae wr w1) va vb (ha:aj P w1 va (qL (l.getD j 0))) (hb:aj P w1 vb (qL (l.getD k 0)))=>ji P K _ _ va vb w1 (λb' hb'=>hP b' (by have:=((uh HR).2.trans hg).size;omega)) ha hb hK (by have:=hl j;unfold Pl.Lt at this;rw [zt];simpa using this) (by have:=hl k;unfold Pl.Lt at this;rw [zt];simpa using this));obtain ⟨cm,hcm⟩:∃ cm,Int.sign (qL (l.getD j 0) - qL (l.getD k 0))=cm:=⟨_,rfl⟩;rw [hcm] at HCM;by_cases hless:qL (l.getD j 0)<qL (l.getD k 0)
     ·have d2:decide (cm<0)=true:=by rw [<-hcm,E_ (by omega)];decide
      have hle2:∀ k':Nat,(k:Int)=k'->qL (l.getD j 0)<qL (l.getD k' 0):=λk' hk'=>by
       rw [show k'=k by omega];exact hless
      have HF:=af ((uh HR).1.take hz hle2);clear hsg hz hk3 hk4 hle2 hless hcm Rt;go_wp2_with fail;clear p0 p1 q0 q1;refine ah (cK [(25,λv w=>aj P w v (qL (l.getD j 0))),(30,λv w=>aj P w v (qL (l.getD k 0)))]) (gL [(15,(·=.int .i64 sg)),(25,ag),(30,ag),(31,(·=.int .i64 cm))]) 37 23 (by kernel_rfl) (by rfl) (by kernel_rfl) (aN (λ_ _ _=>aj.below) (aN (λ_ _ _=>aj.below) cO)) ?_
      iterate 4 (refine aO λK hK=>?_;go_simp;refine hK _ ?_;clear hK K)
      refine ai (·=.int .i64 sg) 214 #[.agg #[.int .i64 px,.slice pa pm pc]] (by rfl) (by rfl) ⟨_,rfl⟩ (λw=>by go_simp) (λw1 hg hf=>(uh Ii w1 hg).mono (by rintro e w' ⟨rfl,hb⟩;exact ⟨_,rfl,hb,rfl,λt ht=>by cases ht;exact True.intro⟩)) ?_;rintro _ rfl
      iterate 9 (refine aO λK hK=>?_;go_simp;refine hK _ ?_;clear hK K)
      refine ai ag 339 #[.agg #[.int .i64 px,.slice pa pm pc]] (by rfl) (by rfl) ag.some (λw=>by go_simp) (λw1 hg hf=>(tu P _ _ w1 ((uh wB).below hg)).mono (by rintro e w' ⟨v',rfl,hv,hb⟩;exact ⟨_,rfl,hb,hv.aU,λt ht=>by cases ht;exact hv⟩)) ?_;rintro _ ⟨ax,aa,am,ac,rfl⟩
      iterate 4 (refine aO λK hK=>?_;go_simp;refine hK _ ?_;clear hK K)
      refine ai ag 339 #[.agg #[.int .i64 qx,.slice qa qm qc]] (by rfl) (by rfl) ag.some (λw=>by go_simp) (λw1 hg hf=>(tu P _ _ w1 ((uh yO).below hg)).mono (by rintro e w' ⟨v',rfl,hv,hb⟩;exact ⟨_,rfl,hb,hv.aU,λt ht=>by cases ht;exact hv⟩)) ?_;rintro _ ⟨bx,ba,bm,bc,rfl⟩;refine ai (·=.int .i64 cm) 222 #[.agg #[.int .i64 ax,.slice aa am ac],.agg #[.int .i64 bx,.slice ba bm bc]] (by rfl) (by rfl) ⟨_,rfl⟩ (λw=>by go_simp) (λw1 hg hf=>(uh HCM w1 hg _ _ (hf 14 (by kernel_rfl) _ 25 rfl rfl) (hf 19 (by kernel_rfl) _ 30 rfl rfl)).mono (by rintro e w' ⟨rfl,hb⟩;exact ⟨_,rfl,hb,rfl,λt ht=>by cases ht;exact True.intro⟩)) ?_;rintro _ rfl
      repeat (refine aO λK hK=>?_;go_simp;refine hK _ ?_;clear hK K)
      refine aF ?_;intro w5 hg5 _;have jB:Hid (ae w w5):=(uh HR).2.trans hg5;clear hg5;go_wp2;go_roundg (gk - 1)
      case measure=>omega
      case rel=>exact ⟨j+1,j,by simp,rfl,by omega,uh HF,uh jB⟩
     ·have d2:decide (cm<0)=false:=by
       rw [<-hcm];rcases (show 0<qL (l.getD j 0) - qL (l.getD k 0)∨qL (l.getD j 0) - qL (l.getD k 0)=0 by omega) with h|h
       ·rw [J_ h];decide
       ·rw [h];decide
      have HF:=af ((uh HR).1.stay (show qL (l.getD k 0)<=qL (l.getD j 0) by omega));clear hsg hz hk3 hk4 hless hcm Rt;go_wp2_with fail;clear p0 p1 q0 q1;refine ah (cK [(25,λv w=>aj P w v (qL (l.getD j 0))),(30,λv w=>aj P w v (qL (l.getD k 0)))]) (gL [(15,(·=.int .i64 sg)),(25,ag),(30,ag),(31,(·=.int .i64 cm))]) 37 23 (by kernel_rfl) (by rfl) (by kernel_rfl) (aN (λ_ _ _=>aj.below) (aN (λ_ _ _=>aj.below) cO)) ?_
      iterate 4 (refine aO λK hK=>?_;go_simp;refine hK _ ?_;clear hK K)
      refine ai (·=.int .i64 sg) 214 #[.agg #[.int .i64 px,.slice pa pm pc]] (by rfl) (by rfl) ⟨_,rfl⟩ (λw=>by go_simp) (λw1 hg hf=>(uh Ii w1 hg).mono (by rintro e w' ⟨rfl,hb⟩;exact ⟨_,rfl,hb,rfl,λt ht=>by cases ht;exact True.intro⟩)) ?_;rintro _ rfl
      iterate 9 (refine aO λK hK=>?_;go_simp;refine hK _ ?_;clear hK K)
      refine ai ag 339 #[.agg #[.int .i64 px,.slice pa pm pc]] (by rfl) (by rfl) ag.some (λw=>by go_simp) (λw1 hg hf=>(tu P _ _ w1 ((uh wB).below hg)).mono (by rintro e w' ⟨v',rfl,hv,hb⟩;exact ⟨_,rfl,hb,hv.aU,λt ht=>by cases ht;exact hv⟩)) ?_;rintro _ ⟨ax,aa,am,ac,rfl⟩
      iterate 4 (refine aO λK hK=>?_;go_simp;refine hK _ ?_;clear hK K)
      refine ai ag 339 #[.agg #[.int .i64 qx,.slice qa qm qc]] (by rfl) (by rfl) ag.some (λw=>by go_simp) (λw1 hg hf=>(tu P _ _ w1 ((uh yO).below hg)).mono (by rintro e w' ⟨v',rfl,hv,hb⟩;exact ⟨_,rfl,hb,hv.aU,λt ht=>by cases ht;exact hv⟩)) ?_;rintro _ ⟨bx,ba,bm,bc,rfl⟩;refine ai (·=.int .i64 cm) 222 #[.agg #[.int .i64 ax,.slice aa am ac],.agg #[.int .i64 bx,.slice ba bm bc]] (by rfl) (by rfl) ⟨_,rfl⟩ (λw=>by go_simp) (λw1 hg hf=>(uh HCM w1 hg _ _ (hf 14 (by kernel_rfl) _ 25 rfl rfl) (hf 19 (by kernel_rfl) _ 30 rfl rfl)).mono (by rintro e w' ⟨rfl,hb⟩;exact ⟨_,rfl,hb,rfl,λt ht=>by cases ht;exact True.intro⟩)) ?_;rintro _ rfl
      repeat (refine aO λK hK=>?_;go_simp;refine hK _ ?_;clear hK K)
      refine aF ?_;intro w5 hg5 _;have jB:Hid (ae w w5):=(uh HR).2.trans hg5;clear hg5;go_wp2;go_roundg (gk - 1)
      case measure=>omega
      case rel=>exact ⟨j+1,k,by simp,rfl,by omega,uh HF,uh jB⟩
  ·have hjn:j=n:=by omega
   subst hjn;have HF:=af (uh HR);clear HR;go_wp2;go_ret;exact ⟨_,rfl,(uh HF).1,(uh HF).2⟩
end Go.Proofs.YtfaljekgpnbmiaaGreat
