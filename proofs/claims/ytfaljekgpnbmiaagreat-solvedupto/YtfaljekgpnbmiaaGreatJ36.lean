/- Joined: XProd2 XLat17 XFind1. -/
import Derived.Test.YtfaljekgpnbmiaaGreatJ29
import Derived.Test.YtfaljekgpnbmiaaGreatJ31
import Derived.Test.YtfaljekgpnbmiaaGreatJ35
set_option linter.unusedVariables false
set_option linter.unusedSimpArgs false
set_option maxRecDepth 100000
namespace Go.Proofs.YtfaljekgpnbmiaaGreat
open Go.RowKit Go.Sort
structure vG (P:Nat->Prop) (w:World) (g n i:Nat) (R:Nat->Nat) (f:Nat->Nat->Int):Prop where
 above:∀ r,r<i->g<R r∧R r<w.heap.size
 oO:sH P w i R (λ_=>n) f
 list:∃ cs:Array Value,w.heap[g]?=some (.cells cs 159 (0,0))∧cs.size=n∧∀ j,j<i->cs[j]?=some (.slice (some ⟨R j,0,none⟩) n n)
theorem vG.add {P:Nat->Prop} {w w2:World} {g n i:Nat} {R:Nat->Nat} {f:Nat->Nat->Int} (h:vG P w g n i R f) (hi:i<n) (hg:ae w w2) (hr:bA P w2 w.heap.size n (f i)):vG P (w2.setCell ⟨g,i,none⟩ (.slice (some ⟨w.heap.size,0,none⟩) n n)) g n (i+1) (λr=>if r=i then w.heap.size else R r) f:=by
 obtain ⟨cs,h1,h2,h3⟩:=h.list;have hb:=Below.same hg _ _ h1;have hgl:=z_ h1;have hrl:=hr.lt;have F:=(h.oO.grow hg).snoc (g:=w.heap.size) (fr:=f i) hr (λr hr'=>by have:=(h.above r hr').2;omega) (λ_ _=>rfl);refine ⟨λr hr'=>?_,F.uy hb (by decide) (λr hr'=>?_) _ _,_,j_ w2 g i _ _ _ hb,by simp [h2],λj hj=>?_⟩
 ·have hsz:(w2.setCell ⟨g,i,none⟩ (.slice (some ⟨w.heap.size,0,none⟩) n n)).heap.size=w2.heap.size:=by simp
  rw [hsz];by_cases e:r=i
  ·rw [h_ e];omega
  ·rw [g_ e];have:=h.above r (by omega);have:=hg.size;omega
 ·by_cases e:r=i
  ·rw [h_ e];omega
  ·rw [g_ e];have:=h.above r (by omega);omega
 ·by_cases e:j=i
  ·rw [h_ e,e];exact Q_ (by omega)
  ·rw [g_ e,K_ (by omega)];exact h3 j (by omega)
structure jA (w0 w:World) (g n:Nat) (R:Nat->Nat) (f:Nat->Nat->Int) (xx:Int) (xa:Option Addr) (xm xc:Nat) (wd:Int):Prop where
 oO:sH PT w n R (λ_=>n) f
 head:dO w g n R 0 n
 var:bC PT w w0.heap.size xx xa xm xc wd
 dh:ae w0 w
 above:∀ r,r<n->w0.heap.size<R r
theorem jA.grow {w0 w w':World} {g n:Nat} {R:Nat->Nat} {f:Nat->Nat->Int} {xx:Int} {xa:Option Addr} {xm xc:Nat} {wd:Int} (h:jA w0 w g n R f xx xa xm xc wd) (hg:ae w w'):jA w0 w' g n R f xx xa xm xc wd:=⟨h.oO.grow hg,h.head.grow hg,h.var.grow hg,h.dh.trans hg,h.above⟩
theorem jA.congr {w0 w:World} {g n:Nat} {R:Nat->Nat} {f f':Nat->Nat->Int} {xx:Int} {xa:Option Addr} {xm xc:Nat} {wd:Int} (h:jA w0 w g n R f xx xa xm xc wd) (he:∀ r i,r<n->i<n->f r i=f' r i):jA w0 w g n R f' xx xa xm xc wd:=⟨h.oO.congr he,h.head,h.var,h.dh,h.above⟩
theorem jA.set {w0 w:World} {g n:Nat} {R:Nat->Nat} {f:Nat->Nat->Int} {xx:Int} {xa:Option Addr} {xm xc:Nat} {wd:Int} (h:jA w0 w g n R f xx xa xm xc wd) {i j:Nat} (hi:i<n) (hj:j<n) {x:Int} {a:Option Addr} {m c:Nat} {v:Int} (hv:aj PT w (.agg #[.int .i64 x,.slice a m c]) v):jA w0 ((w.setCell ⟨R i,j*2,none⟩ (.int .i64 x)).setCell ⟨R i,j*2+1,none⟩ (.slice a m c)) g n R (lM f i j v) xx xa xm xc wd:=by
 have ha:=h.above i hi;have hne:=j6 h.oO h.head i hi;exact ⟨h.oO.set hi hj hv,(h.head.uy (abf hne) _ _).uy (abf hne) _ _,h.var.put (h.oO.rows i hi).block (by omega) _ _ _ _,(B_ (p:=⟨R i,j*2,none⟩) h.dh (ab0 ha) _).setCell (p:=⟨R i,j*2+1,none⟩) (ab0 ha) _,h.above⟩
theorem jA.list {w0 w:World} {g n:Nat} {R:Nat->Nat} {f:Nat->Nat->Int} {xx:Int} {xa:Option Addr} {xm xc:Nat} {wd:Int} (h:jA w0 w g n R f xx xa xm xc wd):aM PT w (.slice (some ⟨g,0,none⟩) n n) (iU n f):=by
 have h1:=zR h.oO h.head (by omega) (λ_ _=>rfl) n (d_ _) (λ_ _=>trivial);have e:((List.range n).map λi=>(List.range n).map (f (0+i)))=iU n f:=by
  unfold iU;exact abr λi _=>abr λj _=>by rw [M_]
 rwa [e] at h1
section
section
attribute [local go_sem] bE
set_option maxHeartbeats 4000000 in
theorem Fy (K L n m:Nat) (ls:List (List Int)) (ws:List Int) (va vw:Value) (w:World) (ha:aM PT w va ls) (hb:aD PT w vw ws) (hm:ls.length=m) (hmw:ws.length=m) (hlen:∀ l∈ls,l.length=n+1) (hn0:0<n) (hn:n<=100) (hm8:m<=1000) (hpos:∀ k,k<m->0<ws.getD k 0) (lw:∀ k,Pl.Lt K (ws.getD k 0)) (la:∀ i k,Pl.Lt L ((ls.getD i []).getD k 0)) (hK:2*K+2*L+3<=1500000000000) :
  Calls Tryz.prog 273 #[va,vw,.int .i64 n] w λe w'=>∃ v',e=.returned v'∧aM PT w' v' (iU n (Pl.il m (λi k=>(ls.getD i []).getD k 0) (dJ ws m)))∧Below w.heap.size w w':=by
 obtain ⟨i0,hi0,hz0,hz1,hz2⟩:=V_ Tryz.dR;obtain ⟨i1,hi1,hy0,hy1,hy2⟩:=V_ Tryz.l9;obtain ⟨aa,ac,rfl⟩:∃ ad cap,va=.slice ad m cap:=by obtain ⟨ad,cap,e,_⟩:=ha;rw [hm] at e;exact ⟨ad,cap,e⟩
 obtain ⟨ba,bc,rfl⟩:∃ ad cap,vw=.slice ad m cap:=by obtain ⟨ad,cap,e,_⟩:=hb;rw [hmw] at e;exact ⟨ad,cap,e⟩
 have HA:=af ha;have HB:=af hb;have HM:=af hm;have HMW:=af hmw;have HLEN:=af hlen;have zQ:=af (dD (w:=w) (sV PT w));have xX:=af (ae.alloc w (.cells #[.int .i64 0,.slice none 0 0] 168));clear ha hb hm hmw hlen;go_enter Tryz.func273,Tryz.ntmps273;go_wp2_with fail;go_loopg [8] m (λq iv wr=>∃ (i:Nat) (xx:Int) (xa:Option Addr) (xm xc:Nat),iv=.int .i64 i∧i+q=m∧Hid (bC PT wr w.heap.size xx xa xm xc (dF ws i)∧ae w wr))
 case atStart=>exact ⟨0,0,none,0,0,rfl,by omega,uh zQ,uh xX⟩
 case round =>
  clear zQ xX;obtain ⟨i,xx,xa,xm,xc,rfl,hiq,HR⟩:=hrel;by_cases hlt:i<m
  ·obtain ⟨gp,op,_,px,pa,pm,pc,ep,p0,p1,hp⟩:=eY ((uh HB).below (uh HR).2) (i:=i) (by rw [uh HMW];exact hlt);rw [uh HMW] at ep;cases ep;have wB:=af hp;have xH:=af (x_ p0 p1);obtain ⟨x0,x1,x2,x3⟩:=(uh HR).1.cells;clear hp;go_wp2_with fail;have y0:=b_ p0;have y1:=b_ p1;have y2:=b_ x0;have y3:=b_ x1;clear p0 p1 x0 x1;refine ah (cK []) (gL [(27,(·=.int .i64 (Int.sign (ws.getD i 0 - dF ws i))))]) 111 6 (by kernel_rfl) (by rfl) (by kernel_rfl) (dz (by simp)) ?_
   iterate 5 (refine aO λK hK=>?_;go_simp;refine hK _ ?_;clear hK K)
   refine ai (·=.int .i64 (Int.sign (ws.getD i 0 - dF ws i))) 222 #[.agg #[.int .i64 px,.slice pa pm pc],.agg #[.int .i64 xx,.slice xa xm xc]] (by rfl) (by rfl) ⟨_,rfl⟩ (λw=>by go_simp) (λwq hg hf=>(ji PT K _ _ _ _ wq (λ_ _=>trivial) ((uh wB).below hg) ((uh HR).1.val.below hg) (by omega) (lw i) (pR lw i)).mono (by rintro e w' ⟨rfl,hb⟩;exact ⟨_,rfl,hb,rfl,λt ht=>by cases ht;exact True.intro⟩)) ?_;rintro _ rfl;refine aF ?_;intro w1 hw1 aK;clear aK y0 y1 y2 y3;have HR1:=af (x_ ((uh HR).1.grow hw1) ((uh HR).2.trans hw1));have p0:=ae.cell hw1 (uh xH).1;have p1:=ae.cell hw1 (uh xH).2;obtain ⟨z0,z1,z2,z3⟩:=(uh HR1).1.cells;have WU:=af ((uh wB).below hw1);clear hw1 x2 x3;by_cases hc:dF ws i<ws.getD i 0
   ·rw [J_ (show 0<ws.getD i 0 - dF ws i by omega)];have HW:Hid (dF ws (i+1)=ws.getD i 0):=h_ hc;have HS:Hid (bC PT ((w1.setCell ⟨w.heap.size,0,none⟩ (.int .i64 px)).setCell ⟨w.heap.size,1,none⟩ (.slice pa pm pc)) w.heap.size px pa pm pc (ws.getD i 0)∧ae w ((w1.setCell ⟨w.heap.size,0,none⟩ (.int .i64 px)).setCell ⟨w.heap.size,1,none⟩ (.slice pa pm pc))):=⟨⟨jW (uh HR1).1.heap _ _,(uh WU).kG (uh HR1).1.heap _ _⟩,(B_ (p:=⟨w.heap.size,0,none⟩) (uh HR1).2 (d_ _) _).setCell (p:=⟨w.heap.size,1,none⟩) (d_ _) _⟩;clear hc;go_wp2;go_roundg (gk - 1)
    case measure=>omega
    case rel=>exact ⟨i+1,px,pa,pm,pc,by simp,by omega,by rw [uh HW];exact (uh HS).1,(uh HS).2⟩
   ·have HW:Hid (dF ws (i+1)=dF ws i):=g_ hc;obtain ⟨sg,hsg⟩:∃ sg,Int.sign (ws.getD i 0 - dF ws i)=sg:=⟨_,rfl⟩;have d0:¬ (0<sg):=by
     rw [<-hsg];rcases (show ws.getD i 0 - dF ws i<0∨ws.getD i 0 - dF ws i=0 by omega) with h|h
     ·rw [E_ h];decide
     ·rw [h];decide
    have d1:decide (0<sg)=false:=aaf d0;rw [hsg];clear hsg hc;go_wp2;go_roundg (gk - 1)
    case measure=>omega
    case rel=>exact ⟨i+1,xx,xa,xm,xc,by simp,by omega,by rw [uh HW];exact (uh HR1).1,(uh HR1).2⟩
  ·have him:i=m:=by omega
   have HWD:Hid (bC PT wr w.heap.size xx xa xm xc (dF ws m)∧ae w wr):=by rw [<-him];exact uh HR
   obtain ⟨WE,Za⟩:∃ WE,WE=wr:=⟨_,rfl⟩;subst Za;clear HR hiq;go_wp2_with (at_make;refine O_ _ rfl _ _ 162 rfl WE.heap.size 159 i1 (.slice none 0 0) 1 Tryz.underlying162 hi1 hy0 hy1 .i64 .i64 _ _ n rfl rfl ?e1 ?e2 ?c1 ?c2 ?c3 ?_)
   case e1=>first | rfl | omega | simp
   case e2=>first | rfl | omega | simp
   case c1=>rw [hy2];omega
   case c2=>unfold maxLen;omega
   case c3=>first | omega | simp
   ·intro w1 hown hgrow;have hG1:ae WE w1:=(n_ _ _).grown hgrow (d_ _) (by intro k hk;cases hk);have LJ:Hid (vG PT w1 WE.heap.size n 0 (λ_=>0) (λ_ _=>0)):=by
     obtain ⟨cs,h1,h2,_⟩:=fq.made (P:=PT) hown;exact ⟨λr hr=>by omega,⟨λr hr=>by omega,λr s hr=>by omega⟩,cs,h1,h2,λj hj=>by omega⟩
    have dP:=af hG1;clear hown hgrow hG1;go_wp2_with fail;go_loopg [10] n (λq iv wr=>∃ (i:Nat) (R:Nat->Nat),iv=.int .i64 i∧i+q=n∧Hid (vG PT wr WE.heap.size n i R (λ_ _=>0)∧ae WE wr))
    case atStart=>exact ⟨0,λ_=>0,rfl,by omega,uh LJ,uh dP⟩
    case round =>
     clear LJ dP;rename Nat=>gi;rename World=>wi;obtain ⟨i',R,rfl,hiq,HR⟩:=hrel;by_cases hin:i'<n
     ·go_wp2_with (at_make;refine O_ _ rfl _ _ 159 rfl wi.heap.size 168 i0 (.agg #[.int .i64 0,.slice none 0 0]) 2 Tryz.underlying159 hi0 hz0 hz1 .i64 .i64 _ _ n rfl rfl ?e1 ?e2 ?c1 ?c2 ?c3 ?_)
      case e1=>first | rfl | omega | simp
      case e2=>first | rfl | omega | simp
      case c1=>rw [hz2];omega
      case c2=>unfold maxLen;omega
      case c3=>first | omega | simp
      ·intro w2 hown hgrow;have hG2:ae wi w2:=(n_ _ _).grown hgrow (d_ _) (by intro k hk;cases hk);have hR2:bA PT w2 wi.heap.size n (λ_=>0):=bA.made hown;obtain ⟨cs,h1,h2,_⟩:=(uh HR).1.list;have hb2:=Below.same hG2 _ _ h1;obtain ⟨u0,l0⟩:∃ u0,w2.cell? ⟨WE.heap.size,i',none⟩=some u0:=⟨cs[i'],by rw [cellsOf hb2];exact acf (by omega)⟩;have l1:w2.frozen? ⟨WE.heap.size,i',none⟩=false:=aH hb2 i';have HA2:=af ((uh HR).1.add hin hG2 hR2);have HG2:Hid (ae WE (w2.setCell ⟨WE.heap.size,i',none⟩ (.slice (some ⟨wi.heap.size,0,none⟩) n n))):=B_ (p:=⟨WE.heap.size,i',none⟩) ((uh HR).2.trans hG2) (d_ _) _;clear hown hgrow hG2 hR2 h1 h2 hb2;go_wp2;go_roundg (gi - 1)
       case measure=>omega
       case rel=>exact ⟨i'+1,_,by simp,by omega,uh HA2,uh HG2⟩
     ·have hin':i'=n:=by omega
      have Sc:Hid (jA w wi WE.heap.size n R (Pl.il 0 (λi k=>(ls.getD i []).getD k 0) (dJ ws m)) xx xa xm xc (dF ws m)):=by
       have h1:=(uh HR).1;rw [hin'] at h1;obtain ⟨cs,l1,l2,l3⟩:=h1.list;exact ⟨h1.oO.congr (λ_ _ _ _=>rfl),⟨cs,l1,λj hj=>by rw [M_];exact l3 j hj⟩,(uh HWD).1.grow (uh HR).2,(uh HWD).2.trans (uh HR).2,λr hr=>by have:=(h1.above r hr).1;have:=(uh HWD).1.lt;omega⟩
      clear HR hiq hin';go_wp2_with fail;go_loopg [11] m (λq kv wr=>∃ (k:Nat),kv=.int .i64 k∧k+q=m∧Hid (jA w wr WE.heap.size n R (Pl.il k (λi k=>(ls.getD i []).getD k 0) (dJ ws m)) xx xa xm xc (dF ws m)))
      case atStart=>exact ⟨0,rfl,by omega,uh Sc⟩
      case round =>
       clear Sc;rename Nat=>gk0;obtain ⟨k,rfl,hkq,HR⟩:=hrel;by_cases Uy:k<m
       ·have hgw:ae w wr:=(uh HR).dh;obtain ⟨gp,op,_,px,pa,pm,pc,ep,p0,p1,hp⟩:=eY ((uh HB).below hgw) (i:=k) (by rw [uh HMW];exact Uy);rw [uh HMW] at ep;cases ep;have wB:=af hp;obtain ⟨x0,x1,x2,x3⟩:=(uh HR).var.cells;have XU:Hid (Pl.Lt (2*K) (dJ ws m k)):=zJ lw (hpos k Uy);have hdl:Pl.Lt K (Int.fdiv (dF ws m) (ws.getD k 0)):=(pR lw m).fdiv (hpos k Uy);clear hp x2 x3;go_wp2_with fail;have y0:=b_ x0;have y1:=b_ x1;have y2:=b_ p0;have y3:=b_ p1;clear x0 x1 p0 p1;refine ah (cK [(62,λv w=>aj PT w v (Int.fdiv (dF ws m) (ws.getD k 0))),(12,bn wr)]) (gL [(62,ag),(12,bM)]) 111 7 (by kernel_rfl) (by rfl) (by kernel_rfl) (aN (λ_ _ _=>aj.below) (aN (λ_ _ _=>bn.grow) cO)) ?_
        iterate 5 (refine aO λK hK=>?_;go_simp;refine hK _ ?_;clear hK K)
        refine ai ag 224 #[.agg #[.int .i64 xx,.slice xa xm xc],.agg #[.int .i64 px,.slice pa pm pc]] (by rfl) (by rfl) ag.some (λw=>by go_simp) (λwq hg hf=>(lD PT K _ _ _ _ wq (λ_ _=>trivial) ((uh HR).var.val.below hg) ((uh wB).below hg) (by omega) (pR lw m) (lw k)).mono (by rintro e w' ⟨v',rfl,hv,hb⟩;exact ⟨_,rfl,hb,hv.aU,λt ht=>by cases ht;exact hv⟩)) ?_;rintro _ ⟨dx,da,dm,dc,rfl⟩;refine eT bM (by rfl) (by rfl) bM.some (λwq hg hf=>⟨.pointer (some ⟨wq.heap.size,0,none⟩),wq.alloc (.cells #[.int .i64 0,.slice none 0 0] 168),by go_simp,ae.alloc _ _,⟨_,rfl⟩,λt ht=>by cases ht;exact bn.new hg⟩) ?_;rintro _ ⟨g12,rfl⟩;refine aF ?_;intro w3 hw3 aK;have hv3:aj PT w3 (.agg #[.int .i64 dx,.slice da dm dc]) (Int.fdiv (dF ws m) (ws.getD k 0)):=aK 5 _ 62 (by decide) rfl rfl;obtain ⟨alL,e6,f6⟩:bn wr (.pointer (some ⟨g12,0,none⟩)) w3:=aK 6 _ 12 (by decide) rfl rfl;cases e6;clear aK y0 y1 y2 y3;obtain ⟨z0,z1,z2,z3⟩:=fV f6.2;have hst:=bI (P:=PT) hw3 f6.1 f6.2 hv3;obtain ⟨W3,hW3⟩:∃ W,(w3.setCell ⟨g12,0,none⟩ (.int .i64 dx)).setCell ⟨g12,1,none⟩ (.slice da dm dc)=W:=⟨_,rfl⟩;rw [hW3] at hst;have wU:=af hst.1;have je:=af hst.2;have xu:wr.heap.size<=g12:=f6.1;have c0:=hst.1.cells.1;have c1:=hst.1.cells.2.1;clear hst hv3 f6 hw3;go_wp2_with fail
        try rw [hW3]
        clear hW3 z0 z1 z2 z3;refine (eG PT K _ _ _ _ W3 (λ_ _=>trivial) (uh wU).val (uh wU).val (by omega) hdl hdl).mono ?_;rintro e w4 ⟨v4,rfl,hv4,hw4⟩;obtain ⟨ex,ea,em,ec,rfl⟩:=hv4.shape;have hb4:=(uh wU).grow hw4;obtain ⟨c0',c1',c2',c3'⟩:=hb4.cells;obtain ⟨W4,xZ⟩:∃ W,(w4.setCell ⟨g12,0,none⟩ (.int .i64 ex)).setCell ⟨g12,1,none⟩ (.slice ea em ec)=W:=⟨_,rfl⟩;have DV:Hid (bC PT W4 g12 ex ea em ec (dJ ws m k)):=by unfold Hid;rw [<-xZ];exact ⟨jW hb4.heap _ _,hv4.kG hb4.heap _ _⟩
        have kE:Hid (ae wr W4):=by unfold Hid;rw [<-xZ];exact (B_ (p:=⟨g12,0,none⟩) ((uh je).trans hw4) xu _).setCell (p:=⟨g12,1,none⟩) xu _
        have HRg:Hid (∀ r,r<n->R r<wr.heap.size):=λr hr=>((uh HR).oO.rows r hr).lt;have Qo:Hid (jA w W4 WE.heap.size n R (mK (λi k=>(ls.getD i []).getD k 0) (dJ ws m) k 0 0) xx xa xm xc (dF ws m)):=((uh HR).grow (uh kE)).congr (λr i _ _=>(FZ r i).symm);clear hb4 hv4 hw4 hdl wU je c0 c1;go_wp2_with fail
        try rw [xZ]
        clear xZ c0' c1' c2' c3';obtain ⟨WK,hWK⟩:∃ WK,WK=wr:=⟨_,rfl⟩;subst hWK;go_loopg [13] n (λq iv wr=>∃ (i:Nat),iv=.int .i64 i∧i+q=n∧Hid (jA w wr WE.heap.size n R (mK (λi k=>(ls.getD i []).getD k 0) (dJ ws m) k i 0) xx xa xm xc (dF ws m)∧bC PT wr g12 ex ea em ec (dJ ws m k)))
        case atStart=>exact ⟨0,rfl,by omega,uh Qo,uh DV⟩
        case round =>
         clear Qo DV kE;rename Nat=>gi4;obtain ⟨i,rfl,hiq,HI⟩:=hrel;by_cases hin2:i<n
         ·have aeB:ae w wr:=(uh HI).1.dh;obtain ⟨gs,os,_,us,es,s0,OU,hsm⟩:=gT ((uh HA).below aeB) (i:=k) (by rw [uh HM];exact Uy);rw [uh HM] at es;cases es;have hsl:=uh HLEN _ hsm;obtain ⟨usa,usc,rfl⟩:∃ ad cap,us=.slice ad (n+1) cap:=by obtain ⟨ad,cap,e,_⟩:=OU;rw [hsl] at e;exact ⟨ad,cap,e⟩
          have HSR:=af OU;have Rf:=af hsl;obtain ⟨gt,ot,_,px,pa,pm,pc,ep,p0,p1,hp⟩:=eY OU (i:=i+1) (by rw [hsl];omega);rw [hsl] at ep;cases ep;have TA:=af hp;obtain ⟨e0,e1,_,_⟩:=(uh HI).2.cells;have wi1:IntKind.i64.wrap ((i:Int)+1)=(i:Int)+1:=by rw [aaE];omega
          have ti1:((i:Int)+1).toNat=i+1:=by omega
          have li1:(i:Int)+1<(n:Int)+1:=by omega
          have li2:0<=(i:Int)+1:=by omega
          clear OU hsm hsl hp;go_wp2_with fail;have y0:=b_ e0;have y1:=b_ e1;have y2:=b_ s0;have y3:=b_ p0;have y4:=b_ p1;clear e0 e1 s0 p0 p1;refine ah (cK [(80,λv w=>aj PT w v (dJ ws m k*(ls.getD k []).getD (i+1) 0)),(14,bn wr)]) (gL [(80,ag),(14,bM)]) 111 11 (by kernel_rfl) (by rfl) (by kernel_rfl) (aN (λ_ _ _=>aj.below) (aN (λ_ _ _=>bn.grow) cO)) ?_
          iterate 9 (refine aO λK hK=>?_;go_simp;refine hK _ ?_;clear hK K)
          refine ai ag 226 #[.agg #[.int .i64 ex,.slice ea em ec],.agg #[.int .i64 px,.slice pa pm pc]] (by rfl) (by rfl) ag.some (λw=>by go_simp) (λwq hg hf=>(eG PT (2*K+L) _ _ _ _ wq (λ_ _=>trivial) ((uh HI).2.val.below hg) ((uh TA).below hg) (by omega) ((uh XU).mono (by omega)) ((la k (i+1)).mono (by omega))).mono (by rintro e w' ⟨v',rfl,hv,hb⟩;exact ⟨_,rfl,hb,hv.aU,λt ht=>by cases ht;exact hv⟩)) ?_;rintro _ ⟨sx,sa,sm,sc,rfl⟩;refine eT bM (by rfl) (by rfl) bM.some (λwq hg hf=>⟨.pointer (some ⟨wq.heap.size,0,none⟩),wq.alloc (.cells #[.int .i64 0,.slice none 0 0] 168),by go_simp,ae.alloc _ _,⟨_,rfl⟩,λt ht=>by cases ht;exact bn.new hg⟩) ?_;rintro _ ⟨g14,rfl⟩;refine aF ?_;intro w5 pO aK;have hv5:aj PT w5 (.agg #[.int .i64 sx,.slice sa sm sc]) (dJ ws m k*(ls.getD k []).getD (i+1) 0):=aK 9 _ 80 (by decide) rfl rfl;obtain ⟨alP,e6,f6⟩:bn wr (.pointer (some ⟨g14,0,none⟩)) w5:=aK 10 _ 14 (by decide) rfl rfl;cases e6;clear aK y0 y1 y2 y3 y4;obtain ⟨z0,z1,z2,z3⟩:=fV f6.2;have hst:=bI (P:=PT) pO f6.1 f6.2 hv5;obtain ⟨W5,Bj⟩:∃ W,(w5.setCell ⟨g14,0,none⟩ (.int .i64 sx)).setCell ⟨g14,1,none⟩ (.slice sa sm sc)=W:=⟨_,rfl⟩;rw [Bj] at hst;have HV5:=af hst.1;have gG:=af hst.2;have alQ:wr.heap.size<=g14:=f6.1;clear hst hv5 f6 pO;go_wp2_with fail
          try rw [Bj]
          clear Bj z0 z1 z2 z3;have HP5:Hid (jA w W5 WE.heap.size n R (mK (λi k=>(ls.getD i []).getD k 0) (dJ ws m) k i 0) xx xa xm xc (dF ws m)∧bC PT W5 g12 ex ea em ec (dJ ws m k)):=⟨(uh HI).1.grow (uh gG),(uh HI).2.grow (uh gG)⟩;have aeD:Hid (∀ r,r<n->R r≠g14∧R r≠g12):=λr hr=>by have h1:=uh HRg r hr;have h2:=((uh HI).1.oO.rows r hr).lt;exact ⟨by omega,by omega⟩
          clear gG;go_loopg [15] n (λq jv wr=>∃ (j:Nat),jv=.int .i64 j∧j+q=n∧Hid (jA w wr WE.heap.size n R (mK (λi k=>(ls.getD i []).getD k 0) (dJ ws m) k i j) xx xa xm xc (dF ws m)∧bC PT wr g12 ex ea em ec (dJ ws m k)∧bC PT wr g14 sx sa sm sc (dJ ws m k*(ls.getD k []).getD (i+1) 0)))
          case atStart=>exact ⟨0,rfl,by omega,(uh HP5).1,(uh HP5).2,uh HV5⟩
          case round =>
           clear HP5 HV5;obtain ⟨j,rfl,hjq,HJ⟩:=hrel;by_cases hjn:j<n
           ·have aeE:ae w wr:=(uh HJ).1.dh;obtain ⟨gs',os',_,us,es,s0,OU,hsm⟩:=gT ((uh HA).below aeE) (i:=k) (by rw [uh HM];exact Uy);rw [uh HM] at es;cases es;have hsl:=uh Rf;obtain ⟨vsa,vsc,rfl⟩:∃ ad cap,us=.slice ad (n+1) cap:=by obtain ⟨ad,cap,e,_⟩:=OU;rw [hsl] at e;exact ⟨ad,cap,e⟩
            obtain ⟨gu,ou,_,ux,ua,um,uc,eu,u0,u1,hu⟩:=eY OU (i:=j+1) (by rw [hsl];omega);rw [hsl] at eu;cases eu;have HUV:=af hu;obtain ⟨fx,fa,fm,fc,f0,f1,hfv,_⟩:=((uh HJ).1.oO.rows i hin2).get hjn;rw [Oj] at hfv;have U8:=af hfv;have YQ:=af (x_ f0 f1);have h0:=(uh HJ).1.head.cell hin2;rw [M_] at h0;obtain ⟨t0,t1,_,_⟩:=(uh HJ).2.2.cells;have HPL:Hid (Pl.Lt (2*K+2*L+1) (Pl.il k (λi k=>(ls.getD i []).getD k 0) (dJ ws m) i j)):=GM (by omega) la (λk' hk'=>zJ lw (hpos k' (by omega))) i j;have wj1:IntKind.i64.wrap ((j:Int)+1)=(j:Int)+1:=by rw [aaE];omega
            have tj1:((j:Int)+1).toNat=j+1:=by omega
            have lj1:(j:Int)+1<(n:Int)+1:=by omega
            have lj2:0<=(j:Int)+1:=by omega
            clear OU hsm hsl hu hfv;go_wp2_with fail;have y0:=b_ h0;have y1:=b_ f0;have y2:=b_ f1;have y3:=b_ t0;have y4:=b_ t1;have y5:=b_ s0;have y6:=b_ u0;have y7:=b_ u1;clear h0 f0 f1 t0 t1 s0 u0 u1;refine ah (cK [(107,λv w=>aj PT w v ((dJ ws m k*(ls.getD k []).getD (i+1) 0)*(ls.getD k []).getD (j+1) 0)),(108,λv w=>aj PT w v (Pl.il k (λi k=>(ls.getD i []).getD k 0) (dJ ws m) i j+(dJ ws m k*(ls.getD k []).getD (i+1) 0)*(ls.getD k []).getD (j+1) 0))]) (gL [(107,ag),(108,ag)]) 111 24 (by kernel_rfl) (by rfl) (by kernel_rfl) (aN (λ_ _ _=>aj.below) (aN (λ_ _ _=>aj.below) cO)) ?_
            iterate 21 (refine aO λK hK=>?_;go_simp;refine hK _ ?_;clear hK K)
            refine ai ag 226 #[.agg #[.int .i64 sx,.slice sa sm sc],.agg #[.int .i64 ux,.slice ua um uc]] (by rfl) (by rfl) ag.some (λw=>by go_simp) (λwq hg hf=>(eG PT (2*K+L) _ _ _ _ wq (λ_ _=>trivial) ((uh HJ).2.2.val.below hg) ((uh HUV).below hg) (by omega) (((uh XU).mul (la k (i+1))).mono (by omega)) ((la k (j+1)).mono (by omega))).mono (by rintro e w' ⟨v',rfl,hv,hb⟩;exact ⟨_,rfl,hb,hv.aU,λt ht=>by cases ht;exact hv⟩)) ?_;rintro _ ⟨tx,ta,tm,tc,rfl⟩;refine ai ag 223 #[.agg #[.int .i64 fx,.slice fa fm fc],.agg #[.int .i64 tx,.slice ta tm tc]] (by rfl) (by rfl) ag.some (λw=>by go_simp) (λwq hg hf=>(ig PT (2*K+2*L+1) _ _ _ _ wq (λ_ _=>trivial) ((uh U8).below hg) (hf 21 (by kernel_rfl) _ 107 rfl rfl) (by omega) ((uh HPL).mono (by omega)) ((((uh XU).mul (la k (i+1))).mul (la k (j+1))).mono (by omega))).mono (by rintro e w' ⟨v',rfl,hv,hb⟩;exact ⟨_,rfl,hb,hv.aU,λt ht=>by cases ht;exact hv⟩)) ?_;rintro _ ⟨hx,ha,hm,hc,rfl⟩
            (refine aO λK hK=>?_;go_simp;refine hK _ ?_;clear hK K)
            refine aF ?_;intro w7 hw7 aK;have hv7:aj PT w7 (.agg #[.int .i64 hx,.slice ha hm hc]) (Pl.il k (λi k=>(ls.getD i []).getD k 0) (dJ ws m) i j+(dJ ws m k*(ls.getD k []).getD (i+1) 0)*(ls.getD k []).getD (j+1) 0):=aK 22 _ 108 (by decide) rfl rfl;clear aK y0 y1 y2 y3 y4 y5 y6 y7;have hP7:=(uh HJ).1.grow hw7;have f0:=ae.cell hw7 (uh YQ).1;have f1:=ae.cell hw7 (uh YQ).2;obtain ⟨cb,hcb⟩:=(hP7.oO.rows i hin2).block;have b0:=aH hcb (j*2);have b1:=aH hcb (j*2+1);have hnn:=uh aeD i hin2;have HS7:=af (x_ ((hP7.set hin2 hjn hv7).congr (λx y _ _=>KN x y)) (x_ (((uh HJ).2.1.grow hw7).put ⟨cb,hcb⟩ (abf hnn.2) (j*2) (j*2+1) (.int .i64 hx) (.slice ha hm hc)) (((uh HJ).2.2.grow hw7).put ⟨cb,hcb⟩ (abf hnn.1) (j*2) (j*2+1) (.int .i64 hx) (.slice ha hm hc))));clear hP7 hcb hnn hv7 hw7;go_wp2;go_roundg (gk - 1)
            case measure=>omega
            case rel=>exact ⟨j+1,by simp,by omega,uh HS7⟩
           ·have Zj:j=n:=by omega
            have HE:Hid (jA w wr WE.heap.size n R (mK (λi k=>(ls.getD i []).getD k 0) (dJ ws m) k (i+1) 0) xx xa xm xc (dF ws m)∧bC PT wr g12 ex ea em ec (dJ ws m k)):=⟨(uh HJ).1.congr (λx y _ hy=>by rw [Zj];exact KO hy),(uh HJ).2.1⟩;go_wp2;go_roundg (gi4 - 1)
            case measure=>omega
            case rel=>exact ⟨i+1,by simp,by omega,uh HE⟩
         ·have aao:i=n:=by omega
          have HE:Hid (jA w wr WE.heap.size n R (Pl.il (k+1) (λi k=>(ls.getD i []).getD k 0) (dJ ws m)) xx xa xm xc (dF ws m)):=(uh HI).1.congr (λx y hx _=>by rw [aao];exact KP hx);go_wp2;go_roundg (gk0 - 1)
          case measure=>omega
          case rel=>exact ⟨k+1,by simp,by omega,uh HE⟩
       ·have aeI:k=m:=by omega
        have HE:Hid (aM PT wr (.slice (some ⟨WE.heap.size,0,none⟩) n n) (iU n (Pl.il m (λi k=>(ls.getD i []).getD k 0) (dJ ws m)))∧ae w wr):=by have h1:=uh HR;rw [aeI] at h1;exact ⟨h1.list,h1.dh⟩
        go_wp2;go_ret;exact ⟨_,rfl,(uh HE).1,(uh HE).2⟩
end
theorem bg.list {P:Nat->Prop} {B:Nat} {w:World} {n b gs gp go cs cp co:Nat} {R:Nat->Nat} {St G Ov:Nat->Nat->Int} {V:Nat->Int} (h:bg P B w n b gs gp go cs cp co R St G Ov V) (hP:∀ g,B<=g->P g):aM P w (.slice (some ⟨gs,0,none⟩) n cs) (iU n St):=by
 have h1:=zR h.oO h.steps (by omega) (λi hi=>by unfold iP;rw [g_ (by omega)]) cs h.NH.1 (λk hk=>by
  rcases hk with rfl|⟨i,hi,rfl⟩
  ·exact hP _ h.base.2.1
  ·exact hP _ (h.base.2.2.2.2 _ (by omega)))
 have e:((List.range n).map λi=>(List.range n).map (pE n St G Ov V (0+i)))=iU n St:=by
  unfold iU;refine abr λi hi=>abr λj _=>?_;have:=W_.1 hi;unfold pE;rw [M_,h_ this]
 rwa [e] at h1
theorem Ar {n s s' k k':Nat} (h:s'+1<=s):s'*(n+1)+(n - k')<s*(n+1)+(n - k):=by
 have:=ach (n+1) h;rw [abC,ab4] at this;omega
set_option maxHeartbeats 4000000 in
theorem Kb (P:Nat->Prop) (n LQ:Nat) (ls:List (List Int)) (vq:Value) (w:World) (hP:∀ b,w.heap.size<=b->P b) (h:aM P w vq ls) (hl:ls.length=n) (hr:∀ l∈ls,l.length=n) (hn0:0<n) (hn:n<=9)
  (hQ:Pl.gQ n (λi j=>(ls.getD i []).getD j 0)) (hS:∀ i j,(ls.getD i []).getD j 0=(ls.getD j []).getD i 0) (hlq:∀ a b,a<n->b<n->Pl.Lt LQ ((ls.getD a []).getD b 0)) (hK:3*((n+1)*wJ n (zI n LQ) n+1)+20<=1500000000000) :
  Calls Tryz.prog 272 #[vq] w λe w'=>∃ (v':Value) (St:Nat->Nat->Int),e=.returned v'∧aM P w' v' (iU n St)∧Pl.Em n St∧(∀ a b,a<n->b<n->Pl.Lt (zI n LQ) (St a b))∧Below w.heap.size w w':=by
 have HST:=af (NJ P n ls vq w hP h hl hr hn0 (by omega));obtain ⟨va,vn,vc,rfl⟩:=h.aB;obtain ⟨Q,Zq⟩:∃ Q:Nat->Nat->Int,Q=λi j=>(ls.getD i []).getD j 0:=⟨_,rfl⟩;have HQ:Hid (Pl.gQ n Q):=by unfold Hid;rw [Zq];exact hQ
 have HS:Hid (∀ i j,Q i j=Q j i):=by unfold Hid;rw [Zq];exact hS
 have HLQ:Hid (∀ a b,a<n->b<n->Pl.Lt LQ (Q a b)):=by unfold Hid;rw [Zq];exact hlq
 rw [<-Zq] at HST;obtain ⟨D,hD⟩:∃ D:Int,D=1073741824^oZ n LQ:=⟨_,rfl⟩;obtain ⟨T,hT⟩:∃ T:Int,T=1073741824^(oZ n LQ+1):=⟨_,rfl⟩;have HDT:Hid (((n+4:Nat):Int)*D<=4*T∧0<=D):=by
  have h1:=jX (oZ n LQ);rw [hD,hT,aaJ];refine ⟨?_,by omega⟩;have:((n+4:Nat):Int)*1073741824^oZ n LQ<=13*1073741824^oZ n LQ:=A_ (by omega) (by omega);omega
 have HO0:Hid (Out n Q Pl.unit Q T D):=by unfold Hid;rw [hD,hT];exact Out.start (uh HQ) (uh HS) hn (uh HLQ)
 have Wy:Hid (∀ St G,Out n Q St G T D->(∀ a b,a<n->b<n->Pl.Lt (zI n LQ) (G a b))∧∀ a b,a<n->b<n->Pl.Lt (zI n LQ) (St a b)):=λSt G hO=>by
  rw [hT] at hO;exact ⟨hO.lg (uh HQ),hO.Sd (uh HQ) (uh HS) hn (uh HLQ)⟩
 clear hD hT hQ hS hlq h hr Zq;have hKL:∀ m,m<=n->3*((n+1)*wJ n (zI n LQ) m+1)+20<=1500000000000:=λm hm=>by
  have h1:=abX (n+1) (NL n (zI n LQ) hm);omega
 have Wz:=af hKL;have LK:n<=100:=by omega
 clear hKL hK;generalize zI n LQ=L0 at *
 go_enter Tryz.func272,Tryz.ntmps272;go_wp2_with fail;refine (uh HST).mono ?_;rintro e w1 ⟨b,gs,gp,go,cs,cp,co,R0,Ov0,V0,rfl,hM,hB1,hV0⟩;have HM:=af hM;have HB1:=af hB1;have zQ:=af hV0;clear hM hB1 hV0 HST;go_wp2_with fail;go_loopg [4] ((Pl.sm (n+1) (Pl.gK n Q)).toNat*(n+1)+(n - 1)) (λq kv wr=>∃ (k:Nat) (R:Nat->Nat) (St G Ov:Nat->Nat->Int) (V:Nat->Int),kv=.int .i64 k∧1<=k∧k<=n∧(Pl.sm (n+1) (Pl.gK n G)).toNat*(n+1)+(n - k)=q∧Hid (bg P w.heap.size wr n b gs gp go cs cp co R St G Ov V∧Out n Q St G T D∧V 0=1∧Below w.heap.size w wr))
 case atStart=>exact ⟨1,R0,_,_,Ov0,V0,rfl,by omega,by omega,rfl,uh HM,uh HO0,uh zQ,uh HB1⟩
 case round =>
  clear HM zQ HO0 HB1;rename Nat=>gq;rename World=>wo;obtain ⟨k,R,St,G,Ov,V,rfl,hk1,hkn,hq,HR⟩:=hrel;have HMQ:=af hq;clear hq;obtain ⟨k0,_,_,_⟩:=(uh HR).1.cells;by_cases hlt:k<n
  ·obtain ⟨m,rfl⟩:∃ m,k=m+1:=⟨k - 1,by omega⟩;have hpo:=(uh HR).2.1.red.Cy (uh HQ);have HME:=af (Hw P w.heap.size ((n+1)*L0+1) n b gs gp go cs cp co R St G Ov V wo (λb' hb'=>hP b' (by have:=(uh HR).2.2.2.size;omega)) (uh HR).1 hn0 LK hpo (uh HR).2.1.red.symm (uh HR).2.2.1 (λl i j hl' hi hj=>Ey hpo (uh Wy _ _ (uh HR).2.1).1 hn hl' hi hj) (λl hl'=>FP hpo (uh Wy _ _ (uh HR).2.1).1 hn hl') (by have:=uh Wz 0 (by omega);simp only [wJ] at this;omega));clear hpo;go_wp2_with fail;refine (uh HME).mono ?_;rintro e w2 ⟨Ov1,V1,rfl,hM2,hB2,hov,Qw⟩;have Fh:=af hM2;have HB2:=af ((uh HR).2.2.2.trans hB2);have Yv:Hid (UN n Q (m+1) (m+1) St G Ov1 V1 T D (wJ n L0 0)):=⟨(uh HR).2.1.red,Qw,hov,λl h1 h2=>by omega,λi hi _=>(uh HR).2.1.diag i hi,(uh HR).2.1.Kq,(uh Wy _ _ (uh HR).2.1).2,(uh Wy _ _ (uh HR).2.1).1⟩;have Zr:=af Qw;clear hM2 hB2 hov Qw HME k0;go_wp2_with fail;go_loopg [5] (m+1) (λq jv wr=>∃ (j:Nat) (Hy G' Bt:Nat->Nat->Int),jv=.int .i64 ((j:Int) - 1)∧j=q∧j<=m+1∧Hid (bg P w.heap.size wr n b gs gp go cs cp co R Hy G' Bt V1∧UN n Q (m+1) j Hy G' Bt V1 T D (wJ n L0 (m+1 - j))∧(∀ l,l<=n->Pl.gK n G' l=Pl.gK n G l)∧Below w.heap.size w wr))
   case atStart=>exact ⟨m+1,St,G,Ov1,by simp,rfl,d_ _,uh Fh,by rw [acN];exact uh Yv,λ_ _=>rfl,uh HB2⟩
   case round =>
    clear Fh Yv HB2;obtain ⟨j,Hy,G',Bt,rfl,hjq,hjm,HJ⟩:=hrel;subst hjq;have em:((m+1:Nat):Int)=(m:Int)+1:=by omega
    rcases (show j=0∨∃ i,j=i+1 from by rcases j with _|i;exact .inl rfl;exact .inr ⟨i,rfl⟩) with hj0|⟨i,hji⟩
    ·subst hj0;have iV:=af ((uh HJ).2.1.out (uh HQ) hlt (uh HDT).1 (uh HDT).2);have HVS:Hid (∀ l,l<=n->Pl.gK n G' l=Pl.gK n G l):=λl hl'=>((uh HJ).2.1.gK l hl').symm.trans (uh Zr l hl');have Uz:Hid (Pl.sm (n+1) (Pl.gK n G')=Pl.sm (n+1) (Pl.gK n G)):=Pl.aC λl hl'=>uh HVS l (by omega);have hpo:=(uh iV).red.Cy (uh HQ);have WA:Hid (V1 0=1):=by unfold Hid;rw [(uh HJ).2.1.gK 0 (by omega)];exact Pl.Cv n G'
     have HIO:=af (DX P w.heap.size ((n+1)*L0+1) n m b gs gp go cs cp co R Hy G' Bt V1 wr (λb' hb'=>hP b' (by have:=(uh HJ).2.2.2.size;omega)) (uh HJ).1 hlt LK (by rw [(uh HJ).2.1.ov (m+1) m (by omega) hlt];exact Ey hpo (uh Wy _ _ (uh iV)).1 hn (by omega) hlt (by omega)) (λl hl'=>by rw [(uh HJ).2.1.gK l hl'];exact FP hpo (uh Wy _ _ (uh iV)).1 hn hl') (by have:=uh Wz 0 (by omega);simp only [wJ] at this;omega));go_wp2_with fail;refine (uh HIO).mono ?_;rintro e w4 ⟨rfl,hw4⟩;have hBw:w.heap.size<=wr.heap.size:=(uh HJ).2.2.2.size;have LG:=af ((uh HJ).1.grow hw4);have jQ:Hid (Below w.heap.size w w4):=(uh HJ).2.2.2.trans (aaw hw4 hBw);by_cases Kt:99*(V1 (m+1)*V1 (m+1))<=100*(V1 (m+2)*V1 m+Bt (m+1) m*Bt (m+1) m)
     ·rw [aaI Kt];clear Kt hw4 hpo HIO;go_wp2;go_roundg ((Pl.sm (n+1) (Pl.gK n G')).toNat*(n+1)+(n - (m+2)))
      case measure=>rw [<-uh HMQ,uh Uz];omega
      case rel=>exact ⟨m+2,R,Hy,G',Bt,V1,by simp;omega,by omega,by omega,rfl,uh LG,uh iV,uh WA,uh jQ⟩
     ·rw [aaf Kt];have hless:Pl.gK n (Pl.zz G' (m+1)) (m+1)<Pl.gK n G' (m+1):=by
       refine Pl.Hz hpo (uh iV).red.symm (((uh iV).red.ex (k:=m+1) (by omega) hlt).Cy (uh HQ)) (by omega) hlt ?_;have e1:m+1 - 1=m:=by omega
       rw [e1,<-(uh HJ).2.1.gK (m+1+1) (by omega),<-(uh HJ).2.1.gK m (by omega),<-(uh HJ).2.1.gK (m+1) (by omega),<-(uh HJ).2.1.ov (m+1) m (by omega) hlt];exact Int.not_le.1 Kt
      have Pb:=af ((uh iV).ex (uh HQ) (k:=m+1) (by omega) hlt hless);have HXC:=af (FN P w.heap.size n m b gs gp go cs cp co R Hy G' Bt V1 w4 (uh LG) hlt LK);have hsp:0<=Pl.sm (n+1) (Pl.gK n (Pl.zz G' (m+1))):=Pl.vV λl hl'=>abd (Pl.kK ((uh Pb).1.red.Cy (uh HQ)) (by omega));have HMS:Hid ((Pl.sm (n+1) (Pl.gK n (Pl.zz G' (m+1)))).toNat+1<=(Pl.sm (n+1) (Pl.gK n G)).toNat):=by have h1:=(uh Pb).2;rw [uh Uz] at h1;unfold Hid;omega
      clear Kt hw4 hpo HIO hless hsp;go_wp2_with fail;refine (uh HXC).mono ?_;rintro e w5 ⟨R5,rfl,hM5,hB5⟩;have Hg:=af hM5;have jB:=af ((uh jQ).trans hB5);clear hM5 hB5 HXC;rcases (show m=0∨∃ i,m=i+1 from by rcases m with _|i;exact .inl rfl;exact .inr ⟨i,rfl⟩) with hm0|⟨i,hmi⟩
      ·subst hm0;go_wp2;go_roundg ((Pl.sm (n+1) (Pl.gK n (Pl.zz G' (0+1)))).toNat*(n+1)+(n - 1))
       case measure=>rw [<-uh HMQ];exact Ar (uh HMS)
       case rel=>exact ⟨1,R5,_,_,Bt,V1,by simp,by omega,by omega,rfl,uh Hg,(uh Pb).1,uh WA,uh jB⟩
      ·subst hmi;have c1:((i+1:Nat):Int)+1 - 1=(i:Int)+1:=by omega
       have c2:(i:Int)+1+1 - 1=(i:Int)+1:=by omega
       have c3:(1:Int)<(i:Int)+1+1:=by omega
       go_wp2;go_roundg ((Pl.sm (n+1) (Pl.gK n (Pl.zz G' (i+1+1)))).toNat*(n+1)+(n - (i+1)))
       case measure=>rw [<-uh HMQ];exact Ar (uh HMS)
       case rel=>exact ⟨i+1,R5,_,_,Bt,V1,by simp,by omega,by omega,rfl,uh Hg,(uh Pb).1,uh WA,uh jB⟩
    ·subst hji;obtain ⟨t,ht⟩:∃ t,Int.fdiv (Bt (m+1) i+Bt (m+1) i+V1 (i+1)) (V1 (i+1)+V1 (i+1))=t:=⟨_,rfl⟩;have hpo:=(uh HJ).2.1.red.Cy (uh HQ);have hin:i<n:=by omega
     have e2:m+1 - i=(m+1 - (i+1))+1:=by omega
     have qX:Hid (UN n Q (m+1) i (Pl.bF Hy (m+1) i t) (Pl.dL G' (m+1) i t) (xG Bt (m+1) i t (V1 (i+1))) V1 T D (wJ n L0 (m+1 - i))):=by
      unfold Hid;rw [e2];exact (uh HJ).2.1.step (uh HQ) (by omega) hlt hn ht
     have hLm:wJ n L0 (m+1 - (i+1))<=(n+1)*wJ n L0 (m+1 - (i+1)):=by rw [abC,ab4];omega
     have lo:Pl.Lt ((n+1)*wJ n L0 (m+1 - (i+1))+1) (Bt (m+1) i):=by rw [(uh HJ).2.1.ov (m+1) i (by omega) hlt];exact Ey hpo (uh HJ).2.1.lg hn (by omega) hlt hin
     have hvp:0<V1 (i+1):=by rw [(uh HJ).2.1.gK (i+1) (by omega)];exact Pl.kK hpo (by omega)
     have HSH:=af (Hd P w.heap.size ((n+1)*wJ n L0 (m+1 - (i+1))+1) n (m+1) i b gs gp go cs cp co R Hy G' Bt V1 t wr (λb' hb'=>hP b' (by have:=(uh HJ).2.2.2.size;omega)) (uh HJ).1 (by omega) hlt LK ht lo (by rw [(uh HJ).2.1.gK (i+1) (by omega)];exact FP hpo (uh HJ).2.1.lg hn (by omega)) (by rw [<-ht];exact Ht hvp lo) (λa c ha hc=>((uh HJ).2.1.Sd a c ha hc).mono (by omega)) (λa c ha hc=>((uh HJ).2.1.lg a c ha hc).mono (by omega)) (λa c hc ha=>by rw [(uh HJ).2.1.ov a c hc ha];exact Ey hpo (uh HJ).2.1.lg hn (by omega) ha (by omega)) (by have:=uh Wz (m+1 - (i+1)) (by omega);omega));rw [em] at HSH;clear ht hpo e2 hLm lo hvp;have c1:((i+1:Nat):Int) - 1=(i:Int):=by omega
     have c2:(i:Int)+1 - 1=(i:Int):=by omega
     have c3:(0:Int)<=(i:Int):=by omega
     go_wp2_with fail;refine (uh HSH).mono ?_;rintro e w3 ⟨rfl,wV,hB3⟩;have Ja:=af wV;have HB3:=af ((uh HJ).2.2.2.trans hB3);clear wV hB3 HSH;go_wp2;go_roundg i
     case measure=>omega
     case rel=>exact ⟨i,_,_,_,by simp,rfl,by omega,uh Ja,uh qX,λl hl'=>((uh qX).gK l hl').symm.trans (uh Zr l hl'),uh HB3⟩
  ·have hkn':k=n:=by omega
   have HF:Hid (aM P wo (.slice (some ⟨gs,0,none⟩) n cs) (iU n St)∧Pl.Em n St∧∀ a b,a<n->b<n->Pl.Lt L0 (St a b)):=⟨(uh HR).1.list hP,(uh HR).2.1.red.OX,(uh Wy _ _ (uh HR).2.1).2⟩;go_wp2;go_ret;exact ⟨_,St,rfl,(uh HF).1,(uh HF).2.1,(uh HF).2.2,(uh HR).2.2.2⟩
end
theorem Lv (n:Nat) (f:Nat->Nat->Int) (i j:Nat):((iU n f).getD i []).getD j 0=if i<n∧j<n then f i j else 0:=by
 by_cases hi:i<n
 ·rw [yA f hi];by_cases hj:j<n
  ·rw [h_ ⟨hi,hj⟩,Pl.bK _ _ _ hj]
  ·rw [g_ (λh=>hj h.2),a_,P_ (by simp;omega)];rfl
 ·rw [g_ (λh=>hi h.1)];have:(iU n f).getD i []=[]:=by rw [a_,P_ (by rw [qb];omega)];rfl
  rw [this];rfl
theorem Na {n:Nat} {f:Nat->Nat->Int} (h:∀ i j,f i j=f j i) (i j:Nat):((iU n f).getD i []).getD j 0=((iU n f).getD j []).getD i 0:=by
 rw [Lv,Lv];by_cases h1:i<n∧j<n
 ·rw [h_ h1,h_ ⟨h1.2,h1.1⟩,h i j]
 ·rw [g_ h1,g_ (λh2=>h1 ⟨h2.2,h2.1⟩)]
theorem J2 {n:Nat} {Q Q':Nat->Nat->Int} (h:Pl.gQ n Q) (he:∀ i j,i<n->j<n->Q i j=Q' i j):Pl.gQ n Q':=by
 intro v hv;have h1:=h v hv;have e:Pl.sm n (λi=>v i*Pl.sm n (λj=>Q' i j*v j))=Pl.sm n (λi=>v i*Pl.sm n (λj=>Q i j*v j)):=Pl.aC λi hi=>by
  congr 1;exact Pl.aC λj hj=>by rw [he i j hi hj]
 rwa [e]
theorem PZ {r:aP} (hz:r.zero=[]) (ht:r.dX.gM) {wt:Nat->Int} (hw:∀ k,k<r.least.length->0<wt k):Pl.gQ r.size (Pl.il r.least.length r.S wt):=by
 refine Pl.J3 hw λv hv=>?_;refine ht v (λs hs=>?_) (λs hs=>?_)
 ·have:r.dX.zero=[]:=by show r.zero.map lf=[];rw [hz];rfl
  rw [this] at hs;cases hs
 ·obtain ⟨a,ha,rfl⟩:=m_.1 hs;obtain ⟨i,hi,e⟩:=abw.1 ha;have e2:r.S i=lf a:=by
   funext k;unfold aP.S lf;rw [a_ (l:=r.least),f_ hi,e];rfl
  have:=hv i hi;rw [e2] at this;exact Int.le_of_eq this.symm
def lZ:Nat->Int
 | 0=>0
 | k+1=>wQ (lZ k)
theorem qM:∀ t,lZ (2*t)=-(t:Int)∧lZ (2*t+1)=(t:Int)+1
 | 0=>by
  refine ⟨rfl,?_⟩;show wQ 0=_;unfold wQ;rw [g_ (by omega)];rfl
 | t+1=>by
  have h:=(qM t).2;have e1:lZ (2*(t+1))=-((t+1:Nat):Int):=by
   show wQ (lZ (2*t+1))=_;rw [h];unfold wQ;rw [h_ (by omega)];omega
  refine ⟨e1,?_⟩;show wQ (lZ (2*(t+1)))=_;rw [e1];unfold wQ;rw [g_ (by omega)];omega
theorem SI {k:Nat} (hk:0<lZ k) {d:Int} (h1:-lZ k<d) (h2:d<lZ k):∃ j,j<k∧lZ j=d:=by
 rcases (show ∃ t,k=2*t∨k=2*t+1 from ⟨k/2,by omega⟩) with ⟨t,e|e⟩
 ·rw [e,(qM t).1] at hk;omega
 ·rw [e,(qM t).2] at h1 h2;by_cases hd:d<=0
  ·exact ⟨2*d.natAbs,by omega,by rw [(qM _).1];omega⟩
  ·exact ⟨2*(d.natAbs - 1)+1,by omega,by rw [(qM _).2];omega⟩
theorem Nb {low high:Int} {k:Nat} (h:high<Int.fdiv (low+high) 2+lZ k) {x:Int} (hx1:low<=x) (hx2:x<=high):∃ j,j<k∧Int.fdiv (low+high) 2+lZ j=x:=by
 have e:Int.fdiv (low+high) 2=(low+high)/2:=T_ _ (by decide);rw [e] at h ⊢;have hp:0<lZ k:=by omega
 obtain ⟨j,hj,ej⟩:=SI hp (d:=x - (low+high)/2) (by omega) (by omega);exact ⟨j,hj,by omega⟩
end Go.Proofs.YtfaljekgpnbmiaaGreat
