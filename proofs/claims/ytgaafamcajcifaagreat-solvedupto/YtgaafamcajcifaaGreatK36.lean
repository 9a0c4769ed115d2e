/- Joined: XProd2 XLat17 XFind1. -/
import Derived.Test.YtgaafamcajcifaaGreatK29
import Derived.Test.YtgaafamcajcifaaGreatK31
import Derived.Test.YtgaafamcajcifaaGreatK35
set_option linter.unusedVariables false
set_option linter.unusedSimpArgs false
set_option maxRecDepth 100000
namespace Go.Proofs.YtgaafamcajcifaaGreat
open Go.RowKit Go.Sort
structure vE (P:Nat->Prop) (w:World) (g n i:Nat) (R:Nat->Nat) (f:Nat->Nat->Int):Prop where
 above:∀ r,r<i->g<R r∧R r<w.heap.size
 oL:sF P w i R (λ_=>n) f
 list:∃ cs:Array Value,w.heap[g]?=some (.cells cs 69 (0,0))∧cs.size=n∧∀ j,j<i->cs[j]?=some (.slice (some ⟨R j,0,none⟩) n n)
theorem vE.add {P:Nat->Prop} {w w2:World} {g n i:Nat} {R:Nat->Nat} {f:Nat->Nat->Int} (h:vE P w g n i R f) (hi:i<n) (hg:ae w w2) (hr:bz P w2 w.heap.size n (f i)):vE P (w2.setCell ⟨g,i,none⟩ (.slice (some ⟨w.heap.size,0,none⟩) n n)) g n (i+1) (λr=>if r=i then w.heap.size else R r) f:=by
 obtain ⟨cs,h1,h2,h3⟩:=h.list;have hb:=Below.same hg _ _ h1;have hgl:=z_ h1;have hrl:=hr.lt;have F:=(h.oL.grow hg).snoc (g:=w.heap.size) (fr:=f i) hr (λr hr'=>by have:=(h.above r hr').2;omega) (λ_ _=>rfl);refine ⟨λr hr'=>?_,F.uq hb (by decide) (λr hr'=>?_) _ _,_,j_ w2 g i _ _ _ hb,by simp [h2],λj hj=>?_⟩
 ·have hsz:(w2.setCell ⟨g,i,none⟩ (.slice (some ⟨w.heap.size,0,none⟩) n n)).heap.size=w2.heap.size:=by simp
  rw [hsz];by_cases e:r=i
  ·rw [h_ e];omega
  ·rw [g_ e];have:=h.above r (by omega);have:=hg.size;omega
 ·by_cases e:r=i
  ·rw [h_ e];omega
  ·rw [g_ e];have:=h.above r (by omega);omega
 ·by_cases e:j=i
  ·rw [h_ e,e];exact P_ (by omega)
  ·rw [g_ e,K_ (by omega)];exact h3 j (by omega)
structure jw (w0 w:World) (g n:Nat) (R:Nat->Nat) (f:Nat->Nat->Int) (xx:Int) (xa:Option Addr) (xm xc:Nat) (wd:Int):Prop where
 oL:sF PT w n R (λ_=>n) f
 head:dM w g n R 0 n
 var:bB PT w w0.heap.size xx xa xm xc wd
 cZ:ae w0 w
 above:∀ r,r<n->w0.heap.size<R r
theorem jw.grow {w0 w w':World} {g n:Nat} {R:Nat->Nat} {f:Nat->Nat->Int} {xx:Int} {xa:Option Addr} {xm xc:Nat} {wd:Int} (h:jw w0 w g n R f xx xa xm xc wd) (hg:ae w w'):jw w0 w' g n R f xx xa xm xc wd:=⟨h.oL.grow hg,h.head.grow hg,h.var.grow hg,h.cZ.trans hg,h.above⟩
theorem jw.congr {w0 w:World} {g n:Nat} {R:Nat->Nat} {f f':Nat->Nat->Int} {xx:Int} {xa:Option Addr} {xm xc:Nat} {wd:Int} (h:jw w0 w g n R f xx xa xm xc wd) (he:∀ r i,r<n->i<n->f r i=f' r i):jw w0 w g n R f' xx xa xm xc wd:=⟨h.oL.congr he,h.head,h.var,h.cZ,h.above⟩
theorem jw.set {w0 w:World} {g n:Nat} {R:Nat->Nat} {f:Nat->Nat->Int} {xx:Int} {xa:Option Addr} {xm xc:Nat} {wd:Int} (h:jw w0 w g n R f xx xa xm xc wd) {i j:Nat} (hi:i<n) (hj:j<n) {x:Int} {a:Option Addr} {m c:Nat} {v:Int} (hv:aj PT w (.agg #[.int .i64 x,.slice a m c]) v):jw w0 ((w.setCell ⟨R i,j*2,none⟩ (.int .i64 x)).setCell ⟨R i,j*2+1,none⟩ (.slice a m c)) g n R (lK f i j v) xx xa xm xc wd:=by
 have ha:=h.above i hi;have hne:=jZ h.oL h.head i hi;exact ⟨h.oL.set hi hj hv,(h.head.uq (aaQ hne) _ _).uq (aaQ hne) _ _,h.var.put (h.oL.rows i hi).block (by omega) _ _ _ _,(B_ (p:=⟨R i,j*2,none⟩) h.cZ (abv ha) _).setCell (p:=⟨R i,j*2+1,none⟩) (abv ha) _,h.above⟩
theorem jw.list {w0 w:World} {g n:Nat} {R:Nat->Nat} {f:Nat->Nat->Int} {xx:Int} {xa:Option Addr} {xm xc:Nat} {wd:Int} (h:jw w0 w g n R f xx xa xm xc wd):aM PT w (.slice (some ⟨g,0,none⟩) n n) (iR n f):=by
 have h1:=zP h.oL h.head (by omega) (λ_ _=>rfl) n (d_ _) (λ_ _=>trivial);have e:((List.range n).map λi=>(List.range n).map (f (0+i)))=iR n f:=by
  unfold iR;exact aa1 λi _=>aa1 λj _=>by rw [M_]
 rwa [e] at h1
section
section
attribute [local go_sem] bD
set_option maxHeartbeats 4000000 in
theorem Fs (K L n m:Nat) (ls:List (List Int)) (ws:List Int) (va vw:Value) (w:World) (ha:aM PT w va ls) (hb:aD PT w vw ws) (hm:ls.length=m) (hmw:ws.length=m) (hlen:∀ l∈ls,l.length=n+1) (hn0:0<n) (hn:n<=100) (hm8:m<=1000) (hpos:∀ k,k<m->0<ws.getD k 0) (lw:∀ k,Pl.Lt K (ws.getD k 0)) (la:∀ i k,Pl.Lt L ((ls.getD i []).getD k 0)) (hK:2*K+2*L+3<=1500000000000) :
  Calls Tryz.prog 71 #[va,vw,.int .i64 n] w λe w'=>∃ v',e=.returned v'∧aM PT w' v' (iR n (Pl.ig m (λi k=>(ls.getD i []).getD k 0) (dI ws m)))∧Below w.heap.size w w':=by
 obtain ⟨i0,hi0,hz0,hz1,hz2⟩:=U_ Tryz.dP;obtain ⟨i1,hi1,hy0,hy1,hy2⟩:=U_ Tryz.oQ;obtain ⟨aa,ac,rfl⟩:∃ ad cap,va=.slice ad m cap:=by obtain ⟨ad,cap,e,_⟩:=ha;rw [hm] at e;exact ⟨ad,cap,e⟩
 obtain ⟨ba,bc,rfl⟩:∃ ad cap,vw=.slice ad m cap:=by obtain ⟨ad,cap,e,_⟩:=hb;rw [hmw] at e;exact ⟨ad,cap,e⟩
 have HA:=af ha;have HB:=af hb;have HM:=af hm;have HMW:=af hmw;have HLEN:=af hlen;have zO:=af (dC (w:=w) (sS PT w));have xV:=af (ae.alloc w (.cells #[.int .i64 0,.slice none 0 0] 78));clear ha hb hm hmw hlen;go_enter Tryz.func71,Tryz.ntmps71;go_wp2_with fail;go_loopg [8] m (λq iv wr=>∃ (i:Nat) (xx:Int) (xa:Option Addr) (xm xc:Nat),iv=.int .i64 i∧i+q=m∧Hid (bB PT wr w.heap.size xx xa xm xc (dE ws i)∧ae w wr))
 case atStart=>exact ⟨0,0,none,0,0,rfl,by omega,uh zO,uh xV⟩
 case round =>
  clear zO xV;obtain ⟨i,xx,xa,xm,xc,rfl,ZF,HR⟩:=hrel;by_cases hlt:i<m
  ·obtain ⟨gp,op,_,px,pa,pm,pc,ep,p0,p1,hp⟩:=eU ((uh HB).below (uh HR).2) (i:=i) (by rw [uh HMW];exact hlt);rw [uh HMW] at ep;cases ep;have wy:=af hp;have xE:=af (x_ p0 p1);obtain ⟨x0,x1,x2,x3⟩:=(uh HR).1.cells;clear hp;go_wp2_with fail;have y0:=b_ p0;have y1:=b_ p1;have y2:=b_ x0;have y3:=b_ x1;clear p0 p1 x0 x1;refine ah (bZ []) (gL [(27,(·=.int .i64 (Int.sign (ws.getD i 0 - dE ws i))))]) 111 6 (by kernel_rfl) (by rfl) (by kernel_rfl) (dw (by simp)) ?_
   iterate 5 (refine aO λK hK=>?_;go_simp;refine hK _ ?_;clear hK K)
   refine ai (·=.int .i64 (Int.sign (ws.getD i 0 - dE ws i))) 54 #[.agg #[.int .i64 px,.slice pa pm pc],.agg #[.int .i64 xx,.slice xa xm xc]] (by rfl) (by rfl) ⟨_,rfl⟩ (λw=>by go_simp) (λwq hg hf=>(jg PT K _ _ _ _ wq (λ_ _=>trivial) ((uh wy).below hg) ((uh HR).1.val.below hg) (by omega) (lw i) (pO lw i)).mono (by rintro e w' ⟨rfl,hb⟩;exact ⟨_,rfl,hb,rfl,λt ht=>by cases ht;exact True.intro⟩)) ?_;rintro _ rfl;refine aF ?_;intro w1 hw1 aK;clear aK y0 y1 y2 y3;have HR1:=af (x_ ((uh HR).1.grow hw1) ((uh HR).2.trans hw1));have p0:=ae.cell hw1 (uh xE).1;have p1:=ae.cell hw1 (uh xE).2;obtain ⟨z0,z1,z2,z3⟩:=(uh HR1).1.cells;have VX:=af ((uh wy).below hw1);clear hw1 x2 x3;by_cases hc:dE ws i<ws.getD i 0
   ·rw [J_ (show 0<ws.getD i 0 - dE ws i by omega)];have HW:Hid (dE ws (i+1)=ws.getD i 0):=h_ hc;have HS:Hid (bB PT ((w1.setCell ⟨w.heap.size,0,none⟩ (.int .i64 px)).setCell ⟨w.heap.size,1,none⟩ (.slice pa pm pc)) w.heap.size px pa pm pc (ws.getD i 0)∧ae w ((w1.setCell ⟨w.heap.size,0,none⟩ (.int .i64 px)).setCell ⟨w.heap.size,1,none⟩ (.slice pa pm pc))):=⟨⟨jU (uh HR1).1.heap _ _,(uh VX).kE (uh HR1).1.heap _ _⟩,(B_ (p:=⟨w.heap.size,0,none⟩) (uh HR1).2 (d_ _) _).setCell (p:=⟨w.heap.size,1,none⟩) (d_ _) _⟩;clear hc;go_wp2;go_roundg (gk - 1)
    case measure=>omega
    case rel=>exact ⟨i+1,px,pa,pm,pc,by simp,by omega,by rw [uh HW];exact (uh HS).1,(uh HS).2⟩
   ·have HW:Hid (dE ws (i+1)=dE ws i):=g_ hc;obtain ⟨sg,hsg⟩:∃ sg,Int.sign (ws.getD i 0 - dE ws i)=sg:=⟨_,rfl⟩;have d0:¬ (0<sg):=by
     rw [<-hsg];rcases (show ws.getD i 0 - dE ws i<0∨ws.getD i 0 - dE ws i=0 by omega) with h|h
     ·rw [E_ h];decide
     ·rw [h];decide
    have d1:decide (0<sg)=false:=Z_ d0;rw [hsg];clear hsg hc;go_wp2;go_roundg (gk - 1)
    case measure=>omega
    case rel=>exact ⟨i+1,xx,xa,xm,xc,by simp,by omega,by rw [uh HW];exact (uh HR1).1,(uh HR1).2⟩
  ·have him:i=m:=by omega
   have HWD:Hid (bB PT wr w.heap.size xx xa xm xc (dE ws m)∧ae w wr):=by rw [<-him];exact uh HR
   obtain ⟨WE,Yw⟩:∃ WE,WE=wr:=⟨_,rfl⟩;subst Yw;clear HR ZF;go_wp2_with (at_make;refine wpList_make_full _ rfl _ _ 72 rfl WE.heap.size 69 i1 (.slice none 0 0) 1 Tryz.underlying72 hi1 hy0 hy1 .i64 .i64 _ _ n rfl rfl ?e1 ?e2 ?c1 ?c2 ?c3 ?_)
   case e1=>first | rfl | omega | simp
   case e2=>first | rfl | omega | simp
   case c1=>rw [hy2];omega
   case c2=>unfold maxLen;omega
   case c3=>first | omega | simp
   ·intro w1 hown hgrow;have hG1:ae WE w1:=(n_ _ _).grown hgrow (d_ _) (by intro k hk;cases hk);have K7:Hid (vE PT w1 WE.heap.size n 0 (λ_=>0) (λ_ _=>0)):=by
     obtain ⟨cs,h1,h2,_⟩:=eZ.made (P:=PT) hown;exact ⟨λr hr=>by omega,⟨λr hr=>by omega,λr s hr=>by omega⟩,cs,h1,h2,λj hj=>by omega⟩
    have dN:=af hG1;clear hown hgrow hG1;go_wp2_with fail;go_loopg [10] n (λq iv wr=>∃ (i:Nat) (R:Nat->Nat),iv=.int .i64 i∧i+q=n∧Hid (vE PT wr WE.heap.size n i R (λ_ _=>0)∧ae WE wr))
    case atStart=>exact ⟨0,λ_=>0,rfl,by omega,uh K7,uh dN⟩
    case round =>
     clear K7 dN;rename Nat=>gi;rename World=>wi;obtain ⟨i',R,rfl,ZF,HR⟩:=hrel;by_cases hin:i'<n
     ·go_wp2_with (at_make;refine wpList_make_full _ rfl _ _ 69 rfl wi.heap.size 78 i0 (.agg #[.int .i64 0,.slice none 0 0]) 2 Tryz.underlying69 hi0 hz0 hz1 .i64 .i64 _ _ n rfl rfl ?e1 ?e2 ?c1 ?c2 ?c3 ?_)
      case e1=>first | rfl | omega | simp
      case e2=>first | rfl | omega | simp
      case c1=>rw [hz2];omega
      case c2=>unfold maxLen;omega
      case c3=>first | omega | simp
      ·intro w2 hown hgrow;have hG2:ae wi w2:=(n_ _ _).grown hgrow (d_ _) (by intro k hk;cases hk);have hR2:bz PT w2 wi.heap.size n (λ_=>0):=bz.made hown;obtain ⟨cs,h1,h2,_⟩:=(uh HR).1.list;have hb2:=Below.same hG2 _ _ h1;obtain ⟨u0,l0⟩:∃ u0,w2.cell? ⟨WE.heap.size,i',none⟩=some u0:=⟨cs[i'],by rw [cellsOf hb2];exact Array.getElem?_eq_getElem (by omega)⟩;have l1:w2.frozen? ⟨WE.heap.size,i',none⟩=false:=aH hb2 i';have HA2:=af ((uh HR).1.add hin hG2 hR2);have HG2:Hid (ae WE (w2.setCell ⟨WE.heap.size,i',none⟩ (.slice (some ⟨wi.heap.size,0,none⟩) n n))):=B_ (p:=⟨WE.heap.size,i',none⟩) ((uh HR).2.trans hG2) (d_ _) _;clear hown hgrow hG2 hR2 h1 h2 hb2;go_wp2;go_roundg (gi - 1)
       case measure=>omega
       case rel=>exact ⟨i'+1,_,by simp,by omega,uh HA2,uh HG2⟩
     ·have hin':i'=n:=by omega
      have Rm:Hid (jw w wi WE.heap.size n R (Pl.ig 0 (λi k=>(ls.getD i []).getD k 0) (dI ws m)) xx xa xm xc (dE ws m)):=by
       have h1:=(uh HR).1;rw [hin'] at h1;obtain ⟨cs,l1,l2,l3⟩:=h1.list;exact ⟨h1.oL.congr (λ_ _ _ _=>rfl),⟨cs,l1,λj hj=>by rw [M_];exact l3 j hj⟩,(uh HWD).1.grow (uh HR).2,(uh HWD).2.trans (uh HR).2,λr hr=>by have:=(h1.above r hr).1;have:=(uh HWD).1.lt;omega⟩
      clear HR ZF hin';go_wp2_with fail;go_loopg [11] m (λq kv wr=>∃ (k:Nat),kv=.int .i64 k∧k+q=m∧Hid (jw w wr WE.heap.size n R (Pl.ig k (λi k=>(ls.getD i []).getD k 0) (dI ws m)) xx xa xm xc (dE ws m)))
      case atStart=>exact ⟨0,rfl,by omega,uh Rm⟩
      case round =>
       clear Rm;rename Nat=>gk0;obtain ⟨k,rfl,hkq,HR⟩:=hrel;by_cases TK:k<m
       ·have hgw:ae w wr:=(uh HR).cZ;obtain ⟨gp,op,_,px,pa,pm,pc,ep,p0,p1,hp⟩:=eU ((uh HB).below hgw) (i:=k) (by rw [uh HMW];exact TK);rw [uh HMW] at ep;cases ep;have wy:=af hp;obtain ⟨x0,x1,x2,x3⟩:=(uh HR).var.cells;have Xf:Hid (Pl.Lt (2*K) (dI ws m k)):=zH lw (hpos k TK);have hdl:Pl.Lt K (Int.fdiv (dE ws m) (ws.getD k 0)):=(pO lw m).fdiv (hpos k TK);clear hp x2 x3;go_wp2_with fail;have y0:=b_ x0;have y1:=b_ x1;have y2:=b_ p0;have y3:=b_ p1;clear x0 x1 p0 p1;refine ah (bZ [(62,λv w=>aj PT w v (Int.fdiv (dE ws m) (ws.getD k 0))),(12,bg wr)]) (gL [(62,ag),(12,bL)]) 111 7 (by kernel_rfl) (by rfl) (by kernel_rfl) (aN (λ_ _ _=>aj.below) (aN (λ_ _ _=>bg.grow) cK)) ?_
        iterate 5 (refine aO λK hK=>?_;go_simp;refine hK _ ?_;clear hK K)
        refine ai ag 56 #[.agg #[.int .i64 xx,.slice xa xm xc],.agg #[.int .i64 px,.slice pa pm pc]] (by rfl) (by rfl) ag.some (λw=>by go_simp) (λwq hg hf=>(lu PT K _ _ _ _ wq (λ_ _=>trivial) ((uh HR).var.val.below hg) ((uh wy).below hg) (by omega) (pO lw m) (lw k)).mono (by rintro e w' ⟨v',rfl,hv,hb⟩;exact ⟨_,rfl,hb,hv.aU,λt ht=>by cases ht;exact hv⟩)) ?_;rintro _ ⟨dx,da,dm,dc,rfl⟩;refine eO bL (by rfl) (by rfl) bL.some (λwq hg hf=>⟨.pointer (some ⟨wq.heap.size,0,none⟩),wq.alloc (.cells #[.int .i64 0,.slice none 0 0] 78),by go_simp,ae.alloc _ _,⟨_,rfl⟩,λt ht=>by cases ht;exact bg.new hg⟩) ?_;rintro _ ⟨g12,rfl⟩;refine aF ?_;intro w3 hw3 aK;have hv3:aj PT w3 (.agg #[.int .i64 dx,.slice da dm dc]) (Int.fdiv (dE ws m) (ws.getD k 0)):=aK 5 _ 62 (by decide) rfl rfl;obtain ⟨akX,e6,f6⟩:bg wr (.pointer (some ⟨g12,0,none⟩)) w3:=aK 6 _ 12 (by decide) rfl rfl;cases e6;clear aK y0 y1 y2 y3;obtain ⟨z0,z1,z2,z3⟩:=fT f6.2;have hst:=bH (P:=PT) hw3 f6.1 f6.2 hv3;obtain ⟨W3,hW3⟩:∃ W,(w3.setCell ⟨g12,0,none⟩ (.int .i64 dx)).setCell ⟨g12,1,none⟩ (.slice da dm dc)=W:=⟨_,rfl⟩;rw [hW3] at hst;have wS:=af hst.1;have jb:=af hst.2;have xk:wr.heap.size<=g12:=f6.1;have c0:=hst.1.cells.1;have c1:=hst.1.cells.2.1;clear hst hv3 f6 hw3;go_wp2_with fail
        try rw [hW3]
        clear hW3 z0 z1 z2 z3;refine (eD PT K _ _ _ _ W3 (λ_ _=>trivial) (uh wS).val (uh wS).val (by omega) hdl hdl).mono ?_;rintro e w4 ⟨v4,rfl,hv4,hw4⟩;obtain ⟨ex,ea,em,ec,rfl⟩:=hv4.shape;have hb4:=(uh wS).grow hw4;obtain ⟨c0',c1',c2',c3'⟩:=hb4.cells;obtain ⟨W4,xX⟩:∃ W,(w4.setCell ⟨g12,0,none⟩ (.int .i64 ex)).setCell ⟨g12,1,none⟩ (.slice ea em ec)=W:=⟨_,rfl⟩;have DR:Hid (bB PT W4 g12 ex ea em ec (dI ws m k)):=by unfold Hid;rw [<-xX];exact ⟨jU hb4.heap _ _,hv4.kE hb4.heap _ _⟩
        have kC:Hid (ae wr W4):=by unfold Hid;rw [<-xX];exact (B_ (p:=⟨g12,0,none⟩) ((uh jb).trans hw4) xk _).setCell (p:=⟨g12,1,none⟩) xk _
        have HRg:Hid (∀ r,r<n->R r<wr.heap.size):=λr hr=>((uh HR).oL.rows r hr).lt;have Py:Hid (jw w W4 WE.heap.size n R (mH (λi k=>(ls.getD i []).getD k 0) (dI ws m) k 0 0) xx xa xm xc (dE ws m)):=((uh HR).grow (uh kC)).congr (λr i _ _=>(FU r i).symm);clear hb4 hv4 hw4 hdl wS jb c0 c1;go_wp2_with fail
        try rw [xX]
        clear xX c0' c1' c2' c3';obtain ⟨WK,hWK⟩:∃ WK,WK=wr:=⟨_,rfl⟩;subst hWK;go_loopg [13] n (λq iv wr=>∃ (i:Nat),iv=.int .i64 i∧i+q=n∧Hid (jw w wr WE.heap.size n R (mH (λi k=>(ls.getD i []).getD k 0) (dI ws m) k i 0) xx xa xm xc (dE ws m)∧bB PT wr g12 ex ea em ec (dI ws m k)))
        case atStart=>exact ⟨0,rfl,by omega,uh Py,uh DR⟩
        case round =>
         clear Py DR kC;rename Nat=>gi4;obtain ⟨i,rfl,ZF,HI⟩:=hrel;by_cases hin2:i<n
         ·have adN:ae w wr:=(uh HI).1.cZ;obtain ⟨gs,os,_,us,es,s0,NZ,hsm⟩:=gP ((uh HA).below adN) (i:=k) (by rw [uh HM];exact TK);rw [uh HM] at es;cases es;have hsl:=uh HLEN _ hsm;obtain ⟨usa,usc,rfl⟩:∃ ad cap,us=.slice ad (n+1) cap:=by obtain ⟨ad,cap,e,_⟩:=NZ;rw [hsl] at e;exact ⟨ad,cap,e⟩
          have HSR:=af NZ;have Qy:=af hsl;obtain ⟨gt,ot,_,px,pa,pm,pc,ep,p0,p1,hp⟩:=eU NZ (i:=i+1) (by rw [hsl];omega);rw [hsl] at ep;cases ep;have Sy:=af hp;obtain ⟨e0,e1,_,_⟩:=(uh HI).2.cells;have wi1:IntKind.i64.wrap ((i:Int)+1)=(i:Int)+1:=by rw [aaA];omega
          have ti1:((i:Int)+1).toNat=i+1:=by omega
          have li1:(i:Int)+1<(n:Int)+1:=by omega
          have li2:0<=(i:Int)+1:=by omega
          clear NZ hsm hsl hp;go_wp2_with fail;have y0:=b_ e0;have y1:=b_ e1;have y2:=b_ s0;have y3:=b_ p0;have y4:=b_ p1;clear e0 e1 s0 p0 p1;refine ah (bZ [(80,λv w=>aj PT w v (dI ws m k*(ls.getD k []).getD (i+1) 0)),(14,bg wr)]) (gL [(80,ag),(14,bL)]) 111 11 (by kernel_rfl) (by rfl) (by kernel_rfl) (aN (λ_ _ _=>aj.below) (aN (λ_ _ _=>bg.grow) cK)) ?_
          iterate 9 (refine aO λK hK=>?_;go_simp;refine hK _ ?_;clear hK K)
          refine ai ag 58 #[.agg #[.int .i64 ex,.slice ea em ec],.agg #[.int .i64 px,.slice pa pm pc]] (by rfl) (by rfl) ag.some (λw=>by go_simp) (λwq hg hf=>(eD PT (2*K+L) _ _ _ _ wq (λ_ _=>trivial) ((uh HI).2.val.below hg) ((uh Sy).below hg) (by omega) ((uh Xf).mono (by omega)) ((la k (i+1)).mono (by omega))).mono (by rintro e w' ⟨v',rfl,hv,hb⟩;exact ⟨_,rfl,hb,hv.aU,λt ht=>by cases ht;exact hv⟩)) ?_;rintro _ ⟨sx,sa,sm,sc,rfl⟩;refine eO bL (by rfl) (by rfl) bL.some (λwq hg hf=>⟨.pointer (some ⟨wq.heap.size,0,none⟩),wq.alloc (.cells #[.int .i64 0,.slice none 0 0] 78),by go_simp,ae.alloc _ _,⟨_,rfl⟩,λt ht=>by cases ht;exact bg.new hg⟩) ?_;rintro _ ⟨g14,rfl⟩;refine aF ?_;intro w5 pK aK;have hv5:aj PT w5 (.agg #[.int .i64 sx,.slice sa sm sc]) (dI ws m k*(ls.getD k []).getD (i+1) 0):=aK 9 _ 80 (by decide) rfl rfl;obtain ⟨ak1,e6,f6⟩:bg wr (.pointer (some ⟨g14,0,none⟩)) w5:=aK 10 _ 14 (by decide) rfl rfl;cases e6;clear aK y0 y1 y2 y3 y4;obtain ⟨z0,z1,z2,z3⟩:=fT f6.2;have hst:=bH (P:=PT) pK f6.1 f6.2 hv5;obtain ⟨W5,Bh⟩:∃ W,(w5.setCell ⟨g14,0,none⟩ (.int .i64 sx)).setCell ⟨g14,1,none⟩ (.slice sa sm sc)=W:=⟨_,rfl⟩;rw [Bh] at hst;have HV5:=af hst.1;have gD:=af hst.2;have ak2:wr.heap.size<=g14:=f6.1;clear hst hv5 f6 pK;go_wp2_with fail
          try rw [Bh]
          clear Bh z0 z1 z2 z3;have HP5:Hid (jw w W5 WE.heap.size n R (mH (λi k=>(ls.getD i []).getD k 0) (dI ws m) k i 0) xx xa xm xc (dE ws m)∧bB PT W5 g12 ex ea em ec (dI ws m k)):=⟨(uh HI).1.grow (uh gD),(uh HI).2.grow (uh gD)⟩;have adP:Hid (∀ r,r<n->R r≠g14∧R r≠g12):=λr hr=>by have h1:=uh HRg r hr;have h2:=((uh HI).1.oL.rows r hr).lt;exact ⟨by omega,by omega⟩
          clear gD;go_loopg [15] n (λq jv wr=>∃ (j:Nat),jv=.int .i64 j∧j+q=n∧Hid (jw w wr WE.heap.size n R (mH (λi k=>(ls.getD i []).getD k 0) (dI ws m) k i j) xx xa xm xc (dE ws m)∧bB PT wr g12 ex ea em ec (dI ws m k)∧bB PT wr g14 sx sa sm sc (dI ws m k*(ls.getD k []).getD (i+1) 0)))
          case atStart=>exact ⟨0,rfl,by omega,(uh HP5).1,(uh HP5).2,uh HV5⟩
          case round =>
           clear HP5 HV5;obtain ⟨j,rfl,hjq,HJ⟩:=hrel;by_cases hjn:j<n
           ·have adQ:ae w wr:=(uh HJ).1.cZ;obtain ⟨gs',os',_,us,es,s0,NZ,hsm⟩:=gP ((uh HA).below adQ) (i:=k) (by rw [uh HM];exact TK);rw [uh HM] at es;cases es;have hsl:=uh Qy;obtain ⟨vsa,vsc,rfl⟩:∃ ad cap,us=.slice ad (n+1) cap:=by obtain ⟨ad,cap,e,_⟩:=NZ;rw [hsl] at e;exact ⟨ad,cap,e⟩
            obtain ⟨gu,ou,_,ux,ua,um,uc,eu,u0,u1,hu⟩:=eU NZ (i:=j+1) (by rw [hsl];omega);rw [hsl] at eu;cases eu;have HUV:=af hu;obtain ⟨fx,fa,fm,fc,f0,f1,hfv,_⟩:=((uh HJ).1.oL.rows i hin2).get hjn;rw [Nv] at hfv;have Us:=af hfv;have Yb:=af (x_ f0 f1);have h0:=(uh HJ).1.head.cell hin2;rw [M_] at h0;obtain ⟨t0,t1,_,_⟩:=(uh HJ).2.2.cells;have HPL:Hid (Pl.Lt (2*K+2*L+1) (Pl.ig k (λi k=>(ls.getD i []).getD k 0) (dI ws m) i j)):=GH (by omega) la (λk' hk'=>zH lw (hpos k' (by omega))) i j;have wj1:IntKind.i64.wrap ((j:Int)+1)=(j:Int)+1:=by rw [aaA];omega
            have tj1:((j:Int)+1).toNat=j+1:=by omega
            have lj1:(j:Int)+1<(n:Int)+1:=by omega
            have lj2:0<=(j:Int)+1:=by omega
            clear NZ hsm hsl hu hfv;go_wp2_with fail;have y0:=b_ h0;have y1:=b_ f0;have y2:=b_ f1;have y3:=b_ t0;have y4:=b_ t1;have y5:=b_ s0;have y6:=b_ u0;have y7:=b_ u1;clear h0 f0 f1 t0 t1 s0 u0 u1;refine ah (bZ [(107,λv w=>aj PT w v ((dI ws m k*(ls.getD k []).getD (i+1) 0)*(ls.getD k []).getD (j+1) 0)),(108,λv w=>aj PT w v (Pl.ig k (λi k=>(ls.getD i []).getD k 0) (dI ws m) i j+(dI ws m k*(ls.getD k []).getD (i+1) 0)*(ls.getD k []).getD (j+1) 0))]) (gL [(107,ag),(108,ag)]) 111 24 (by kernel_rfl) (by rfl) (by kernel_rfl) (aN (λ_ _ _=>aj.below) (aN (λ_ _ _=>aj.below) cK)) ?_
            iterate 21 (refine aO λK hK=>?_;go_simp;refine hK _ ?_;clear hK K)
            refine ai ag 58 #[.agg #[.int .i64 sx,.slice sa sm sc],.agg #[.int .i64 ux,.slice ua um uc]] (by rfl) (by rfl) ag.some (λw=>by go_simp) (λwq hg hf=>(eD PT (2*K+L) _ _ _ _ wq (λ_ _=>trivial) ((uh HJ).2.2.val.below hg) ((uh HUV).below hg) (by omega) (((uh Xf).mul (la k (i+1))).mono (by omega)) ((la k (j+1)).mono (by omega))).mono (by rintro e w' ⟨v',rfl,hv,hb⟩;exact ⟨_,rfl,hb,hv.aU,λt ht=>by cases ht;exact hv⟩)) ?_;rintro _ ⟨tx,ta,tm,tc,rfl⟩;refine ai ag 55 #[.agg #[.int .i64 fx,.slice fa fm fc],.agg #[.int .i64 tx,.slice ta tm tc]] (by rfl) (by rfl) ag.some (λw=>by go_simp) (λwq hg hf=>(gZ PT (2*K+2*L+1) _ _ _ _ wq (λ_ _=>trivial) ((uh Us).below hg) (hf 21 (by kernel_rfl) _ 107 rfl rfl) (by omega) ((uh HPL).mono (by omega)) ((((uh Xf).mul (la k (i+1))).mul (la k (j+1))).mono (by omega))).mono (by rintro e w' ⟨v',rfl,hv,hb⟩;exact ⟨_,rfl,hb,hv.aU,λt ht=>by cases ht;exact hv⟩)) ?_;rintro _ ⟨hx,ha,hm,hc,rfl⟩
            (refine aO λK hK=>?_;go_simp;refine hK _ ?_;clear hK K)
            refine aF ?_;intro w7 hw7 aK;have hv7:aj PT w7 (.agg #[.int .i64 hx,.slice ha hm hc]) (Pl.ig k (λi k=>(ls.getD i []).getD k 0) (dI ws m) i j+(dI ws m k*(ls.getD k []).getD (i+1) 0)*(ls.getD k []).getD (j+1) 0):=aK 22 _ 108 (by decide) rfl rfl;clear aK y0 y1 y2 y3 y4 y5 y6 y7;have hP7:=(uh HJ).1.grow hw7;have f0:=ae.cell hw7 (uh Yb).1;have f1:=ae.cell hw7 (uh Yb).2;obtain ⟨cb,hcb⟩:=(hP7.oL.rows i hin2).block;have b0:=aH hcb (j*2);have b1:=aH hcb (j*2+1);have hnn:=uh adP i hin2;have HS7:=af (x_ ((hP7.set hin2 hjn hv7).congr (λx y _ _=>Kg x y)) (x_ (((uh HJ).2.1.grow hw7).put ⟨cb,hcb⟩ (aaQ hnn.2) (j*2) (j*2+1) (.int .i64 hx) (.slice ha hm hc)) (((uh HJ).2.2.grow hw7).put ⟨cb,hcb⟩ (aaQ hnn.1) (j*2) (j*2+1) (.int .i64 hx) (.slice ha hm hc))));clear hP7 hcb hnn hv7 hw7;go_wp2;go_roundg (gk - 1)
            case measure=>omega
            case rel=>exact ⟨j+1,by simp,by omega,uh HS7⟩
           ·have YF:j=n:=by omega
            have HE:Hid (jw w wr WE.heap.size n R (mH (λi k=>(ls.getD i []).getD k 0) (dI ws m) k (i+1) 0) xx xa xm xc (dE ws m)∧bB PT wr g12 ex ea em ec (dI ws m k)):=⟨(uh HJ).1.congr (λx y _ hy=>by rw [YF];exact Kh hy),(uh HJ).2.1⟩;go_wp2;go_roundg (gi4 - 1)
            case measure=>omega
            case rel=>exact ⟨i+1,by simp,by omega,uh HE⟩
         ·have ZG:i=n:=by omega
          have HE:Hid (jw w wr WE.heap.size n R (Pl.ig (k+1) (λi k=>(ls.getD i []).getD k 0) (dI ws m)) xx xa xm xc (dE ws m)):=(uh HI).1.congr (λx y hx _=>by rw [ZG];exact Ki hx);go_wp2;go_roundg (gk0 - 1)
          case measure=>omega
          case rel=>exact ⟨k+1,by simp,by omega,uh HE⟩
       ·have adU:k=m:=by omega
        have HE:Hid (aM PT wr (.slice (some ⟨WE.heap.size,0,none⟩) n n) (iR n (Pl.ig m (λi k=>(ls.getD i []).getD k 0) (dI ws m)))∧ae w wr):=by have h1:=uh HR;rw [adU] at h1;exact ⟨h1.list,h1.cZ⟩
        go_wp2;go_ret;exact ⟨_,rfl,(uh HE).1,(uh HE).2⟩
end
theorem bf.list {P:Nat->Prop} {B:Nat} {w:World} {n b gs gp go cs cp co:Nat} {R:Nat->Nat} {St G Ov:Nat->Nat->Int} {V:Nat->Int} (h:bf P B w n b gs gp go cs cp co R St G Ov V) (hP:∀ g,B<=g->P g):aM P w (.slice (some ⟨gs,0,none⟩) n cs) (iR n St):=by
 have h1:=zP h.oL h.steps (by omega) (λi hi=>by unfold iN;rw [g_ (by omega)]) cs h.MW.1 (λk hk=>by
  rcases hk with rfl|⟨i,hi,rfl⟩
  ·exact hP _ h.base.2.1
  ·exact hP _ (h.base.2.2.2.2 _ (by omega)))
 have e:((List.range n).map λi=>(List.range n).map (pq n St G Ov V (0+i)))=iR n St:=by
  unfold iR;refine aa1 λi hi=>aa1 λj _=>?_;have:=V_.1 hi;unfold pq;rw [M_,h_ this]
 rwa [e] at h1
theorem Ap {n s s' k k':Nat} (h:s'+1<=s):s'*(n+1)+(n - k')<s*(n+1)+(n - k):=by
 have:=abE (n+1) h;rw [aa_,abA] at this;omega
set_option maxHeartbeats 4000000 in
theorem JG (P:Nat->Prop) (n LQ:Nat) (ls:List (List Int)) (vq:Value) (w:World) (hP:∀ b,w.heap.size<=b->P b) (h:aM P w vq ls) (hl:ls.length=n) (hr:∀ l∈ls,l.length=n) (hn0:0<n) (hn:n<=9)
  (hQ:Pl.gN n (λi j=>(ls.getD i []).getD j 0)) (hS:∀ i j,(ls.getD i []).getD j 0=(ls.getD j []).getD i 0) (hlq:∀ a b,a<n->b<n->Pl.Lt LQ ((ls.getD a []).getD b 0)) (hK:3*((n+1)*wH n (zG n LQ) n+1)+20<=1500000000000) :
  Calls Tryz.prog 70 #[vq] w λe w'=>∃ (v':Value) (St:Nat->Nat->Int),e=.returned v'∧aM P w' v' (iR n St)∧Pl.Ei n St∧(∀ a b,a<n->b<n->Pl.Lt (zG n LQ) (St a b))∧Below w.heap.size w w':=by
 have HST:=af (MZ P n ls vq w hP h hl hr hn0 (by omega));obtain ⟨va,vn,vc,rfl⟩:=h.aB;obtain ⟨Q,YM⟩:∃ Q:Nat->Nat->Int,Q=λi j=>(ls.getD i []).getD j 0:=⟨_,rfl⟩;have HQ:Hid (Pl.gN n Q):=by unfold Hid;rw [YM];exact hQ
 have HS:Hid (∀ i j,Q i j=Q j i):=by unfold Hid;rw [YM];exact hS
 have HLQ:Hid (∀ a b,a<n->b<n->Pl.Lt LQ (Q a b)):=by unfold Hid;rw [YM];exact hlq
 rw [<-YM] at HST;obtain ⟨D,hD⟩:∃ D:Int,D=1073741824^oV n LQ:=⟨_,rfl⟩;obtain ⟨T,hT⟩:∃ T:Int,T=1073741824^(oV n LQ+1):=⟨_,rfl⟩;have HDT:Hid (((n+4:Nat):Int)*D<=4*T∧0<=D):=by
  have h1:=jV (oV n LQ);rw [hD,hT,aaC];refine ⟨?_,by omega⟩;have:((n+4:Nat):Int)*1073741824^oV n LQ<=13*1073741824^oV n LQ:=A_ (by omega) (by omega);omega
 have HO0:Hid (Out n Q Pl.unit Q T D):=by unfold Hid;rw [hD,hT];exact Out.start (uh HQ) (uh HS) hn (uh HLQ)
 have VI:Hid (∀ St G,Out n Q St G T D->(∀ a b,a<n->b<n->Pl.Lt (zG n LQ) (G a b))∧∀ a b,a<n->b<n->Pl.Lt (zG n LQ) (St a b)):=λSt G hO=>by
  rw [hT] at hO;exact ⟨hO.lg (uh HQ),hO.Rn (uh HQ) (uh HS) hn (uh HLQ)⟩
 clear hD hT hQ hS hlq h hr YM;have hKL:∀ m,m<=n->3*((n+1)*wH n (zG n LQ) m+1)+20<=1500000000000:=λm hm=>by
  have h1:=abq (n+1) (M3 n (zG n LQ) hm);omega
 have VJ:=af hKL;have K8:n<=100:=by omega
 clear hKL hK;generalize zG n LQ=L0 at *
 go_enter Tryz.func70,Tryz.ntmps70;go_wp2_with fail;refine (uh HST).mono ?_;rintro e w1 ⟨b,gs,gp,go,cs,cp,co,R0,Ov0,V0,rfl,hM,hB1,hV0⟩;have HM:=af hM;have HB1:=af hB1;have zO:=af hV0;clear hM hB1 hV0 HST;go_wp2_with fail;go_loopg [4] ((Pl.sm (n+1) (Pl.gI n Q)).toNat*(n+1)+(n - 1)) (λq kv wr=>∃ (k:Nat) (R:Nat->Nat) (St G Ov:Nat->Nat->Int) (V:Nat->Int),kv=.int .i64 k∧1<=k∧k<=n∧(Pl.sm (n+1) (Pl.gI n G)).toNat*(n+1)+(n - k)=q∧Hid (bf P w.heap.size wr n b gs gp go cs cp co R St G Ov V∧Out n Q St G T D∧V 0=1∧Below w.heap.size w wr))
 case atStart=>exact ⟨1,R0,_,_,Ov0,V0,rfl,by omega,by omega,rfl,uh HM,uh HO0,uh zO,uh HB1⟩
 case round =>
  clear HM zO HO0 HB1;rename Nat=>gq;rename World=>wo;obtain ⟨k,R,St,G,Ov,V,rfl,hk1,hkn,hq,HR⟩:=hrel;have HMQ:=af hq;clear hq;obtain ⟨k0,_,_,_⟩:=(uh HR).1.cells;by_cases hlt:k<n
  ·obtain ⟨m,rfl⟩:∃ m,k=m+1:=⟨k - 1,by omega⟩;have hpo:=(uh HR).2.1.red.Cw (uh HQ);have HME:=af (Ho P w.heap.size ((n+1)*L0+1) n b gs gp go cs cp co R St G Ov V wo (λb' hb'=>hP b' (by have:=(uh HR).2.2.2.size;omega)) (uh HR).1 hn0 K8 hpo (uh HR).2.1.red.symm (uh HR).2.2.1 (λl i j hl' hi hj=>Ev hpo (uh VI _ _ (uh HR).2.1).1 hn hl' hi hj) (λl hl'=>FK hpo (uh VI _ _ (uh HR).2.1).1 hn hl') (by have:=uh VJ 0 (by omega);simp only [wH] at this;omega));clear hpo;go_wp2_with fail;refine (uh HME).mono ?_;rintro e w2 ⟨Ov1,V1,rfl,hM2,hB2,hov,PM⟩;have Fb:=af hM2;have HB2:=af ((uh HR).2.2.2.trans hB2);have XN:Hid (Ua n Q (m+1) (m+1) St G Ov1 V1 T D (wH n L0 0)):=⟨(uh HR).2.1.red,PM,hov,λl h1 h2=>by omega,λi hi _=>(uh HR).2.1.diag i hi,(uh HR).2.1.JS,(uh VI _ _ (uh HR).2.1).2,(uh VI _ _ (uh HR).2.1).1⟩;have YN:=af PM;clear hM2 hB2 hov PM HME k0;go_wp2_with fail;go_loopg [5] (m+1) (λq jv wr=>∃ (j:Nat) (Hq G' Bq:Nat->Nat->Int),jv=.int .i64 ((j:Int) - 1)∧j=q∧j<=m+1∧Hid (bf P w.heap.size wr n b gs gp go cs cp co R Hq G' Bq V1∧Ua n Q (m+1) j Hq G' Bq V1 T D (wH n L0 (m+1 - j))∧(∀ l,l<=n->Pl.gI n G' l=Pl.gI n G l)∧Below w.heap.size w wr))
   case atStart=>exact ⟨m+1,St,G,Ov1,by simp,rfl,d_ _,uh Fb,by rw [Nat.sub_self];exact uh XN,λ_ _=>rfl,uh HB2⟩
   case round =>
    clear Fb XN HB2;obtain ⟨j,Hq,G',Bq,rfl,hjq,hjm,HJ⟩:=hrel;subst hjq;have em:((m+1:Nat):Int)=(m:Int)+1:=by omega
    rcases (show j=0∨∃ i,j=i+1 from by rcases j with _|i;exact .inl rfl;exact .inr ⟨i,rfl⟩) with hj0|⟨i,hji⟩
    ·subst hj0;have iT:=af ((uh HJ).2.1.out (uh HQ) hlt (uh HDT).1 (uh HDT).2);have HVS:Hid (∀ l,l<=n->Pl.gI n G' l=Pl.gI n G l):=λl hl'=>((uh HJ).2.1.gI l hl').symm.trans (uh YN l hl');have TL:Hid (Pl.sm (n+1) (Pl.gI n G')=Pl.sm (n+1) (Pl.gI n G)):=Pl.aC λl hl'=>uh HVS l (by omega);have hpo:=(uh iT).red.Cw (uh HQ);have VK:Hid (V1 0=1):=by unfold Hid;rw [(uh HJ).2.1.gI 0 (by omega)];exact Pl.Ct n G'
     have HIO:=af (DU P w.heap.size ((n+1)*L0+1) n m b gs gp go cs cp co R Hq G' Bq V1 wr (λb' hb'=>hP b' (by have:=(uh HJ).2.2.2.size;omega)) (uh HJ).1 hlt K8 (by rw [(uh HJ).2.1.ov (m+1) m (by omega) hlt];exact Ev hpo (uh VI _ _ (uh iT)).1 hn (by omega) hlt (by omega)) (λl hl'=>by rw [(uh HJ).2.1.gI l hl'];exact FK hpo (uh VI _ _ (uh iT)).1 hn hl') (by have:=uh VJ 0 (by omega);simp only [wH] at this;omega));go_wp2_with fail;refine (uh HIO).mono ?_;rintro e w4 ⟨rfl,hw4⟩;have hBw:w.heap.size<=wr.heap.size:=(uh HJ).2.2.2.size;have K5:=af ((uh HJ).1.grow hw4);have jO:Hid (Below w.heap.size w w4):=(uh HJ).2.2.2.trans (aam hw4 hBw);by_cases JV:99*(V1 (m+1)*V1 (m+1))<=100*(V1 (m+2)*V1 m+Bq (m+1) m*Bq (m+1) m)
     ·rw [aaB JV];clear JV hw4 hpo HIO;go_wp2;go_roundg ((Pl.sm (n+1) (Pl.gI n G')).toNat*(n+1)+(n - (m+2)))
      case measure=>rw [<-uh HMQ,uh TL];omega
      case rel=>exact ⟨m+2,R,Hq,G',Bq,V1,by simp;omega,by omega,by omega,rfl,uh K5,uh iT,uh VK,uh jO⟩
     ·rw [Z_ JV];have hless:Pl.gI n (Pl.zw G' (m+1)) (m+1)<Pl.gI n G' (m+1):=by
       refine Pl.Hr hpo (uh iT).red.symm (((uh iT).red.ex (k:=m+1) (by omega) hlt).Cw (uh HQ)) (by omega) hlt ?_;have e1:m+1 - 1=m:=by omega
       rw [e1,<-(uh HJ).2.1.gI (m+1+1) (by omega),<-(uh HJ).2.1.gI m (by omega),<-(uh HJ).2.1.gI (m+1) (by omega),<-(uh HJ).2.1.ov (m+1) m (by omega) hlt];exact Int.not_le.1 JV
      have Oo:=af ((uh iT).ex (uh HQ) (k:=m+1) (by omega) hlt hless);have HXC:=af (FI P w.heap.size n m b gs gp go cs cp co R Hq G' Bq V1 w4 (uh K5) hlt K8);have hsp:0<=Pl.sm (n+1) (Pl.gI n (Pl.zw G' (m+1))):=Pl.vT λl hl'=>aaO (Pl.kI ((uh Oo).1.red.Cw (uh HQ)) (by omega));have HMS:Hid ((Pl.sm (n+1) (Pl.gI n (Pl.zw G' (m+1)))).toNat+1<=(Pl.sm (n+1) (Pl.gI n G)).toNat):=by have h1:=(uh Oo).2;rw [uh TL] at h1;unfold Hid;omega
      clear JV hw4 hpo HIO hless hsp;go_wp2_with fail;refine (uh HXC).mono ?_;rintro e w5 ⟨R5,rfl,hM5,hB5⟩;have G9:=af hM5;have jy:=af ((uh jO).trans hB5);clear hM5 hB5 HXC;rcases (show m=0∨∃ i,m=i+1 from by rcases m with _|i;exact .inl rfl;exact .inr ⟨i,rfl⟩) with hm0|⟨i,hmi⟩
      ·subst hm0;go_wp2;go_roundg ((Pl.sm (n+1) (Pl.gI n (Pl.zw G' (0+1)))).toNat*(n+1)+(n - 1))
       case measure=>rw [<-uh HMQ];exact Ap (uh HMS)
       case rel=>exact ⟨1,R5,_,_,Bq,V1,by simp,by omega,by omega,rfl,uh G9,(uh Oo).1,uh VK,uh jy⟩
      ·subst hmi;have c1:((i+1:Nat):Int)+1 - 1=(i:Int)+1:=by omega
       have c2:(i:Int)+1+1 - 1=(i:Int)+1:=by omega
       have c3:(1:Int)<(i:Int)+1+1:=by omega
       go_wp2;go_roundg ((Pl.sm (n+1) (Pl.gI n (Pl.zw G' (i+1+1)))).toNat*(n+1)+(n - (i+1)))
       case measure=>rw [<-uh HMQ];exact Ap (uh HMS)
       case rel=>exact ⟨i+1,R5,_,_,Bq,V1,by simp,by omega,by omega,rfl,uh G9,(uh Oo).1,uh VK,uh jy⟩
    ·subst hji;obtain ⟨t,ht⟩:∃ t,Int.fdiv (Bq (m+1) i+Bq (m+1) i+V1 (i+1)) (V1 (i+1)+V1 (i+1))=t:=⟨_,rfl⟩;have hpo:=(uh HJ).2.1.red.Cw (uh HQ);have hin:i<n:=by omega
     have e2:m+1 - i=(m+1 - (i+1))+1:=by omega
     have qV:Hid (Ua n Q (m+1) i (Pl.bE Hq (m+1) i t) (Pl.dK G' (m+1) i t) (xD Bq (m+1) i t (V1 (i+1))) V1 T D (wH n L0 (m+1 - i))):=by
      unfold Hid;rw [e2];exact (uh HJ).2.1.step (uh HQ) (by omega) hlt hn ht
     have hLm:wH n L0 (m+1 - (i+1))<=(n+1)*wH n L0 (m+1 - (i+1)):=by rw [aa_,abA];omega
     have lo:Pl.Lt ((n+1)*wH n L0 (m+1 - (i+1))+1) (Bq (m+1) i):=by rw [(uh HJ).2.1.ov (m+1) i (by omega) hlt];exact Ev hpo (uh HJ).2.1.lg hn (by omega) hlt hin
     have hvp:0<V1 (i+1):=by rw [(uh HJ).2.1.gI (i+1) (by omega)];exact Pl.kI hpo (by omega)
     have HSH:=af (G6 P w.heap.size ((n+1)*wH n L0 (m+1 - (i+1))+1) n (m+1) i b gs gp go cs cp co R Hq G' Bq V1 t wr (λb' hb'=>hP b' (by have:=(uh HJ).2.2.2.size;omega)) (uh HJ).1 (by omega) hlt K8 ht lo (by rw [(uh HJ).2.1.gI (i+1) (by omega)];exact FK hpo (uh HJ).2.1.lg hn (by omega)) (by rw [<-ht];exact Hl hvp lo) (λa c ha hc=>((uh HJ).2.1.Rn a c ha hc).mono (by omega)) (λa c ha hc=>((uh HJ).2.1.lg a c ha hc).mono (by omega)) (λa c hc ha=>by rw [(uh HJ).2.1.ov a c hc ha];exact Ev hpo (uh HJ).2.1.lg hn (by omega) ha (by omega)) (by have:=uh VJ (m+1 - (i+1)) (by omega);omega));rw [em] at HSH;clear ht hpo e2 hLm lo hvp;have c1:((i+1:Nat):Int) - 1=(i:Int):=by omega
     have c2:(i:Int)+1 - 1=(i:Int):=by omega
     have c3:(0:Int)<=(i:Int):=by omega
     go_wp2_with fail;refine (uh HSH).mono ?_;rintro e w3 ⟨rfl,wT,hB3⟩;have I5:=af wT;have HB3:=af ((uh HJ).2.2.2.trans hB3);clear wT hB3 HSH;go_wp2;go_roundg i
     case measure=>omega
     case rel=>exact ⟨i,_,_,_,by simp,rfl,by omega,uh I5,uh qV,λl hl'=>((uh qV).gI l hl').symm.trans (uh YN l hl'),uh HB3⟩
  ·have hkn':k=n:=by omega
   have HF:Hid (aM P wo (.slice (some ⟨gs,0,none⟩) n cs) (iR n St)∧Pl.Ei n St∧∀ a b,a<n->b<n->Pl.Lt L0 (St a b)):=⟨(uh HR).1.list hP,(uh HR).2.1.red.N9,(uh VI _ _ (uh HR).2.1).2⟩;go_wp2;go_ret;exact ⟨_,St,rfl,(uh HF).1,(uh HF).2.1,(uh HF).2.2,(uh HR).2.2.2⟩
end
theorem KV (n:Nat) (f:Nat->Nat->Int) (i j:Nat):((iR n f).getD i []).getD j 0=if i<n∧j<n then f i j else 0:=by
 by_cases hi:i<n
 ·rw [yx f hi];by_cases hj:j<n
  ·rw [h_ ⟨hi,hj⟩,Pl.bJ _ _ _ hj]
  ·rw [g_ (λh=>hj h.2),a_,O_ (by simp;omega)];rfl
 ·rw [g_ (λh=>hi h.1)];have:(iR n f).getD i []=[]:=by rw [a_,O_ (by rw [pY];omega)];rfl
  rw [this];rfl
theorem Mo {n:Nat} {f:Nat->Nat->Int} (h:∀ i j,f i j=f j i) (i j:Nat):((iR n f).getD i []).getD j 0=((iR n f).getD j []).getD i 0:=by
 rw [KV,KV];by_cases h1:i<n∧j<n
 ·rw [h_ h1,h_ ⟨h1.2,h1.1⟩,h i j]
 ·rw [g_ h1,g_ (λh2=>h1 ⟨h2.2,h2.1⟩)]
theorem Jw {n:Nat} {Q Q':Nat->Nat->Int} (h:Pl.gN n Q) (he:∀ i j,i<n->j<n->Q i j=Q' i j):Pl.gN n Q':=by
 intro v hv;have h1:=h v hv;have e:Pl.sm n (λi=>v i*Pl.sm n (λj=>Q' i j*v j))=Pl.sm n (λi=>v i*Pl.sm n (λj=>Q i j*v j)):=Pl.aC λi hi=>by
  congr 1;exact Pl.aC λj hj=>by rw [he i j hi hj]
 rwa [e]
theorem O6 {r:aP} (hz:r.zero=[]) (ht:r.dV.gJ) {wt:Nat->Int} (hw:∀ k,k<r.least.length->0<wt k):Pl.gN r.size (Pl.ig r.least.length r.S wt):=by
 refine Pl.Jy hw λv hv=>?_;refine ht v (λs hs=>?_) (λs hs=>?_)
 ·have:r.dV.zero=[]:=by show r.zero.map lf=[];rw [hz];rfl
  rw [this] at hs;cases hs
 ·obtain ⟨a,ha,rfl⟩:=m_.1 hs;obtain ⟨i,hi,e⟩:=aa5.1 ha;have e2:r.S i=lf a:=by
   funext k;unfold aP.S lf;rw [a_ (l:=r.least),f_ hi,e];rfl
  have:=hv i hi;rw [e2] at this;exact Int.le_of_eq this.symm
def lX:Nat->Int
 | 0=>0
 | k+1=>wO (lX k)
theorem qK:∀ t,lX (2*t)=-(t:Int)∧lX (2*t+1)=(t:Int)+1
 | 0=>by
  refine ⟨rfl,?_⟩;show wO 0=_;unfold wO;rw [g_ (by omega)];rfl
 | t+1=>by
  have h:=(qK t).2;have e1:lX (2*(t+1))=-((t+1:Nat):Int):=by
   show wO (lX (2*t+1))=_;rw [h];unfold wO;rw [h_ (by omega)];omega
  refine ⟨e1,?_⟩;show wO (lX (2*(t+1)))=_;rw [e1];unfold wO;rw [g_ (by omega)];omega
theorem RN {k:Nat} (hk:0<lX k) {d:Int} (h1:-lX k<d) (h2:d<lX k):∃ j,j<k∧lX j=d:=by
 rcases (show ∃ t,k=2*t∨k=2*t+1 from ⟨k/2,by omega⟩) with ⟨t,e|e⟩
 ·rw [e,(qK t).1] at hk;omega
 ·rw [e,(qK t).2] at h1 h2;by_cases hd:d<=0
  ·exact ⟨2*d.natAbs,by omega,by rw [(qK _).1];omega⟩
  ·exact ⟨2*(d.natAbs - 1)+1,by omega,by rw [(qK _).2];omega⟩
theorem Mq {low high:Int} {k:Nat} (h:high<Int.fdiv (low+high) 2+lX k) {x:Int} (hx1:low<=x) (hx2:x<=high):∃ j,j<k∧Int.fdiv (low+high) 2+lX j=x:=by
 have e:Int.fdiv (low+high) 2=(low+high)/2:=S_ _ (by decide);rw [e] at h ⊢;have hp:0<lX k:=by omega
 obtain ⟨j,hj,ej⟩:=RN hp (d:=x - (low+high)/2) (by omega) (by omega);exact ⟨j,hj,by omega⟩
end Go.Proofs.YtgaafamcajcifaaGreat
