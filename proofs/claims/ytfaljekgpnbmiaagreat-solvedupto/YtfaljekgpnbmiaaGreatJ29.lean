/- Joined: XLat15 XLat16. -/
import Derived.Test.YtfaljekgpnbmiaaGreatJ07
import Derived.Test.YtfaljekgpnbmiaaGreatJ28
set_option linter.unusedVariables false
set_option linter.unusedSimpArgs false
set_option maxRecDepth 100000
namespace Go.Proofs.YtfaljekgpnbmiaaGreat
open Go.RowKit Go.Sort
def mG (Pf:Nat->Nat->Int) (r j:Nat):Int:=if r=0 then (if j=0 then 1 else 0) else if (r - 1)%3=0 then Pl.unit ((r - 1)/3) j else if (r - 1)%3=1 then Pf ((r - 1)/3) j else 0
theorem Hl (Pf:Nat->Nat->Int) (i j:Nat):mG Pf (3*i+1) j=Pl.unit i j:=by
 unfold mG;rw [g_ (by omega),h_ (by omega),show (3*i+1 - 1)/3=i by omega]
theorem Hm (Pf:Nat->Nat->Int) (i j:Nat):mG Pf (3*i+2) j=Pf i j:=by
 unfold mG;rw [g_ (by omega),g_ (by omega),h_ (by omega),show (3*i+2 - 1)/3=i by omega]
theorem Qt (Pf:Nat->Nat->Int) (i j:Nat):mG Pf (3*i+3) j=0:=by
 unfold mG;rw [g_ (by omega),g_ (by omega),g_ (by omega)]
theorem Ho {P:Nat->Prop} (w:World) {n:Nat} (hn:n<=1000000):bA P (w.alloc (.cells (madeCells #[.int .i64 0,.slice none 0 0] (n*2)) 168)) w.heap.size n (λ_=>0):=by
 refine bA.made (B:=0) ⟨by simp [size_madeCells],.inr ⟨w.heap.size,n,_,rfl,abo _,aG _ _,d_ _,by unfold maxLen;omega,by rw [size_madeCells],?_⟩⟩;exact aaN (by rw [Array.length_toList,size_madeCells];omega)
section
attribute [local go_sem] bE
set_option maxHeartbeats 4000000 in
theorem NJ (P:Nat->Prop) (n:Nat) (ls:List (List Int)) (vp:Value) (w:World) (hP:∀ b,w.heap.size<=b->P b) (h:aM P w vp ls) (hl:ls.length=n) (hr:∀ l∈ls,l.length=n) (hn0:0<n) (hn:n<=100) :
  Calls Tryz.prog 345 #[vp] w λe w'=>∃ (b gs gp go cs cp co:Nat) (R:Nat->Nat) (Ov:Nat->Nat->Int) (V:Nat->Int),e=.returned (.pointer (some ⟨b,0,none⟩))∧bg P w.heap.size w' n b gs gp go cs cp co R Pl.unit (λi j=>(ls.getD i []).getD j 0) Ov V∧Below w.heap.size w w'∧V 0=1:=by
 obtain ⟨i0,hi0,hz0,hz1,hz2⟩:=V_ Tryz.dR;obtain ⟨i1,hi1,hy0,hy1,hy2⟩:=V_ Tryz.l9;obtain ⟨pa,pc,rfl⟩:∃ ad cap,vp=.slice ad ls.length cap:=by obtain ⟨ad,cap,e,_⟩:=h;exact ⟨ad,cap,e⟩
 obtain ⟨gq,oq,_,_,eq0,_⟩:=gT h (i:=0) (by omega);cases eq0;have HPR:=af h;have Zf:=af hl;have vQ:=af hr;rw [hl];clear h hl hr;go_enter Tryz.func345,Tryz.ntmps345;go_wp2_with (at_make;refine O_ _ rfl _ _ 159 rfl w.heap.size 168 i0 (.agg #[.int .i64 0,.slice none 0 0]) 2 Tryz.underlying159 hi0 hz0 hz1 .i64 .i64 _ _ (n+1) rfl rfl ?e1 ?e2 ?c1 ?c2 ?c3 ?_)
 case e1=>first | rfl | omega | simp
 case e2=>first | rfl | omega | simp
 case c1=>rw [hz2];omega
 case c2=>unfold maxLen;omega
 case c3=>first | omega | simp
 ·intro w1 hown hgrow;have hG1:ae w w1:=(n_ _ _).grown hgrow (d_ _) (by intro k hk;cases hk);have He:Hid (bA P w1 w.heap.size (n+1) (λ_=>0)):=bA.made hown;have Zg:=(uh He).lt;have HG2:Hid (ae w (w1.alloc (.cells #[.slice none 0 0,.slice none 0 0,.slice (some ⟨w.heap.size,0,none⟩) (n+1) (n+1),.slice none 0 0] 386))):=hG1.trans (ae.alloc _ _);have HB2:=af (aG w1 (.cells #[.slice none 0 0,.slice none 0 0,.slice (some ⟨w.heap.size,0,none⟩) (n+1) (n+1),.slice none 0 0] 386));have HR2:=af ((uh He).grow (ae.alloc w1 (.cells #[.slice none 0 0,.slice none 0 0,.slice (some ⟨w.heap.size,0,none⟩) (n+1) (n+1),.slice none 0 0] 386)));have hbw:w.heap.size<=w1.heap.size:=hG1.size;clear hown hgrow hG1 He;go_wp2_with fail;generalize hW2:w1.alloc (.cells #[.slice none 0 0,.slice none 0 0,.slice (some ⟨w.heap.size,0,none⟩) (n+1) (n+1),.slice none 0 0] 386)=W2 at *
  generalize w1.heap.size=b at *
  clear hW2;have k2:W2.cell? ⟨b,2,none⟩=some (.slice (some ⟨w.heap.size,0,none⟩) (n+1) (n+1)):=by rw [cellsOf (uh HB2)];rfl
  have hn1:(0:Int)<(n:Int)+1:=by omega
  have y0:=b_ k2;clear k2;refine ah (cK [(20,λv w=>aj P w v 1)]) (gL [(20,ag)]) 91 6 (by kernel_rfl) (by rfl) (by kernel_rfl) (aN (λ_ _ _=>aj.below) cO) ?_
  iterate 4 (refine aO λK hK=>?_;go_simp;refine hK _ ?_;clear hK K)
  refine ai ag 168 #[.int .i64 1] (by rfl) (by rfl) ag.some (λw=>by go_simp) (λwq hg hf=>(fP P 1 wq (λb' hb'=>hP b' (by have h1:=(uh HG2).size;have h2:=hg.size;omega)) (by decide) (by decide)).mono (by rintro e w' ⟨v',rfl,hv,hb⟩;exact ⟨_,rfl,hb,hv.aU,λt ht=>by cases ht;exact hv⟩)) ?_;rintro _ ⟨ox,oa,om,oc,rfl⟩
  (refine aO λK hK=>?_;go_simp;refine hK _ ?_;clear hK K)
  refine aF ?_;intro w3 hw3 aK;have hv3:aj P w3 (.agg #[.int .i64 ox,.slice oa om oc]) 1:=aK 4 _ 20 (by decide) rfl rfl;clear aK y0;have SS:=(uh HR2).grow hw3;obtain ⟨qx,qa,qm,qc,r0,r1,_,f0,f1⟩:=SS.get (i:=0) (by omega);rw [acL] at r0 r1 f0 f1;rw [M_] at r1 f1;have hset:=(SS.set (i:=0) (by omega) hv3);rw [acL,M_] at hset;have je:Hid (ae w ((w3.setCell ⟨w.heap.size,0,none⟩ (.int .i64 ox)).setCell ⟨w.heap.size,1,none⟩ (.slice oa om oc))):=(B_ (p:=⟨w.heap.size,0,none⟩) (ae.trans (uh HG2) hw3) (d_ _) _).setCell (p:=⟨w.heap.size,1,none⟩) (d_ _) _;have hbne:b≠w.heap.size:=by omega
  have LJ:Hid (Laid P w.heap.size ((w3.setCell ⟨w.heap.size,0,none⟩ (.int .i64 ox)).setCell ⟨w.heap.size,1,none⟩ (.slice oa om oc)) n 1 b (.slice none 0 0) (.slice none 0 0) (.slice none 0 0) 0 0 0 (λ_=>w.heap.size) (mG λi j=>(ls.getD i []).getD j 0)):=by
   refine ⟨(l_ _ _ _ _ hbne).trans ((l_ _ _ _ _ hbne).trans (Below.same hw3 _ _ (uh HB2))),⟨λr hr=>?_,λr s hr hs _=>by omega⟩,⟨rfl,.inl ⟨rfl,rfl⟩⟩,⟨rfl,.inl ⟨rfl,rfl⟩⟩,⟨rfl,.inl ⟨rfl,rfl⟩⟩,λg e=>by simp [Value.ownBlock] at e,λg e=>by simp [Value.ownBlock] at e,λg e=>by simp [Value.ownBlock] at e,⟨by omega,λr hr=>d_ _⟩,by omega,λa ha=>by omega,λa ha=>by omega,λa ha=>by omega⟩;have e:r=0:=by omega
   subst e;rw [h_ rfl];refine hset.congr λk _=>?_;unfold ql mG;rw [h_ rfl]
  clear hv3 hw3 SS hset;obtain ⟨W3,hW3⟩:∃ W,(w3.setCell ⟨w.heap.size,0,none⟩ (.int .i64 ox)).setCell ⟨w.heap.size,1,none⟩ (.slice oa om oc)=W:=⟨_,rfl⟩;rw [hW3] at je LJ;go_wp2_with fail
  try rw [hW3]
  clear hW3 r0 r1 f0 f1 HB2 HR2 HG2 Zg;go_loopg [5] n (λk iv wr=>∃ (i:Nat) (sa:Option Addr) (sn sc:Nat) (ta:Option Addr) (tn tc:Nat) (oa:Option Addr) (on oc:Nat) (R:Nat->Nat),iv=.int .i64 i∧i+k=n∧Hid (Laid P w.heap.size wr n (3*i+1) b (.slice sa sn sc) (.slice ta tn tc) (.slice oa on oc) i i i R (mG λi j=>(ls.getD i []).getD j 0)∧Below w.heap.size w wr))
  case atStart=>exact ⟨0,none,0,0,none,0,0,none,0,0,_,rfl,by omega,uh LJ,uh je⟩
  case round =>
   clear LJ je;rename Nat=>gi;rename World=>wi;obtain ⟨i,sa,sn,sc,ta,tn,tc,oa,on,oc,R,rfl,hik,HR⟩:=hrel;by_cases hin:i<n
   ·
    go_wp2_with (at_make;refine O_ _ rfl _ _ 159 rfl wi.heap.size 168 i0 (.agg #[.int .i64 0,.slice none 0 0]) 2 Tryz.underlying159 hi0 hz0 hz1 .i64 .i64 _ _ n rfl rfl ?e1 ?e2 ?c1 ?c2 ?c3 ?_)
    case e1=>first | rfl | omega | simp
    case e2=>first | rfl | omega | simp
    case c1=>rw [hz2];omega
    case c2=>unfold maxLen;omega
    case c3=>first | omega | simp
    ·intro w4 hown hgrow;have hG4:ae wi w4:=(n_ _ _).grown hgrow (d_ _) (by intro k hk;cases hk);have HR4:Hid (bA P w4 wi.heap.size n (λ_=>0)):=bA.made hown;have kE:=af hG4;have Zh:w.heap.size<=wi.heap.size:=(uh HR).2.size;clear hown hgrow hG4;go_wp2_with fail;refine (fP P 1 w4 (λb' hb'=>hP b' (by have:=(uh kE).size;omega)) (by decide) (by decide)).mono ?_;rintro e w5 ⟨v5,rfl,hv5,pO⟩;obtain ⟨ox,ob,om,od,rfl⟩:=hv5.shape;have hR5:=(uh HR4).grow pO;obtain ⟨qx,qa,qm,qc,r0,r1,_,f0,f1⟩:=hR5.get hin;obtain ⟨W5,Bj⟩:∃ W,(w5.setCell ⟨wi.heap.size,i*2,none⟩ (.int .i64 ox)).setCell ⟨wi.heap.size,i*2+1,none⟩ (.slice ob om od)=W:=⟨_,rfl⟩;have Bn:Hid (bA P W5 wi.heap.size n (Pl.unit i)):=by
      unfold Hid;rw [<-Bj];exact (hR5.set hin hv5).congr (λk _=>by
       unfold ql Pl.unit;by_cases h:k=i
       ·rw [h_ h,h_ h.symm]
       ·rw [g_ h,g_ (λe=>h e.symm)])
     have gG:Hid (ae wi W5):=by
      unfold Hid;rw [<-Bj];exact (B_ (p:=⟨wi.heap.size,i*2,none⟩) (ae.trans (uh kE) pO) (d_ _) _).setCell (p:=⟨wi.heap.size,i*2+1,none⟩) (d_ _) _
     clear hv5 pO hR5 HR4 kE;go_wp2_with (at_make;refine O_ _ rfl _ _ 159 rfl W5.heap.size 168 i0 (.agg #[.int .i64 0,.slice none 0 0]) 2 Tryz.underlying159 hi0 hz0 hz1 .i64 .i64 _ _ n rfl rfl ?e1 ?e2 ?c1 ?c2 ?c3 ?_)
     case e1=>first | rfl | omega | simp
     case e2=>first | rfl | omega | simp
     case c1=>rw [hz2];omega
     case c2=>unfold maxLen;omega
     case c3=>first | omega | simp
     ·intro w6 hown hgrow;have hG6:ae W5 w6:=(n_ _ _).grown hgrow (d_ _) (by intro k hk;cases hk);have HR6:Hid (bA P w6 W5.heap.size n (λ_=>0)):=bA.made hown;have lV:=af hG6;clear hown hgrow hG6 Bj r0 r1 f0 f1;go_wp2_with fail;go_loopg [8] n (λk jv wr=>∃ (j:Nat),jv=.int .i64 j∧j+k=n∧Hid (bA P wr W5.heap.size n (λk=>if k<j then (ls.getD i []).getD k 0 else 0)∧ae W5 wr))
      case atStart=>exact ⟨0,rfl,by omega,(uh HR6).congr (λk _=>by rw [g_ (by omega)]),uh lV⟩
      case round =>
       clear HR6 lV;obtain ⟨j,rfl,hjk,HJ⟩:=hrel;have DZ:Hid (Below w.heap.size w wr):=(uh HR).2.trans (aaw ((uh gG).trans (uh HJ).2) Zh);obtain ⟨gu,ou,_,uu,eu,u0,hu,hmem⟩:=gT ((uh HPR).below (uh DZ)) (i:=i) (by rw [uh Zf];exact hin);rw [uh Zf] at eu;cases eu;have YL:=uh vQ _ hmem;obtain ⟨ua,uc,rfl⟩:∃ ad cap,uu=.slice ad n cap:=by obtain ⟨ad,cap,e,_⟩:=hu;rw [YL] at e;exact ⟨ad,cap,e⟩
       have HU:=af hu;have Jb:=af YL;clear hu hmem YL;by_cases hjn:j<n
       ·obtain ⟨gx,ox',cx,xx,xa,xm,xc,ex,x0,x1,hx⟩:=eY (uh HU) (i:=j) (by rw [uh Jb];exact hjn);rw [uh Jb] at ex;cases ex;obtain ⟨qx,qa,qm,qc,r0,r1,_,f0,f1⟩:=(uh HJ).1.get hjn;have HS:Hid (bA P ((wr.setCell ⟨W5.heap.size,j*2,none⟩ (.int .i64 xx)).setCell ⟨W5.heap.size,j*2+1,none⟩ (.slice xa xm xc)) W5.heap.size n (λk=>if k<j+1 then (ls.getD i []).getD k 0 else 0)):=((uh HJ).1.set hjn hx).congr (λk _=>by
         unfold ql
         try dsimp only
         by_cases h:k=j
         ·rw [h_ h,h_ (by omega),h]
         ·rw [g_ h];by_cases h2:k<j
          ·rw [h_ h2,h_ (by omega)]
          ·rw [g_ h2,g_ (by omega)])
        have Zi:Hid (ae W5 ((wr.setCell ⟨W5.heap.size,j*2,none⟩ (.int .i64 xx)).setCell ⟨W5.heap.size,j*2+1,none⟩ (.slice xa xm xc))):=(B_ (p:=⟨W5.heap.size,j*2,none⟩) (uh HJ).2 (d_ _) _).setCell (p:=⟨W5.heap.size,j*2+1,none⟩) (d_ _) _;clear hx;go_wp2;go_roundg (gk - 1)
        case measure=>omega
        case rel=>exact ⟨j+1,by simp,by omega,uh HS,uh Zi⟩
       ·have Zj:j=n:=by omega
        have hGi:ae wi wr:=(uh gG).trans (uh HJ).2;have Vx:=af (uh DZ);have hlt1:wi.heap.size<W5.heap.size:=(uh Bn).lt;have hRl:∀ r,r<3*i+1->R r<wi.heap.size:=λr hr=>((uh HR).1.oO.rows r hr).lt;obtain ⟨R1,hL1,e1,eR1⟩:=((uh HR).1.grow hGi).row ((uh Bn).grow (uh HJ).2) (λr hr=>by have:=hRl r hr;omega) (λk _=>Hl _ i k) Zh;obtain ⟨R2,hL2,e2,eR2⟩:=hL1.row (g:=W5.heap.size) (fr:=λk=>(ls.getD i []).getD k 0) ((uh HJ).1.congr (λk hk=>by rw [h_ (by omega)])) (λr hr=>by
         rcases (show r<3*i+1∨r=3*i+1 by omega) with h|h
         ·rw [eR1 r h];have:=hRl r h;omega
         ·rw [h,e1];omega) (λk _=>Hm _ i k) (by omega)
        have e12:R2 (3*i+1)=wi.heap.size:=by rw [eR2 _ (by omega)];exact e1
        have e22:R2 (3*i+2)=W5.heap.size:=e2;have HE:=af (x_ e12 e22);have Ti:Hid (∀ r,r<3*i+3->R2 r<wr.heap.size):=λr hr=>(hL2.oO.rows r hr).lt;have oL:=af (hL2.grow (ae.alloc wr (.cells #[.slice (some ⟨wi.heap.size,0,none⟩) n n] 159)));have k0:wr.cell? ⟨b,0,none⟩=some (.slice sa sn sc):=by rw [cellsOf hL2.own];rfl
        have HWA:Hid (w.heap.size<=(wr.alloc (.cells #[.slice (some ⟨wi.heap.size,0,none⟩) n n] 159)).heap.size):=w_ (uh Vx).size (ae.alloc _ _).size;have A7:Hid (Below w.heap.size w (wr.alloc (.cells #[.slice (some ⟨wi.heap.size,0,none⟩) n n] 159))):=(uh Vx).trans (aaw (ae.alloc _ _) (uh Vx).size);have HR:=af (uh HR);clear hL1 hL2 e1 e2 eR1 eR2 e12 e22 hRl hGi HJ DZ HU Jb;go_wp2_with (at_builtin;refine aau _ rfl _ _ 162 rfl w.heap.size 159 i1 (.slice none 0 0) 1 24 Tryz.underlying162 hi1 hy0 hy1 hy2 rfl (by decide) _ i ((List.range i).map λa=>Value.slice (some ⟨R2 (3*a+1),0,none⟩) n n) rfl (uh oL).s ⟨_,0,none⟩ 1 1 [.slice (some ⟨wi.heap.size,0,none⟩) n n] rfl rfl ?d1 (by simp [Value.oneCell']) (by decide) ?d2 ?d3 ?d4 _ rfl ?_)
        case d1=>exact λj u hu=>aav (aay _ _) j u hu
        case d2=>unfold maxLen;omega
        case d3=>omega
        case d4=>exact uh HWA
        ·intro g8 Hq w8 hown hgrow hat adA;have hA:=(uh oL).adv (by omega) hgrow (by rw [H_];exact hat) (by rw [(uh HE).1];exact hown);have XZ:=hA.2.2.trans (uh oL).own;have z0:w8.cell? ⟨b,0,none⟩=some (.slice sa sn sc):=by rw [cellsOf XZ];rfl
         have z1:w8.frozen? ⟨b,0,none⟩=false:=aH XZ 0;obtain ⟨W8,GR⟩:∃ W,w8.setCell ⟨b,0,none⟩ (.slice (some ⟨g8,0,none⟩) (i+1) Hq)=W:=⟨_,rfl⟩;rw [GR] at hA;have X7:=af (hA.1.grow (ae.alloc W8 (.cells #[.slice (some ⟨W5.heap.size,0,none⟩) n n] 159)));have Nr:=af ((uh A7).trans hA.2.1);have Zk:w.heap.size<=W8.heap.size:=(uh Nr).size;have k1:W8.cell? ⟨b,1,none⟩=some (.slice ta tn tc):=by rw [cellsOf hA.1.own];rfl
         have HWB:Hid (w.heap.size<=(W8.alloc (.cells #[.slice (some ⟨W5.heap.size,0,none⟩) n n] 159)).heap.size):=w_ Zk (ae.alloc _ _).size;have HGB:Hid (Below w.heap.size w (W8.alloc (.cells #[.slice (some ⟨W5.heap.size,0,none⟩) n n] 159))):=(uh Nr).trans (aaw (ae.alloc _ _) Zk);clear hown hgrow hat adA hA XZ k0;go_wp2_with (at_builtin;refine aau _ rfl _ _ 162 rfl w.heap.size 159 i1 (.slice none 0 0) 1 24 Tryz.underlying162 hi1 hy0 hy1 hy2 rfl (by decide) _ i ((List.range i).map λa=>Value.slice (some ⟨R2 (3*a+2),0,none⟩) n n) rfl (uh X7).p ⟨_,0,none⟩ 1 1 [.slice (some ⟨W5.heap.size,0,none⟩) n n] rfl rfl ?d1 (by simp [Value.oneCell']) (by decide) ?d2 ?d3 ?d4 _ rfl ?_)
         case d1=>exact λj u hu=>aav (aay _ _) j u hu
         case d2=>unfold maxLen;omega
         case d3=>omega
         case d4=>exact uh HWB
         ·intro g9 Tj w9 hown hgrow hat adB;have hA:=(uh X7).adw (by omega) hgrow (by rw [H_];exact hat) (by rw [(uh HE).2];exact hown);have Jc:=hA.2.2.trans (uh X7).own;have z2:w9.cell? ⟨b,1,none⟩=some (.slice ta tn tc):=by rw [cellsOf Jc];rfl
          have z3:w9.frozen? ⟨b,1,none⟩=false:=aH Jc 1;obtain ⟨W9,YN⟩:∃ W,w9.setCell ⟨b,1,none⟩ (.slice (some ⟨g9,0,none⟩) (i+1) Tj)=W:=⟨_,rfl⟩;rw [YN] at hA;have X8:=af ((uh HGB).trans hA.2.1);have Zl:w.heap.size<=W9.heap.size:=(uh X8).size;have k3:W9.cell? ⟨b,3,none⟩=some (.slice oa on oc):=by rw [cellsOf hA.1.own];rfl
          have Zm:∀ r,r<3*i+1+1+1->R2 r<W9.heap.size:=λr hr=>(hA.1.oO.rows r hr).lt;have hgm:ae W9 (W9.alloc (.cells (madeCells #[.int .i64 0,.slice none 0 0] (n*2)) 168)):=ae.alloc _ _;obtain ⟨R3,hL3,e3,eR3⟩:=(hA.1.grow hgm).row (g:=W9.heap.size) (fr:=λ_=>0) (Ho W9 (by omega)) (λr hr=>by have:=Zm r hr;omega) (λk _=>Qt _ i k) Zl;have HE3:Hid (R3 (3*i+3)=W9.heap.size):=e3;have Qu:Hid (Laid P w.heap.size (((W9.alloc (.cells (madeCells #[.int .i64 0,.slice none 0 0] (n*2)) 168)).alloc (.cells #[.slice (some ⟨W9.heap.size,0,none⟩) n n] 159)).drew) n (3*i+1+1+1+1) b (.slice (some ⟨g8,0,none⟩) (i+1) Hq) (.slice (some ⟨g9,0,none⟩) (i+1) Tj) (.slice oa on oc) (i+1) (i+1) i R3 (mG λi j=>(ls.getD i []).getD j 0)):=hL3.grow (aaQ (ae.alloc _ _));have HGX:Hid (Below w.heap.size w (((W9.alloc (.cells (madeCells #[.int .i64 0,.slice none 0 0] (n*2)) 168)).alloc (.cells #[.slice (some ⟨W9.heap.size,0,none⟩) n n] 159)).drew)):=(uh X8).trans (aaw (hgm.trans (aaQ (ae.alloc _ _))) Zl);have HWX:Hid (w.heap.size<=(((W9.alloc (.cells (madeCells #[.int .i64 0,.slice none 0 0] (n*2)) 168)).alloc (.cells #[.slice (some ⟨W9.heap.size,0,none⟩) n n] 159)).drew).heap.size):=(uh HGX).size;have hmk:∀ w',(Instr.makeSlice 159 (.int .i64 n) (.int .i64 n)).run Tryz.prog w'=.ok (.slice (some ⟨w'.heap.size,0,none⟩) n n) (w'.alloc (.cells (madeCells #[.int .i64 0,.slice none 0 0] (n*2)) 168)):=λw'=>by
           have h1:=run_make (P:=Tryz.prog) w' 159 168 i0 (.agg #[.int .i64 0,.slice none 0 0]) Tryz.underlying159 hi0 hz0 .i64 .i64 n n (by omega) (by omega) (by rw [hz2];omega) (by omega);rw [hz1,show ((n:Nat):Int).toNat=n by omega] at h1;exact h1
          have HNB:Hid ((((W9.alloc (.cells (madeCells #[.int .i64 0,.slice none 0 0] (n*2)) 168)).alloc (.cells #[.slice (some ⟨W9.heap.size,0,none⟩) n n] 159)).drew).heap[W9.heap.size+1]?=some (.cells #[.slice (some ⟨W9.heap.size,0,none⟩) n n] 159 (0,0))):=by
           have h1:=aG (W9.alloc (.cells (madeCells #[.int .i64 0,.slice none 0 0] (n*2)) 168)) (.cells #[.slice (some ⟨W9.heap.size,0,none⟩) n n] 159);rw [H_] at h1;exact h1
          have k4:=hgm.cell k3;have k5:=(hgm.trans (ae.alloc _ (.cells #[.slice (some ⟨W9.heap.size,0,none⟩) n n] 159))).cell k3;clear hown hgrow hat adB hA Jc hL3 e3 eR3 Zm hgm;go_wp2_with fail
          try rw [YN]
          clear GR YN z0 z1 z2 z3 k1
          go_region_law ((refine step_append_lies _ (by rfl) _ _ 162 (by rfl) w.heap.size 159 i1 (.slice none 0 0) 1 24 Tryz.underlying162 hi1 hy0 hy1 hy2 rfl (by decide) _ i ((List.range i).map λa=>Value.slice (some ⟨R3 (3*a+3),0,none⟩) n n) (by rfl) (uh Qu).o ⟨W9.heap.size+1,0,none⟩ 1 1 [.slice (some ⟨W9.heap.size,0,none⟩) n n] (by rfl) rfl (λj u hu=>aav (uh HNB) j u hu) (by simp [Value.oneCell']) (by decide) (by unfold maxLen;omega) (by omega) (uh HWX) _ rfl ?_;intro g10 aha zw hown hgrow hat Zn;have Zo:=((uh Qu).Zd (by omega) hgrow (by simpa using hat) (by rw [uh HE3];exact hown)).2.2.trans (uh Qu).own;have z4:zw.cell? ⟨b,3,none⟩=some (.slice oa on oc):=(by rw [cellsOf Zo];rfl);have z5:zw.frozen? ⟨b,3,none⟩=false:=aH Zo 3))
          all_goals
           have HA:=af ((uh Qu).Zd (by omega) hgrow (by simpa using hat) (by rw [uh HE3];exact hown));clear hown hgrow hat Zn;go_wp2;go_roundg (gi - 1)
           case measure=>omega
           case rel=>exact ⟨i+1,_,_,_,_,_,_,_,_,_,R3,by simp,by omega,(uh HA).1,(uh HGX).trans (uh HA).2.1⟩
   ·have hin':i=n:=by omega
    have HD:Hid (∃ gs gp go cs cp co,bg P w.heap.size wi n b gs gp go cs cp co (A9 n R) (λa=>mG (λi j=>(ls.getD i []).getD j 0) (3*a+1)) (λa=>mG (λi j=>(ls.getD i []).getD j 0) (3*a+2)) (λa=>mG (λi j=>(ls.getD i []).getD j 0) (3*a+3)) (mG (λi j=>(ls.getD i []).getD j 0) 0)):=by
     have h1:=(uh HR).1;rw [hin'] at h1;exact h1.done hn0
    go_wp2;go_ret;obtain ⟨gs,gp,go,cs,cp,co,hD⟩:=uh HD;exact ⟨b,gs,gp,go,cs,cp,co,_,_,_,rfl,hD.congr (λa k _ _=>Hl _ a k) (λa k _ _=>Hm _ a k) (λ_ _ _ _=>rfl) (λ_ _=>rfl),(uh HR).2,rfl⟩
end
theorem Kn {G:Nat->Nat->Int} (h:∀ i j,G i j=G j i) {k j:Nat} (t:Int) (a b:Nat):Pl.dL G k j t a b=Pl.dL G k j t b a:=by
 by_cases ha:a=k <;> by_cases hb:b=k
 ·rw [ha,hb]
 ·rw [ha,Pl.fC G t hb,Pl.iB G t hb,h k b,h j b]
 ·rw [hb,Pl.fC G t ha,Pl.iB G t ha,h k a,h j a]
 ·rw [Pl.eD G t ha hb,Pl.eD G t hb ha,h a b]
structure O9 (n:Nat) (Q St G:Nat->Nat->Int):Prop where
 OX:Pl.Em n St
 Tk:Pl.xI n Q St G
 symm:∀ i j,G i j=G j i
section
variable {n:Nat} {Q St G Ov:Nat->Nat->Int} {V:Nat->Int} {k j:Nat} {T D t:Int} {L:Nat}
theorem O9.Cy (h:O9 n Q St G) (hQ:Pl.gQ n Q):Pl.gQ n G:=Pl.NK hQ h.OX h.Tk
theorem O9.start (hS:∀ i j,Q i j=Q j i):O9 n Q Pl.unit Q:=⟨Pl.Hr n,Pl.Ew n Q,hS⟩
theorem O9.short (h:O9 n Q St G) (hk:k<n) (hj:j<n) (hjk:j≠k) (t:Int):O9 n Q (Pl.bF St k j t) (Pl.dL G k j t):=⟨Pl.Ex h.OX hk hj hjk t,Pl.Ko h.Tk hk hj t,Kn h.symm t⟩
theorem O9.ex (h:O9 n Q St G) (hk0:0<k) (hk:k<n):O9 n Q (λa=>St (Pl.sw k a)) (Pl.zz G k):=⟨Pl.Ww h.OX hk0 hk,Pl.Tm h.Tk hk,λi j=>h.symm _ _⟩
theorem Er {K:Nat} {a B:Int} (h1:-B<=a) (h2:a<=B) (hB:B<1073741824^K):Pl.Lt K a:=by
 unfold Pl.Lt;omega
theorem Cr {K:Nat} {a:Int} (h:Pl.Lt K a):-(1073741824^K:Int)<=a∧a<=1073741824^K:=by
 unfold Pl.Lt at h;omega
theorem jX (K:Nat):(1:Int)<=1073741824^K:=by
 have h1:0<1073741824^K:=abx (by decide);have h2:((1073741824^K:Nat):Int)=(1073741824:Int)^K:=by rw [Int.natCast_pow];rfl
 omega
theorem Wx {n:Nat} (hn:n<=9):(Pl.Lu (n+1):Int)<=1073741823:=by
 rcases (show n=0∨n=1∨n=2∨n=3∨n=4∨n=5∨n=6∨n=7∨n=8∨n=9 by omega) with h|h|h|h|h|h|h|h|h|h <;> subst h <;> decide
theorem xw {n L:Nat} (hn:n<=9):Pl.Lu (n+1)*((1073741824:Int)^L)^(n+1)<1073741824^((n+1)*L+1):=by
 rw [<-Int.pow_mul,acn L,aaJ];have h1:=jX ((n+1)*L);have h2:=Wx hn;rw [u_];exact Int.mul_lt_mul_of_pos_left (by omega) (by omega)
theorem Cz (hP:Pl.gQ n G) (hG:∀ a b,a<n->b<n->Pl.Lt L (G a b)) {l:Nat} (hl:l<=n):Pl.Small (Pl.mV G) n (Pl.dE n G l) (1073741824^L):=by
 have key:∀ x:Int,((∃ i:Nat,i<n∧x=i)∨∃ i:Nat,i<n∧x=-1 - (i:Int))->∀ k,k<n+1->-(1073741824^L:Int)<=Pl.mV G x k∧Pl.mV G x k<=1073741824^L:=by
  intro x hx k hk;have h1:=jX L;rcases hx with ⟨i,hi,rfl⟩|⟨i,hi,rfl⟩
  ·unfold Pl.mV;rw [h_ (by omega)]
   split
   ·omega
   ·exact Cr (hG _ _ (by omega) (by omega))
  ·rw [Pl.rW];unfold Pl.unit
   split <;> omega
 have hlen:=(Pl.jE n G l).1;refine ⟨jX L,λc hc k hk=>key _ ?_ k hk,λr hr k hk=>key _ ?_ k hk⟩
 ·rw [(Pl.fB n G l hl c hc).2]
  split
  ·exact .inl ⟨c,hc,rfl⟩
  ·exact .inr ⟨c,hc,rfl⟩
 ·have hr':r<n:=by omega
  rw [(Pl.fB n G l hl r hr').1]
  split
  ·exact .inr ⟨r,hr',rfl⟩
  ·exact .inl ⟨r,hr',rfl⟩
theorem Ey (hP:Pl.gQ n G) (hG:∀ a b,a<n->b<n->Pl.Lt L (G a b)) (hn:n<=9) {l i j:Nat} (hl:l<=n) (hi:i<n) (hj:j<n):Pl.Lt ((n+1)*L+1) (Pl.gm n G l i j):=by
 have hlen:=(Pl.jE n G l).1;obtain ⟨h1,h2⟩:=(Pl.qO hP l hl).1.LC (Cz hP hG hl) (r:=i) (by omega) (j:=j+1) (by omega);exact Er h1 h2 (xw hn)
theorem FP (hP:Pl.gQ n G) (hG:∀ a b,a<n->b<n->Pl.Lt L (G a b)) (hn:n<=9) {l:Nat} (hl:l<=n):Pl.Lt ((n+1)*L+1) (Pl.gK n G l):=by
 have h1:=(Pl.qO hP l hl).1.GX (Cz hP hG hl);have h2:=Pl.kK hP hl;have h3:=xw (n:=n) (L:=L) hn;unfold Pl.gK at *
 exact Er (by omega) (abk _) (by omega)
theorem Ht {o v:Int} (hv:0<v) (ho:Pl.Lt L o):Pl.Lt (L+1) (Int.fdiv (o+o+v) (v+v)):=by
 have h1:=Pl.Ez (lam:=o) hv;generalize Int.fdiv (o+o+v) (v+v)=t at *
 have hm:-(o.natAbs+1:Int)<=t∧t<=o.natAbs+1:=by
  constructor
  ·apply v_;intro hc;have:v*t<=v*(-(o.natAbs:Int) - 2):=o_ (by omega) (by omega);have e:v*(-(o.natAbs:Int) - 2)=-(v*o.natAbs) - v*2:=by rw [aaZ,ab5]
   have h4:1*(o.natAbs:Int)<=v*o.natAbs:=A_ (by omega) (by omega);rw [u_ t v] at h1;omega
  ·apply v_;intro hc;have:v*((o.natAbs:Int)+2)<=v*t:=o_ (by omega) (by omega);have e:v*((o.natAbs:Int)+2)=v*o.natAbs+v*2:=by rw [R_]
   have h4:1*(o.natAbs:Int)<=v*o.natAbs:=A_ (by omega) (by omega);rw [u_ t v] at h1;omega
 unfold Pl.Lt at *
 rw [aaJ];have:=jX L;omega
structure UN (n:Nat) (Q:Nat->Nat->Int) (k j:Nat) (St G Ov:Nat->Nat->Int) (V:Nat->Int) (T D:Int) (L:Nat):Prop where
 red:O9 n Q St G
 gK:∀ l,l<=n->V l=Pl.gK n G l
 ov:∀ i l,l<i->i<n->Ov i l=Pl.gm n G l i l
 done:∀ l,j<=l->l<k->-Pl.gK n G (l+1)<=2*Pl.gm n G l k l∧2*Pl.gm n G l k l<=Pl.gK n G (l+1)
 diag:∀ i,i<n->i≠k->G i i<=T
 Kq:∀ l,l<=n->Pl.gK n G l<=D
 Sd:∀ a b,a<n->b<n->Pl.Lt L (St a b)
 lg:∀ a b,a<n->b<n->Pl.Lt L (G a b)
theorem UN.step (hQ:Pl.gQ n Q) (h:UN n Q k (j+1) St G Ov V T D L) (hjk:j<k) (hk:k<n) (hn:n<=9) (ht:Int.fdiv (Ov k j+Ov k j+V (j+1)) (V (j+1)+V (j+1))=t):UN n Q k j (Pl.bF St k j t) (Pl.dL G k j t) (xG Ov k j t (V (j+1))) V T D ((3*n+3)*L+9):=by
 have hP:=h.red.Cy hQ;have hj:j<n:=by omega
 have hr:=h.red.short hk hj (by omega) t;have hP':=hr.Cy hQ;have gs:=Pl.Hu hP hP' hjk hk;have hv:V (j+1)=Pl.gK n G (j+1):=h.gK _ (by omega);have hvp:=Pl.kK hP (show j+1<=n by omega);have Y9:Pl.Lt ((n+1)*L+1) (Ov k j):=by rw [h.ov k j hjk hk];exact Ey hP h.lg hn (by omega) hk hj
 have lt:Pl.Lt ((n+1)*L+2) t:=by rw [<-ht,hv];exact Ht hvp Y9
 have Fj:L<=(n+1)*L:=by rw [abC,ab4];omega
 have e33:(3*n+3)*L=3*((n+1)*L):=by rw [<-Nat.mul_assoc];congr 1
 have Km:∀ a b,a<n->b<n->Pl.Lt ((n+1)*L+2+L+1) (Pl.bF G k j t a b):=λa b ha hb=>by
  unfold Pl.bF
  split
  ·exact ((h.lg k b hk hb).mono (by omega)).sub (lt.mul (h.lg j b hj hb))
  ·exact (h.lg a b ha hb).mono (by omega)
 refine ⟨hr,λl hl=>?_,λi l hl hi=>?_,λl h1 h2=>?_,λi hi hik=>?_,λl hl=>?_,λa b ha hb=>?_,λa b ha hb=>?_⟩
 ·rw [(gs l hl).2.2];exact h.gK l hl
 ·unfold xG lM gN;by_cases hik:i=k
  ·subst hik;rcases (show l<j∨l=j∨j<l by omega) with h1|h1|h1
   ·rw [g_ (by omega),h_ ⟨rfl,h1⟩,(gs l (by omega)).1 (by omega) i l (by omega) (d_ _) hi (by omega),Pl.fC _ t (by omega),h.ov i l hl hi,h.ov j l h1 hj]
   ·subst h1;rw [h_ ⟨rfl,rfl⟩,(gs l (by omega)).1 (d_ _) i l (by omega) (d_ _) hi (by omega),Pl.fC _ t (by omega),h.ov i l hl hi,hv,Pl.fw hP hj]
   ·rw [g_ (by omega),g_ (by omega),(gs l (by omega)).2.1 h1 i l (by omega) (d_ _) hi (by omega),h.ov i l hl hi]
  ·rw [g_ (by omega),g_ (by omega),h.ov i l hl hi];by_cases h1:l<=j
   ·rw [(gs l (by omega)).1 h1 i l (by omega) (d_ _) hi (by omega),Pl.eD _ t hik (by omega)]
   ·rw [(gs l (by omega)).2.1 (by omega) i l (by omega) (d_ _) hi (by omega)]
 ·rw [(gs (l+1) (by omega)).2.2];rcases (show l=j∨j<l by omega) with h3|h3
  ·subst h3;rw [(gs l (by omega)).1 (d_ _) k l (by omega) (d_ _) hk (by omega),Pl.fC _ t (by omega),<-Pl.fw hP hj,<-ht,h.ov k l hjk hk,hv];exact Pl.Ez hvp
  ·rw [(gs l (by omega)).2.1 h3 k l (by omega) (d_ _) hk (by omega)];exact h.done l (by omega) h2
 ·rw [Pl.eD G t hik hik];exact h.diag i hi hik
 ·rw [(gs l hl).2.2];exact h.Kq l hl
 ·unfold Pl.bF
  split
  ·exact (((h.Sd k b hk hb).mono (show L<=(n+1)*L+2+L by omega)).sub (lt.mul (h.Sd j b hj hb))).mono (by omega)
  ·exact (h.Sd a b ha hb).mono (by omega)
 ·unfold Pl.dL;show Pl.Lt _ (if b=k then Pl.bF G k j t a k - t*Pl.bF G k j t a j else Pl.bF G k j t a b)
  split
  ·exact (((Km a k ha hk).mono (show _<=(n+1)*L+2+((n+1)*L+2+L+1) by omega)).sub (lt.mul (Km a j ha hj))).mono (by omega)
  ·exact (Km a b ha hb).mono (by omega)
structure Out (n:Nat) (Q St G:Nat->Nat->Int) (T D:Int):Prop where
 red:O9 n Q St G
 Kq:∀ l,l<=n->Pl.gK n G l<=D
 diag:∀ i,i<n->G i i<=T
theorem UN.out (hQ:Pl.gQ n Q) (h:UN n Q k 0 St G Ov V T D L) (hk:k<n) (hT:((n+4:Nat):Int)*D<=4*T) (hD:0<=D):Out n Q St G T D:=by
 refine ⟨h.red,h.Kq,λi hi=>?_⟩;by_cases e:i=k
 ·subst e;have h1:=Pl.Kr (h.red.Cy hQ) h.red.symm h.Kq hi (λl hl=>h.done l (abo _) hl);have h2:((i+4:Nat):Int)*D<=((n+4:Nat):Int)*D:=A_ (by omega) hD;omega
 ·exact h.diag i hi e
theorem Out.ex (hQ:Pl.gQ n Q) (h:Out n Q St G T D) (hk0:0<k) (hk:k<n) (hless:Pl.gK n (Pl.zz G k) k<Pl.gK n G k):Out n Q (λa=>St (Pl.sw k a)) (Pl.zz G k) T D∧Pl.sm (n+1) (Pl.gK n (Pl.zz G k))<Pl.sm (n+1) (Pl.gK n G):=by
 have hr:=h.red.ex hk0 hk;have hP:=h.red.Cy hQ;have hP':=hr.Cy hQ;have key:∀ l,l<=n->l≠k->Pl.gK n (Pl.zz G k) l=Pl.gK n G l:=λl hl hlk=>by
  rcases (show l<=k - 1∨k+1<=l by omega) with h1|h1
  ·exact (Pl.rX hP hP' hk0 hk l h1).2
  ·have:=(Pl.CB hP hP' hk0 hk (l - (k+1)) (by omega)).2;rwa [show k+1+(l - (k+1))=l by omega] at this
 refine ⟨⟨hr,λl hl=>?_,λi hi=>h.diag _ (Pl.Aq hk hi)⟩,?_⟩
 ·by_cases e:l=k
  ·rw [e];have:=h.Kq k (by omega);omega
  ·rw [key l hl e];exact h.Kq l hl
 ·rw [Pl.fO k (show k<n+1 by omega),Pl.fO (f:=Pl.gK n G) k (show k<n+1 by omega)];have:Pl.sm (n+1) (λi=>if i=k then 0 else Pl.gK n (Pl.zz G k) i)=Pl.sm (n+1) (λi=>if i=k then 0 else Pl.gK n G i):=Pl.aC λi hi=>by
   split
   ·rfl
   ·rename_i e;exact key i (by omega) e
  omega
def oZ (n LQ:Nat):Nat:=(n+1)*LQ+1
def zI (n LQ:Nat):Nat:=2*oZ n LQ+3
theorem Out.start {LQ:Nat} (hQ:Pl.gQ n Q) (hS:∀ i j,Q i j=Q j i) (hn:n<=9) (hl:∀ a b,a<n->b<n->Pl.Lt LQ (Q a b)):Out n Q Pl.unit Q (1073741824^(oZ n LQ+1)) (1073741824^oZ n LQ):=by
 refine ⟨.start hS,λl hl'=>(Cr (FP hQ hl hn hl')).2,λi hi=>?_⟩;refine (Cr ((hl i i hi hi).mono ?_)).2;unfold oZ;have:LQ<=(n+1)*LQ:=by rw [abC,ab4];omega
 omega
theorem Tn (K:Nat):(1073741824:Int)^K<1073741824^(K+1):=by
 rw [aaJ];have:=jX K;omega
theorem Out.lg {LQ:Nat} (hQ:Pl.gQ n Q) (h:Out n Q St G (1073741824^(oZ n LQ+1)) D) (a b:Nat) (ha:a<n) (hb:b<n):Pl.Lt (zI n LQ) (G a b):=by
 have h1:=Pl.Qv (h.red.Cy hQ) h.red.symm ha hb;have h2:=h.diag a ha;have h3:=h.diag b hb;have h4:=Tn (oZ n LQ+1);exact (Er (K:=oZ n LQ+1+1) (B:=1073741824^(oZ n LQ+1)) (by omega) (by omega) h4).mono (by unfold zI;omega)
theorem Out.Sd {LQ:Nat} (hQ:Pl.gQ n Q) (hS:∀ i j,Q i j=Q j i) (hn:n<=9) (hl:∀ a b,a<n->b<n->Pl.Lt LQ (Q a b)) (h:Out n Q St G (1073741824^(oZ n LQ+1)) D) (a b:Nat) (ha:a<n) (hb:b<n):Pl.Lt (zI n LQ) (St a b):=by
 have h1:=Pl.Tp hQ hS (D:=1073741824^oZ n LQ) (T:=1073741824^(oZ n LQ+1)) (λi j hi hj=>Cr (Ey hQ hl hn (d_ _) hi hj)) (x:=St a) (by rw [<-h.red.Tk a a ha ha];exact h.diag a ha) (λc hc=>(Cr ((hl c c hc hc).mono (by
  unfold oZ;have:LQ<=(n+1)*LQ:=by rw [abC,ab4];omega
  omega))).2) hb
 have e:(1073741824:Int)^oZ n LQ*1073741824^(oZ n LQ+1)=1073741824^(2*oZ n LQ+1):=by rw [<-acF];congr 1;omega
 rw [e] at h1;refine (Er (K:=2*oZ n LQ+2) h1.1 h1.2 ?_).mono (by unfold zI;omega);rw [aaJ _ (2*oZ n LQ+1),u_];have:=jX (2*oZ n LQ+1);exact Int.mul_lt_mul_of_pos_left (by omega) (by omega)
def wJ (n L:Nat):Nat->Nat
 | 0=>L
 | m+1=>(3*n+3)*wJ n L m+9
theorem NL (n L:Nat) {m m':Nat} (h:m<=m'):wJ n L m<=wJ n L m':=by
 induction h with
 | refl=>exact d_ _
 | step _ ih =>
  refine w_ ih ?_;show _<=(3*n+3)*_+9;rw [abC];omega
end
end Go.Proofs.YtfaljekgpnbmiaaGreat
