/- Joined: XLat15 XLat16. -/
import Derived.Test.YtgaafamcajcifaaGreatJ07
import Derived.Test.YtgaafamcajcifaaGreatJ28
set_option linter.unusedVariables false
set_option linter.unusedSimpArgs false
set_option maxRecDepth 100000
namespace Go.Proofs.YtgaafamcajcifaaGreat
open Go.RowKit Go.Sort
def mE (Pf:Nat->Nat->Int) (r j:Nat):Int:=if r=0 then (if j=0 then 1 else 0) else if (r - 1)%3=0 then Pl.unit ((r - 1)/3) j else if (r - 1)%3=1 then Pf ((r - 1)/3) j else 0
theorem Hf (Pf:Nat->Nat->Int) (i j:Nat):mE Pf (3*i+1) j=Pl.unit i j:=by
 unfold mE;rw [g_ (by omega),h_ (by omega),show (3*i+1 - 1)/3=i by omega]
theorem Hg (Pf:Nat->Nat->Int) (i j:Nat):mE Pf (3*i+2) j=Pf i j:=by
 unfold mE;rw [g_ (by omega),g_ (by omega),h_ (by omega),show (3*i+2 - 1)/3=i by omega]
theorem PM (Pf:Nat->Nat->Int) (i j:Nat):mE Pf (3*i+3) j=0:=by
 unfold mE;rw [g_ (by omega),g_ (by omega),g_ (by omega)]
theorem Hl {P:Nat->Prop} (w:World) {n:Nat} (hn:n<=1000000):bz P (w.alloc (.cells (madeCells #[.int .i64 0,.slice none 0 0] (n*2)) 78)) w.heap.size n (λ_=>0):=by
 refine bz.made (B:=0) ⟨by simp [size_madeCells],.inr ⟨w.heap.size,n,_,rfl,aa4 _,aG _ _,d_ _,by unfold maxLen;omega,by rw [size_madeCells],?_⟩⟩;exact aaJ (by rw [Array.length_toList,size_madeCells];omega)
section
attribute [local go_sem] bD
set_option maxHeartbeats 4000000 in
theorem M4 (P:Nat->Prop) (n:Nat) (ls:List (List Int)) (vp:Value) (w:World) (hP:∀ b,w.heap.size<=b->P b) (h:aM P w vp ls) (hl:ls.length=n) (hr:∀ l∈ls,l.length=n) (hn0:0<n) (hn:n<=100) :
  Calls Tryz.prog 92 #[vp] w λe w'=>∃ (b gs gp go cs cp co:Nat) (R:Nat->Nat) (Ov:Nat->Nat->Int) (V:Nat->Int),e=.returned (.pointer (some ⟨b,0,none⟩))∧bf P w.heap.size w' n b gs gp go cs cp co R Pl.unit (λi j=>(ls.getD i []).getD j 0) Ov V∧Below w.heap.size w w'∧V 0=1:=by
 obtain ⟨i0,hi0,hz0,hz1,hz2⟩:=V_ Tryz.dP;obtain ⟨i1,hi1,hy0,hy1,hy2⟩:=V_ Tryz.lZ;obtain ⟨pa,pc,rfl⟩:∃ ad cap,vp=.slice ad ls.length cap:=by obtain ⟨ad,cap,e,_⟩:=h;exact ⟨ad,cap,e⟩
 obtain ⟨gq,oq,_,_,eq0,_⟩:=gP h (i:=0) (by omega);cases eq0;have HPR:=af h;have YF:=af hl;have vP:=af hr;rw [hl];clear h hl hr;go_enter Tryz.func92,Tryz.ntmps92;go_wp2_with (at_make;refine O_ _ rfl _ _ 69 rfl w.heap.size 78 i0 (.agg #[.int .i64 0,.slice none 0 0]) 2 Tryz.underlying69 hi0 hz0 hz1 .i64 .i64 _ _ (n+1) rfl rfl ?e1 ?e2 ?c1 ?c2 ?c3 ?_)
 case e1=>first | rfl | omega | simp
 case e2=>first | rfl | omega | simp
 case c1=>rw [hz2];omega
 case c2=>unfold maxLen;omega
 case c3=>first | omega | simp
 ·intro w1 hown hgrow;have hG1:ae w w1:=(n_ _ _).grown hgrow (d_ _) (by intro k hk;cases hk);have Ha:Hid (bz P w1 w.heap.size (n+1) (λ_=>0)):=bz.made hown;have YG:=(uh Ha).lt;have HG2:Hid (ae w (w1.alloc (.cells #[.slice none 0 0,.slice none 0 0,.slice (some ⟨w.heap.size,0,none⟩) (n+1) (n+1),.slice none 0 0] 134))):=hG1.trans (ae.alloc _ _);have HB2:=af (aG w1 (.cells #[.slice none 0 0,.slice none 0 0,.slice (some ⟨w.heap.size,0,none⟩) (n+1) (n+1),.slice none 0 0] 134));have HR2:=af ((uh Ha).grow (ae.alloc w1 (.cells #[.slice none 0 0,.slice none 0 0,.slice (some ⟨w.heap.size,0,none⟩) (n+1) (n+1),.slice none 0 0] 134)));have hbw:w.heap.size<=w1.heap.size:=hG1.size;clear hown hgrow hG1 Ha;go_wp2_with fail;generalize hW2:w1.alloc (.cells #[.slice none 0 0,.slice none 0 0,.slice (some ⟨w.heap.size,0,none⟩) (n+1) (n+1),.slice none 0 0] 134)=W2 at *
  generalize w1.heap.size=b at *
  clear hW2;have k2:W2.cell? ⟨b,2,none⟩=some (.slice (some ⟨w.heap.size,0,none⟩) (n+1) (n+1)):=by rw [cellsOf (uh HB2)];rfl
  have hn1:(0:Int)<(n:Int)+1:=by omega
  have y0:=b_ k2;clear k2;refine ah (bZ [(20,λv w=>aj P w v 1)]) (gL [(20,ag)]) 91 6 (by kernel_rfl) (by rfl) (by kernel_rfl) (aN (λ_ _ _=>aj.below) cK) ?_
  iterate 4 (refine aO λK hK=>?_;go_simp;refine hK _ ?_;clear hK K)
  refine ai ag 40 #[.int .i64 1] (by rfl) (by rfl) ag.some (λw=>by go_simp) (λwq hg hf=>(fM P 1 wq (λb' hb'=>hP b' (by have h1:=(uh HG2).size;have h2:=hg.size;omega)) (by decide) (by decide)).mono (by rintro e w' ⟨v',rfl,hv,hb⟩;exact ⟨_,rfl,hb,hv.aU,λt ht=>by cases ht;exact hv⟩)) ?_;rintro _ ⟨ox,oa,om,oc,rfl⟩
  (refine aO λK hK=>?_;go_simp;refine hK _ ?_;clear hK K)
  refine aF ?_;intro w3 hw3 aK;have hv3:aj P w3 (.agg #[.int .i64 ox,.slice oa om oc]) 1:=aK 4 _ 20 (by decide) rfl rfl;clear aK y0;have RY:=(uh HR2).grow hw3;obtain ⟨qx,qa,qm,qc,r0,r1,_,f0,f1⟩:=RY.get (i:=0) (by omega);rw [acM] at r0 r1 f0 f1;rw [M_] at r1 f1;have hset:=(RY.set (i:=0) (by omega) hv3);rw [acM,M_] at hset;have jb:Hid (ae w ((w3.setCell ⟨w.heap.size,0,none⟩ (.int .i64 ox)).setCell ⟨w.heap.size,1,none⟩ (.slice oa om oc))):=(B_ (p:=⟨w.heap.size,0,none⟩) (ae.trans (uh HG2) hw3) (d_ _) _).setCell (p:=⟨w.heap.size,1,none⟩) (d_ _) _;have hbne:b≠w.heap.size:=by omega
  have La:Hid (Laid P w.heap.size ((w3.setCell ⟨w.heap.size,0,none⟩ (.int .i64 ox)).setCell ⟨w.heap.size,1,none⟩ (.slice oa om oc)) n 1 b (.slice none 0 0) (.slice none 0 0) (.slice none 0 0) 0 0 0 (λ_=>w.heap.size) (mE λi j=>(ls.getD i []).getD j 0)):=by
   refine ⟨(l_ _ _ _ _ hbne).trans ((l_ _ _ _ _ hbne).trans (Below.same hw3 _ _ (uh HB2))),⟨λr hr=>?_,λr s hr hs _=>by omega⟩,⟨rfl,.inl ⟨rfl,rfl⟩⟩,⟨rfl,.inl ⟨rfl,rfl⟩⟩,⟨rfl,.inl ⟨rfl,rfl⟩⟩,λg e=>by simp [Value.ownBlock] at e,λg e=>by simp [Value.ownBlock] at e,λg e=>by simp [Value.ownBlock] at e,⟨by omega,λr hr=>d_ _⟩,by omega,λa ha=>by omega,λa ha=>by omega,λa ha=>by omega⟩;have e:r=0:=by omega
   subst e;rw [h_ rfl];refine hset.congr λk _=>?_;unfold qj mE;rw [h_ rfl]
  clear hv3 hw3 RY hset;obtain ⟨W3,hW3⟩:∃ W,(w3.setCell ⟨w.heap.size,0,none⟩ (.int .i64 ox)).setCell ⟨w.heap.size,1,none⟩ (.slice oa om oc)=W:=⟨_,rfl⟩;rw [hW3] at jb La;go_wp2_with fail
  try rw [hW3]
  clear hW3 r0 r1 f0 f1 HB2 HR2 HG2 YG;go_loopg [5] n (λk iv wr=>∃ (i:Nat) (sa:Option Addr) (sn sc:Nat) (ta:Option Addr) (tn tc:Nat) (oa:Option Addr) (on oc:Nat) (R:Nat->Nat),iv=.int .i64 i∧i+k=n∧Hid (Laid P w.heap.size wr n (3*i+1) b (.slice sa sn sc) (.slice ta tn tc) (.slice oa on oc) i i i R (mE λi j=>(ls.getD i []).getD j 0)∧Below w.heap.size w wr))
  case atStart=>exact ⟨0,none,0,0,none,0,0,none,0,0,_,rfl,by omega,uh La,uh jb⟩
  case round =>
   clear La jb;rename Nat=>gi;rename World=>wi;obtain ⟨i,sa,sn,sc,ta,tn,tc,oa,on,oc,R,rfl,hik,HR⟩:=hrel;by_cases hin:i<n
   ·
    go_wp2_with (at_make;refine O_ _ rfl _ _ 69 rfl wi.heap.size 78 i0 (.agg #[.int .i64 0,.slice none 0 0]) 2 Tryz.underlying69 hi0 hz0 hz1 .i64 .i64 _ _ n rfl rfl ?e1 ?e2 ?c1 ?c2 ?c3 ?_)
    case e1=>first | rfl | omega | simp
    case e2=>first | rfl | omega | simp
    case c1=>rw [hz2];omega
    case c2=>unfold maxLen;omega
    case c3=>first | omega | simp
    ·intro w4 hown hgrow;have hG4:ae wi w4:=(n_ _ _).grown hgrow (d_ _) (by intro k hk;cases hk);have HR4:Hid (bz P w4 wi.heap.size n (λ_=>0)):=bz.made hown;have kC:=af hG4;have YH:w.heap.size<=wi.heap.size:=(uh HR).2.size;clear hown hgrow hG4;go_wp2_with fail;refine (fM P 1 w4 (λb' hb'=>hP b' (by have:=(uh kC).size;omega)) (by decide) (by decide)).mono ?_;rintro e w5 ⟨v5,rfl,hv5,pM⟩;obtain ⟨ox,ob,om,od,rfl⟩:=hv5.shape;have hR5:=(uh HR4).grow pM;obtain ⟨qx,qa,qm,qc,r0,r1,_,f0,f1⟩:=hR5.get hin;obtain ⟨W5,Bi⟩:∃ W,(w5.setCell ⟨wi.heap.size,i*2,none⟩ (.int .i64 ox)).setCell ⟨wi.heap.size,i*2+1,none⟩ (.slice ob om od)=W:=⟨_,rfl⟩;have Bl:Hid (bz P W5 wi.heap.size n (Pl.unit i)):=by
      unfold Hid;rw [<-Bi];exact (hR5.set hin hv5).congr (λk _=>by
       unfold qj Pl.unit;by_cases h:k=i
       ·rw [h_ h,h_ h.symm]
       ·rw [g_ h,g_ (λe=>h e.symm)])
     have gD:Hid (ae wi W5):=by
      unfold Hid;rw [<-Bi];exact (B_ (p:=⟨wi.heap.size,i*2,none⟩) (ae.trans (uh kC) pM) (d_ _) _).setCell (p:=⟨wi.heap.size,i*2+1,none⟩) (d_ _) _
     clear hv5 pM hR5 HR4 kC;go_wp2_with (at_make;refine O_ _ rfl _ _ 69 rfl W5.heap.size 78 i0 (.agg #[.int .i64 0,.slice none 0 0]) 2 Tryz.underlying69 hi0 hz0 hz1 .i64 .i64 _ _ n rfl rfl ?e1 ?e2 ?c1 ?c2 ?c3 ?_)
     case e1=>first | rfl | omega | simp
     case e2=>first | rfl | omega | simp
     case c1=>rw [hz2];omega
     case c2=>unfold maxLen;omega
     case c3=>first | omega | simp
     ·intro w6 hown hgrow;have hG6:ae W5 w6:=(n_ _ _).grown hgrow (d_ _) (by intro k hk;cases hk);have HR6:Hid (bz P w6 W5.heap.size n (λ_=>0)):=bz.made hown;have lT:=af hG6;clear hown hgrow hG6 Bi r0 r1 f0 f1;go_wp2_with fail;go_loopg [8] n (λk jv wr=>∃ (j:Nat),jv=.int .i64 j∧j+k=n∧Hid (bz P wr W5.heap.size n (λk=>if k<j then (ls.getD i []).getD k 0 else 0)∧ae W5 wr))
      case atStart=>exact ⟨0,rfl,by omega,(uh HR6).congr (λk _=>by rw [g_ (by omega)]),uh lT⟩
      case round =>
       clear HR6 lT;obtain ⟨j,rfl,hjk,HJ⟩:=hrel;have DY:Hid (Below w.heap.size w wr):=(uh HR).2.trans (aaz ((uh gD).trans (uh HJ).2) YH);obtain ⟨gu,ou,_,uu,eu,u0,hu,hmem⟩:=gP ((uh HPR).below (uh DY)) (i:=i) (by rw [uh YF];exact hin);rw [uh YF] at eu;cases eu;have Ya:=uh vP _ hmem;obtain ⟨ua,uc,rfl⟩:∃ ad cap,uu=.slice ad n cap:=by obtain ⟨ad,cap,e,_⟩:=hu;rw [Ya] at e;exact ⟨ad,cap,e⟩
       have HU:=af hu;have I9:=af Ya;clear hu hmem Ya;by_cases hjn:j<n
       ·obtain ⟨gx,ox',cx,xx,xa,xm,xc,ex,x0,x1,hx⟩:=eU (uh HU) (i:=j) (by rw [uh I9];exact hjn);rw [uh I9] at ex;cases ex;obtain ⟨qx,qa,qm,qc,r0,r1,_,f0,f1⟩:=(uh HJ).1.get hjn;have HS:Hid (bz P ((wr.setCell ⟨W5.heap.size,j*2,none⟩ (.int .i64 xx)).setCell ⟨W5.heap.size,j*2+1,none⟩ (.slice xa xm xc)) W5.heap.size n (λk=>if k<j+1 then (ls.getD i []).getD k 0 else 0)):=((uh HJ).1.set hjn hx).congr (λk _=>by
         unfold qj
         try dsimp only
         by_cases h:k=j
         ·rw [h_ h,h_ (by omega),h]
         ·rw [g_ h];by_cases h2:k<j
          ·rw [h_ h2,h_ (by omega)]
          ·rw [g_ h2,g_ (by omega)])
        have YI:Hid (ae W5 ((wr.setCell ⟨W5.heap.size,j*2,none⟩ (.int .i64 xx)).setCell ⟨W5.heap.size,j*2+1,none⟩ (.slice xa xm xc))):=(B_ (p:=⟨W5.heap.size,j*2,none⟩) (uh HJ).2 (d_ _) _).setCell (p:=⟨W5.heap.size,j*2+1,none⟩) (d_ _) _;clear hx;go_wp2;go_roundg (gk - 1)
        case measure=>omega
        case rel=>exact ⟨j+1,by simp,by omega,uh HS,uh YI⟩
       ·have YJ:j=n:=by omega
        have hGi:ae wi wr:=(uh gD).trans (uh HJ).2;have UU:=af (uh DY);have hlt1:wi.heap.size<W5.heap.size:=(uh Bl).lt;have hRl:∀ r,r<3*i+1->R r<wi.heap.size:=λr hr=>((uh HR).1.oN.rows r hr).lt;obtain ⟨R1,hL1,e1,eR1⟩:=((uh HR).1.grow hGi).row ((uh Bl).grow (uh HJ).2) (λr hr=>by have:=hRl r hr;omega) (λk _=>Hf _ i k) YH;obtain ⟨R2,hL2,e2,eR2⟩:=hL1.row (g:=W5.heap.size) (fr:=λk=>(ls.getD i []).getD k 0) ((uh HJ).1.congr (λk hk=>by rw [h_ (by omega)])) (λr hr=>by
         rcases (show r<3*i+1∨r=3*i+1 by omega) with h|h
         ·rw [eR1 r h];have:=hRl r h;omega
         ·rw [h,e1];omega) (λk _=>Hg _ i k) (by omega)
        have e12:R2 (3*i+1)=wi.heap.size:=by rw [eR2 _ (by omega)];exact e1
        have e22:R2 (3*i+2)=W5.heap.size:=e2;have HE:=af (x_ e12 e22);have Sg:Hid (∀ r,r<3*i+3->R2 r<wr.heap.size):=λr hr=>(hL2.oN.rows r hr).lt;have oK:=af (hL2.grow (ae.alloc wr (.cells #[.slice (some ⟨wi.heap.size,0,none⟩) n n] 69)));have k0:wr.cell? ⟨b,0,none⟩=some (.slice sa sn sc):=by rw [cellsOf hL2.own];rfl
        have HWA:Hid (w.heap.size<=(wr.alloc (.cells #[.slice (some ⟨wi.heap.size,0,none⟩) n n] 69)).heap.size):=w_ (uh UU).size (ae.alloc _ _).size;have AZ:Hid (Below w.heap.size w (wr.alloc (.cells #[.slice (some ⟨wi.heap.size,0,none⟩) n n] 69))):=(uh UU).trans (aaz (ae.alloc _ _) (uh UU).size);have HR:=af (uh HR);clear hL1 hL2 e1 e2 eR1 eR2 e12 e22 hRl hGi HJ DY HU I9;go_wp2_with (at_builtin;refine aap _ rfl _ _ 72 rfl w.heap.size 69 i1 (.slice none 0 0) 1 24 Tryz.underlying72 hi1 hy0 hy1 hy2 rfl (by decide) _ i ((List.range i).map λa=>Value.slice (some ⟨R2 (3*a+1),0,none⟩) n n) rfl (uh oK).s ⟨_,0,none⟩ 1 1 [.slice (some ⟨wi.heap.size,0,none⟩) n n] rfl rfl ?d1 (by simp [Value.oneCell']) (by decide) ?d2 ?d3 ?d4 _ rfl ?_)
        case d1=>exact λj u hu=>aaq (aaC _ _) j u hu
        case d2=>unfold maxLen;omega
        case d3=>omega
        case d4=>exact uh HWA
        ·intro g8 Hm w8 hown hgrow hat acU;have hA:=(uh oK).acP (by omega) hgrow (by rw [H_];exact hat) (by rw [(uh HE).1];exact hown);have Xn:=hA.2.2.trans (uh oK).own;have z0:w8.cell? ⟨b,0,none⟩=some (.slice sa sn sc):=by rw [cellsOf Xn];rfl
         have z1:w8.frozen? ⟨b,0,none⟩=false:=aH Xn 0;obtain ⟨W8,GN⟩:∃ W,w8.setCell ⟨b,0,none⟩ (.slice (some ⟨g8,0,none⟩) (i+1) Hm)=W:=⟨_,rfl⟩;rw [GN] at hA;have Xu:=af (hA.1.grow (ae.alloc W8 (.cells #[.slice (some ⟨W5.heap.size,0,none⟩) n n] 69)));have MK:=af ((uh AZ).trans hA.2.1);have YK:w.heap.size<=W8.heap.size:=(uh MK).size;have k1:W8.cell? ⟨b,1,none⟩=some (.slice ta tn tc):=by rw [cellsOf hA.1.own];rfl
         have HWB:Hid (w.heap.size<=(W8.alloc (.cells #[.slice (some ⟨W5.heap.size,0,none⟩) n n] 69)).heap.size):=w_ YK (ae.alloc _ _).size;have HGB:Hid (Below w.heap.size w (W8.alloc (.cells #[.slice (some ⟨W5.heap.size,0,none⟩) n n] 69))):=(uh MK).trans (aaz (ae.alloc _ _) YK);clear hown hgrow hat acU hA Xn k0;go_wp2_with (at_builtin;refine aap _ rfl _ _ 72 rfl w.heap.size 69 i1 (.slice none 0 0) 1 24 Tryz.underlying72 hi1 hy0 hy1 hy2 rfl (by decide) _ i ((List.range i).map λa=>Value.slice (some ⟨R2 (3*a+2),0,none⟩) n n) rfl (uh Xu).p ⟨_,0,none⟩ 1 1 [.slice (some ⟨W5.heap.size,0,none⟩) n n] rfl rfl ?d1 (by simp [Value.oneCell']) (by decide) ?d2 ?d3 ?d4 _ rfl ?_)
         case d1=>exact λj u hu=>aaq (aaC _ _) j u hu
         case d2=>unfold maxLen;omega
         case d3=>omega
         case d4=>exact uh HWB
         ·intro g9 Si w9 hown hgrow hat acV;have hA:=(uh Xu).acQ (by omega) hgrow (by rw [H_];exact hat) (by rw [(uh HE).2];exact hown);have Ja:=hA.2.2.trans (uh Xu).own;have z2:w9.cell? ⟨b,1,none⟩=some (.slice ta tn tc):=by rw [cellsOf Ja];rfl
          have z3:w9.frozen? ⟨b,1,none⟩=false:=aH Ja 1;obtain ⟨W9,Yc⟩:∃ W,w9.setCell ⟨b,1,none⟩ (.slice (some ⟨g9,0,none⟩) (i+1) Si)=W:=⟨_,rfl⟩;rw [Yc] at hA;have Xv:=af ((uh HGB).trans hA.2.1);have YL:w.heap.size<=W9.heap.size:=(uh Xv).size;have k3:W9.cell? ⟨b,3,none⟩=some (.slice oa on oc):=by rw [cellsOf hA.1.own];rfl
          have YM:∀ r,r<3*i+1+1+1->R2 r<W9.heap.size:=λr hr=>(hA.1.oN.rows r hr).lt;have hgm:ae W9 (W9.alloc (.cells (madeCells #[.int .i64 0,.slice none 0 0] (n*2)) 78)):=ae.alloc _ _;obtain ⟨R3,hL3,e3,eR3⟩:=(hA.1.grow hgm).row (g:=W9.heap.size) (fr:=λ_=>0) (Hl W9 (by omega)) (λr hr=>by have:=YM r hr;omega) (λk _=>PM _ i k) YL;have HE3:Hid (R3 (3*i+3)=W9.heap.size):=e3;have PN:Hid (Laid P w.heap.size (((W9.alloc (.cells (madeCells #[.int .i64 0,.slice none 0 0] (n*2)) 78)).alloc (.cells #[.slice (some ⟨W9.heap.size,0,none⟩) n n] 69)).drew) n (3*i+1+1+1+1) b (.slice (some ⟨g8,0,none⟩) (i+1) Hm) (.slice (some ⟨g9,0,none⟩) (i+1) Si) (.slice oa on oc) (i+1) (i+1) i R3 (mE λi j=>(ls.getD i []).getD j 0)):=hL3.grow (aaK (ae.alloc _ _));have HGX:Hid (Below w.heap.size w (((W9.alloc (.cells (madeCells #[.int .i64 0,.slice none 0 0] (n*2)) 78)).alloc (.cells #[.slice (some ⟨W9.heap.size,0,none⟩) n n] 69)).drew)):=(uh Xv).trans (aaz (hgm.trans (aaK (ae.alloc _ _))) YL);have HWX:Hid (w.heap.size<=(((W9.alloc (.cells (madeCells #[.int .i64 0,.slice none 0 0] (n*2)) 78)).alloc (.cells #[.slice (some ⟨W9.heap.size,0,none⟩) n n] 69)).drew).heap.size):=(uh HGX).size;have hmk:∀ w',(Instr.makeSlice 69 (.int .i64 n) (.int .i64 n)).run Tryz.prog w'=.ok (.slice (some ⟨w'.heap.size,0,none⟩) n n) (w'.alloc (.cells (madeCells #[.int .i64 0,.slice none 0 0] (n*2)) 78)):=λw'=>by
           have h1:=run_make (P:=Tryz.prog) w' 69 78 i0 (.agg #[.int .i64 0,.slice none 0 0]) Tryz.underlying69 hi0 hz0 .i64 .i64 n n (by omega) (by omega) (by rw [hz2];omega) (by omega);rw [hz1,show ((n:Nat):Int).toNat=n by omega] at h1;exact h1
          have HNB:Hid ((((W9.alloc (.cells (madeCells #[.int .i64 0,.slice none 0 0] (n*2)) 78)).alloc (.cells #[.slice (some ⟨W9.heap.size,0,none⟩) n n] 69)).drew).heap[W9.heap.size+1]?=some (.cells #[.slice (some ⟨W9.heap.size,0,none⟩) n n] 69 (0,0))):=by
           have h1:=aG (W9.alloc (.cells (madeCells #[.int .i64 0,.slice none 0 0] (n*2)) 78)) (.cells #[.slice (some ⟨W9.heap.size,0,none⟩) n n] 69);rw [H_] at h1;exact h1
          have k4:=hgm.cell k3;have k5:=(hgm.trans (ae.alloc _ (.cells #[.slice (some ⟨W9.heap.size,0,none⟩) n n] 69))).cell k3;clear hown hgrow hat acV hA Ja hL3 e3 eR3 YM hgm;go_wp2_with fail
          try rw [Yc]
          clear GN Yc z0 z1 z2 z3 k1
          go_region_law ((refine step_append_lies _ (by rfl) _ _ 72 (by rfl) w.heap.size 69 i1 (.slice none 0 0) 1 24 Tryz.underlying72 hi1 hy0 hy1 hy2 rfl (by decide) _ i ((List.range i).map λa=>Value.slice (some ⟨R3 (3*a+3),0,none⟩) n n) (by rfl) (uh PN).o ⟨W9.heap.size+1,0,none⟩ 1 1 [.slice (some ⟨W9.heap.size,0,none⟩) n n] (by rfl) rfl (λj u hu=>aaq (uh HNB) j u hu) (by simp [Value.oneCell']) (by decide) (by unfold maxLen;omega) (by omega) (uh HWX) _ rfl ?_;intro g10 agz zu hown hgrow hat YN;have YO:=((uh PN).YD (by omega) hgrow (by simpa using hat) (by rw [uh HE3];exact hown)).2.2.trans (uh PN).own;have z4:zu.cell? ⟨b,3,none⟩=some (.slice oa on oc):=(by rw [cellsOf YO];rfl);have z5:zu.frozen? ⟨b,3,none⟩=false:=aH YO 3))
          all_goals
           have HA:=af ((uh PN).YD (by omega) hgrow (by simpa using hat) (by rw [uh HE3];exact hown));clear hown hgrow hat YN;go_wp2;go_roundg (gi - 1)
           case measure=>omega
           case rel=>exact ⟨i+1,_,_,_,_,_,_,_,_,_,R3,by simp,by omega,(uh HA).1,(uh HGX).trans (uh HA).2.1⟩
   ·have hin':i=n:=by omega
    have HD:Hid (∃ gs gp go cs cp co,bf P w.heap.size wi n b gs gp go cs cp co (A8 n R) (λa=>mE (λi j=>(ls.getD i []).getD j 0) (3*a+1)) (λa=>mE (λi j=>(ls.getD i []).getD j 0) (3*a+2)) (λa=>mE (λi j=>(ls.getD i []).getD j 0) (3*a+3)) (mE (λi j=>(ls.getD i []).getD j 0) 0)):=by
     have h1:=(uh HR).1;rw [hin'] at h1;exact h1.done hn0
    go_wp2;go_ret;obtain ⟨gs,gp,go,cs,cp,co,hD⟩:=uh HD;exact ⟨b,gs,gp,go,cs,cp,co,_,_,_,rfl,hD.congr (λa k _ _=>Hf _ a k) (λa k _ _=>Hg _ a k) (λ_ _ _ _=>rfl) (λ_ _=>rfl),(uh HR).2,rfl⟩
end
theorem JU {G:Nat->Nat->Int} (h:∀ i j,G i j=G j i) {k j:Nat} (t:Int) (a b:Nat):Pl.dK G k j t a b=Pl.dK G k j t b a:=by
 by_cases ha:a=k <;> by_cases hb:b=k
 ·rw [ha,hb]
 ·rw [ha,Pl.fA G t hb,Pl.iy G t hb,h k b,h j b]
 ·rw [hb,Pl.fA G t ha,Pl.iy G t ha,h k a,h j a]
 ·rw [Pl.ed G t ha hb,Pl.ed G t hb ha,h a b]
structure Ot (n:Nat) (Q St G:Nat->Nat->Int):Prop where
 Oc:Pl.El n St
 Sk:Pl.xH n Q St G
 symm:∀ i j,G i j=G j i
section
variable {n:Nat} {Q St G Ov:Nat->Nat->Int} {V:Nat->Int} {k j:Nat} {T D t:Int} {L:Nat}
theorem Ot.Cx (h:Ot n Q St G) (hQ:Pl.gN n Q):Pl.gN n G:=Pl.M5 hQ h.Oc h.Sk
theorem Ot.start (hS:∀ i j,Q i j=Q j i):Ot n Q Pl.unit Q:=⟨Pl.Ho n,Pl.Ev n Q,hS⟩
theorem Ot.short (h:Ot n Q St G) (hk:k<n) (hj:j<n) (hjk:j≠k) (t:Int):Ot n Q (Pl.bE St k j t) (Pl.dK G k j t):=⟨Pl.Ew h.Oc hk hj hjk t,Pl.JV h.Sk hk hj t,JU h.symm t⟩
theorem Ot.ex (h:Ot n Q St G) (hk0:0<k) (hk:k<n):Ot n Q (λa=>St (Pl.sw k a)) (Pl.zy G k):=⟨Pl.VK h.Oc hk0 hk,Pl.Sl h.Sk hk,λi j=>h.symm _ _⟩
theorem Ep {K:Nat} {a B:Int} (h1:-B<=a) (h2:a<=B) (hB:B<1073741824^K):Pl.Lt K a:=by
 unfold Pl.Lt;omega
theorem Cq {K:Nat} {a:Int} (h:Pl.Lt K a):-(1073741824^K:Int)<=a∧a<=1073741824^K:=by
 unfold Pl.Lt at h;omega
theorem jV (K:Nat):(1:Int)<=1073741824^K:=by
 have h1:0<1073741824^K:=aba (by decide);have h2:((1073741824^K:Nat):Int)=(1073741824:Int)^K:=by rw [Int.natCast_pow];rfl
 omega
theorem VL {n:Nat} (hn:n<=9):(Pl.KX (n+1):Int)<=1073741823:=by
 rcases (show n=0∨n=1∨n=2∨n=3∨n=4∨n=5∨n=6∨n=7∨n=8∨n=9 by omega) with h|h|h|h|h|h|h|h|h|h <;> subst h <;> decide
theorem xu {n L:Nat} (hn:n<=9):Pl.KX (n+1)*((1073741824:Int)^L)^(n+1)<1073741824^((n+1)*L+1):=by
 rw [<-Int.pow_mul,acm L,aaH];have h1:=jV ((n+1)*L);have h2:=VL hn;rw [u_];exact Int.mul_lt_mul_of_pos_left (by omega) (by omega)
theorem Cy (hP:Pl.gN n G) (hG:∀ a b,a<n->b<n->Pl.Lt L (G a b)) {l:Nat} (hl:l<=n):Pl.Small (Pl.mR G) n (Pl.dD n G l) (1073741824^L):=by
 have key:∀ x:Int,((∃ i:Nat,i<n∧x=i)∨∃ i:Nat,i<n∧x=-1 - (i:Int))->∀ k,k<n+1->-(1073741824^L:Int)<=Pl.mR G x k∧Pl.mR G x k<=1073741824^L:=by
  intro x hx k hk;have h1:=jV L;rcases hx with ⟨i,hi,rfl⟩|⟨i,hi,rfl⟩
  ·unfold Pl.mR;rw [h_ (by omega)]
   split
   ·omega
   ·exact Cq (hG _ _ (by omega) (by omega))
  ·rw [Pl.rV];unfold Pl.unit
   split <;> omega
 have hlen:=(Pl.jC n G l).1;refine ⟨jV L,λc hc k hk=>key _ ?_ k hk,λr hr k hk=>key _ ?_ k hk⟩
 ·rw [(Pl.fw n G l hl c hc).2]
  split
  ·exact .inl ⟨c,hc,rfl⟩
  ·exact .inr ⟨c,hc,rfl⟩
 ·have hr':r<n:=by omega
  rw [(Pl.fw n G l hl r hr').1]
  split
  ·exact .inr ⟨r,hr',rfl⟩
  ·exact .inl ⟨r,hr',rfl⟩
theorem Ex (hP:Pl.gN n G) (hG:∀ a b,a<n->b<n->Pl.Lt L (G a b)) (hn:n<=9) {l i j:Nat} (hl:l<=n) (hi:i<n) (hj:j<n):Pl.Lt ((n+1)*L+1) (Pl.gm n G l i j):=by
 have hlen:=(Pl.jC n G l).1;obtain ⟨h1,h2⟩:=(Pl.qN hP l hl).1.K5 (Cy hP hG hl) (r:=i) (by omega) (j:=j+1) (by omega);exact Ep h1 h2 (xu hn)
theorem FN (hP:Pl.gN n G) (hG:∀ a b,a<n->b<n->Pl.Lt L (G a b)) (hn:n<=9) {l:Nat} (hl:l<=n):Pl.Lt ((n+1)*L+1) (Pl.gI n G l):=by
 have h1:=(Pl.qN hP l hl).1.GU (Cy hP hG hl);have h2:=Pl.kI hP hl;have h3:=xu (n:=n) (L:=L) hn;unfold Pl.gI at *
 exact Ep (by omega) (aaZ _) (by omega)
theorem Hq {o v:Int} (hv:0<v) (ho:Pl.Lt L o):Pl.Lt (L+1) (Int.fdiv (o+o+v) (v+v)):=by
 have h1:=Pl.Ey (lam:=o) hv;generalize Int.fdiv (o+o+v) (v+v)=t at *
 have hm:-(o.natAbs+1:Int)<=t∧t<=o.natAbs+1:=by
  constructor
  ·apply v_;intro hc;have:v*t<=v*(-(o.natAbs:Int) - 2):=o_ (by omega) (by omega);have e:v*(-(o.natAbs:Int) - 2)=-(v*o.natAbs) - v*2:=by rw [aaN,abR]
   have h4:1*(o.natAbs:Int)<=v*o.natAbs:=A_ (by omega) (by omega);rw [u_ t v] at h1;omega
  ·apply v_;intro hc;have:v*((o.natAbs:Int)+2)<=v*t:=o_ (by omega) (by omega);have e:v*((o.natAbs:Int)+2)=v*o.natAbs+v*2:=by rw [R_]
   have h4:1*(o.natAbs:Int)<=v*o.natAbs:=A_ (by omega) (by omega);rw [u_ t v] at h1;omega
 unfold Pl.Lt at *
 rw [aaH];have:=jV L;omega
structure Ud (n:Nat) (Q:Nat->Nat->Int) (k j:Nat) (St G Ov:Nat->Nat->Int) (V:Nat->Int) (T D:Int) (L:Nat):Prop where
 red:Ot n Q St G
 gI:∀ l,l<=n->V l=Pl.gI n G l
 ov:∀ i l,l<i->i<n->Ov i l=Pl.gm n G l i l
 done:∀ l,j<=l->l<k->-Pl.gI n G (l+1)<=2*Pl.gm n G l k l∧2*Pl.gm n G l k l<=Pl.gI n G (l+1)
 diag:∀ i,i<n->i≠k->G i i<=T
 JW:∀ l,l<=n->Pl.gI n G l<=D
 Rq:∀ a b,a<n->b<n->Pl.Lt L (St a b)
 lg:∀ a b,a<n->b<n->Pl.Lt L (G a b)
theorem Ud.step (hQ:Pl.gN n Q) (h:Ud n Q k (j+1) St G Ov V T D L) (hjk:j<k) (hk:k<n) (hn:n<=9) (ht:Int.fdiv (Ov k j+Ov k j+V (j+1)) (V (j+1)+V (j+1))=t):Ud n Q k j (Pl.bE St k j t) (Pl.dK G k j t) (xE Ov k j t (V (j+1))) V T D ((3*n+3)*L+9):=by
 have hP:=h.red.Cx hQ;have hj:j<n:=by omega
 have hr:=h.red.short hk hj (by omega) t;have hP':=hr.Cx hQ;have gs:=Pl.Hr hP hP' hjk hk;have hv:V (j+1)=Pl.gI n G (j+1):=h.gI _ (by omega);have hvp:=Pl.kI hP (show j+1<=n by omega);have Yz:Pl.Lt ((n+1)*L+1) (Ov k j):=by rw [h.ov k j hjk hk];exact Ex hP h.lg hn (by omega) hk hj
 have lt:Pl.Lt ((n+1)*L+2) t:=by rw [<-ht,hv];exact Hq hvp Yz
 have Fg:L<=(n+1)*L:=by rw [abg,abQ];omega
 have e33:(3*n+3)*L=3*((n+1)*L):=by rw [<-Nat.mul_assoc];congr 1
 have JS:∀ a b,a<n->b<n->Pl.Lt ((n+1)*L+2+L+1) (Pl.bE G k j t a b):=λa b ha hb=>by
  unfold Pl.bE
  split
  ·exact ((h.lg k b hk hb).mono (by omega)).sub (lt.mul (h.lg j b hj hb))
  ·exact (h.lg a b ha hb).mono (by omega)
 refine ⟨hr,λl hl=>?_,λi l hl hi=>?_,λl h1 h2=>?_,λi hi hik=>?_,λl hl=>?_,λa b ha hb=>?_,λa b ha hb=>?_⟩
 ·rw [(gs l hl).2.2];exact h.gI l hl
 ·unfold xE lK gK;by_cases hik:i=k
  ·subst hik;rcases (show l<j∨l=j∨j<l by omega) with h1|h1|h1
   ·rw [g_ (by omega),h_ ⟨rfl,h1⟩,(gs l (by omega)).1 (by omega) i l (by omega) (d_ _) hi (by omega),Pl.fA _ t (by omega),h.ov i l hl hi,h.ov j l h1 hj]
   ·subst h1;rw [h_ ⟨rfl,rfl⟩,(gs l (by omega)).1 (d_ _) i l (by omega) (d_ _) hi (by omega),Pl.fA _ t (by omega),h.ov i l hl hi,hv,Pl.fq hP hj]
   ·rw [g_ (by omega),g_ (by omega),(gs l (by omega)).2.1 h1 i l (by omega) (d_ _) hi (by omega),h.ov i l hl hi]
  ·rw [g_ (by omega),g_ (by omega),h.ov i l hl hi];by_cases h1:l<=j
   ·rw [(gs l (by omega)).1 h1 i l (by omega) (d_ _) hi (by omega),Pl.ed _ t hik (by omega)]
   ·rw [(gs l (by omega)).2.1 (by omega) i l (by omega) (d_ _) hi (by omega)]
 ·rw [(gs (l+1) (by omega)).2.2];rcases (show l=j∨j<l by omega) with h3|h3
  ·subst h3;rw [(gs l (by omega)).1 (d_ _) k l (by omega) (d_ _) hk (by omega),Pl.fA _ t (by omega),<-Pl.fq hP hj,<-ht,h.ov k l hjk hk,hv];exact Pl.Ey hvp
  ·rw [(gs l (by omega)).2.1 h3 k l (by omega) (d_ _) hk (by omega)];exact h.done l (by omega) h2
 ·rw [Pl.ed G t hik hik];exact h.diag i hi hik
 ·rw [(gs l hl).2.2];exact h.JW l hl
 ·unfold Pl.bE
  split
  ·exact (((h.Rq k b hk hb).mono (show L<=(n+1)*L+2+L by omega)).sub (lt.mul (h.Rq j b hj hb))).mono (by omega)
  ·exact (h.Rq a b ha hb).mono (by omega)
 ·unfold Pl.dK;show Pl.Lt _ (if b=k then Pl.bE G k j t a k - t*Pl.bE G k j t a j else Pl.bE G k j t a b)
  split
  ·exact (((JS a k ha hk).mono (show _<=(n+1)*L+2+((n+1)*L+2+L+1) by omega)).sub (lt.mul (JS a j ha hj))).mono (by omega)
  ·exact (JS a b ha hb).mono (by omega)
structure Out (n:Nat) (Q St G:Nat->Nat->Int) (T D:Int):Prop where
 red:Ot n Q St G
 JW:∀ l,l<=n->Pl.gI n G l<=D
 diag:∀ i,i<n->G i i<=T
theorem Ud.out (hQ:Pl.gN n Q) (h:Ud n Q k 0 St G Ov V T D L) (hk:k<n) (hT:((n+4:Nat):Int)*D<=4*T) (hD:0<=D):Out n Q St G T D:=by
 refine ⟨h.red,h.JW,λi hi=>?_⟩;by_cases e:i=k
 ·subst e;have h1:=Pl.JX (h.red.Cx hQ) h.red.symm h.JW hi (λl hl=>h.done l (aa4 _) hl);have h2:((i+4:Nat):Int)*D<=((n+4:Nat):Int)*D:=A_ (by omega) hD;omega
 ·exact h.diag i hi e
theorem Out.ex (hQ:Pl.gN n Q) (h:Out n Q St G T D) (hk0:0<k) (hk:k<n) (hless:Pl.gI n (Pl.zy G k) k<Pl.gI n G k):Out n Q (λa=>St (Pl.sw k a)) (Pl.zy G k) T D∧Pl.sm (n+1) (Pl.gI n (Pl.zy G k))<Pl.sm (n+1) (Pl.gI n G):=by
 have hr:=h.red.ex hk0 hk;have hP:=h.red.Cx hQ;have hP':=hr.Cx hQ;have key:∀ l,l<=n->l≠k->Pl.gI n (Pl.zy G k) l=Pl.gI n G l:=λl hl hlk=>by
  rcases (show l<=k - 1∨k+1<=l by omega) with h1|h1
  ·exact (Pl.rW hP hP' hk0 hk l h1).2
  ·have:=(Pl.Cz hP hP' hk0 hk (l - (k+1)) (by omega)).2;rwa [show k+1+(l - (k+1))=l by omega] at this
 refine ⟨⟨hr,λl hl=>?_,λi hi=>h.diag _ (Pl.Ap hk hi)⟩,?_⟩
 ·by_cases e:l=k
  ·rw [e];have:=h.JW k (by omega);omega
  ·rw [key l hl e];exact h.JW l hl
 ·rw [Pl.fK k (show k<n+1 by omega),Pl.fK (f:=Pl.gI n G) k (show k<n+1 by omega)];have:Pl.sm (n+1) (λi=>if i=k then 0 else Pl.gI n (Pl.zy G k) i)=Pl.sm (n+1) (λi=>if i=k then 0 else Pl.gI n G i):=Pl.aC λi hi=>by
   split
   ·rfl
   ·rename_i e;exact key i (by omega) e
  omega
def oW (n LQ:Nat):Nat:=(n+1)*LQ+1
def zH (n LQ:Nat):Nat:=2*oW n LQ+3
theorem Out.start {LQ:Nat} (hQ:Pl.gN n Q) (hS:∀ i j,Q i j=Q j i) (hn:n<=9) (hl:∀ a b,a<n->b<n->Pl.Lt LQ (Q a b)):Out n Q Pl.unit Q (1073741824^(oW n LQ+1)) (1073741824^oW n LQ):=by
 refine ⟨.start hS,λl hl'=>(Cq (FN hQ hl hn hl')).2,λi hi=>?_⟩;refine (Cq ((hl i i hi hi).mono ?_)).2;unfold oW;have:LQ<=(n+1)*LQ:=by rw [abg,abQ];omega
 omega
theorem Sm (K:Nat):(1073741824:Int)^K<1073741824^(K+1):=by
 rw [aaH];have:=jV K;omega
theorem Out.lg {LQ:Nat} (hQ:Pl.gN n Q) (h:Out n Q St G (1073741824^(oW n LQ+1)) D) (a b:Nat) (ha:a<n) (hb:b<n):Pl.Lt (zH n LQ) (G a b):=by
 have h1:=Pl.PO (h.red.Cx hQ) h.red.symm ha hb;have h2:=h.diag a ha;have h3:=h.diag b hb;have h4:=Sm (oW n LQ+1);exact (Ep (K:=oW n LQ+1+1) (B:=1073741824^(oW n LQ+1)) (by omega) (by omega) h4).mono (by unfold zH;omega)
theorem Out.Rq {LQ:Nat} (hQ:Pl.gN n Q) (hS:∀ i j,Q i j=Q j i) (hn:n<=9) (hl:∀ a b,a<n->b<n->Pl.Lt LQ (Q a b)) (h:Out n Q St G (1073741824^(oW n LQ+1)) D) (a b:Nat) (ha:a<n) (hb:b<n):Pl.Lt (zH n LQ) (St a b):=by
 have h1:=Pl.Sn hQ hS (D:=1073741824^oW n LQ) (T:=1073741824^(oW n LQ+1)) (λi j hi hj=>Cq (Ex hQ hl hn (d_ _) hi hj)) (x:=St a) (by rw [<-h.red.Sk a a ha ha];exact h.diag a ha) (λc hc=>(Cq ((hl c c hc hc).mono (by
  unfold oW;have:LQ<=(n+1)*LQ:=by rw [abg,abQ];omega
  omega))).2) hb
 have e:(1073741824:Int)^oW n LQ*1073741824^(oW n LQ+1)=1073741824^(2*oW n LQ+1):=by rw [<-acL];congr 1;omega
 rw [e] at h1;refine (Ep (K:=2*oW n LQ+2) h1.1 h1.2 ?_).mono (by unfold zH;omega);rw [aaH _ (2*oW n LQ+1),u_];have:=jV (2*oW n LQ+1);exact Int.mul_lt_mul_of_pos_left (by omega) (by omega)
def wI (n L:Nat):Nat->Nat
 | 0=>L
 | m+1=>(3*n+3)*wI n L m+9
theorem M6 (n L:Nat) {m m':Nat} (h:m<=m'):wI n L m<=wI n L m':=by
 induction h with
 | refl=>exact d_ _
 | step _ ih =>
  refine w_ ih ?_;show _<=(3*n+3)*_+9;rw [abg];omega
end
end Go.Proofs.YtgaafamcajcifaaGreat
