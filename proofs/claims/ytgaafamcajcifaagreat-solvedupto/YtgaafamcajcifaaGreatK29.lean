/- Joined: XLat15 XLat16. -/
import Derived.Test.YtgaafamcajcifaaGreatK07
import Derived.Test.YtgaafamcajcifaaGreatK28
set_option linter.unusedVariables false
set_option linter.unusedSimpArgs false
set_option maxRecDepth 100000
namespace Go.Proofs.YtgaafamcajcifaaGreat
open Go.RowKit Go.Sort
def mD (Pf:Nat->Nat->Int) (r j:Nat):Int:=if r=0 then (if j=0 then 1 else 0) else if (r - 1)%3=0 then Pl.unit ((r - 1)/3) j else if (r - 1)%3=1 then Pf ((r - 1)/3) j else 0
theorem Ha (Pf:Nat->Nat->Int) (i j:Nat):mD Pf (3*i+1) j=Pl.unit i j:=by
 unfold mD;rw [g_ (by omega),h_ (by omega),show (3*i+1 - 1)/3=i by omega]
theorem Hd (Pf:Nat->Nat->Int) (i j:Nat):mD Pf (3*i+2) j=Pf i j:=by
 unfold mD;rw [g_ (by omega),g_ (by omega),h_ (by omega),show (3*i+2 - 1)/3=i by omega]
theorem PI (Pf:Nat->Nat->Int) (i j:Nat):mD Pf (3*i+3) j=0:=by
 unfold mD;rw [g_ (by omega),g_ (by omega),g_ (by omega)]
theorem He {P:Nat->Prop} (w:World) {n:Nat} (hn:n<=1000000):bz P (w.alloc (.cells (madeCells #[.int .i64 0,.slice none 0 0] (n*2)) 78)) w.heap.size n (λ_=>0):=by
 refine bz.made (B:=0) ⟨by simp [size_madeCells],.inr ⟨w.heap.size,n,_,rfl,aaZ _,aG _ _,d_ _,by unfold maxLen;omega,by rw [size_madeCells],?_⟩⟩;exact aaE (by rw [Array.length_toList,size_madeCells];omega)
section
attribute [local go_sem] bD
set_option maxHeartbeats 4000000 in
theorem MZ (P:Nat->Prop) (n:Nat) (ls:List (List Int)) (vp:Value) (w:World) (hP:∀ b,w.heap.size<=b->P b) (h:aM P w vp ls) (hl:ls.length=n) (hr:∀ l∈ls,l.length=n) (hn0:0<n) (hn:n<=100) :
  Calls Tryz.prog 92 #[vp] w λe w'=>∃ (b gs gp go cs cp co:Nat) (R:Nat->Nat) (Ov:Nat->Nat->Int) (V:Nat->Int),e=.returned (.pointer (some ⟨b,0,none⟩))∧bf P w.heap.size w' n b gs gp go cs cp co R Pl.unit (λi j=>(ls.getD i []).getD j 0) Ov V∧Below w.heap.size w w'∧V 0=1:=by
 obtain ⟨i0,hi0,hz0,hz1,hz2⟩:=U_ Tryz.dP;obtain ⟨i1,hi1,hy0,hy1,hy2⟩:=U_ Tryz.oQ;obtain ⟨pa,pc,rfl⟩:∃ ad cap,vp=.slice ad ls.length cap:=by obtain ⟨ad,cap,e,_⟩:=h;exact ⟨ad,cap,e⟩
 obtain ⟨gq,oq,_,_,eq0,_⟩:=gP h (i:=0) (by omega);cases eq0;have HPR:=af h;have YB:=af hl;have vO:=af hr;rw [hl];clear h hl hr;go_enter Tryz.func92,Tryz.ntmps92;go_wp2_with (at_make;refine wpList_make_full _ rfl _ _ 69 rfl w.heap.size 78 i0 (.agg #[.int .i64 0,.slice none 0 0]) 2 Tryz.underlying69 hi0 hz0 hz1 .i64 .i64 _ _ (n+1) rfl rfl ?e1 ?e2 ?c1 ?c2 ?c3 ?_)
 case e1=>first | rfl | omega | simp
 case e2=>first | rfl | omega | simp
 case c1=>rw [hz2];omega
 case c2=>unfold maxLen;omega
 case c3=>first | omega | simp
 ·intro w1 hown hgrow;have hG1:ae w w1:=(n_ _ _).grown hgrow (d_ _) (by intro k hk;cases hk);have G7:Hid (bz P w1 w.heap.size (n+1) (λ_=>0)):=bz.made hown;have YC:=(uh G7).lt;have HG2:Hid (ae w (w1.alloc (.cells #[.slice none 0 0,.slice none 0 0,.slice (some ⟨w.heap.size,0,none⟩) (n+1) (n+1),.slice none 0 0] 134))):=hG1.trans (ae.alloc _ _);have HB2:=af (aG w1 (.cells #[.slice none 0 0,.slice none 0 0,.slice (some ⟨w.heap.size,0,none⟩) (n+1) (n+1),.slice none 0 0] 134));have HR2:=af ((uh G7).grow (ae.alloc w1 (.cells #[.slice none 0 0,.slice none 0 0,.slice (some ⟨w.heap.size,0,none⟩) (n+1) (n+1),.slice none 0 0] 134)));have hbw:w.heap.size<=w1.heap.size:=hG1.size;clear hown hgrow hG1 G7;go_wp2_with fail;generalize hW2:w1.alloc (.cells #[.slice none 0 0,.slice none 0 0,.slice (some ⟨w.heap.size,0,none⟩) (n+1) (n+1),.slice none 0 0] 134)=W2 at *
  generalize w1.heap.size=b at *
  clear hW2;have k2:W2.cell? ⟨b,2,none⟩=some (.slice (some ⟨w.heap.size,0,none⟩) (n+1) (n+1)):=by rw [cellsOf (uh HB2)];rfl
  have hn1:(0:Int)<(n:Int)+1:=by omega
  have y0:=b_ k2;clear k2;refine ah (bZ [(20,λv w=>aj P w v 1)]) (gL [(20,ag)]) 91 6 (by kernel_rfl) (by rfl) (by kernel_rfl) (aN (λ_ _ _=>aj.below) cK) ?_
  iterate 4 (refine aO λK hK=>?_;go_simp;refine hK _ ?_;clear hK K)
  refine ai ag 40 #[.int .i64 1] (by rfl) (by rfl) ag.some (λw=>by go_simp) (λwq hg hf=>(fM P 1 wq (λb' hb'=>hP b' (by have h1:=(uh HG2).size;have h2:=hg.size;omega)) (by decide) (by decide)).mono (by rintro e w' ⟨v',rfl,hv,hb⟩;exact ⟨_,rfl,hb,hv.aU,λt ht=>by cases ht;exact hv⟩)) ?_;rintro _ ⟨ox,oa,om,oc,rfl⟩
  (refine aO λK hK=>?_;go_simp;refine hK _ ?_;clear hK K)
  refine aF ?_;intro w3 hw3 aK;have hv3:aj P w3 (.agg #[.int .i64 ox,.slice oa om oc]) 1:=aK 4 _ 20 (by decide) rfl rfl;clear aK y0;have RU:=(uh HR2).grow hw3;obtain ⟨qx,qa,qm,qc,r0,r1,_,f0,f1⟩:=RU.get (i:=0) (by omega);rw [Nat.zero_mul] at r0 r1 f0 f1;rw [M_] at r1 f1;have hset:=(RU.set (i:=0) (by omega) hv3);rw [Nat.zero_mul,M_] at hset;have jb:Hid (ae w ((w3.setCell ⟨w.heap.size,0,none⟩ (.int .i64 ox)).setCell ⟨w.heap.size,1,none⟩ (.slice oa om oc))):=(B_ (p:=⟨w.heap.size,0,none⟩) (ae.trans (uh HG2) hw3) (d_ _) _).setCell (p:=⟨w.heap.size,1,none⟩) (d_ _) _;have hbne:b≠w.heap.size:=by omega
  have K7:Hid (Laid P w.heap.size ((w3.setCell ⟨w.heap.size,0,none⟩ (.int .i64 ox)).setCell ⟨w.heap.size,1,none⟩ (.slice oa om oc)) n 1 b (.slice none 0 0) (.slice none 0 0) (.slice none 0 0) 0 0 0 (λ_=>w.heap.size) (mD λi j=>(ls.getD i []).getD j 0)):=by
   refine ⟨(l_ _ _ _ _ hbne).trans ((l_ _ _ _ _ hbne).trans (Below.same hw3 _ _ (uh HB2))),⟨λr hr=>?_,λr s hr hs _=>by omega⟩,⟨rfl,.inl ⟨rfl,rfl⟩⟩,⟨rfl,.inl ⟨rfl,rfl⟩⟩,⟨rfl,.inl ⟨rfl,rfl⟩⟩,λg e=>by simp [Value.ownBlock] at e,λg e=>by simp [Value.ownBlock] at e,λg e=>by simp [Value.ownBlock] at e,⟨by omega,λr hr=>d_ _⟩,by omega,λa ha=>by omega,λa ha=>by omega,λa ha=>by omega⟩;have e:r=0:=by omega
   subst e;rw [h_ rfl];refine hset.congr λk _=>?_;unfold qi mD;rw [h_ rfl]
  clear hv3 hw3 RU hset;obtain ⟨W3,hW3⟩:∃ W,(w3.setCell ⟨w.heap.size,0,none⟩ (.int .i64 ox)).setCell ⟨w.heap.size,1,none⟩ (.slice oa om oc)=W:=⟨_,rfl⟩;rw [hW3] at jb K7;go_wp2_with fail
  try rw [hW3]
  clear hW3 r0 r1 f0 f1 HB2 HR2 HG2 YC;go_loopg [5] n (λk iv wr=>∃ (i:Nat) (sa:Option Addr) (sn sc:Nat) (ta:Option Addr) (tn tc:Nat) (oa:Option Addr) (on oc:Nat) (R:Nat->Nat),iv=.int .i64 i∧i+k=n∧Hid (Laid P w.heap.size wr n (3*i+1) b (.slice sa sn sc) (.slice ta tn tc) (.slice oa on oc) i i i R (mD λi j=>(ls.getD i []).getD j 0)∧Below w.heap.size w wr))
  case atStart=>exact ⟨0,none,0,0,none,0,0,none,0,0,_,rfl,by omega,uh K7,uh jb⟩
  case round =>
   clear K7 jb;rename Nat=>gi;rename World=>wi;obtain ⟨i,sa,sn,sc,ta,tn,tc,oa,on,oc,R,rfl,hik,HR⟩:=hrel;by_cases hin:i<n
   ·
    go_wp2_with (at_make;refine wpList_make_full _ rfl _ _ 69 rfl wi.heap.size 78 i0 (.agg #[.int .i64 0,.slice none 0 0]) 2 Tryz.underlying69 hi0 hz0 hz1 .i64 .i64 _ _ n rfl rfl ?e1 ?e2 ?c1 ?c2 ?c3 ?_)
    case e1=>first | rfl | omega | simp
    case e2=>first | rfl | omega | simp
    case c1=>rw [hz2];omega
    case c2=>unfold maxLen;omega
    case c3=>first | omega | simp
    ·intro w4 hown hgrow;have hG4:ae wi w4:=(n_ _ _).grown hgrow (d_ _) (by intro k hk;cases hk);have HR4:Hid (bz P w4 wi.heap.size n (λ_=>0)):=bz.made hown;have kC:=af hG4;have YD:w.heap.size<=wi.heap.size:=(uh HR).2.size;clear hown hgrow hG4;go_wp2_with fail;refine (fM P 1 w4 (λb' hb'=>hP b' (by have:=(uh kC).size;omega)) (by decide) (by decide)).mono ?_;rintro e w5 ⟨v5,rfl,hv5,pK⟩;obtain ⟨ox,ob,om,od,rfl⟩:=hv5.shape;have hR5:=(uh HR4).grow pK;obtain ⟨qx,qa,qm,qc,r0,r1,_,f0,f1⟩:=hR5.get hin;obtain ⟨W5,Bh⟩:∃ W,(w5.setCell ⟨wi.heap.size,i*2,none⟩ (.int .i64 ox)).setCell ⟨wi.heap.size,i*2+1,none⟩ (.slice ob om od)=W:=⟨_,rfl⟩;have Bj:Hid (bz P W5 wi.heap.size n (Pl.unit i)):=by
      unfold Hid;rw [<-Bh];exact (hR5.set hin hv5).congr (λk _=>by
       unfold qi Pl.unit;by_cases h:k=i
       ·rw [h_ h,h_ h.symm]
       ·rw [g_ h,g_ (λe=>h e.symm)])
     have gD:Hid (ae wi W5):=by
      unfold Hid;rw [<-Bh];exact (B_ (p:=⟨wi.heap.size,i*2,none⟩) (ae.trans (uh kC) pK) (d_ _) _).setCell (p:=⟨wi.heap.size,i*2+1,none⟩) (d_ _) _
     clear hv5 pK hR5 HR4 kC;go_wp2_with (at_make;refine wpList_make_full _ rfl _ _ 69 rfl W5.heap.size 78 i0 (.agg #[.int .i64 0,.slice none 0 0]) 2 Tryz.underlying69 hi0 hz0 hz1 .i64 .i64 _ _ n rfl rfl ?e1 ?e2 ?c1 ?c2 ?c3 ?_)
     case e1=>first | rfl | omega | simp
     case e2=>first | rfl | omega | simp
     case c1=>rw [hz2];omega
     case c2=>unfold maxLen;omega
     case c3=>first | omega | simp
     ·intro w6 hown hgrow;have hG6:ae W5 w6:=(n_ _ _).grown hgrow (d_ _) (by intro k hk;cases hk);have HR6:Hid (bz P w6 W5.heap.size n (λ_=>0)):=bz.made hown;have lT:=af hG6;clear hown hgrow hG6 Bh r0 r1 f0 f1;go_wp2_with fail;go_loopg [8] n (λk jv wr=>∃ (j:Nat),jv=.int .i64 j∧j+k=n∧Hid (bz P wr W5.heap.size n (λk=>if k<j then (ls.getD i []).getD k 0 else 0)∧ae W5 wr))
      case atStart=>exact ⟨0,rfl,by omega,(uh HR6).congr (λk _=>by rw [g_ (by omega)]),uh lT⟩
      case round =>
       clear HR6 lT;obtain ⟨j,rfl,hjk,HJ⟩:=hrel;have DW:Hid (Below w.heap.size w wr):=(uh HR).2.trans (aam ((uh gD).trans (uh HJ).2) YD);obtain ⟨gu,ou,_,uu,eu,u0,hu,hmem⟩:=gP ((uh HPR).below (uh DW)) (i:=i) (by rw [uh YB];exact hin);rw [uh YB] at eu;cases eu;have X6:=uh vO _ hmem;obtain ⟨ua,uc,rfl⟩:∃ ad cap,uu=.slice ad n cap:=by obtain ⟨ad,cap,e,_⟩:=hu;rw [X6] at e;exact ⟨ad,cap,e⟩
       have HU:=af hu;have I6:=af X6;clear hu hmem X6;by_cases hjn:j<n
       ·obtain ⟨gx,ox',cx,xx,xa,xm,xc,ex,x0,x1,hx⟩:=eU (uh HU) (i:=j) (by rw [uh I6];exact hjn);rw [uh I6] at ex;cases ex;obtain ⟨qx,qa,qm,qc,r0,r1,_,f0,f1⟩:=(uh HJ).1.get hjn;have HS:Hid (bz P ((wr.setCell ⟨W5.heap.size,j*2,none⟩ (.int .i64 xx)).setCell ⟨W5.heap.size,j*2+1,none⟩ (.slice xa xm xc)) W5.heap.size n (λk=>if k<j+1 then (ls.getD i []).getD k 0 else 0)):=((uh HJ).1.set hjn hx).congr (λk _=>by
         unfold qi
         try dsimp only
         by_cases h:k=j
         ·rw [h_ h,h_ (by omega),h]
         ·rw [g_ h];by_cases h2:k<j
          ·rw [h_ h2,h_ (by omega)]
          ·rw [g_ h2,g_ (by omega)])
        have YE:Hid (ae W5 ((wr.setCell ⟨W5.heap.size,j*2,none⟩ (.int .i64 xx)).setCell ⟨W5.heap.size,j*2+1,none⟩ (.slice xa xm xc))):=(B_ (p:=⟨W5.heap.size,j*2,none⟩) (uh HJ).2 (d_ _) _).setCell (p:=⟨W5.heap.size,j*2+1,none⟩) (d_ _) _;clear hx;go_wp2;go_roundg (gk - 1)
        case measure=>omega
        case rel=>exact ⟨j+1,by simp,by omega,uh HS,uh YE⟩
       ·have YF:j=n:=by omega
        have hGi:ae wi wr:=(uh gD).trans (uh HJ).2;have UQ:=af (uh DW);have hlt1:wi.heap.size<W5.heap.size:=(uh Bj).lt;have hRl:∀ r,r<3*i+1->R r<wi.heap.size:=λr hr=>((uh HR).1.oL.rows r hr).lt;obtain ⟨R1,hL1,e1,eR1⟩:=((uh HR).1.grow hGi).row ((uh Bj).grow (uh HJ).2) (λr hr=>by have:=hRl r hr;omega) (λk _=>Ha _ i k) YD;obtain ⟨R2,hL2,e2,eR2⟩:=hL1.row (g:=W5.heap.size) (fr:=λk=>(ls.getD i []).getD k 0) ((uh HJ).1.congr (λk hk=>by rw [h_ (by omega)])) (λr hr=>by
         rcases (show r<3*i+1∨r=3*i+1 by omega) with h|h
         ·rw [eR1 r h];have:=hRl r h;omega
         ·rw [h,e1];omega) (λk _=>Hd _ i k) (by omega)
        have e12:R2 (3*i+1)=wi.heap.size:=by rw [eR2 _ (by omega)];exact e1
        have e22:R2 (3*i+2)=W5.heap.size:=e2;have HE:=af (x_ e12 e22);have Sb:Hid (∀ r,r<3*i+3->R2 r<wr.heap.size):=λr hr=>(hL2.oL.rows r hr).lt;have oI:=af (hL2.grow (ae.alloc wr (.cells #[.slice (some ⟨wi.heap.size,0,none⟩) n n] 69)));have k0:wr.cell? ⟨b,0,none⟩=some (.slice sa sn sc):=by rw [cellsOf hL2.own];rfl
        have HWA:Hid (w.heap.size<=(wr.alloc (.cells #[.slice (some ⟨wi.heap.size,0,none⟩) n n] 69)).heap.size):=w_ (uh UQ).size (ae.alloc _ _).size;have AY:Hid (Below w.heap.size w (wr.alloc (.cells #[.slice (some ⟨wi.heap.size,0,none⟩) n n] 69))):=(uh UQ).trans (aam (ae.alloc _ _) (uh UQ).size);have HR:=af (uh HR);clear hL1 hL2 e1 e2 eR1 eR2 e12 e22 hRl hGi HJ DW HU I6;go_wp2_with (at_builtin;refine wpList_append_lies _ rfl _ _ 72 rfl w.heap.size 69 i1 (.slice none 0 0) 1 24 Tryz.underlying72 hi1 hy0 hy1 hy2 rfl (by decide) _ i ((List.range i).map λa=>Value.slice (some ⟨R2 (3*a+1),0,none⟩) n n) rfl (uh oI).s ⟨_,0,none⟩ 1 1 [.slice (some ⟨wi.heap.size,0,none⟩) n n] rfl rfl ?d1 (by simp [Value.oneCell']) (by decide) ?d2 ?d3 ?d4 _ rfl ?_)
        case d1=>exact λj u hu=>World.news_of_block (aax _ _) j u hu
        case d2=>unfold maxLen;omega
        case d3=>omega
        case d4=>exact uh HWA
        ·intro g8 Hf w8 hown hgrow hat acO;have hA:=(uh oI).acJ (by omega) hgrow (by rw [H_];exact hat) (by rw [(uh HE).1];exact hown);have Xj:=hA.2.2.trans (uh oI).own;have z0:w8.cell? ⟨b,0,none⟩=some (.slice sa sn sc):=by rw [cellsOf Xj];rfl
         have z1:w8.frozen? ⟨b,0,none⟩=false:=aH Xj 0;obtain ⟨W8,GK⟩:∃ W,w8.setCell ⟨b,0,none⟩ (.slice (some ⟨g8,0,none⟩) (i+1) Hf)=W:=⟨_,rfl⟩;rw [GK] at hA;have Xp:=af (hA.1.grow (ae.alloc W8 (.cells #[.slice (some ⟨W5.heap.size,0,none⟩) n n] 69)));have MH:=af ((uh AY).trans hA.2.1);have YG:w.heap.size<=W8.heap.size:=(uh MH).size;have k1:W8.cell? ⟨b,1,none⟩=some (.slice ta tn tc):=by rw [cellsOf hA.1.own];rfl
         have HWB:Hid (w.heap.size<=(W8.alloc (.cells #[.slice (some ⟨W5.heap.size,0,none⟩) n n] 69)).heap.size):=w_ YG (ae.alloc _ _).size;have HGB:Hid (Below w.heap.size w (W8.alloc (.cells #[.slice (some ⟨W5.heap.size,0,none⟩) n n] 69))):=(uh MH).trans (aam (ae.alloc _ _) YG);clear hown hgrow hat acO hA Xj k0;go_wp2_with (at_builtin;refine wpList_append_lies _ rfl _ _ 72 rfl w.heap.size 69 i1 (.slice none 0 0) 1 24 Tryz.underlying72 hi1 hy0 hy1 hy2 rfl (by decide) _ i ((List.range i).map λa=>Value.slice (some ⟨R2 (3*a+2),0,none⟩) n n) rfl (uh Xp).p ⟨_,0,none⟩ 1 1 [.slice (some ⟨W5.heap.size,0,none⟩) n n] rfl rfl ?d1 (by simp [Value.oneCell']) (by decide) ?d2 ?d3 ?d4 _ rfl ?_)
         case d1=>exact λj u hu=>World.news_of_block (aax _ _) j u hu
         case d2=>unfold maxLen;omega
         case d3=>omega
         case d4=>exact uh HWB
         ·intro g9 Sc w9 hown hgrow hat acP;have hA:=(uh Xp).acK (by omega) hgrow (by rw [H_];exact hat) (by rw [(uh HE).2];exact hown);have I7:=hA.2.2.trans (uh Xp).own;have z2:w9.cell? ⟨b,1,none⟩=some (.slice ta tn tc):=by rw [cellsOf I7];rfl
          have z3:w9.frozen? ⟨b,1,none⟩=false:=aH I7 1;obtain ⟨W9,X8⟩:∃ W,w9.setCell ⟨b,1,none⟩ (.slice (some ⟨g9,0,none⟩) (i+1) Sc)=W:=⟨_,rfl⟩;rw [X8] at hA;have Xq:=af ((uh HGB).trans hA.2.1);have YH:w.heap.size<=W9.heap.size:=(uh Xq).size;have k3:W9.cell? ⟨b,3,none⟩=some (.slice oa on oc):=by rw [cellsOf hA.1.own];rfl
          have YI:∀ r,r<3*i+1+1+1->R2 r<W9.heap.size:=λr hr=>(hA.1.oL.rows r hr).lt;have hgm:ae W9 (W9.alloc (.cells (madeCells #[.int .i64 0,.slice none 0 0] (n*2)) 78)):=ae.alloc _ _;obtain ⟨R3,hL3,e3,eR3⟩:=(hA.1.grow hgm).row (g:=W9.heap.size) (fr:=λ_=>0) (He W9 (by omega)) (λr hr=>by have:=YI r hr;omega) (λk _=>PI _ i k) YH;have HE3:Hid (R3 (3*i+3)=W9.heap.size):=e3;have PK:Hid (Laid P w.heap.size (((W9.alloc (.cells (madeCells #[.int .i64 0,.slice none 0 0] (n*2)) 78)).alloc (.cells #[.slice (some ⟨W9.heap.size,0,none⟩) n n] 69)).drew) n (3*i+1+1+1+1) b (.slice (some ⟨g8,0,none⟩) (i+1) Hf) (.slice (some ⟨g9,0,none⟩) (i+1) Sc) (.slice oa on oc) (i+1) (i+1) i R3 (mD λi j=>(ls.getD i []).getD j 0)):=hL3.grow (aaF (ae.alloc _ _));have HGX:Hid (Below w.heap.size w (((W9.alloc (.cells (madeCells #[.int .i64 0,.slice none 0 0] (n*2)) 78)).alloc (.cells #[.slice (some ⟨W9.heap.size,0,none⟩) n n] 69)).drew)):=(uh Xq).trans (aam (hgm.trans (aaF (ae.alloc _ _))) YH);have HWX:Hid (w.heap.size<=(((W9.alloc (.cells (madeCells #[.int .i64 0,.slice none 0 0] (n*2)) 78)).alloc (.cells #[.slice (some ⟨W9.heap.size,0,none⟩) n n] 69)).drew).heap.size):=(uh HGX).size;have hmk:∀ w',(Instr.makeSlice 69 (.int .i64 n) (.int .i64 n)).run Tryz.prog w'=.ok (.slice (some ⟨w'.heap.size,0,none⟩) n n) (w'.alloc (.cells (madeCells #[.int .i64 0,.slice none 0 0] (n*2)) 78)):=λw'=>by
           have h1:=run_make (P:=Tryz.prog) w' 69 78 i0 (.agg #[.int .i64 0,.slice none 0 0]) Tryz.underlying69 hi0 hz0 .i64 .i64 n n (by omega) (by omega) (by rw [hz2];omega) (by omega);rw [hz1,show ((n:Nat):Int).toNat=n by omega] at h1;exact h1
          have HNB:Hid ((((W9.alloc (.cells (madeCells #[.int .i64 0,.slice none 0 0] (n*2)) 78)).alloc (.cells #[.slice (some ⟨W9.heap.size,0,none⟩) n n] 69)).drew).heap[W9.heap.size+1]?=some (.cells #[.slice (some ⟨W9.heap.size,0,none⟩) n n] 69 (0,0))):=by
           have h1:=aG (W9.alloc (.cells (madeCells #[.int .i64 0,.slice none 0 0] (n*2)) 78)) (.cells #[.slice (some ⟨W9.heap.size,0,none⟩) n n] 69);rw [H_] at h1;exact h1
          have k4:=hgm.cell k3;have k5:=(hgm.trans (ae.alloc _ (.cells #[.slice (some ⟨W9.heap.size,0,none⟩) n n] 69))).cell k3;clear hown hgrow hat acP hA I7 hL3 e3 eR3 YI hgm;go_wp2_with fail
          try rw [X8]
          clear GK X8 z0 z1 z2 z3 k1
          go_region_law ((refine step_append_lies _ (by rfl) _ _ 72 (by rfl) w.heap.size 69 i1 (.slice none 0 0) 1 24 Tryz.underlying72 hi1 hy0 hy1 hy2 rfl (by decide) _ i ((List.range i).map λa=>Value.slice (some ⟨R3 (3*a+3),0,none⟩) n n) (by rfl) (uh PK).o ⟨W9.heap.size+1,0,none⟩ 1 1 [.slice (some ⟨W9.heap.size,0,none⟩) n n] (by rfl) rfl (λj u hu=>World.news_of_block (uh HNB) j u hu) (by simp [Value.oneCell']) (by decide) (by unfold maxLen;omega) (by omega) (uh HWX) _ rfl ?_;intro g10 agt zt hown hgrow hat YJ;have YK:=((uh PK).Yz (by omega) hgrow (by simpa using hat) (by rw [uh HE3];exact hown)).2.2.trans (uh PK).own;have z4:zt.cell? ⟨b,3,none⟩=some (.slice oa on oc):=(by rw [cellsOf YK];rfl);have z5:zt.frozen? ⟨b,3,none⟩=false:=aH YK 3))
          all_goals
           have HA:=af ((uh PK).Yz (by omega) hgrow (by simpa using hat) (by rw [uh HE3];exact hown));clear hown hgrow hat YJ;go_wp2;go_roundg (gi - 1)
           case measure=>omega
           case rel=>exact ⟨i+1,_,_,_,_,_,_,_,_,_,R3,by simp,by omega,(uh HA).1,(uh HGX).trans (uh HA).2.1⟩
   ·have hin':i=n:=by omega
    have HD:Hid (∃ gs gp go cs cp co,bf P w.heap.size wi n b gs gp go cs cp co (A7 n R) (λa=>mD (λi j=>(ls.getD i []).getD j 0) (3*a+1)) (λa=>mD (λi j=>(ls.getD i []).getD j 0) (3*a+2)) (λa=>mD (λi j=>(ls.getD i []).getD j 0) (3*a+3)) (mD (λi j=>(ls.getD i []).getD j 0) 0)):=by
     have h1:=(uh HR).1;rw [hin'] at h1;exact h1.done hn0
    go_wp2;go_ret;obtain ⟨gs,gp,go,cs,cp,co,hD⟩:=uh HD;exact ⟨b,gs,gp,go,cs,cp,co,_,_,_,rfl,hD.congr (λa k _ _=>Ha _ a k) (λa k _ _=>Hd _ a k) (λ_ _ _ _=>rfl) (λ_ _=>rfl),(uh HR).2,rfl⟩
end
theorem JQ {G:Nat->Nat->Int} (h:∀ i j,G i j=G j i) {k j:Nat} (t:Int) (a b:Nat):Pl.dK G k j t a b=Pl.dK G k j t b a:=by
 by_cases ha:a=k <;> by_cases hb:b=k
 ·rw [ha,hb]
 ·rw [ha,Pl.fA G t hb,Pl.iy G t hb,h k b,h j b]
 ·rw [hb,Pl.fA G t ha,Pl.iy G t ha,h k a,h j a]
 ·rw [Pl.ed G t ha hb,Pl.ed G t hb ha,h a b]
structure Om (n:Nat) (Q St G:Nat->Nat->Int):Prop where
 N9:Pl.Ei n St
 Sd:Pl.xG n Q St G
 symm:∀ i j,G i j=G j i
section
variable {n:Nat} {Q St G Ov:Nat->Nat->Int} {V:Nat->Int} {k j:Nat} {T D t:Int} {L:Nat}
theorem Om.Cw (h:Om n Q St G) (hQ:Pl.gN n Q):Pl.gN n G:=Pl.M0 hQ h.N9 h.Sd
theorem Om.start (hS:∀ i j,Q i j=Q j i):Om n Q Pl.unit Q:=⟨Pl.Hg n,Pl.Et n Q,hS⟩
theorem Om.short (h:Om n Q St G) (hk:k<n) (hj:j<n) (hjk:j≠k) (t:Int):Om n Q (Pl.bE St k j t) (Pl.dK G k j t):=⟨Pl.Eu h.N9 hk hj hjk t,Pl.JR h.Sd hk hj t,JQ h.symm t⟩
theorem Om.ex (h:Om n Q St G) (hk0:0<k) (hk:k<n):Om n Q (λa=>St (Pl.sw k a)) (Pl.zw G k):=⟨Pl.VG h.N9 hk0 hk,Pl.Sg h.Sd hk,λi j=>h.symm _ _⟩
theorem En {K:Nat} {a B:Int} (h1:-B<=a) (h2:a<=B) (hB:B<1073741824^K):Pl.Lt K a:=by
 unfold Pl.Lt;omega
theorem Co {K:Nat} {a:Int} (h:Pl.Lt K a):-(1073741824^K:Int)<=a∧a<=1073741824^K:=by
 unfold Pl.Lt at h;omega
theorem jV (K:Nat):(1:Int)<=1073741824^K:=by
 have h1:0<1073741824^K:=aa6 (by decide);have h2:((1073741824^K:Nat):Int)=(1073741824:Int)^K:=by rw [Int.natCast_pow];rfl
 omega
theorem VH {n:Nat} (hn:n<=9):(Pl.KU (n+1):Int)<=1073741823:=by
 rcases (show n=0∨n=1∨n=2∨n=3∨n=4∨n=5∨n=6∨n=7∨n=8∨n=9 by omega) with h|h|h|h|h|h|h|h|h|h <;> subst h <;> decide
theorem xq {n L:Nat} (hn:n<=9):Pl.KU (n+1)*((1073741824:Int)^L)^(n+1)<1073741824^((n+1)*L+1):=by
 rw [<-Int.pow_mul,abL L,aaC];have h1:=jV ((n+1)*L);have h2:=VH hn;rw [u_];exact Int.mul_lt_mul_of_pos_left (by omega) (by omega)
theorem Cx (hP:Pl.gN n G) (hG:∀ a b,a<n->b<n->Pl.Lt L (G a b)) {l:Nat} (hl:l<=n):Pl.Small (Pl.mQ G) n (Pl.dD n G l) (1073741824^L):=by
 have key:∀ x:Int,((∃ i:Nat,i<n∧x=i)∨∃ i:Nat,i<n∧x=-1 - (i:Int))->∀ k,k<n+1->-(1073741824^L:Int)<=Pl.mQ G x k∧Pl.mQ G x k<=1073741824^L:=by
  intro x hx k hk;have h1:=jV L;rcases hx with ⟨i,hi,rfl⟩|⟨i,hi,rfl⟩
  ·unfold Pl.mQ;rw [h_ (by omega)]
   split
   ·omega
   ·exact Co (hG _ _ (by omega) (by omega))
  ·rw [Pl.rU];unfold Pl.unit
   split <;> omega
 have hlen:=(Pl.jC n G l).1;refine ⟨jV L,λc hc k hk=>key _ ?_ k hk,λr hr k hk=>key _ ?_ k hk⟩
 ·rw [(Pl.fw n G l hl c hc).2]
  split
  ·exact .inl ⟨c,hc,rfl⟩
  ·exact .inr ⟨c,hc,rfl⟩
 ·have hr':r<n:=by omega
  rw [(Pl.fw n G l hl r hr').1]
  split
  ·exact .inr ⟨r,hr',rfl⟩
  ·exact .inl ⟨r,hr',rfl⟩
theorem Ev (hP:Pl.gN n G) (hG:∀ a b,a<n->b<n->Pl.Lt L (G a b)) (hn:n<=9) {l i j:Nat} (hl:l<=n) (hi:i<n) (hj:j<n):Pl.Lt ((n+1)*L+1) (Pl.gm n G l i j):=by
 have hlen:=(Pl.jC n G l).1;obtain ⟨h1,h2⟩:=(Pl.qM hP l hl).1.KZ (Cx hP hG hl) (r:=i) (by omega) (j:=j+1) (by omega);exact En h1 h2 (xq hn)
theorem FK (hP:Pl.gN n G) (hG:∀ a b,a<n->b<n->Pl.Lt L (G a b)) (hn:n<=9) {l:Nat} (hl:l<=n):Pl.Lt ((n+1)*L+1) (Pl.gI n G l):=by
 have h1:=(Pl.qM hP l hl).1.GN (Cx hP hG hl);have h2:=Pl.kI hP hl;have h3:=xq (n:=n) (L:=L) hn;unfold Pl.gI at *
 exact En (by omega) (aaU _) (by omega)
theorem Hl {o v:Int} (hv:0<v) (ho:Pl.Lt L o):Pl.Lt (L+1) (Int.fdiv (o+o+v) (v+v)):=by
 have h1:=Pl.Ew (lam:=o) hv;generalize Int.fdiv (o+o+v) (v+v)=t at *
 have hm:-(o.natAbs+1:Int)<=t∧t<=o.natAbs+1:=by
  constructor
  ·apply v_;intro hc;have:v*t<=v*(-(o.natAbs:Int) - 2):=o_ (by omega) (by omega);have e:v*(-(o.natAbs:Int) - 2)=-(v*o.natAbs) - v*2:=by rw [aaI,abC]
   have h4:1*(o.natAbs:Int)<=v*o.natAbs:=A_ (by omega) (by omega);rw [u_ t v] at h1;omega
  ·apply v_;intro hc;have:v*((o.natAbs:Int)+2)<=v*t:=o_ (by omega) (by omega);have e:v*((o.natAbs:Int)+2)=v*o.natAbs+v*2:=by rw [Q_]
   have h4:1*(o.natAbs:Int)<=v*o.natAbs:=A_ (by omega) (by omega);rw [u_ t v] at h1;omega
 unfold Pl.Lt at *
 rw [aaC];have:=jV L;omega
structure Ua (n:Nat) (Q:Nat->Nat->Int) (k j:Nat) (St G Ov:Nat->Nat->Int) (V:Nat->Int) (T D:Int) (L:Nat):Prop where
 red:Om n Q St G
 gI:∀ l,l<=n->V l=Pl.gI n G l
 ov:∀ i l,l<i->i<n->Ov i l=Pl.gm n G l i l
 done:∀ l,j<=l->l<k->-Pl.gI n G (l+1)<=2*Pl.gm n G l k l∧2*Pl.gm n G l k l<=Pl.gI n G (l+1)
 diag:∀ i,i<n->i≠k->G i i<=T
 JS:∀ l,l<=n->Pl.gI n G l<=D
 Rn:∀ a b,a<n->b<n->Pl.Lt L (St a b)
 lg:∀ a b,a<n->b<n->Pl.Lt L (G a b)
theorem Ua.step (hQ:Pl.gN n Q) (h:Ua n Q k (j+1) St G Ov V T D L) (hjk:j<k) (hk:k<n) (hn:n<=9) (ht:Int.fdiv (Ov k j+Ov k j+V (j+1)) (V (j+1)+V (j+1))=t):Ua n Q k j (Pl.bE St k j t) (Pl.dK G k j t) (xD Ov k j t (V (j+1))) V T D ((3*n+3)*L+9):=by
 have hP:=h.red.Cw hQ;have hj:j<n:=by omega
 have hr:=h.red.short hk hj (by omega) t;have hP':=hr.Cw hQ;have gs:=Pl.Hm hP hP' hjk hk;have hv:V (j+1)=Pl.gI n G (j+1):=h.gI _ (by omega);have hvp:=Pl.kI hP (show j+1<=n by omega);have Yv:Pl.Lt ((n+1)*L+1) (Ov k j):=by rw [h.ov k j hjk hk];exact Ev hP h.lg hn (by omega) hk hj
 have lt:Pl.Lt ((n+1)*L+2) t:=by rw [<-ht,hv];exact Hl hvp Yv
 have Fe:L<=(n+1)*L:=by rw [aa_,abA];omega
 have e33:(3*n+3)*L=3*((n+1)*L):=by rw [<-Nat.mul_assoc];congr 1
 have JP:∀ a b,a<n->b<n->Pl.Lt ((n+1)*L+2+L+1) (Pl.bE G k j t a b):=λa b ha hb=>by
  unfold Pl.bE
  split
  ·exact ((h.lg k b hk hb).mono (by omega)).sub (lt.mul (h.lg j b hj hb))
  ·exact (h.lg a b ha hb).mono (by omega)
 refine ⟨hr,λl hl=>?_,λi l hl hi=>?_,λl h1 h2=>?_,λi hi hik=>?_,λl hl=>?_,λa b ha hb=>?_,λa b ha hb=>?_⟩
 ·rw [(gs l hl).2.2];exact h.gI l hl
 ·unfold xD lK gK;by_cases hik:i=k
  ·subst hik;rcases (show l<j∨l=j∨j<l by omega) with h1|h1|h1
   ·rw [g_ (by omega),h_ ⟨rfl,h1⟩,(gs l (by omega)).1 (by omega) i l (by omega) (d_ _) hi (by omega),Pl.fA _ t (by omega),h.ov i l hl hi,h.ov j l h1 hj]
   ·subst h1;rw [h_ ⟨rfl,rfl⟩,(gs l (by omega)).1 (d_ _) i l (by omega) (d_ _) hi (by omega),Pl.fA _ t (by omega),h.ov i l hl hi,hv,Pl.fq hP hj]
   ·rw [g_ (by omega),g_ (by omega),(gs l (by omega)).2.1 h1 i l (by omega) (d_ _) hi (by omega),h.ov i l hl hi]
  ·rw [g_ (by omega),g_ (by omega),h.ov i l hl hi];by_cases h1:l<=j
   ·rw [(gs l (by omega)).1 h1 i l (by omega) (d_ _) hi (by omega),Pl.ed _ t hik (by omega)]
   ·rw [(gs l (by omega)).2.1 (by omega) i l (by omega) (d_ _) hi (by omega)]
 ·rw [(gs (l+1) (by omega)).2.2];rcases (show l=j∨j<l by omega) with h3|h3
  ·subst h3;rw [(gs l (by omega)).1 (d_ _) k l (by omega) (d_ _) hk (by omega),Pl.fA _ t (by omega),<-Pl.fq hP hj,<-ht,h.ov k l hjk hk,hv];exact Pl.Ew hvp
  ·rw [(gs l (by omega)).2.1 h3 k l (by omega) (d_ _) hk (by omega)];exact h.done l (by omega) h2
 ·rw [Pl.ed G t hik hik];exact h.diag i hi hik
 ·rw [(gs l hl).2.2];exact h.JS l hl
 ·unfold Pl.bE
  split
  ·exact (((h.Rn k b hk hb).mono (show L<=(n+1)*L+2+L by omega)).sub (lt.mul (h.Rn j b hj hb))).mono (by omega)
  ·exact (h.Rn a b ha hb).mono (by omega)
 ·unfold Pl.dK;show Pl.Lt _ (if b=k then Pl.bE G k j t a k - t*Pl.bE G k j t a j else Pl.bE G k j t a b)
  split
  ·exact (((JP a k ha hk).mono (show _<=(n+1)*L+2+((n+1)*L+2+L+1) by omega)).sub (lt.mul (JP a j ha hj))).mono (by omega)
  ·exact (JP a b ha hb).mono (by omega)
structure Out (n:Nat) (Q St G:Nat->Nat->Int) (T D:Int):Prop where
 red:Om n Q St G
 JS:∀ l,l<=n->Pl.gI n G l<=D
 diag:∀ i,i<n->G i i<=T
theorem Ua.out (hQ:Pl.gN n Q) (h:Ua n Q k 0 St G Ov V T D L) (hk:k<n) (hT:((n+4:Nat):Int)*D<=4*T) (hD:0<=D):Out n Q St G T D:=by
 refine ⟨h.red,h.JS,λi hi=>?_⟩;by_cases e:i=k
 ·subst e;have h1:=Pl.JU (h.red.Cw hQ) h.red.symm h.JS hi (λl hl=>h.done l (aaZ _) hl);have h2:((i+4:Nat):Int)*D<=((n+4:Nat):Int)*D:=A_ (by omega) hD;omega
 ·exact h.diag i hi e
theorem Out.ex (hQ:Pl.gN n Q) (h:Out n Q St G T D) (hk0:0<k) (hk:k<n) (hless:Pl.gI n (Pl.zw G k) k<Pl.gI n G k):Out n Q (λa=>St (Pl.sw k a)) (Pl.zw G k) T D∧Pl.sm (n+1) (Pl.gI n (Pl.zw G k))<Pl.sm (n+1) (Pl.gI n G):=by
 have hr:=h.red.ex hk0 hk;have hP:=h.red.Cw hQ;have hP':=hr.Cw hQ;have key:∀ l,l<=n->l≠k->Pl.gI n (Pl.zw G k) l=Pl.gI n G l:=λl hl hlk=>by
  rcases (show l<=k - 1∨k+1<=l by omega) with h1|h1
  ·exact (Pl.rV hP hP' hk0 hk l h1).2
  ·have:=(Pl.Cy hP hP' hk0 hk (l - (k+1)) (by omega)).2;rwa [show k+1+(l - (k+1))=l by omega] at this
 refine ⟨⟨hr,λl hl=>?_,λi hi=>h.diag _ (Pl.Ao hk hi)⟩,?_⟩
 ·by_cases e:l=k
  ·rw [e];have:=h.JS k (by omega);omega
  ·rw [key l hl e];exact h.JS l hl
 ·rw [Pl.fK k (show k<n+1 by omega),Pl.fK (f:=Pl.gI n G) k (show k<n+1 by omega)];have:Pl.sm (n+1) (λi=>if i=k then 0 else Pl.gI n (Pl.zw G k) i)=Pl.sm (n+1) (λi=>if i=k then 0 else Pl.gI n G i):=Pl.aC λi hi=>by
   split
   ·rfl
   ·rename_i e;exact key i (by omega) e
  omega
def oV (n LQ:Nat):Nat:=(n+1)*LQ+1
def zG (n LQ:Nat):Nat:=2*oV n LQ+3
theorem Out.start {LQ:Nat} (hQ:Pl.gN n Q) (hS:∀ i j,Q i j=Q j i) (hn:n<=9) (hl:∀ a b,a<n->b<n->Pl.Lt LQ (Q a b)):Out n Q Pl.unit Q (1073741824^(oV n LQ+1)) (1073741824^oV n LQ):=by
 refine ⟨.start hS,λl hl'=>(Co (FK hQ hl hn hl')).2,λi hi=>?_⟩;refine (Co ((hl i i hi hi).mono ?_)).2;unfold oV;have:LQ<=(n+1)*LQ:=by rw [aa_,abA];omega
 omega
theorem Si (K:Nat):(1073741824:Int)^K<1073741824^(K+1):=by
 rw [aaC];have:=jV K;omega
theorem Out.lg {LQ:Nat} (hQ:Pl.gN n Q) (h:Out n Q St G (1073741824^(oV n LQ+1)) D) (a b:Nat) (ha:a<n) (hb:b<n):Pl.Lt (zG n LQ) (G a b):=by
 have h1:=Pl.PL (h.red.Cw hQ) h.red.symm ha hb;have h2:=h.diag a ha;have h3:=h.diag b hb;have h4:=Si (oV n LQ+1);exact (En (K:=oV n LQ+1+1) (B:=1073741824^(oV n LQ+1)) (by omega) (by omega) h4).mono (by unfold zG;omega)
theorem Out.Rn {LQ:Nat} (hQ:Pl.gN n Q) (hS:∀ i j,Q i j=Q j i) (hn:n<=9) (hl:∀ a b,a<n->b<n->Pl.Lt LQ (Q a b)) (h:Out n Q St G (1073741824^(oV n LQ+1)) D) (a b:Nat) (ha:a<n) (hb:b<n):Pl.Lt (zG n LQ) (St a b):=by
 have h1:=Pl.Sk hQ hS (D:=1073741824^oV n LQ) (T:=1073741824^(oV n LQ+1)) (λi j hi hj=>Co (Ev hQ hl hn (d_ _) hi hj)) (x:=St a) (by rw [<-h.red.Sd a a ha ha];exact h.diag a ha) (λc hc=>(Co ((hl c c hc hc).mono (by
  unfold oV;have:LQ<=(n+1)*LQ:=by rw [aa_,abA];omega
  omega))).2) hb
 have e:(1073741824:Int)^oV n LQ*1073741824^(oV n LQ+1)=1073741824^(2*oV n LQ+1):=by rw [<-Int.pow_add];congr 1;omega
 rw [e] at h1;refine (En (K:=2*oV n LQ+2) h1.1 h1.2 ?_).mono (by unfold zG;omega);rw [aaC _ (2*oV n LQ+1),u_];have:=jV (2*oV n LQ+1);exact Int.mul_lt_mul_of_pos_left (by omega) (by omega)
def wH (n L:Nat):Nat->Nat
 | 0=>L
 | m+1=>(3*n+3)*wH n L m+9
theorem M3 (n L:Nat) {m m':Nat} (h:m<=m'):wH n L m<=wH n L m':=by
 induction h with
 | refl=>exact d_ _
 | step _ ih =>
  refine w_ ih ?_;show _<=(3*n+3)*_+9;rw [aa_];omega
end
end Go.Proofs.YtgaafamcajcifaaGreat
