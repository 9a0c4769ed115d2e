/- Joined: XLat9 XLat10. -/
import Derived.Test.YtgaafamcajcifaaGreatK25
set_option linter.unusedVariables false
set_option linter.unusedSimpArgs false
set_option maxRecDepth 100000
namespace Go.Proofs.YtgaafamcajcifaaGreat
open Go.RowKit Go.Sort
def uw (n:Nat) (G Ov:Nat->Nat->Int) (i j a b:Nat):Int:=if a<i∧b<a∨a=i∧b<j∧b<a then Pl.gm n G b a b else Ov a b
def yP (n:Nat) (G:Nat->Nat->Int) (V:Nat->Int) (i l:Nat):Int:=if l<=i then Pl.gI n G l else V l
theorem Cz {n:Nat} {G Ov:Nat->Nat->Int} {i j a b:Nat} (h:a<i∧b<a∨a=i∧b<j∧b<a):uw n G Ov i j a b=Pl.gm n G b a b:=h_ h
theorem CB {n:Nat} {G:Nat->Nat->Int} {V:Nat->Int} {i l:Nat} (h:l<=i):yP n G V i l=Pl.gI n G l:=h_ h
theorem M5 {n:Nat} {G Ov:Nat->Nat->Int} {i j:Nat} (hj:j<i) (a b:Nat):lK (uw n G Ov i j) i j (Pl.gm n G j i j) a b=uw n G Ov i (j+1) a b:=by
 unfold lK uw;by_cases h1:a=i∧b=j
 ·rw [h_ h1,h_ (by omega),h1.1,h1.2]
 ·rw [g_ h1];by_cases h2:a<i∧b<a∨a=i∧b<j∧b<a
  ·rw [h_ h2,h_ (by omega)]
  ·rw [g_ h2,g_ (by omega)]
theorem xH {n:Nat} {G Ov:Nat->Nat->Int} {i j:Nat} (hj:i<=j) (a b:Nat):uw n G Ov i j a b=uw n G Ov (i+1) 0 a b:=by
 unfold uw;by_cases h2:a<i∧b<a∨a=i∧b<j∧b<a
 ·rw [h_ h2,h_ (by omega)]
 ·rw [g_ h2,g_ (by omega)]
theorem M6 {n:Nat} {G:Nat->Nat->Int} {V:Nat->Int} (hP:Pl.gN n G) {i:Nat} (hi:i<n) (l:Nat):qi (yP n G V i) (i+1) (Pl.gm n G i i i) l=yP n G V (i+1) l:=by
 unfold qi yP;by_cases h:l=i+1
 ·rw [h_ h,h_ (by omega),h,Pl.fq hP hi]
 ·rw [g_ h];by_cases h2:l<=i
  ·rw [h_ h2,h_ (by omega)]
  ·rw [g_ h2,g_ (by omega)]
section
attribute [local go_sem] bD
set_option maxHeartbeats 2000000 in
theorem Ho (P:Nat->Prop) (B K n b gs gp go cs cp co:Nat) (R:Nat->Nat) (St G Ov:Nat->Nat->Int) (V:Nat->Int) (w:World) (hP:∀ b,w.heap.size<=b->P b) (h:bf P B w n b gs gp go cs cp co R St G Ov V) (hn0:0<n) (hn:n<=100) (hpos:Pl.gN n G) (YS:∀ i j,G i j=G j i) (hV:V 0=1) (hlt:∀ l i j,l<=n->i<n->j<n->Pl.Lt K (Pl.gm n G l i j)) (hvl:∀ l,l<=n->Pl.Lt K (Pl.gI n G l)) (hK:2*K+1<=1500000000000) :
  Calls Tryz.prog 93 #[.pointer (some ⟨b,0,none⟩)] w λe w'=>∃ (Bq:Nat->Nat->Int) (V':Nat->Int),e=.returned (.tuple #[])∧bf P B w' n b gs gp go cs cp co R St G Bq V'∧Below B w w'∧(∀ i l,l<i->i<n->Bq i l=Pl.gm n G l i l)∧∀ l,l<=n->V' l=Pl.gI n G l:=by
 have HM:=af h;have HPS:=af hpos;have HSY:=af YS;have zO:=af hV;have lC:=af hlt;have HVL:=af hvl;clear h hpos YS hV hlt hvl;go_enter Tryz.func93,Tryz.ntmps93;go_wp2_with fail;go_loopg [2] n (λk iv wr=>∃ (i:Nat),iv=.int .i64 i∧i+k=n∧Hid (bf P B wr n b gs gp go cs cp co R St G (uw n G Ov i 0) (yP n G V i)∧Below B w wr))
 case atStart =>
  refine ⟨0,rfl,by omega,(uh HM).congr (λ_ _ _ _=>rfl) (λ_ _ _ _=>rfl) (λr i _ _=>?_) (λi _=>?_),n_ _ _⟩
  ·unfold uw;rw [g_ (by omega)]
  ·unfold yP;by_cases h:i<=0
   ·rw [h_ h,show i=0 by omega,uh zO,Pl.Ct]
   ·rw [g_ h]
 case round =>
  rename Nat=>gi;rename World=>wi;obtain ⟨i,rfl,hik,HR⟩:=hrel;obtain ⟨k0,k1,k2,k3⟩:=(uh HR).1.cells;by_cases hin:i<n
  ·go_wp2_with fail;go_loopg [3] (i+1) (λk jv wr=>∃ (j:Nat),jv=.int .i64 j∧j+k=i+1∧Hid (bf P B wr n b gs gp go cs cp co R St G (uw n G Ov i j) (yP n G V (if j=i+1 then i+1 else i))∧Below B w wr))
   case atStart=>exact ⟨0,rfl,by omega,by rw [g_ (by omega)];exact (uh HR).1,(uh HR).2⟩
   case round =>
    rename Nat=>gj;rename World=>wo;obtain ⟨j,rfl,hjk,HJ⟩:=hrel;clear k0 k1 k2 k3;by_cases hji:j<=i
    ·have hjv:(if j=i+1 then i+1 else i)=i:=g_ (by omega);rw [hjv] at HJ;obtain ⟨k0,k1,k2,k3⟩:=(uh HJ).1.cells;obtain ⟨e0,ux,ua,um,uc,e1,e2,hu⟩:=(uh HJ).1.DV (r:=i) (i:=j) hin (by omega);have hjn:j<n:=by omega
     rw [<-Pl.pg (G:=G) hin hjn] at hu;have YT:=af (dC hu);have gD:=af (ae.alloc wo (.cells #[.int .i64 ux,.slice ua um uc] 78));have hsz:w.heap.size<=wo.heap.size:=(uh HJ).2.size;have HSB:Hid (B<=wo.heap.size):=by have h1:=(uh HJ).1.base.1;have h2:=z_ (uh HJ).1.own;unfold Hid;omega
     clear hu;go_wp2_with fail;go_loopg [5] j (λk lv wr=>∃ (l:Nat) (ux:Int) (ua:Option Addr) (um uc:Nat),lv=.int .i64 l∧l+k=j∧Hid (ae wo wr∧bB P wr wo.heap.size ux ua um uc (Pl.gm n G l i j)))
     case atStart=>exact ⟨0,ux,ua,um,uc,rfl,by omega,uh gD,uh YT⟩
     case round =>
      clear YT gD k0 k1 k2 k3 e0 e1 e2;obtain ⟨l,ux,ua,um,uc,rfl,hlk,HL⟩:=hrel;have G9:=af ((uh HJ).1.grow (uh HL).1);have jy:Hid (w.heap.size<=wr.heap.size):=w_ hsz (uh HL).1.size;obtain ⟨k0,k1,k2,k3⟩:=(uh G9).cells;by_cases hlj:l<j
      ·have hln:l<n:=by omega
       have hwl:IntKind.i64.wrap ((l:Int)+1)=(l:Int)+1:=by rw [aaA];omega
       have htl:((l:Int)+1).toNat=l+1:=by omega
       have hll:(l:Int)+1<(n:Int)+1:=by omega
       have hl0:0<=(l:Int)+1:=by omega
       have aki:(l:Int)<(n:Int)+1:=by omega
       obtain ⟨o0,px,pa,pm,pc,p0,p1,hp⟩:=(uh G9).GY (r:=i) (i:=l) hin hln;rw [Cz (by omega)] at hp;obtain ⟨o1,qx,qa,qm,qc,q0,q1,hq⟩:=(uh G9).GY (r:=j) (i:=l) hjn hln;rw [Cz (by omega)] at hq;have HP:=af hp;have HQ:=af hq;clear hp hq k0 k1 k2;go_wp2_with fail;have y0:=b_ k3;have y1:=b_ o0;have y2:=b_ p0;have y3:=b_ p1;have y4:=b_ o1;have y5:=b_ q0;have y6:=b_ q1;clear k3 o0 p0 p1 o1 q0 q1;refine ah (bZ [(56,λv w=>aj P w v (Pl.gm n G l i l*Pl.gm n G l j l)),(6,bg wr)]) (gL [(56,ag),(6,bL)]) 99 22 (by kernel_rfl) (by rfl) (by kernel_rfl) (aN (λ_ _ _=>aj.below) (aN (λ_ _ _=>bg.grow) cK)) ?_
       iterate 20 (refine aO λK hK=>?_;go_simp;refine hK _ ?_;clear hK K)
       refine ai ag 58 #[.agg #[.int .i64 px,.slice pa pm pc],.agg #[.int .i64 qx,.slice qa qm qc]] (by rfl) (by rfl) ag.some (λw=>by go_simp) (λwq hg hf=>(eD P K (Pl.gm n G l i l) (Pl.gm n G l j l) _ _ wq (λb' hb'=>hP b' (by have h1:=uh jy;have h2:=hg.size;omega)) ((uh HP).below hg) ((uh HQ).below hg) (by omega) (uh lC l i l (by omega) (by omega) (by omega)) (uh lC l j l (by omega) (by omega) (by omega))).mono (by rintro e w' ⟨v',rfl,hv,hb⟩;exact ⟨_,rfl,hb,hv.aU,λt ht=>by cases ht;exact hv⟩)) ?_;rintro _ ⟨mx,ma,mm,mc,rfl⟩;refine eO bL (by rfl) (by rfl) bL.some (λwq hg hf=>⟨.pointer (some ⟨wq.heap.size,0,none⟩),wq.alloc (.cells #[.int .i64 0,.slice none 0 0] 78),by go_simp,ae.alloc _ _,⟨_,rfl⟩,λt ht=>by cases ht;exact bg.new hg⟩) ?_;rintro _ ⟨g6,rfl⟩;refine aF ?_;intro w6 uB aK;have hv6:aj P w6 (.agg #[.int .i64 mx,.slice ma mm mc]) (Pl.gm n G l i l*Pl.gm n G l j l):=aK 20 _ 56 (by decide) rfl rfl;obtain ⟨g6',e6,f6⟩:bg wr (.pointer (some ⟨g6,0,none⟩)) w6:=aK 21 _ 6 (by decide) rfl rfl;cases e6;clear aK y0 y1 y2 y3 y4 y5 y6;obtain ⟨z0,z1,z2,z3⟩:=fT f6.2;have hst:=bH (P:=P) uB f6.1 f6.2 hv6;obtain ⟨W6,J2⟩:∃ W6,(w6.setCell ⟨g6,0,none⟩ (.int .i64 mx)).setCell ⟨g6,1,none⟩ (.slice ma mm mc)=W6:=⟨_,rfl⟩;have wI:Hid (bB P W6 g6 mx ma mm mc (Pl.gm n G l i l*Pl.gm n G l j l)):=by unfold Hid;rw [<-J2];exact hst.1
       have lT:Hid (ae wr W6):=by unfold Hid;rw [<-J2];exact hst.2
       clear hst hv6 f6 uB;go_wp2_with fail
       try rw [J2]
       clear J2 z0 z1 z2 z3;have HU7:=af ((uh HL).2.grow (uh lT));have Du:Hid (ae wo W6):=(uh HL).1.trans (uh lT);have wU:Hid (w.heap.size<=W6.heap.size):=w_ (uh jy) (uh lT).size;have HL7:=af ((uh G9).grow (uh lT));obtain ⟨vx,va,vm,vc,v0,v1,hv⟩:=(uh HL7).JO (i:=l+1) (by omega);rw [CB (by omega)] at hv;have Sn:=af hv;have k2:=(uh HL7).cells.2.2.1;have u0:=(uh HU7).cells.1;have u1:=(uh HU7).cells.2.1;have m0:=(uh wI).cells.1;have m1:=(uh wI).cells.2.1;clear hv;go_wp2_with fail;have y0:=b_ k2;have y1:=b_ v0;have y2:=b_ v1;have y3:=b_ u0;have y4:=b_ u1;have y5:=b_ m0;have y6:=b_ m1;clear k2 v0 v1 u0 u1 m0 m1;refine ah (bZ [(66,λv w=>aj P w v (Pl.gI n G (l+1)*Pl.gm n G l i j)),(68,λv w=>aj P w v (Pl.gI n G (l+1)*Pl.gm n G l i j - Pl.gm n G l i l*Pl.gm n G l j l))]) (gL [(66,ag),(68,ag)]) 99 12 (by kernel_rfl) (by rfl) (by kernel_rfl) (aN (λ_ _ _=>aj.below) (aN (λ_ _ _=>aj.below) cK)) ?_
       iterate 9 (refine aO λK hK=>?_;go_simp;refine hK _ ?_;clear hK K)
       refine ai ag 58 #[.agg #[.int .i64 vx,.slice va vm vc],.agg #[.int .i64 ux,.slice ua um uc]] (by rfl) (by rfl) ag.some (λw=>by go_simp) (λwq hg hf=>(eD P K (Pl.gI n G (l+1)) (Pl.gm n G l i j) _ _ wq (λb' hb'=>hP b' (by have h1:=uh wU;have h2:=hg.size;omega)) ((uh Sn).below hg) ((uh HU7).val.below hg) (by omega) (uh HVL (l+1) (by omega)) (uh lC l i j (by omega) (by omega) (by omega))).mono (by rintro e w' ⟨v',rfl,hv,hb⟩;exact ⟨_,rfl,hb,hv.aU,λt ht=>by cases ht;exact hv⟩)) ?_;rintro _ ⟨sx,sa,sm,sc,rfl⟩
       (refine aO λK hK=>?_;go_simp;refine hK _ ?_;clear hK K)
       refine ai ag 57 #[.agg #[.int .i64 sx,.slice sa sm sc],.agg #[.int .i64 mx,.slice ma mm mc]] (by rfl) (by rfl) ag.some (λw=>by go_simp) (λwq hg hf=>(kF P (2*K+1) _ _ _ _ wq (λb' hb'=>hP b' (by have h1:=uh wU;have h2:=hg.size;omega)) (hf 9 (by kernel_rfl) _ 66 rfl rfl) ((uh wI).val.below hg) (by omega) (((uh HVL (l+1) (by omega)).mul (uh lC l i j (by omega) (by omega) (by omega))).mono (by omega)) (((uh lC l i l (by omega) (by omega) (by omega)).mul (uh lC l j l (by omega) (by omega) (by omega))).mono (by omega))).mono (by rintro e w' ⟨v',rfl,hv,hb⟩;exact ⟨_,rfl,hb,hv.aU,λt ht=>by cases ht;exact hv⟩)) ?_;rintro _ ⟨tx,ta,tm,tc,rfl⟩;refine aF ?_;intro w8 hw8 aK;have sQ:aj P w8 (.agg #[.int .i64 tx,.slice ta tm tc]) (Pl.gI n G (l+1)*Pl.gm n G l i j - Pl.gm n G l i l*Pl.gm n G l j l):=aK 11 _ 68 (by decide) rfl rfl;clear aK;have hu8:=(uh HU7).grow hw8;obtain ⟨c0,c1,c2,c3⟩:=hu8.cells;obtain ⟨W8,GK⟩:∃ W8,(w8.setCell ⟨wo.heap.size,0,none⟩ (.int .i64 tx)).setCell ⟨wo.heap.size,1,none⟩ (.slice ta tm tc)=W8:=⟨_,rfl⟩;have HU8:Hid (bB P W8 wo.heap.size tx ta tm tc (Pl.gI n G (l+1)*Pl.gm n G l i j - Pl.gm n G l i l*Pl.gm n G l j l)):=by unfold Hid;rw [<-GK];exact ⟨jU hu8.heap _ _,sQ.kE hu8.heap _ _⟩
       have yD:Hid (ae wo W8):=by unfold Hid;rw [<-GK];exact (B_ (p:=⟨wo.heap.size,0,none⟩) ((uh Du).trans hw8) (d_ _) _).setCell (p:=⟨wo.heap.size,1,none⟩) (d_ _) _
       have MH:Hid (w.heap.size<=W8.heap.size):=w_ hsz (uh yD).size;clear hu8 sQ hw8 y0 y1 y2 y3 y4 y5 y6;go_wp2_with fail
       try rw [GK]
       clear GK c0 c1 c2 c3;have Xp:=af ((uh HJ).1.grow (uh yD));obtain ⟨kx,ka,km,kc,v0,v1,hv⟩:=(uh Xp).JO (i:=l) (by omega);rw [CB (by omega)] at hv;have HK8:=af hv;have k2:=(uh Xp).cells.2.2.1;have u0:=(uh HU8).cells.1;have u1:=(uh HU8).cells.2.1;have Xi:Hid (∀ wq,ae W8 wq->Calls Tryz.prog 56 #[.agg #[.int .i64 tx,.slice ta tm tc],.agg #[.int .i64 kx,.slice ka km kc]] wq λe w'=>∃ v',e=.returned v'∧aj P w' v' (Pl.gm n G (l+1) i j)∧Below wq.heap.size wq w'):=λwq hg=>by
        have hs:=Pl.iH (uh HPS) (l:=l) (i:=i) (j:=j) hln hin hjn (by omega) (by omega);rw [<-Pl.fq (uh HPS) hln,<-Pl.Bp (uh HPS) (uh HSY) l (by omega) j l (by omega) (d_ _) hjn hln] at hs;rw [hs.1];exact lu P (2*K+1) _ _ _ _ wq (λb' hb'=>hP b' (by have h1:=uh MH;have h2:=hg.size;omega)) ((uh HU8).val.below hg) ((uh HK8).below hg) (by omega) (by rw [<-hs.2];exact ((uh HVL l (by omega)).mul (uh lC (l+1) i j (by omega) hin hjn)).mono (by omega)) ((uh HVL l (by omega)).mono (by omega))
       clear hv;go_wp2_with fail;have y0:=b_ k2;have y1:=b_ v0;have y2:=b_ v1;have y3:=b_ u0;have y4:=b_ u1;clear k2 v0 v1 u0 u1;refine ah (bZ [(77,λv w=>aj P w v (Pl.gm n G (l+1) i j))]) (gL [(77,ag)]) 99 9 (by kernel_rfl) (by rfl) (by kernel_rfl) (aN (λ_ _ _=>aj.below) cK) ?_
       iterate 8 (refine aO λK hK=>?_;go_simp;refine hK _ ?_;clear hK K)
       refine ai ag 56 #[.agg #[.int .i64 tx,.slice ta tm tc],.agg #[.int .i64 kx,.slice ka km kc]] (by rfl) (by rfl) ag.some (λw=>by go_simp) (λwq hg hf=>(uh Xi wq hg).mono (by rintro e w' ⟨v',rfl,hv,hb⟩;exact ⟨_,rfl,hb,hv.aU,λt ht=>by cases ht;exact hv⟩)) ?_;rintro _ ⟨dx,da,dm,dc,rfl⟩;refine aF ?_;intro zt VN aK;have Hu:aj P zt (.agg #[.int .i64 dx,.slice da dm dc]) (Pl.gm n G (l+1) i j):=aK 8 _ 77 (by decide) rfl rfl;clear aK;have Sq:=(uh HU8).grow VN;obtain ⟨c0,c1,c2,c3⟩:=Sq.cells;obtain ⟨W10,Sr⟩:∃ W10,(zt.setCell ⟨wo.heap.size,0,none⟩ (.int .i64 dx)).setCell ⟨wo.heap.size,1,none⟩ (.slice da dm dc)=W10:=⟨_,rfl⟩;have acW:Hid (bB P W10 wo.heap.size dx da dm dc (Pl.gm n G (l+1) i j)):=by unfold Hid;rw [<-Sr];exact ⟨jU Sq.heap _ _,Hu.kE Sq.heap _ _⟩
       have Hw:Hid (ae wo W10):=by unfold Hid;rw [<-Sr];exact (B_ (p:=⟨wo.heap.size,0,none⟩) ((uh yD).trans VN) (d_ _) _).setCell (p:=⟨wo.heap.size,1,none⟩) (d_ _) _
       clear Sq Hu VN y0 y1 y2 y3 y4;go_wp2_with fail
       try rw [Sr]
       clear Sr c0 c1 c2 c3;go_wp2;go_roundg (gk - 1)
       case measure=>omega
       case rel=>exact ⟨l+1,_,_,_,_,by simp,by omega,uh Hw,uh acW⟩
      ·have VE:l=j:=by omega
       subst VE;obtain ⟨o0,px,pa,pm,pc,p0,p1,_⟩:=(uh G9).GY (r:=i) (i:=l) hin hjn;obtain ⟨v0,v1,v2,v3⟩:=(uh HL).2.cells;by_cases hlt:l<i
       ·have f0:=(uh G9).free (r:=2*n+i) (by omega) (l*2);have f1:=(uh G9).free (r:=2*n+i) (by omega) (l*2+1);have HS:=af ((uh G9).VD hin hjn (uh HL).2.val);clear k0 k1 k2;go_wp2_with fail;go_region
        all_goals
         go_wp2;go_roundg (gj - 1)
         case measure=>omega
         case rel=>exact ⟨l+1,by simp,by omega,by rw [g_ (by omega)];exact ((uh HS).1.congr (λ_ _ _ _=>rfl) (λ_ _ _ _=>rfl) (λ_ _ _ _=>M5 hlt _ _) (λ_ _=>rfl)).grow (aaF (n_ _ _)),aaF (((uh HJ).2.trans (aam (uh HL).1 (uh HSB))).trans (uh HS).2)⟩
       ·have M7:l=i:=by omega
        subst M7;have hwl:IntKind.i64.wrap ((l:Int)+1)=(l:Int)+1:=by rw [aaA];omega
        have htl:((l:Int)+1).toNat=l+1:=by omega
        have hll:(l:Int)+1<(n:Int)+1:=by omega
        have hl0:0<=(l:Int)+1:=by omega
        obtain ⟨tx,ta,tm,tc,t0,t1,_⟩:=(uh G9).JO (i:=l+1) (by omega);have f0:=(uh G9).free (r:=3*n) (by omega) ((l+1)*2);have f1:=(uh G9).free (r:=3*n) (by omega) ((l+1)*2+1);have HS:=af ((uh G9).acX (i:=l+1) (by omega) (uh HL).2.val);clear k0 k1 k3 o0 p0 p1;go_wp2_with fail;go_region
        all_goals
         go_wp2;go_roundg (gj - 1)
         case measure=>omega
         case rel=>exact ⟨l+1,by simp,by omega,by rw [h_ rfl];exact ((uh HS).1.congr (λ_ _ _ _=>rfl) (λ_ _ _ _=>rfl) (λ_ _ _ _=>(xH (d_ _) _ _).trans (xH (by omega) _ _).symm) (λ_ _=>M6 (uh HPS) hin _)).grow (aaF (n_ _ _)),aaF (((uh HJ).2.trans (aam (uh HL).1 (uh HSB))).trans (uh HS).2)⟩
    ·have acY:j=i+1:=by omega
     have HF:Hid (bf P B wo n b gs gp go cs cp co R St G (uw n G Ov (i+1) 0) (yP n G V (i+1))):=by
      have h1:=(uh HJ).1;rw [h_ acY] at h1;exact h1.congr (λ_ _ _ _=>rfl) (λ_ _ _ _=>rfl) (λ_ _ _ _=>xH (by omega) _ _) (λ_ _=>rfl)
     go_wp2;go_roundg (gi - 1)
     case measure=>omega
     case rel=>exact ⟨i+1,by simp,by omega,uh HF,(uh HJ).2⟩
  ·have hin':i=n:=by omega
   have HF:Hid ((∀ i' l,l<i'->i'<n->uw n G Ov i 0 i' l=Pl.gm n G l i' l)∧∀ l,l<=n->yP n G V i l=Pl.gI n G l):=⟨λi' l h1 h2=>Cz (by omega),λl hl=>CB (by omega)⟩;go_wp2;go_end0;exact ⟨_,_,rfl,(uh HR).1,(uh HR).2,(uh HF).1,(uh HF).2⟩
end
theorem dR {a:Int} {K:Nat} (h:a.natAbs<1073741824):Pl.Lt (K+1) a:=by
 rw [Pl.dZ,abI];have:=aa6 (n:=K) (show 0<1073741824 by decide);exact aa9 (show a.natAbs<1*1073741824 by omega) (abE _ this)
attribute [local go_sem] bD
set_option maxHeartbeats 2000000 in
theorem DU (P:Nat->Prop) (B K n m b gs gp go cs cp co:Nat) (R:Nat->Nat) (St G Ov:Nat->Nat->Int) (V:Nat->Int) (w:World) (hP:∀ b,w.heap.size<=b->P b) (h:bf P B w n b gs gp go cs cp co R St G Ov V) (hm:m+1<n) (hn:n<=100) (lo:Pl.Lt K (Ov (m+1) m)) (lv:∀ l,l<=n->Pl.Lt K (V l)) (hK:2*K+10<=1500000000000) :
  Calls Tryz.prog 95 #[.pointer (some ⟨b,0,none⟩),.int .i64 ((m:Int)+1)] w λe w'=>e=.returned (.bool (decide (99*(V (m+1)*V (m+1))<=100*(V (m+2)*V m+Ov (m+1) m*Ov (m+1) m))))∧Below w.heap.size w w':=by
 obtain ⟨_,_,k2,k3⟩:=h.cells;obtain ⟨o0,px,pa,pm,pc,p0,p1,hov⟩:=h.GY (r:=m+1) (i:=m) hm (by omega);obtain ⟨qx,qa,qm,qc,q0,q1,hq⟩:=h.JO (i:=m+2) (by omega);obtain ⟨rx,ra,rm,rc,r0,r1,hr⟩:=h.JO (i:=m) (by omega);obtain ⟨tx,ta,tm,tc,t0,t1,ht⟩:=h.JO (i:=m+1) (by omega);have Xo:=af hov;have yM:=af hq;have HRV:=af hr;have HTV:=af ht;have T9:=af (x_ q0 (x_ q1 (x_ r0 (x_ r1 (x_ t0 (x_ t1 k2))))));have xV:Hid (ae w w):=ae.refl _;have LMI:Hid (Pl.Lt (2*K+1) (V (m+2)*V m+Ov (m+1) m*Ov (m+1) m)):=(((lv _ (by omega)).mul (lv _ (by omega))).add (lo.mul lo)).mono (by omega);have LOT:Hid (Pl.Lt (2*K+1) (V (m+1)*V (m+1))):=((lv _ (by omega)).mul (lv _ (by omega))).mono (by omega);have LE1:Hid (Pl.Lt (2*K+2) (100*(V (m+2)*V m+Ov (m+1) m*Ov (m+1) m))):=((dR (K:=0) (by decide)).mul (uh LMI)).mono (by omega);have LF1:Hid (Pl.Lt (2*K+2) (99*(V (m+1)*V (m+1)))):=((dR (K:=0) (by decide)).mul (uh LOT)).mono (by omega);have w1':IntKind.i64.wrap ((m:Int)+1+1)=(m:Int)+2:=by rw [aaA];omega
 have w2':IntKind.i64.wrap (m:Int)=(m:Int):=by rw [aaA];omega
 have w3':(m:Int)+1 - 1=(m:Int):=by omega
 have t1':((m:Int)+1).toNat=m+1:=by omega
 have t2':((m:Int)+2).toNat=m+2:=by omega
 have l1:(m:Int)+1<(n:Int):=by omega
 have l2:(m:Int)+1<(n:Int)+1:=by omega
 have l3:(m:Int)+2<(n:Int)+1:=by omega
 have l4:(m:Int)<(n:Int):=by omega
 have l5:(m:Int)<(n:Int)+1:=by omega
 have l6:0<=(m:Int)+1:=by omega
 have l7:0<=(m:Int)+2:=by omega
 clear hov hq hr ht q0 q1 r0 r1 t0 t1 k2 h;go_enter Tryz.func95,Tryz.ntmps95;go_wp2_with fail;have y0:=b_ k3;have y1:=b_ o0;have y2:=b_ p0;have y3:=b_ p1;clear k3 o0 p0 p1;refine ah (bZ [(31,λv w=>aj P w v (Ov (m+1) m*Ov (m+1) m)),(5,bg w)]) (gL [(31,ag),(5,bL)]) 75 24 (by kernel_rfl) (by rfl) (by kernel_rfl) (aN (λ_ _ _=>aj.below) (aN (λ_ _ _=>bg.grow) cK)) ?_
 iterate 22 (refine aO λK hK=>?_;go_simp;refine hK _ ?_;clear hK K)
 refine ai ag 58 #[.agg #[.int .i64 px,.slice pa pm pc],.agg #[.int .i64 px,.slice pa pm pc]] (by rfl) (by rfl) ag.some (λw=>by go_simp) (λwq hg hf=>(eD P K (Ov (m+1) m) (Ov (m+1) m) _ _ wq (λb' hb'=>hP b' (by have h2:=hg.size;omega)) ((uh Xo).below hg) ((uh Xo).below hg) (by omega) lo lo).mono (by rintro e w' ⟨v',rfl,hv,hb⟩;exact ⟨_,rfl,hb,hv.aU,λt ht=>by cases ht;exact hv⟩)) ?_;rintro _ ⟨ax,aa,am,ac,rfl⟩;refine eO bL (by rfl) (by rfl) bL.some (λwq hg hf=>⟨.pointer (some ⟨wq.heap.size,0,none⟩),wq.alloc (.cells #[.int .i64 0,.slice none 0 0] 78),by go_simp,ae.alloc _ _,⟨_,rfl⟩,λt ht=>by cases ht;exact bg.new hg⟩) ?_;rintro _ ⟨g5,rfl⟩;refine aF ?_;intro w1 hw1 aK;have Yr:aj P w1 (.agg #[.int .i64 ax,.slice aa am ac]) (Ov (m+1) m*Ov (m+1) m):=aK 22 _ 31 (by decide) rfl rfl;obtain ⟨g5',e6,f6⟩:bg w (.pointer (some ⟨g5,0,none⟩)) w1:=aK 23 _ 5 (by decide) rfl rfl;cases e6;clear aK y0 y1 y2 y3;obtain ⟨z0,z1,z2,z3⟩:=fT f6.2;have hst:=bH (P:=P) hw1 f6.1 f6.2 Yr;obtain ⟨W1,hW1⟩:∃ W,(w1.setCell ⟨g5,0,none⟩ (.int .i64 ax)).setCell ⟨g5,1,none⟩ (.slice aa am ac)=W:=⟨_,rfl⟩;have HA1:Hid (bB P W1 g5 ax aa am ac (Ov (m+1) m*Ov (m+1) m)):=by unfold Hid;rw [<-hW1];exact hst.1
 have dN:Hid (ae w W1):=by unfold Hid;rw [<-hW1];exact ae.trans (uh xV) hst.2
 clear hst Yr f6 hw1;go_wp2_with fail
 try rw [hW1]
 clear hW1 z0 z1 z2 z3;have HQ:=af ((uh yM).below (uh dN));have HRR:=af ((uh HRV).below (uh dN));have q0:=(uh dN).cell (uh T9).1;have q1:=(uh dN).cell (uh T9).2.1;have r0:=(uh dN).cell (uh T9).2.2.1;have r1:=(uh dN).cell (uh T9).2.2.2.1;have k2:=(uh dN).cell (uh T9).2.2.2.2.2.2;have a0:=(uh HA1).cells.1;have a1:=(uh HA1).cells.2.1;go_wp2_with fail;have y0:=b_ k2;have y1:=b_ q0;have y2:=b_ q1;have y3:=b_ r0;have y4:=b_ r1;have y5:=b_ a0;have y6:=b_ a1;clear k2 q0 q1 r0 r1 a0 a1;refine ah (bZ [(48,λv w=>aj P w v (V (m+2)*V m)),(50,λv w=>aj P w v (V (m+2)*V m+Ov (m+1) m*Ov (m+1) m)),(6,bg W1)]) (gL [(48,ag),(50,ag),(6,bL)]) 75 20 (by kernel_rfl) (by rfl) (by kernel_rfl) (aN (λ_ _ _=>aj.below) (aN (λ_ _ _=>aj.below) (aN (λ_ _ _=>bg.grow) cK))) ?_
 iterate 16 (refine aO λK hK=>?_;go_simp;refine hK _ ?_;clear hK K)
 refine ai ag 58 #[.agg #[.int .i64 qx,.slice qa qm qc],.agg #[.int .i64 rx,.slice ra rm rc]] (by rfl) (by rfl) ag.some (λw=>by go_simp) (λwq hg hf=>(eD P K (V (m+2)) (V m) _ _ wq (λb' hb'=>hP b' (by have h1:=(uh dN).size;have h2:=hg.size;omega)) ((uh HQ).below hg) ((uh HRR).below hg) (by omega) (lv _ (by omega)) (lv _ (by omega))).mono (by rintro e w' ⟨v',rfl,hv,hb⟩;exact ⟨_,rfl,hb,hv.aU,λt ht=>by cases ht;exact hv⟩)) ?_;rintro _ ⟨sx,sa,sm,sc,rfl⟩
 (refine aO λK hK=>?_;go_simp;refine hK _ ?_;clear hK K)
 refine ai ag 55 #[.agg #[.int .i64 sx,.slice sa sm sc],.agg #[.int .i64 ax,.slice aa am ac]] (by rfl) (by rfl) ag.some (λw=>by go_simp) (λwq hg hf=>(gZ P (2*K) _ _ _ _ wq (λb' hb'=>hP b' (by have h1:=(uh dN).size;have h2:=hg.size;omega)) (hf 16 (by kernel_rfl) _ 48 rfl rfl) ((uh HA1).val.below hg) (by omega) (((lv _ (by omega)).mul (lv _ (by omega))).mono (by omega)) ((lo.mul lo).mono (by omega))).mono (by rintro e w' ⟨v',rfl,hv,hb⟩;exact ⟨_,rfl,hb,hv.aU,λt ht=>by cases ht;exact hv⟩)) ?_;rintro _ ⟨cx,ca,cm,cc,rfl⟩;refine eO bL (by rfl) (by rfl) bL.some (λwq hg hf=>⟨.pointer (some ⟨wq.heap.size,0,none⟩),wq.alloc (.cells #[.int .i64 0,.slice none 0 0] 78),by go_simp,ae.alloc _ _,⟨_,rfl⟩,λt ht=>by cases ht;exact bg.new hg⟩) ?_;rintro _ ⟨g6,rfl⟩;refine aF ?_;intro w2 hw2 aK;have Yt:aj P w2 (.agg #[.int .i64 cx,.slice ca cm cc]) (V (m+2)*V m+Ov (m+1) m*Ov (m+1) m):=aK 18 _ 50 (by decide) rfl rfl;obtain ⟨g6',e6,f6⟩:bg W1 (.pointer (some ⟨g6,0,none⟩)) w2:=aK 19 _ 6 (by decide) rfl rfl;cases e6;clear aK y0 y1 y2 y3 y4 y5 y6;obtain ⟨z0,z1,z2,z3⟩:=fT f6.2;have hst:=bH (P:=P) hw2 f6.1 f6.2 Yt;obtain ⟨W2,hW2⟩:∃ W,(w2.setCell ⟨g6,0,none⟩ (.int .i64 cx)).setCell ⟨g6,1,none⟩ (.slice ca cm cc)=W:=⟨_,rfl⟩;have HC2:Hid (bB P W2 g6 cx ca cm cc (V (m+2)*V m+Ov (m+1) m*Ov (m+1) m)):=by unfold Hid;rw [<-hW2];exact hst.1
 have HG2:Hid (ae w W2):=by unfold Hid;rw [<-hW2];exact ae.trans (uh dN) hst.2
 clear hst Yt f6 hw2;go_wp2_with fail
 try rw [hW2]
 clear hW2 z0 z1 z2 z3;have HT:=af ((uh HTV).below (uh HG2));have t0:=(uh HG2).cell (uh T9).2.2.2.2.1;have t1:=(uh HG2).cell (uh T9).2.2.2.2.2.1;have k2:=(uh HG2).cell (uh T9).2.2.2.2.2.2;go_wp2_with fail;have y0:=b_ k2;have y1:=b_ t0;have y2:=b_ t1;clear k2 t0 t1;refine ah (bZ [(65,λv w=>aj P w v (V (m+1)*V (m+1))),(7,bg W2)]) (gL [(65,ag),(7,bL)]) 75 16 (by kernel_rfl) (by rfl) (by kernel_rfl) (aN (λ_ _ _=>aj.below) (aN (λ_ _ _=>bg.grow) cK)) ?_
 iterate 14 (refine aO λK hK=>?_;go_simp;refine hK _ ?_;clear hK K)
 refine ai ag 58 #[.agg #[.int .i64 tx,.slice ta tm tc],.agg #[.int .i64 tx,.slice ta tm tc]] (by rfl) (by rfl) ag.some (λw=>by go_simp) (λwq hg hf=>(eD P K (V (m+1)) (V (m+1)) _ _ wq (λb' hb'=>hP b' (by have h1:=(uh HG2).size;have h2:=hg.size;omega)) ((uh HT).below hg) ((uh HT).below hg) (by omega) (lv _ (by omega)) (lv _ (by omega))).mono (by rintro e w' ⟨v',rfl,hv,hb⟩;exact ⟨_,rfl,hb,hv.aU,λt ht=>by cases ht;exact hv⟩)) ?_;rintro _ ⟨dx,da,dm,dc,rfl⟩;refine eO bL (by rfl) (by rfl) bL.some (λwq hg hf=>⟨.pointer (some ⟨wq.heap.size,0,none⟩),wq.alloc (.cells #[.int .i64 0,.slice none 0 0] 78),by go_simp,ae.alloc _ _,⟨_,rfl⟩,λt ht=>by cases ht;exact bg.new hg⟩) ?_;rintro _ ⟨g7,rfl⟩;refine aF ?_;intro w3 hw3 aK;have Yu:aj P w3 (.agg #[.int .i64 dx,.slice da dm dc]) (V (m+1)*V (m+1)):=aK 14 _ 65 (by decide) rfl rfl;obtain ⟨g7',e6,f6⟩:bg W2 (.pointer (some ⟨g7,0,none⟩)) w3:=aK 15 _ 7 (by decide) rfl rfl;cases e6;clear aK y0 y1 y2;obtain ⟨z0,z1,z2,z3⟩:=fT f6.2;have hst:=bH (P:=P) hw3 f6.1 f6.2 Yu;obtain ⟨W3,hW3⟩:∃ W,(w3.setCell ⟨g7,0,none⟩ (.int .i64 dx)).setCell ⟨g7,1,none⟩ (.slice da dm dc)=W:=⟨_,rfl⟩;have HD3:Hid (bB P W3 g7 dx da dm dc (V (m+1)*V (m+1))):=by unfold Hid;rw [<-hW3];exact hst.1
 have jb:Hid (ae w W3):=by unfold Hid;rw [<-hW3];exact ae.trans (uh HG2) hst.2
 have HC3:Hid (bB P W3 g6 cx ca cm cc (V (m+2)*V m+Ov (m+1) m*Ov (m+1) m)):=by unfold Hid;rw [<-hW3];exact (uh HC2).grow hst.2
 clear hst Yu f6 hw3;go_wp2_with fail
 try rw [hW3]
 clear hW3 z0 z1 z2 z3;have c0:=(uh HC3).cells.1;have c1:=(uh HC3).cells.2.1;have d0:=(uh HD3).cells.1;have d1:=(uh HD3).cells.2.1;go_wp2_with fail;have y0:=b_ c0;have y1:=b_ c1;have y2:=b_ d0;have y3:=b_ d1;clear c0 c1 d0 d1;refine ah (bZ [(66,λv w=>aj P w v 100),(68,λv w=>aj P w v (100*(V (m+2)*V m+Ov (m+1) m*Ov (m+1) m))),(69,λv w=>aj P w v 99),(71,λv w=>aj P w v (99*(V (m+1)*V (m+1))))]) (gL [(66,ag),(68,ag),(69,ag),(71,ag),(72,(·=.int .i64 (Int.sign (100*(V (m+2)*V m+Ov (m+1) m*Ov (m+1) m) - 99*(V (m+1)*V (m+1))))))]) 75 7 (by kernel_rfl) (by rfl) (by kernel_rfl) (aN (λ_ _ _=>aj.below) (aN (λ_ _ _=>aj.below) (aN (λ_ _ _=>aj.below) (aN (λ_ _ _=>aj.below) cK)))) ?_;refine ai ag 40 #[.int .i64 100] (by rfl) (by rfl) ag.some (λw=>by go_simp) (λwq hg hf=>(fM P 100 wq (λb' hb'=>hP b' (by have h1:=(uh jb).size;have h2:=hg.size;omega)) (by decide) (by decide)).mono (by rintro e w' ⟨v',rfl,hv,hb⟩;exact ⟨_,rfl,hb,hv.aU,λt ht=>by cases ht;exact hv⟩)) ?_;rintro _ ⟨ix,ia,im,ic,rfl⟩
 (refine aO λK hK=>?_;go_simp;refine hK _ ?_;clear hK K)
 refine ai ag 58 #[.agg #[.int .i64 ix,.slice ia im ic],.agg #[.int .i64 cx,.slice ca cm cc]] (by rfl) (by rfl) ag.some (λw=>by go_simp) (λwq hg hf=>(eD P (2*K+1) 100 (V (m+2)*V m+Ov (m+1) m*Ov (m+1) m) _ _ wq (λb' hb'=>hP b' (by have h1:=(uh jb).size;have h2:=hg.size;omega)) (hf 0 (by kernel_rfl) _ 66 rfl rfl) ((uh HC3).val.below hg) (by omega) (dR (by decide)) (uh LMI)).mono (by rintro e w' ⟨v',rfl,hv,hb⟩;exact ⟨_,rfl,hb,hv.aU,λt ht=>by cases ht;exact hv⟩)) ?_;rintro _ ⟨ex,ea,em,ec,rfl⟩;refine ai ag 40 #[.int .i64 99] (by rfl) (by rfl) ag.some (λw=>by go_simp) (λwq hg hf=>(fM P 99 wq (λb' hb'=>hP b' (by have h1:=(uh jb).size;have h2:=hg.size;omega)) (by decide) (by decide)).mono (by rintro e w' ⟨v',rfl,hv,hb⟩;exact ⟨_,rfl,hb,hv.aU,λt ht=>by cases ht;exact hv⟩)) ?_;rintro _ ⟨jx,ja,jm,jc,rfl⟩
 (refine aO λK hK=>?_;go_simp;refine hK _ ?_;clear hK K)
 refine ai ag 58 #[.agg #[.int .i64 jx,.slice ja jm jc],.agg #[.int .i64 dx,.slice da dm dc]] (by rfl) (by rfl) ag.some (λw=>by go_simp) (λwq hg hf=>(eD P (2*K+1) 99 (V (m+1)*V (m+1)) _ _ wq (λb' hb'=>hP b' (by have h1:=(uh jb).size;have h2:=hg.size;omega)) (hf 3 (by kernel_rfl) _ 69 rfl rfl) ((uh HD3).val.below hg) (by omega) (dR (by decide)) (uh LOT)).mono (by rintro e w' ⟨v',rfl,hv,hb⟩;exact ⟨_,rfl,hb,hv.aU,λt ht=>by cases ht;exact hv⟩)) ?_;rintro _ ⟨fx,fa,fm,fc,rfl⟩;refine ai (·=.int .i64 (Int.sign (100*(V (m+2)*V m+Ov (m+1) m*Ov (m+1) m) - 99*(V (m+1)*V (m+1))))) 54 #[.agg #[.int .i64 ex,.slice ea em ec],.agg #[.int .i64 fx,.slice fa fm fc]] (by rfl) (by rfl) ⟨_,rfl⟩ (λw=>by go_simp) (λwq hg hf=>(jg P (2*K+2) _ _ _ _ wq (λb' hb'=>hP b' (by have h1:=(uh jb).size;have h2:=hg.size;omega)) (hf 2 (by kernel_rfl) _ 68 rfl rfl) (hf 5 (by kernel_rfl) _ 71 rfl rfl) (by omega) (uh LE1) (uh LF1)).mono (by rintro e w' ⟨rfl,hb⟩;exact ⟨_,rfl,hb,rfl,λt ht=>by cases ht;exact True.intro⟩)) ?_;rintro _ rfl;refine aF ?_;intro w4 hw4 aK;clear aK y0 y1 y2 y3;have kC:=af (ae.trans (uh jb) hw4);clear hw4;obtain ⟨sg,hsg⟩:∃ sg,Int.sign (100*(V (m+2)*V m+Ov (m+1) m*Ov (m+1) m) - 99*(V (m+1)*V (m+1)))=sg:=⟨_,rfl⟩;have acy:Hid (decide (0<=sg)=decide (99*(V (m+1)*V (m+1))<=100*(V (m+2)*V m+Ov (m+1) m*Ov (m+1) m))):=by
  unfold Hid;rw [<-hsg];generalize 100*(V (m+2)*V m+Ov (m+1) m*Ov (m+1) m)=X;generalize 99*(V (m+1)*V (m+1))=Y;rcases (show X - Y<0∨X - Y=0∨0<X - Y by omega) with h|h|h
  ·rw [E_ h,Z_ (by omega:¬ Y<=X)];rfl
  ·rw [h,aaB (by omega:Y<=X)];rfl
  ·rw [J_ h,aaB (by omega:Y<=X)];rfl
 rw [hsg];clear hsg LMI LOT LE1 LF1;go_wp2;go_ret;exact ⟨congrArg (λx=>Ending.returned (.bool x)) (uh acy),uh kC⟩
end Go.Proofs.YtgaafamcajcifaaGreat
