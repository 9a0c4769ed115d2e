/- Joined: XSim5 XSim6. -/
import Derived.Test.YtgaafamcajcifaaGreatK20
set_option linter.unusedVariables false
set_option linter.unusedSimpArgs false
set_option maxRecDepth 100000
namespace Go.Proofs.YtgaafamcajcifaaGreat
open Go.RowKit Go.Sort
def uy (t:Pl.aR) (s:List Int) (r:Nat):Int:=if 0 < -t.name r∧-t.name r<s.length then s.getD (-t.name r).toNat 0 else 0
def ik (t:Pl.aR) (s:List Int) (R j:Nat):Int:=(if j=0 then s.getD 0 0*t.scale else 0)+Pl.sm R (λr=>uy t s r*t.cell r j)
theorem z8 (t:Pl.aR) (s:List Int) (r j:Nat) {v:Int} (h:uy t s r=v):ik t s (r+1) j=ik t s r j+v*t.cell r j:=by
 unfold ik;show _+(Pl.sm r _+uy t s r*t.cell r j)=_;rw [h];omega
theorem NH (t:Pl.aR) (s:List Int) (r j:Nat) (h:uy t s r=0):ik t s (r+1) j=ik t s r j:=by
 rw [z8 t s r j h,aaM,Int.add_zero]
theorem Tg {K:Nat} {t:Pl.aR} {s:List Int} (hl:qg K t) (hs:∀ k,Pl.Lt K (s.getD k 0)) {R j:Nat} (hR:R<=t.lines.length) (hR2:R<=1000) (hj:j<t.aS.length+1):Pl.Lt (2*K+1) (ik t s R j):=by
 have h1:∀ r,r<R+1->Pl.Lt (2*K) ((λr=>if r=0 then (if j=0 then s.getD 0 0*t.scale else 0) else uy t s (r - 1)*t.cell (r - 1) j) r):=by
  intro r hr;simp only;by_cases h0:r=0
  ·rw [h_ h0];by_cases hj0:j=0
   ·rw [h_ hj0,Nat.two_mul];exact (hs 0).mul hl.scale
   ·rw [g_ hj0,Pl.dZ];exact aa6 (by omega)
  ·rw [g_ h0,Nat.two_mul];refine Pl.Lt.mul ?_ (hl.cell _ _ (by omega) hj);unfold uy
   split
   ·exact hs _
   ·rw [Pl.dZ];exact aa6 (by omega)
 have h2:=Pl.Lt.sum h1 (by omega);have h3:∀ R,Pl.sm (R+1) (λr=>if r=0 then (if j=0 then s.getD 0 0*t.scale else 0) else uy t s (r - 1)*t.cell (r - 1) j)=ik t s R j:=by
  intro R
  induction R with
  | zero=>simp [Pl.sm,ik]
  | succ R ih =>
   show Pl.sm (R+1) _+_=_;rw [ih,z8 t s R j rfl];simp
 rw [h3 R] at h2;exact h2
section
attribute [local go_sem] bD
set_option maxHeartbeats 20000000 in
theorem AQ (P:Nat->Prop) (K b:Nat) (t:Pl.aR) (s:List Int) (vs:Value) (w:World) (hP:∀ b,w.heap.size<=b->P b) (h:rY P w b t) (hs:aD P w vs s) (hfit:mG t) (hlt:qg K t) (hsl:∀ k,Pl.Lt K (s.getD k 0)) (hK:2*K+1<=1500000000000) (hlen:s.length=t.aS.length+1) (hnm:∀ r,r<t.lines.length->-1073741824<=t.name r∧t.name r<=1073741824) :
  Calls Tryz.prog 90 #[.pointer (some ⟨b,0,none⟩),vs] w λe w'=>∃ v',e=.returned v'∧aD P w' v' ((List.range (t.aS.length+1)).map (ik t s t.lines.length))∧Below w.heap.size w w':=by
 obtain ⟨i0,hi0,hz0,hz1,hz2⟩:=U_ Tryz.dP;obtain ⟨gs,os,Wn,ZN,rfl,Tf,hsc⟩:=hs.get (by omega);have ND:=af hsc;have HT:=af h;have uK:=af hfit;have lC:=af hlt;have hn1:=hfit.lines;have hn2:=hfit.aS;have HNM:=af hnm;have HLEN:=af hlen;rw [hlen];obtain ⟨vc,kc,adc,SC,rfl,hci⟩:=h.aS;clear hci h hs hfit hlt hsc hnm hlen;go_enter Tryz.func90,Tryz.ntmps90;go_wp2_with (at_make;refine wpList_make_full _ rfl _ _ 69 rfl w.heap.size 78 i0 (.agg #[.int .i64 0,.slice none 0 0]) 2 Tryz.underlying69 hi0 hz0 hz1 .i64 .i64 _ _ (t.aS.length+1) rfl rfl ?e1 ?e2 ?c1 ?c2 ?c3 ?_)
 case e1=>first | rfl | omega | simp
 case e2=>first | rfl | omega | simp
 case c1=>rw [hz2];omega
 case c2=>unfold maxLen;omega
 case c3=>omega
 ·intro w1 hown hgrow;have hb1:ae w w1:=(n_ _ _).grown hgrow (d_ _) (by intro k hk;cases hk);have uA:Hid (bz P w1 w.heap.size (t.aS.length+1) (λ_=>0)):=bz.made hown;have dN:Hid (ae w w1):=hb1;obtain ⟨zx,za,zm,zc,z0,z1,hz⟩:=uh ND 0 (by rw [uh HLEN];omega);have HZ:Hid (aj P w (.agg #[.int .i64 zx,.slice za zm zc]) (s.getD 0 0)):=by
   unfold Hid;rw [a_,f_ (by rw [uh HLEN];omega)];exact hz
  obtain ⟨sx,sa,sm,sc,k2,k3,hsc⟩:=((uh HT).below hb1).scale;have Uk:=af hsc;obtain ⟨rx,ra,rm,rc,r0,r1,_⟩:=(uh uA).get (i:=0) (by omega);have z0:=hb1.cell z0;have z1:=hb1.cell z1;clear hown hgrow hb1 hz hsc kc;generalize hg:w.heap.size=g at *
  have hwg:w.heap.size<=g:=by rw [hg];exact d_ _
  generalize hn:t.aS.length+1=n at *
  simp only [Nat.zero_mul,Nat.add_zero,M_] at r0 r1 z0 z1;have y1:=b_ z0;have y2:=b_ z1;have y3:=b_ k2;have y4:=b_ k3;go_wp2_with fail;clear z0 z1 k2 k3;refine ah (bZ [(27,λv w=>aj P w v (s.getD 0 0*t.scale))]) (gL [(27,ag)]) 79 10 (by kernel_rfl) (by rfl) (by kernel_rfl) (aN (λ_ _ _=>aj.below) cK) ?_
  iterate 8 (refine aO λK hK=>?_;go_simp;refine hK _ ?_;clear hK K)
  refine ai ag 58 #[.agg #[.int .i64 zx,.slice za zm zc],.agg #[.int .i64 sx,.slice sa sm sc]] (by rfl) (by rfl) ag.some (λw=>by go_simp) (λw1 hg hf=>(eD P K (s.getD 0 0) t.scale _ _ w1 (λb' hb'=>hP b' (by have:=(ae.trans (uh dN) hg).size;omega)) ((uh HZ).below (ae.trans (uh dN) hg)) ((uh Uk).below hg) (by omega) (hsl 0) (uh lC).scale).mono (by rintro e w' ⟨v',rfl,hv,hb⟩;exact ⟨_,rfl,hb,hv.aU,λt ht=>by cases ht;exact hv⟩)) ?_;rintro _ ⟨px,pa,pm,pc,rfl⟩
  (refine aO λK hK=>?_;go_simp;refine hK _ ?_;clear hK K)
  refine aF ?_;intro w2 hg2 aK;have q27:aj P w2 (.agg #[.int .i64 px,.slice pa pm pc]) (s.getD 0 0*t.scale):=aK 8 _ 27 (by decide) rfl rfl;clear aK y1 y2 y3 y4;have s0:=ae.cell hg2 r0;have s1:=ae.cell hg2 r1;have hR2:=(uh uA).grow hg2;have s2:=(hR2.get (i:=0) (by omega)).choose_spec.choose_spec.choose_spec.choose_spec.2.2.2.1;have s3:=(hR2.get (i:=0) (by omega)).choose_spec.choose_spec.choose_spec.choose_spec.2.2.2.2;have uI:Hid (bz P ((w2.setCell ⟨g,0,none⟩ (.int .i64 px)).setCell ⟨g,1,none⟩ (.slice pa pm pc)) g n (ik t s 0)):=(hR2.set (i:=0) (by omega) q27).congr (λi _=>by unfold qi ik;by_cases h:i=0 <;> simp [h,Pl.sm])
  have HG2:Hid (ae w ((w2.setCell ⟨g,0,none⟩ (.int .i64 px)).setCell ⟨g,1,none⟩ (.slice pa pm pc))):=(B_ (p:=⟨g,0,none⟩) (ae.trans (uh dN) hg2) hwg _).setCell (p:=⟨g,1,none⟩) hwg _;clear q27 hR2 hg2 r0 r1;go_wp2_with fail;generalize hW2:(w2.setCell ⟨g,0,none⟩ (.int .i64 px)).setCell ⟨g,1,none⟩ (.slice pa pm pc)=W2 at *
  clear hW2 s0 s1 s2 s3 w2 uA dN Uk HZ;go_loopg [6] t.lines.length (λk rv wr=>∃ (r:Nat),rv=.int .i64 r∧r+k=t.lines.length∧Hid (bz P wr g n (ik t s r)∧ae w wr))
  case atStart=>exact ⟨0,rfl,by omega,uh uI,uh HG2⟩
  case round =>
   rename Nat=>go;rename World=>wo;obtain ⟨r,rfl,hrk,HR⟩:=hrel;obtain ⟨vl,kl,adl,aed,rfl,M7⟩:=((uh HT).below (uh HR).2).lines;by_cases hrl:r<t.lines.length
   ·obtain ⟨gl,ol,ur,rfl,kr,_⟩:=M7 r hrl;rw [oo t hrl] at kr;have hb:=uh HNM r hrl;obtain ⟨nm,hnm⟩:∃ nm,t.name r=nm:=⟨_,rfl⟩;have HNR:Hid (t.name r=nm):=hnm;rw [hnm] at kr hb;clear hnm M7;by_cases hin:nm<0∧-nm<(n:Int)
    ·obtain ⟨q,hq⟩:∃ q:Nat,nm=-(q:Int):=⟨(-nm).toNat,by omega⟩;subst hq;have hq0:0<q:=by omega
     have hqn:q<n:=by omega
     have HCF:Hid (uy t s r=s.getD q 0):=by
      unfold Hid uy;rw [uh HNR,uh HLEN,h_ (by omega)];congr 1;omega
     obtain ⟨zx,za,zm,zc,z0,z1,hz⟩:=uh ND q (by rw [uh HLEN];omega);have HZ:Hid (aj P w (.agg #[.int .i64 zx,.slice za zm zc]) (s.getD q 0)):=by
      unfold Hid;rw [a_,f_ (by rw [uh HLEN];omega)];exact hz
     have HCr:=af (λw1 (h:ae w w1) (j:Nat) (hj:j<n)=>jP P b t w1 ((uh HT).below h) hn1 (uh uK).le hrl (j:=j) (by rw [(uh uK).row hrl];omega));have hb1:=hb.1;clear hz hb hin;go_wp2_with fail;clear kl kr;go_loopg [8] n (λk jv wr=>∃ (j:Nat),jv=.int .i64 j∧j+k=n∧Hid (bz P wr g n (λk=>if k<j then ik t s (r+1) k else ik t s r k)∧ae w wr))
     case atStart=>exact ⟨0,rfl,by omega,(uh HR).1.congr (λi _=>by rw [g_ (by omega)]),(uh HR).2⟩
     case round =>
      obtain ⟨j,rfl,hjk,HI⟩:=hrel;by_cases hjn:j<n
      ·obtain ⟨ox,oa,om,oc,r0,r1,ho,_⟩:=(uh HI).1.get hjn;have HO:Hid (aj P wr (.agg #[.int .i64 ox,.slice oa om oc]) (ik t s r j)):=by
        unfold Hid;rw [g_ (by omega)] at ho;exact ho
       have Le:=(uh HI).2.cell z0;have z1':=(uh HI).2.cell z1;have y1:=b_ Le;have y2:=b_ z1';have y3:=b_ r0;have y4:=b_ r1;clear ho Le z1';go_wp2_with fail;refine ah (bZ [(74,λv w=>aj P w v (t.cell r j)),(75,λv w=>aj P w v (s.getD q 0*t.cell r j)),(76,λv w=>aj P w v (ik t s r j+s.getD q 0*t.cell r j))]) (gL [(74,ag),(75,ag),(76,ag)]) 79 17 (by kernel_rfl) (by rfl) (by kernel_rfl) (aN (λ_ _ _=>aj.below) (aN (λ_ _ _=>aj.below) (aN (λ_ _ _=>aj.below) cK))) ?_
       iterate 13 (refine aO λK hK=>?_;go_simp;refine hK _ ?_;clear hK K)
       refine ai ag 87 #[.pointer (some ⟨b,0,none⟩),.int .i64 r,.int .i64 j] (by rfl) (by rfl) ag.some (λw=>by go_simp) (λw1 hg hf=>(uh HCr w1 (ae.trans (uh HI).2 hg) j hjn).mono (by rintro e w' ⟨v',rfl,hv,hb⟩;exact ⟨_,rfl,hb,hv.aU,λt ht=>by cases ht;exact hv⟩)) ?_;rintro _ ⟨cx,ca,cm,cc,rfl⟩;refine ai ag 58 #[.agg #[.int .i64 zx,.slice za zm zc],.agg #[.int .i64 cx,.slice ca cm cc]] (by rfl) (by rfl) ag.some (λw=>by go_simp) (λw1 hg hf=>(eD P K (s.getD q 0) (t.cell r j) _ _ w1 (λb' hb'=>hP b' (by have:=(ae.trans (uh HI).2 hg).size;omega)) ((uh HZ).below (ae.trans (uh HI).2 hg)) (hf 13 (by kernel_rfl) _ 74 rfl rfl) (by omega) (hsl q) ((uh lC).cell r j hrl (by omega))).mono (by rintro e w' ⟨v',rfl,hv,hb⟩;exact ⟨_,rfl,hb,hv.aU,λt ht=>by cases ht;exact hv⟩)) ?_;rintro _ ⟨dx,da,dm,dc,rfl⟩;refine ai ag 55 #[.agg #[.int .i64 ox,.slice oa om oc],.agg #[.int .i64 dx,.slice da dm dc]] (by rfl) (by rfl) ag.some (λw=>by go_simp) (λw1 hg hf=>(gZ P (2*K+1) (ik t s r j) (s.getD q 0*t.cell r j) _ _ w1 (λb' hb'=>hP b' (by have:=(ae.trans (uh HI).2 hg).size;omega)) ((uh HO).below hg) (hf 14 (by kernel_rfl) _ 75 rfl rfl) hK (Tg (uh lC) hsl (by omega) (by omega) (by omega)) (Pl.Lt.mono (Pl.Lt.mul (hsl q) ((uh lC).cell r j hrl (by omega))) (by omega))).mono (by rintro e w' ⟨v',rfl,hv,hb⟩;exact ⟨_,rfl,hb,hv.aU,λt ht=>by cases ht;exact hv⟩)) ?_;rintro _ ⟨ex,ea,em,ec,rfl⟩
       (refine aO λK hK=>?_;go_simp;refine hK _ ?_;clear hK K)
       refine aF ?_;intro w2 hg2 aK;have q76:aj P w2 (.agg #[.int .i64 ex,.slice ea em ec]) (ik t s r j+s.getD q 0*t.cell r j):=aK 15 _ 76 (by decide) rfl rfl;clear aK y1 y2 y3 y4;have s0:=ae.cell hg2 r0;have s1:=ae.cell hg2 r1;have hR2:=(uh HI).1.grow hg2;have s2:=(hR2.get hjn).choose_spec.choose_spec.choose_spec.choose_spec.2.2.2.1;have s3:=(hR2.get hjn).choose_spec.choose_spec.choose_spec.choose_spec.2.2.2.2;have uI:Hid (bz P ((w2.setCell ⟨g,j*2,none⟩ (.int .i64 ex)).setCell ⟨g,j*2+1,none⟩ (.slice ea em ec)) g n (λk=>if k<j+1 then ik t s (r+1) k else ik t s r k)):=(hR2.set hjn q76).congr (λi _=>by
        unfold qi;by_cases h:i=j
        ·subst h;rw [h_ rfl,h_ (by omega)];exact (z8 t s r i (uh HCF)).symm
        ·rw [g_ h]
         dsimp only
         by_cases h2:i<j
         ·rw [h_ h2,h_ (by omega)]
         ·rw [g_ h2,g_ (by omega)])
       have HG2:Hid (ae w ((w2.setCell ⟨g,j*2,none⟩ (.int .i64 ex)).setCell ⟨g,j*2+1,none⟩ (.slice ea em ec))):=(B_ (p:=⟨g,j*2,none⟩) (ae.trans (uh HI).2 hg2) hwg _).setCell (p:=⟨g,j*2+1,none⟩) hwg _;clear q76 hR2 hg2 r0 r1 HO;go_wp2;go_roundg (gk - 1)
       case measure=>omega
       case rel=>exact ⟨j+1,by simp,by omega,uh uI,uh HG2⟩
      ·have NI:j=n:=by omega
       have HR2:Hid (bz P wr g n (ik t s (r+1))∧ae w wr):=⟨(uh HI).1.congr (λi hi=>by rw [h_ (by omega)]),(uh HI).2⟩;clear HI;go_wp2;go_roundg (go - 1)
       case measure=>omega
       case rel=>exact ⟨r+1,by simp,by omega,(uh HR2).1,(uh HR2).2⟩
    ·have HCF:uy t s r=0:=by
      unfold uy;rw [uh HNR,uh HLEN,g_ (by omega)]
     have HR2:Hid (bz P wo g n (ik t s (r+1))∧ae w wo):=⟨(uh HR).1.congr (λi hi=>(NH t s r i HCF).symm),(uh HR).2⟩;clear HCF;by_cases hneg:nm<0
     ·have d0:decide (0 < -nm)=true:=by simp;omega
      have d1:decide (-nm<(n:Int))=false:=by simp;omega
      have d2:¬ (-nm<(n:Int)):=by omega
      have d3:¬ (0<=nm):=by omega
      have hbb:=hb.1;clear hin;go_wp2;go_roundg (go - 1)
      case measure=>omega
      case rel=>exact ⟨r+1,by simp,by omega,(uh HR2).1,(uh HR2).2⟩
     ·have d0:decide (0 < -nm)=false:=by simp;omega
      have hbb:=hb.2;clear hin;go_wp2;go_roundg (go - 1)
      case measure=>omega
      case rel=>exact ⟨r+1,by simp,by omega,(uh HR2).1,(uh HR2).2⟩
   ·have hrn:r=t.lines.length:=by omega
    have HR2:Hid (aD P wo (.slice (some ⟨g,0,none⟩) n n) ((List.range n).map (ik t s t.lines.length))∧ae w wo):=⟨by rw [<-hrn];exact (uh HR).1.row (hP g (by omega)),(uh HR).2⟩;clear M7 HR;go_wp2;go_ret;exact ⟨_,rfl,by rw [hn];exact (uh HR2).1,(uh HR2).2⟩
end
def mi (F:Int->Nat->Int) (s:List Int) (x:Int) (k:Nat):Int:=if x=-1073741824 then s.getD k 0 else F x k
theorem fP {F:Int->Nat->Int} {s:List Int} {x:Int} (h:x≠-1073741824):mi F s x=F x:=by
 funext k;unfold mi;rw [g_ h]
theorem rQ (F:Int->Nat->Int) (s:List Int) (k:Nat):mi F s (-1073741824) k=s.getD k 0:=h_ rfl
structure xw (F:Int->Nat->Int) (n:Nat) (U:List Int):Prop where
 unit:∀ k,1<=k->k<n+1->F (-(k:Int))=Pl.unit k
 small:∀ x∈U,-1000<=x∧x<=1000
 ZV:∀ k:Nat,1<=k->k<n+1->-(k:Int)∈U
theorem Good.Bz {F:Int->Nat->Int} {n:Nat} {U:List Int} {L:Nat} {t:Pl.aR} (h:Good F n U L t) {r:Nat} (hr:r<L):t.name r∈U:=h.stat.lines _ ⟨r,by rw [h.len];exact hr,rfl⟩
theorem Good.QG {F:Int->Nat->Int} {n:Nat} {U:List Int} {L:Nat} {t:Pl.aR} (h:Good F n U L t) {c:Nat} (hc:c<n):t.fe c∈U:=h.stat.aS _ ⟨c,hc,rfl⟩
theorem ow (t:Pl.aR) (x:Int) (cs:List Int) {r:Nat} (hr:r<t.lines.length):(t.add x cs).name r=t.name r:=by
 unfold Pl.aR.name;rw [Pl.Db t x cs hr]
theorem gM (t:Pl.aR) (x:Int) (cs:List Int):(t.add x cs).name t.lines.length=x:=by
 unfold Pl.aR.name;rw [Pl.IG t x cs]
theorem QH {F:Int->Nat->Int} {n:Nat} {U:List Int} {L:Nat} {t:Pl.aR} (h:Good F n U L t) (hF:xw F n U) (hn:n<=100) {s:List Int} (hs:s.length=n+1) :
  Good (mi F s) n (-1073741824::U) (L+1) (t.add (-1073741824) ((List.range (n+1)).map (ik t s L))):=by
 have hne:∀ x∈U,x≠-1073741824:=λx hx e=>by have:=hF.small x hx;omega
 have h1:Pl.bM (mi F s) n t:=h.ok.congr (λc hc=>fP (hne _ (h.QG hc))) (λr hr=>fP (hne _ (h.Bz (by rw [<-h.len];exact hr))));refine ⟨?_,⟨?_,h.names.aS,?_⟩,⟨?_,?_,?_⟩,h.aS,by rw [Pl.kM,h.len]⟩
 ·refine h1.add (by simp) λk hk=>?_;have hl:∀ k:Nat,1<=k->k<n+1->Pl.nG t (-(k:Int)):=λk h1 h2=>by
   rcases h.stat.all _ (hF.ZV k h1 h2) with ⟨c,hc,e⟩|h3
   ·have:=h.aS c hc;rw [e] at this;omega
   ·exact h3
  have hu:∀ k,1<=k->k<n+1->mi F s (-(k:Int))=Pl.unit k:=λk h1 h2=>by
   rw [fP (by omega)];exact hF.unit k h1 h2
  have e1:=h1.Ti (λk=>s.getD k 0) _ (Pl.NJ h.names hu hl (λk=>s.getD k 0)) k hk;rw [rQ,e1];refine Pl.aC λj hj=>?_;rw [Pl.bJ _ _ _ hj];congr 1;unfold Pl.aR.expr ik;rw [h.len];congr 1;refine Pl.aC λr hr=>?_;congr 1;unfold uy;rw [hs]
  dsimp only
  by_cases hc:t.name r<0∧-t.name r<((n:Nat):Int)+1
  ·rw [h_ hc,h_ ⟨by omega,by omega⟩]
  ·rw [g_ hc,g_ (by omega)]
 ·intro i j hi hj e;rw [Pl.kM] at hi hj;rcases (show i<t.lines.length∨i=t.lines.length by omega) with h2|h2 <;> rcases (show j<t.lines.length∨j=t.lines.length by omega) with h3|h3
  ·rw [ow t _ _ h2,ow t _ _ h3] at e;exact h.names.lines i j h2 h3 e
  ·rw [ow t _ _ h2,h3,gM] at e;exact absurd e (hne _ (h.Bz (by rw [<-h.len];exact h2)))
  ·rw [ow t _ _ h3,h2,gM] at e;exact absurd e.symm (hne _ (h.Bz (by rw [<-h.len];exact h3)))
  ·omega
 ·intro i j hi hj e;rw [Pl.kM] at hi;rcases (show i<t.lines.length∨i=t.lines.length by omega) with h2|h2
  ·rw [ow t _ _ h2] at e;exact h.names.apart i j h2 hj e
  ·rw [h2,gM] at e;exact hne _ (h.QG hj) e.symm
 ·intro x ⟨c,hc,e⟩;exact aaV _ (h.stat.aS x ⟨c,hc,e⟩)
 ·intro x ⟨r,hr,e⟩;rw [Pl.kM] at hr;rcases (show r<t.lines.length∨r=t.lines.length by omega) with h2|h2
  ·rw [ow t _ _ h2] at e;exact aaV _ (h.stat.lines x ⟨r,h2,e⟩)
  ·rw [h2,gM] at e;rw [<-e];exact abz
 ·intro x hx;rcases aa0.1 hx with rfl|hx
  ·exact .inr ⟨t.lines.length,by rw [Pl.kM];omega,gM t _ _⟩
  ·rcases h.stat.all x hx with h3 | ⟨r,hr,e⟩
   ·exact .inl h3
   ·exact .inr ⟨r,by rw [Pl.kM];omega,by rw [ow t _ _ hr];exact e⟩
theorem qj (t:Pl.aR) {r:Nat} (hr:r<t.lines.length - 1):t.cut.name r=t.name r:=by
 unfold Pl.aR.name;rw [Pl.Dc t hr]
theorem PW (t:Pl.aR) {r:Nat} (hr:r<t.lines.length - 1) (j:Nat):t.cut.cell r j=t.cell r j:=by
 unfold Pl.aR.cell;rw [Pl.Dc t hr]
theorem Lx (t:Pl.aR) (c:Nat):t.cut.fe c=t.fe c:=rfl
theorem PV {F:Int->Nat->Int} {n:Nat} {U:List Int} {L:Nat} {t:Pl.aR} {s:List Int} (h:Good (mi F s) n (-1073741824::U) (L+1) t) (hF:xw F n U) (hw:t.name L=-1073741824):Good F n U L t.cut:=by
 have hne:∀ x∈U,x≠-1073741824:=λx hx e=>by have:=hF.small x hx;omega
 have hL:=h.len;have hnl:∀ r,r<L->t.name r≠-1073741824:=λr hr e=>by
  have:=h.names.lines r L (by omega) (by omega) (e.trans hw.symm);omega
 have hnc:∀ c,c<n->t.fe c≠-1073741824:=λc hc e=>h.names.apart L c (by omega) hc (hw.trans e.symm);have hcl:t.cut.lines.length=L:=by rw [Pl.Bt,hL];rfl
 refine ⟨?_,⟨?_,h.names.aS,?_⟩,⟨?_,?_,?_⟩,h.aS,hcl⟩
 ·refine h.ok.cut.congr (λc hc=>?_) (λr hr=>?_)
  ·rw [Lx,fP (hnc c hc)]
  ·rw [hcl] at hr;rw [qj t (by omega),fP (hnl r hr)]
 ·intro i j hi hj e;rw [hcl] at hi hj;rw [qj t (by omega),qj t (by omega)] at e;exact h.names.lines i j (by omega) (by omega) e
 ·intro i j hi hj e;rw [hcl] at hi;rw [qj t (by omega)] at e;exact h.names.apart i j (by omega) hj e
 ·intro x ⟨c,hc,e⟩;rcases aa0.1 (h.stat.aS x ⟨c,hc,e⟩) with h2|h2
  ·rw [Lx] at e;exact absurd (e.trans h2) (hnc c hc)
  ·exact h2
 ·intro x ⟨r,hr,e⟩;rw [hcl] at hr;rw [qj t (by omega)] at e;rcases aa0.1 (h.stat.lines x ⟨r,by omega,e⟩) with h2|h2
  ·exact absurd (e.trans h2) (hnl r hr)
  ·exact h2
 ·intro x hx;rcases h.stat.all x (aaV _ hx) with h3|⟨r,hr,e⟩
  ·exact .inl h3
  ·have hrL:r≠L:=λe2=>by rw [e2,hw] at e;exact hne x hx e.symm
   exact .inr ⟨r,by rw [hcl];omega,by rw [qj t (by omega)];exact e⟩
theorem aV.owns {P:Nat->Prop} {w:World} {b gl gc:Nat} {t:Pl.aR} (h:aV P w b gl gc t):∃ fE xs,w.cell? ⟨b,0,none⟩=some (.slice (some ⟨gl,0,none⟩) t.lines.length fE)∧w.ownsRow 0 111 2 (.slice (some ⟨gl,0,none⟩) t.lines.length fE) t.lines.length xs∧t.lines.length<=fE ∧
  ∀ i,(hi:i<t.lines.length)->∃ u,xs[i*2]?=some (.int .i64 t.lines[i].1)∧xs[i*2+1]?=some u∧aD P w u t.lines[i].2:=by
 obtain ⟨⟨fE,jl,sx,sa,sm,sc,h1,h2,cs,h3,h4,h5,h6,h7⟩,_,_⟩:=h;refine ⟨fE,cs.toList.take (t.lines.length*2),by rw [cellsOf h1];rfl,⟨by rw [T_,Array.length_toList];omega,.inr ⟨gl,fE,cs,rfl,aaZ _,h3,h5,h6,h4,rfl⟩⟩,h5,λi hi=>?_⟩;obtain ⟨u,e1,e2,e3⟩:=h7 i hi;exact ⟨u,by rw [aac (by omega)];simpa using e1,by rw [aac (by omega)];simpa using e2,e3⟩
theorem II {P:Nat->Prop} {w w2:World} {gl:Nat} {cs:Array Value} (hl:w.heap[gl]?=some (.cells cs 111 (0,0))) (hg:w.grownBy w2 (some gl)):Holds P w w2:=by
 refine λk cur T hT _ hk=>hg.block k (z_ hk) (λe=>?_);cases e;rw [hl] at hk;cases hk;rcases hT with e|e|e <;> exact absurd e (by decide)
theorem Tj {P:Nat->Prop} {w w0 w2:World} {b gl gc:Nat} {t:Pl.aR} (h:aV P w b gl gc t) (hw0:ae w w0) {xs:List Value} (hxs:∀ i,(hi:i<t.lines.length)->∃ u,xs[i*2]?=some (.int .i64 t.lines[i].1)∧xs[i*2+1]?=some u∧aD P w u t.lines[i].2) (hlx:xs.length=t.lines.length*2) {g cap:Nat} {x:Int} {ua:Option Addr} {un uc:Nat} {row:List Int} (hu:aD P w (.slice ua un uc) row)
  (hown:w2.ownsRow 0 111 2 (.slice (some ⟨g,0,none⟩) (t.lines.length+1) cap) (t.lines.length+1) (xs++[.int .i64 x,.slice ua un uc])) (hgrow:w0.grownBy w2 (some gl)) (hat:some gl=some g∨g=w0.heap.size) :
  (aV P (w2.setCell ⟨b,0,none⟩ (.slice (some ⟨g,0,none⟩) (t.lines.length+1) cap)) b g gc (t.add x row)∧bG (mh b gl gc) w (w2.setCell ⟨b,0,none⟩ (.slice (some ⟨g,0,none⟩) (t.lines.length+1) cap))∧(g=gl∨w.heap.size<=g))∧(∃ u,w2.cell? ⟨b,0,none⟩=some u)∧w2.frozen? ⟨b,0,none⟩=false:=by
 have hlt:=h.lt;have hh1:Holds P w w0:=.aX hw0;obtain ⟨alo,hl0⟩:=nD (h.grow hw0);have Gc:Holds P w0 w2:=II hl0 hgrow;have Ba:∀ k,k<w.heap.size->k≠gl->w2.heap[k]?=w.heap[k]?:=λk hk hne=>(hgrow.block k (by have:=hw0.size;omega) (λe=>hne (by cases e;rfl))).trans (Below.block hw0 k hk);have hg:g=gl∨w.heap.size<=g:=by
  rcases hat with e|e
  ·left;cases e;rfl
  ·right;rw [e];exact hw0.size
 have ael:g≠b∧g≠gc:=by
  rcases hg with e|e
  ·subst e;exact ⟨aaQ hlt.2.2.2.1,hlt.2.2.2.2.2⟩
  ·exact ⟨by omega,by omega⟩
 obtain ⟨⟨fE,jl,sx,sa,sm,sc,h1,h2,cs,h3,h4,h5,h6,h7⟩,⟨cc,h8,h9⟩,h10⟩:=h;have b2:=(Ba b hlt.1 hlt.2.2.2.1).trans h1;have e2:=j_ w2 b 0 _ _ (.slice (some ⟨g,0,none⟩) (t.lines.length+1) cap) b2;have hh3:Holds P w2 (w2.setCell ⟨b,0,none⟩ (.slice (some ⟨g,0,none⟩) (t.lines.length+1) cap)):=bQ b2 (by decide) (λe=>absurd e (by decide)) _ _;have hh:=(hh1.trans Gc).trans hh3;rcases hown.2 with ⟨e,_⟩|⟨g',cap',cur,e,_,jS,hle,hmx,hsz,htk⟩
 ·cases e
 cases e;refine ⟨⟨⟨⟨cap,jl,sx,sa,sm,sc,?_,h2.ql hh.xJ,cur,?_,hsz,by rw [Pl.kM];exact hle,hmx,λi hi=>?_⟩,⟨cc,?_,h9⟩,h10⟩,?_,hg⟩,⟨_,by rw [cellsOf b2];rfl⟩,aH b2 0⟩
 ·rw [e2,Pl.kM];rfl
 ·rw [l_ _ _ _ _ ael.1];exact jS
 ·rw [Pl.kM] at hi;have hcell:∀ k,k<(t.lines.length+1)*2->cur[k]?=(xs++[Value.int .i64 x,.slice ua un uc])[k]?:=λk hk=>by
   rw [<-htk,aac hk];simp
  rw [hcell _ (by omega),hcell _ (by omega)];by_cases hil:i<t.lines.length
  ·obtain ⟨u,d1,d2,d3⟩:=hxs i hil;have e3:(t.add x row).lines[i]'(by rw [Pl.kM];exact hi)=t.lines[i]:=by simp [Pl.aR.add,List.getElem_append_left hil]
   refine ⟨u,?_,?_,?_⟩
   ·rw [aah (by omega),e3];exact d1
   ·rw [aah (by omega)];exact d2
   ·rw [e3];exact d3.holds hh
  ·have ei:i=t.lines.length:=by omega
   subst ei;have e3:(t.add x row).lines[t.lines.length]'(by rw [Pl.kM];exact hi)=(x,row):=by simp [Pl.aR.add]
   refine ⟨.slice ua un uc,?_,?_,?_⟩
   ·rw [R_ (by omega),hlx,e3];simp
   ·rw [R_ (by omega),hlx];simp
   ·rw [e3];exact hu.holds hh
 ·rw [l_ _ _ _ _ (aaQ hlt.2.2.2.2.1),Ba gc hlt.2.2.1 (aaQ hlt.2.2.2.2.2)];exact h8
 ·exact bG.setCell ⟨hgrow.os.trans hw0.os,hgrow.tape.trans hw0.tape,hgrow.output.trans hw0.output,w_ hw0.size hgrow.size,λk hk hne=>Ba k hk (λe=>hne (.inr (.inl e)))⟩ (.inl rfl) _ _
theorem Tk {P:Nat->Prop} {w:World} {b gl gc:Nat} {t:Pl.aR} (h:aV P w b gl gc t) {L fE:Nat} (hL:t.lines.length=L+1) (hc:w.cell? ⟨b,0,none⟩=some (.slice (some ⟨gl,0,none⟩) t.lines.length fE)):aV P (w.setCell ⟨b,0,none⟩ (.slice (some ⟨gl,0,none⟩) L fE)) b gl gc t.cut:=by
 have hlt:=h.lt;obtain ⟨⟨r9,jl,sx,sa,sm,sc,h1,h2,cs,h3,h4,h5,h6,h7⟩,⟨cc,h8,h9⟩,h10⟩:=h;have e0:r9=fE:=by
  rw [cellsOf h1] at hc
  simpa using hc
 subst e0;have e2:=j_ w b 0 _ _ (.slice (some ⟨gl,0,none⟩) L r9) h1;have hh:Holds P w (w.setCell ⟨b,0,none⟩ (.slice (some ⟨gl,0,none⟩) L r9)):=bQ h1 (by decide) (λe=>absurd e (by decide)) _ _;have hcl:t.cut.lines.length=L:=by rw [Pl.Bt,hL];rfl
 refine ⟨⟨r9,jl,sx,sa,sm,sc,?_,h2.ql hh.xJ,cs,?_,h4,by rw [hcl];omega,h6,λi hi=>?_⟩,⟨cc,?_,h9⟩,h10⟩
 ·rw [e2,hcl];rfl
 ·rw [l_ _ _ _ _ (aaQ hlt.2.2.2.1),h3]
 ·have hi':i<t.lines.length:=by rw [hcl] at hi;omega
  obtain ⟨u,d1,d2,d3⟩:=h7 i hi';have e3:t.cut.lines[i]=t.lines[i]:=by simp [Pl.aR.cut]
  exact ⟨u,by rw [e3];exact d1,d2,by rw [e3];exact d3.holds hh⟩
 ·rw [l_ _ _ _ _ (aaQ hlt.2.2.2.2.1),h8]
end Go.Proofs.YtgaafamcajcifaaGreat
