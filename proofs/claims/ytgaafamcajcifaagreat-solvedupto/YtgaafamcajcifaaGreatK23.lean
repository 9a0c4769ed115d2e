/- Joined: XSol1 XSol2 XSol3 XCopy XSol4. -/
import Derived.Test.YtgaafamcajcifaaGreatK22
set_option linter.unusedVariables false
set_option linter.unusedSimpArgs false
set_option maxRecDepth 100000
namespace Go.Proofs.YtgaafamcajcifaaGreat
open Go.RowKit Go.Sort
def mZ (a st:List Int) (i:Nat):Int:=Pl.sm i (λk=>a.getD (k+1) 0*st.getD k 0)
theorem IK {K:Nat} {a st:List Int} (ha:∀ k,Pl.Lt K (a.getD k 0)) (hs:∀ k,Pl.Lt K (st.getD k 0)) {i:Nat} (hi:i<=1000):Pl.Lt (2*K+1) (mZ a st i) :=
 Pl.Lt.sum (λr _=>by rw [Nat.two_mul];exact (ha _).mul (hs _)) (by omega)
theorem eU {P:Nat->Prop} {w:World} {v:Value} {l:List Int} (h:aD P w v l) {i:Nat} (hi:i<l.length):∃ g off cap x a m c,v=.slice (some ⟨g,off,none⟩) l.length cap∧w.cell? ⟨g,off+i*2,none⟩=some (.int .i64 x)∧w.cell? ⟨g,off+i*2+1,none⟩=some (.slice a m c)∧aj P w (.agg #[.int .i64 x,.slice a m c]) (l.getD i 0):=by
 obtain ⟨g,off,cap,cs,rfl,_,hg⟩:=h.get (by omega);obtain ⟨x,a,m,c,h1,h2,h3⟩:=hg i hi;exact ⟨g,off,cap,x,a,m,c,rfl,h1,h2,by rw [a_,f_ hi];exact h3⟩
section
section
section
attribute [local go_sem] bD
set_option maxHeartbeats 20000000 in
theorem EW (P:Nat->Prop) (K n:Nat) (a st:List Int) (va vs:Value) (w:World) (hP:∀ b,w.heap.size<=b->P b) (ha:aD P w va a) (hst:aD P w vs st) (hla:a.length=n+1) (hls:st.length=n) (hn:n<=100) (hal:∀ k,Pl.Lt K (a.getD k 0)) (hsl:∀ k,Pl.Lt K (st.getD k 0)) (hK:2*K+1<=1500000000000) :
  Calls Tryz.prog 60 #[va,vs] w λe w'=>∃ v',e=.returned v'∧aj P w' v' (mZ a st n)∧Below w.heap.size w w':=by
 have zy:=af ha;have xe:=af hst;obtain ⟨aa,ac,rfl⟩:∃ ad cap,va=.slice ad (n+1) cap:=by obtain ⟨ad,cap,e,_⟩:=ha;rw [hla] at e;exact ⟨ad,cap,e⟩
 obtain ⟨sa,sc,rfl⟩:∃ ad cap,vs=.slice ad n cap:=by obtain ⟨ad,cap,e,_⟩:=hst;rw [hls] at e;exact ⟨ad,cap,e⟩
 have oI:=af (x_ hla hls);have HW0:=af (x_ (aG w (.cells #[.int .i64 0,.slice none 0 0] 78)) (ae.trans (ae.alloc w (.cells #[.int .i64 0,.slice none 0 0] 78)) (ae.alloc _ (.cells #[.int .i64 0,.slice none 0 0] 78))));have zO:Hid (bB P ((w.alloc (.cells #[.int .i64 0,.slice none 0 0] 78)).alloc (.cells #[.int .i64 0,.slice none 0 0] 78)) (w.heap.size+1) 0 none 0 0 0):=⟨by have:=aG (w.alloc (.cells #[.int .i64 0,.slice none 0 0] 78)) (.cells #[.int .i64 0,.slice none 0 0] 78);rwa [H_] at this,.inl ⟨rfl,by decide,by decide⟩⟩;have HZ0:Hid (((w.alloc (.cells #[.int .i64 0,.slice none 0 0] 78)).alloc (.cells #[.int .i64 0,.slice none 0 0] 78)).heap[w.heap.size]?=some (.cells #[.int .i64 0,.slice none 0 0] 78)):=Below.same (ae.alloc (w.alloc (.cells #[.int .i64 0,.slice none 0 0] 78)) (.cells #[.int .i64 0,.slice none 0 0] 78)) _ _ (aG w (.cells #[.int .i64 0,.slice none 0 0] 78));have xV:Hid (ae w ((w.alloc (.cells #[.int .i64 0,.slice none 0 0] 78)).alloc (.cells #[.int .i64 0,.slice none 0 0] 78))):=ae.trans (ae.alloc w (.cells #[.int .i64 0,.slice none 0 0] 78)) (ae.alloc _ (.cells #[.int .i64 0,.slice none 0 0] 78));clear ha hst hla hls HW0;go_enter Tryz.func60,Tryz.ntmps60;go_wp2_with fail;go_loopg [6] n (λk iv wr=>∃ (i:Nat) (rx:Int) (ra:Option Addr) (rm rc:Nat),iv=.int .i64 i∧i+k=n∧Hid (bB P wr (w.heap.size+1) rx ra rm rc (mZ a st i)∧ae w wr∧wr.heap[w.heap.size]?=some (.cells #[.int .i64 0,.slice none 0 0] 78)))
 case atStart=>exact ⟨0,0,none,0,0,rfl,by omega,uh zO,uh xV,uh HZ0⟩
 case round =>
  obtain ⟨i,rx,ra,rm,rc,rfl,hik,HR⟩:=hrel;by_cases hlt:i<n
  ·obtain ⟨ga,oa,ca,px,pa,pm,pc,ea,p0,p1,hpv⟩:=eU ((uh zy).below (uh HR).2.1) (i:=i+1) (by rw [(uh oI).1];omega);obtain ⟨gs,os,cs,qx,qa,qm,qc,es,q0,q1,QK⟩:=eU ((uh xe).below (uh HR).2.1) (i:=i) (by rw [(uh oI).2];omega);rw [(uh oI).1] at ea;rw [(uh oI).2] at es;cases ea;cases es;have wy:=af hpv;have yM:=af QK;obtain ⟨r0,r1,_⟩:=(uh HR).1.cells;have hi1:i+1<n+1:=by omega
   have hI:(i:Int)+1<(n:Int)+1:=by omega
   have hI0:(0:Int)<=(i:Int)+1:=by omega
   have YD:IntKind.i64.wrap ((i:Int)+1)=(i:Int)+1:=by rw [aaA];omega
   have htn:((i:Int)+1).toNat=i+1:=by omega
   have y1:=b_ p0;have y2:=b_ p1;have y3:=b_ q0;have y4:=b_ q1;have y5:=b_ r0;have y6:=b_ r1;clear hpv QK;go_wp2_with fail;clear p0 p1 q0 q1 r0 r1;refine ah (bZ [(30,λv w=>aj P w v (a.getD (i+1) 0*st.getD i 0)),(31,λv w=>aj P w v (mZ a st i+a.getD (i+1) 0*st.getD i 0))]) (gL [(30,ag),(31,ag)]) 33 12 (by kernel_rfl) (by rfl) (by kernel_rfl) (aN (λ_ _ _=>aj.below) (aN (λ_ _ _=>aj.below) cK)) ?_
   iterate 10 (refine aO λK hK=>?_;go_simp;refine hK _ ?_;clear hK K)
   refine ai ag 58 #[.agg #[.int .i64 px,.slice pa pm pc],.agg #[.int .i64 qx,.slice qa qm qc]] (by rfl) (by rfl) ag.some (λw=>by go_simp) (λw1 hg hf=>(eD P K (a.getD (i+1) 0) (st.getD i 0) _ _ w1 (λb' hb'=>hP b' (by have:=(ae.trans (uh HR).2.1 hg).size;omega)) ((uh wy).below hg) ((uh yM).below hg) (by omega) (hal _) (hsl _)).mono (by rintro e w' ⟨v',rfl,hv,hb⟩;exact ⟨_,rfl,hb,hv.aU,λt ht=>by cases ht;exact hv⟩)) ?_;rintro _ ⟨cx,ca,cm,cc,rfl⟩;refine ai ag 55 #[.agg #[.int .i64 rx,.slice ra rm rc],.agg #[.int .i64 cx,.slice ca cm cc]] (by rfl) (by rfl) ag.some (λw=>by go_simp) (λw1 hg hf=>(gZ P (2*K+1) (mZ a st i) (a.getD (i+1) 0*st.getD i 0) _ _ w1 (λb' hb'=>hP b' (by have:=(ae.trans (uh HR).2.1 hg).size;omega)) ((uh HR).1.val.below hg) (hf 10 (by kernel_rfl) _ 30 rfl rfl) hK (IK hal hsl (by omega)) (Pl.Lt.mono (Pl.Lt.mul (hal _) (hsl _)) (by omega))).mono (by rintro e w' ⟨v',rfl,hv,hb⟩;exact ⟨_,rfl,hb,hv.aU,λt ht=>by cases ht;exact hv⟩)) ?_;rintro _ ⟨ex,ea,em,ec,rfl⟩;refine aF ?_;intro w2 hg2 aK;have q31:aj P w2 (.agg #[.int .i64 ex,.slice ea em ec]) (mZ a st i+a.getD (i+1) 0*st.getD i 0):=aK 11 _ 31 (by decide) rfl rfl;clear aK y1 y2 y3 y4 y5 y6;have hblk:=((uh HR).1.grow hg2).heap;have s0:=(au hblk).1;have s1:=(au hblk).2.1;have s2:=(au hblk).2.2.1;have s3:=(au hblk).2.2.2;have Ot:=af (bH (ae.trans (uh HR).2.1 hg2) (show w.heap.size<=w.heap.size+1 by omega) hblk q31).1;have HG2:=af (bH (ae.trans (uh HR).2.1 hg2) (show w.heap.size<=w.heap.size+1 by omega) hblk q31).2;have HZ2:Hid (((w2.setCell ⟨w.heap.size+1,0,none⟩ (.int .i64 ex)).setCell ⟨w.heap.size+1,1,none⟩ (.slice ea em ec)).heap[w.heap.size]?=some (.cells #[.int .i64 0,.slice none 0 0] 78 (0,0))):=(jN (show w.heap.size≠w.heap.size+1 by omega) _ _).trans (Below.same hg2 _ _ (uh HR).2.2);clear q31 hblk hg2;go_wp2;go_roundg (gk - 1)
   case measure=>omega
   case rel=>exact ⟨i+1,ex,ea,em,ec,by simp,by omega,uh Ot,uh HG2,uh HZ2⟩
  ·have hin:i=n:=by omega
   subst hin;obtain ⟨r0,r1,_⟩:=(uh HR).1.cells;obtain ⟨z0,z1,z2,z3⟩:=au (uh HR).2.2;have n1:w.heap.size≠w.heap.size+1:=by omega
   have HV:=af ((uh HR).1.val.kE (uh HR).2.2 (.int .i64 rx) (.slice ra rm rc));have HG:Hid (ae w ((wr.setCell ⟨w.heap.size,0,none⟩ (.int .i64 rx)).setCell ⟨w.heap.size,1,none⟩ (.slice ra rm rc))):=(B_ (p:=⟨w.heap.size,0,none⟩) (uh HR).2.1 (d_ _) _).setCell (p:=⟨w.heap.size,1,none⟩) (d_ _) _;go_wp2;exact t_ (v:=.agg #[.int .i64 rx,.slice ra rm rc]) (by simp [results,Tryz.results60,go_sem,z0,z1]) rfl ⟨_,rfl,uh HV,uh HG⟩
end
theorem yB {f z:Nat->Int} {i:Nat} (k:Nat):qi (λk=>if k<i then f k else z k) i (f i) k=if k<i+1 then f k else z k:=by
 unfold qi;by_cases h:k=i
 ·subst h;rw [h_ rfl,h_ (by omega)]
 ·rw [g_ h]
  dsimp only
  by_cases h2:k<i
  ·rw [h_ h2,h_ (by omega)]
  ·rw [g_ h2,g_ (by omega)]
theorem bz.free {P:Nat->Prop} {w:World} {g n:Nat} {f:Nat->Int} (h:bz P w g n f) (o:Nat):w.frozen? ⟨g,o,none⟩=false:=by
 obtain ⟨cs,hb,_⟩:=h;exact aH hb o
theorem gP {P:Nat->Prop} {w:World} {v:Value} {ls:List (List Int)} (h:aM P w v ls) {i:Nat} (hi:i<ls.length):∃ g off cap u,v=.slice (some ⟨g,off,none⟩) ls.length cap∧w.cell? ⟨g,off+i,none⟩=some u∧aD P w u (ls.getD i [])∧ls.getD i []∈ls:=by
 obtain ⟨g,off,cap,cs,rfl,_,hg⟩:=h.get (by omega);obtain ⟨u,h1,h2⟩:=hg i hi;have e:ls.getD i []=ls[i]:=by rw [a_,f_ hi];rfl
 exact ⟨g,off,cap,u,rfl,h1,by rw [e];exact h2,by rw [e];exact aak hi⟩
attribute [local go_sem] bD
set_option maxHeartbeats 20000000 in
theorem IC (P:Nat->Prop) (K n:Nat) (a:List Int) (dv:Int) (va vd:Value) (w:World) (hP:∀ b,w.heap.size<=b->P b) (ha:aD P w va a) (hd:aj P w vd dv) (hla:a.length=n) (hn:n<=1000) (hal:∀ k,Pl.Lt K (a.getD k 0)) (hdl:Pl.Lt K dv) (hK:K<=1500000000000) :
  Calls Tryz.prog 47 #[va,vd] w λe w'=>∃ v',e=.returned v'∧aD P w' v' ((List.range n).map λk=>Int.fdiv (a.getD k 0) dv)∧Below w.heap.size w w':=by
 obtain ⟨i0,hi0,hz0,hz1,hz2⟩:=U_ Tryz.dP;have zy:=af ha;have oI:=af hla;obtain ⟨aa,ac,rfl⟩:∃ ad cap,va=.slice ad n cap:=by obtain ⟨ad,cap,e,_⟩:=ha;rw [hla] at e;exact ⟨ad,cap,e⟩
 obtain ⟨dx,da,dm,dc,rfl⟩:=hd.shape;have HD:=af (dC hd);have QI:Hid (ae w (w.alloc (.cells #[.int .i64 dx,.slice da dm dc] 78))):=ae.alloc _ _;clear ha hd hla;go_enter Tryz.func47,Tryz.ntmps47;go_wp2_with (at_make;refine wpList_make_full _ rfl _ _ 69 rfl (w.heap.size+1) 78 i0 (.agg #[.int .i64 0,.slice none 0 0]) 2 Tryz.underlying69 hi0 hz0 hz1 .i64 .i64 _ _ n rfl rfl ?e1 ?e2 ?c1 ?c2 ?c3 ?_)
 case e1=>first | rfl | omega | simp
 case e2=>first | rfl | omega | simp
 case c1=>rw [hz2];omega
 case c2=>unfold maxLen;omega
 case c3=>first | omega | simp
 ·intro w1 hown hgrow;have hG1:ae (w.alloc (.cells #[.int .i64 dx,.slice da dm dc] 78)) w1:=(n_ _ _).grown hgrow (d_ _) (by intro k hk;cases hk);have uA:Hid (bz P w1 (w.heap.size+1) n (λ_=>0)):=bz.made hown;have dN:Hid (ae w w1):=(uh QI).trans hG1;have HD1:=af ((uh HD).grow hG1);clear hown hgrow hG1 HD QI;go_wp2_with fail;go_loopg [6] n (λk iv wr=>∃ (i:Nat),iv=.int .i64 i∧i+k=n∧Hid (bz P wr (w.heap.size+1) n (λk=>if k<i then Int.fdiv (a.getD k 0) dv else 0)∧ae w wr∧bB P wr w.heap.size dx da dm dc dv))
  case atStart=>exact ⟨0,rfl,by omega,(uh uA).congr (λi _=>by rw [g_ (by omega)]),uh dN,uh HD1⟩
  case round =>
   obtain ⟨i,rfl,hik,HR⟩:=hrel;by_cases hlt:i<n
   ·obtain ⟨ox,oy,om,oc,Oa,Ob,_⟩:=(uh HR).1.get hlt;obtain ⟨ga,oa,ca,px,pa,pm,pc,ea,p0,p1,hpv⟩:=eU ((uh zy).below (uh HR).2.1) (i:=i) (by rw [uh oI];exact hlt);rw [uh oI] at ea;cases ea;have wy:=af hpv;obtain ⟨d0,d1,_⟩:=(uh HR).2.2.cells;have y1:=b_ p0;have y2:=b_ p1;have y3:=b_ d0;have y4:=b_ d1;clear hpv;go_wp2_with fail;clear p0 p1 d0 d1;refine ah (bZ [(23,λv w=>aj P w v (Int.fdiv (a.getD i 0) dv))]) (gL [(23,ag)]) 26 9 (by kernel_rfl) (by rfl) (by kernel_rfl) (aN (λ_ _ _=>aj.below) cK) ?_
    iterate 7 (refine aO λK hK=>?_;go_simp;refine hK _ ?_;clear hK K)
    refine ai ag 56 #[.agg #[.int .i64 px,.slice pa pm pc],.agg #[.int .i64 dx,.slice da dm dc]] (by rfl) (by rfl) ag.some (λw=>by go_simp) (λw1 hg hf=>(lu P K (a.getD i 0) dv _ _ w1 (λb' hb'=>hP b' (by have:=(ae.trans (uh HR).2.1 hg).size;omega)) ((uh wy).below hg) ((uh HR).2.2.val.below hg) hK (hal _) hdl).mono (by rintro e w' ⟨v',rfl,hv,hb⟩;exact ⟨_,rfl,hb,hv.aU,λt ht=>by cases ht;exact hv⟩)) ?_;rintro _ ⟨nx,na,nm,nc,rfl⟩
    (refine aO λK hK=>?_;go_simp;refine hK _ ?_;clear hK K)
    refine aF ?_;intro w2 hw2 aK;have hv2:aj P w2 (.agg #[.int .i64 nx,.slice na nm nc]) (Int.fdiv (a.getD i 0) dv):=aK 7 _ 23 (by decide) rfl rfl;clear aK y1 y2 y3 y4;have hR2:=(uh HR).1.grow hw2;have r0:=ae.cell hw2 Oa;have r1:=ae.cell hw2 Ob;have f0:=hR2.free (i*2);have f1:=hR2.free (i*2+1);have uI:Hid (bz P ((w2.setCell ⟨w.heap.size+1,i*2,none⟩ (.int .i64 nx)).setCell ⟨w.heap.size+1,i*2+1,none⟩ (.slice na nm nc)) (w.heap.size+1) n (λk=>if k<i+1 then Int.fdiv (a.getD k 0) dv else 0)):=(hR2.set hlt hv2).congr (λk _=>yB (f:=λk=>Int.fdiv (a.getD k 0) dv) (z:=λ_=>0) k);have HG2:Hid (ae w ((w2.setCell ⟨w.heap.size+1,i*2,none⟩ (.int .i64 nx)).setCell ⟨w.heap.size+1,i*2+1,none⟩ (.slice na nm nc))):=(B_ (p:=⟨w.heap.size+1,i*2,none⟩) (ae.trans (uh HR).2.1 hw2) (by show w.heap.size<=w.heap.size+1;omega) _).setCell (p:=⟨w.heap.size+1,i*2+1,none⟩) (by show w.heap.size<=w.heap.size+1;omega) _;have GV:Hid (bB P ((w2.setCell ⟨w.heap.size+1,i*2,none⟩ (.int .i64 nx)).setCell ⟨w.heap.size+1,i*2+1,none⟩ (.slice na nm nc)) w.heap.size dx da dm dc dv):=yX ((uh HR).2.2.grow hw2) hR2.block.choose_spec (by decide) (by omega) _ _ _ _;clear hv2 hw2 hR2;go_wp2;go_roundg (gk - 1)
    case measure=>omega
    case rel=>exact ⟨i+1,by simp,by omega,uh uI,uh HG2,uh GV⟩
   ·have hin:i=n:=by omega
    have HF:Hid (aD P wr (.slice (some ⟨w.heap.size+1,0,none⟩) n n) ((List.range n).map λk=>Int.fdiv (a.getD k 0) dv)):=((uh HR).1.congr (f':=λk=>Int.fdiv (a.getD k 0) dv) (λk hk=>by rw [h_ (by omega)])).row (hP _ (by omega));go_wp2;go_ret;exact ⟨_,rfl,uh HF,(uh HR).2.1⟩
set_option maxHeartbeats 20000000 in
theorem tL (P:Nat->Prop) (n:Nat) (a:List Int) (va:Value) (w:World) (hP:∀ b,w.heap.size<=b->P b) (ha:aD P w va a) (hla:a.length=n) (hn:n<=1000) :
  Calls Tryz.prog 41 #[va] w λe w'=>∃ v',e=.returned v'∧aD P w' v' (a.map λx=>-x)∧Below w.heap.size w w':=by
 obtain ⟨i0,hi0,hz0,hz1,hz2⟩:=U_ Tryz.dP;have zy:=af ha;have oI:=af hla;obtain ⟨aa,ac,rfl⟩:∃ ad cap,va=.slice ad n cap:=by obtain ⟨ad,cap,e,_⟩:=ha;rw [hla] at e;exact ⟨ad,cap,e⟩
 clear ha hla;go_enter Tryz.func41,Tryz.ntmps41;go_wp2_with (at_make;refine wpList_make_full _ rfl _ _ 69 rfl w.heap.size 78 i0 (.agg #[.int .i64 0,.slice none 0 0]) 2 Tryz.underlying69 hi0 hz0 hz1 .i64 .i64 _ _ n rfl rfl ?e1 ?e2 ?c1 ?c2 ?c3 ?_)
 case e1=>first | rfl | omega | simp
 case e2=>first | rfl | omega | simp
 case c1=>rw [hz2];omega
 case c2=>unfold maxLen;omega
 case c3=>first | omega | simp
 ·intro w1 hown hgrow;have hG1:ae w w1:=(n_ _ _).grown hgrow (d_ _) (by intro k hk;cases hk);have uA:Hid (bz P w1 w.heap.size n (λ_=>0)):=bz.made hown;have dN:Hid (ae w w1):=hG1;clear hown hgrow hG1;go_wp2_with fail;go_loopg [4] n (λk iv wr=>∃ (i:Nat),iv=.int .i64 i∧i+k=n∧Hid (bz P wr w.heap.size n (λk=>if k<i then -a.getD k 0 else 0)∧ae w wr∧True))
  case atStart=>exact ⟨0,rfl,by omega,(uh uA).congr (λi _=>by rw [g_ (by omega)]),uh dN,trivial⟩
  case round =>
   obtain ⟨i,rfl,hik,HR⟩:=hrel;by_cases hlt:i<n
   ·obtain ⟨ox,oy,om,oc,Oa,Ob,_⟩:=(uh HR).1.get hlt;obtain ⟨ga,oa,ca,px,pa,pm,pc,ea,p0,p1,hpv⟩:=eU ((uh zy).below (uh HR).2.1) (i:=i) (by rw [uh oI];exact hlt);rw [uh oI] at ea;cases ea;have HN:=af (lF P _ _ _ hpv);clear hpv;go_wp2_with fail;refine (uh HN).mono ?_;rintro e w2 ⟨v2,rfl,hv2,hw2⟩;obtain ⟨nx,na,nm,nc,rfl⟩:=hv2.shape;have hR2:=(uh HR).1.grow hw2;have r0:=ae.cell hw2 Oa;have r1:=ae.cell hw2 Ob;have f0:=hR2.free (i*2);have f1:=hR2.free (i*2+1);have uI:Hid (bz P ((w2.setCell ⟨w.heap.size,i*2,none⟩ (.int .i64 nx)).setCell ⟨w.heap.size,i*2+1,none⟩ (.slice na nm nc)) (w.heap.size) n (λk=>if k<i+1 then -a.getD k 0 else 0)):=(hR2.set hlt hv2).congr (λk _=>yB (f:=λk=>-a.getD k 0) (z:=λ_=>0) k);have HG2:Hid (ae w ((w2.setCell ⟨w.heap.size,i*2,none⟩ (.int .i64 nx)).setCell ⟨w.heap.size,i*2+1,none⟩ (.slice na nm nc))):=(B_ (p:=⟨w.heap.size,i*2,none⟩) (ae.trans (uh HR).2.1 hw2) (by show w.heap.size<=w.heap.size;omega) _).setCell (p:=⟨w.heap.size,i*2+1,none⟩) (by show w.heap.size<=w.heap.size;omega) _;clear hv2 hw2 hR2;go_wp2;go_roundg (gk - 1)
    case measure=>omega
    case rel=>exact ⟨i+1,by simp,by omega,uh uI,uh HG2,trivial⟩
   ·have hin:i=n:=by omega
    have HF:Hid (aD P wr (.slice (some ⟨w.heap.size,0,none⟩) n n) (a.map λx=>-x)):=by
     unfold Hid;rw [<-zZ a n (uh oI)];exact ((uh HR).1.congr (f':=λk=>-a.getD k 0) (λk hk=>by rw [h_ (by omega)])).row (hP _ (d_ _))
    go_wp2;go_ret;exact ⟨_,rfl,uh HF,(uh HR).2.1⟩
end
def bC (a:List Int):Nat->Int
 | 0=>0
 | i+1=>Int.gcd (bC a i) (a.getD (i+1) 0)
theorem Pl.Lt.gcd {K:Nat} {a b:Int} (ha:Pl.Lt K a) (hb:Pl.Lt K b):Pl.Lt K (Int.gcd a b):=by
 rw [Pl.dZ] at *
 rw [Int.natAbs_natCast];by_cases h:b=0
 ·subst h;rw [Int.gcd_zero_right];exact ha
 ·exact Nat.lt_of_le_of_lt (Nat.le_of_dvd (by omega) (Int.gcd_dvd_natAbs_right a b)) hb
theorem zW {K:Nat} {a:List Int} (ha:∀ k,Pl.Lt K (a.getD k 0)):∀ i,Pl.Lt K (bC a i)
 | 0=>by rw [Pl.dZ];exact aa6 (by omega)
 | i+1=>(zW ha i).gcd (ha _)
attribute [local go_sem] bD
set_option maxHeartbeats 20000000 in
theorem Kv (P:Nat->Prop) (K n:Nat) (a:List Int) (va:Value) (w:World) (hP:∀ b,w.heap.size<=b->P b) (ha:aD P w va a) (hla:a.length=n+1) (hn:n<=100) (hal:∀ k,Pl.Lt K (a.getD k 0)) (hK:K<=1500000000000) :
  Calls Tryz.prog 45 #[va] w λe w'=>∃ v',e=.returned v'∧aj P w' v' (bC a n)∧Below w.heap.size w w':=by
 have zy:=af ha;obtain ⟨aa,ac,rfl⟩:∃ ad cap,va=.slice ad (n+1) cap:=by obtain ⟨ad,cap,e,_⟩:=ha;rw [hla] at e;exact ⟨ad,cap,e⟩
 have oI:=af hla;have zO:Hid (bB P ((w.alloc (.cells #[.int .i64 0,.slice none 0 0] 78)).alloc (.cells #[.int .i64 0,.slice none 0 0] 78)) (w.heap.size+1) 0 none 0 0 0):=⟨by have:=aG (w.alloc (.cells #[.int .i64 0,.slice none 0 0] 78)) (.cells #[.int .i64 0,.slice none 0 0] 78);rwa [H_] at this,.inl ⟨rfl,by decide,by decide⟩⟩;have HZ0:Hid (((w.alloc (.cells #[.int .i64 0,.slice none 0 0] 78)).alloc (.cells #[.int .i64 0,.slice none 0 0] 78)).heap[w.heap.size]?=some (.cells #[.int .i64 0,.slice none 0 0] 78)):=Below.same (ae.alloc (w.alloc (.cells #[.int .i64 0,.slice none 0 0] 78)) (.cells #[.int .i64 0,.slice none 0 0] 78)) _ _ (aG w (.cells #[.int .i64 0,.slice none 0 0] 78));have xV:Hid (ae w ((w.alloc (.cells #[.int .i64 0,.slice none 0 0] 78)).alloc (.cells #[.int .i64 0,.slice none 0 0] 78))):=ae.trans (ae.alloc w (.cells #[.int .i64 0,.slice none 0 0] 78)) (ae.alloc _ (.cells #[.int .i64 0,.slice none 0 0] 78));clear ha hla;go_enter Tryz.func45,Tryz.ntmps45;go_wp2_with fail;go_loopg [4] n (λk iv wr=>∃ (i:Nat) (rx:Int) (ra:Option Addr) (rm rc:Nat),iv=.int .i64 ((i:Int)+1)∧i+k=n∧Hid (bB P wr (w.heap.size+1) rx ra rm rc (bC a i)∧ae w wr∧wr.heap[w.heap.size]?=some (.cells #[.int .i64 0,.slice none 0 0] 78)))
 case atStart=>exact ⟨0,0,none,0,0,by simp,by omega,uh zO,uh xV,uh HZ0⟩
 case round =>
  obtain ⟨i,rx,ra,rm,rc,rfl,hik,HR⟩:=hrel;by_cases hlt:i<n
  ·obtain ⟨ga,oa,ca,px,pa,pm,pc,ea,p0,p1,hpv⟩:=eU ((uh zy).below (uh HR).2.1) (i:=i+1) (by rw [uh oI];omega);rw [uh oI] at ea;cases ea;have wy:=af hpv;obtain ⟨r0,r1,_⟩:=(uh HR).1.cells;have hi1:i+1<n+1:=by omega
   have hI:(i:Int)+1<(n:Int)+1:=by omega
   have hI0:(0:Int)<=(i:Int)+1:=by omega
   have YD:IntKind.i64.wrap ((i:Int)+1+1)=(i:Int)+1+1:=by rw [aaA];omega
   have htn:((i:Int)+1).toNat=i+1:=by omega
   have y1:=b_ p0;have y2:=b_ p1;have y5:=b_ r0;have y6:=b_ r1;clear hpv;go_wp2_with fail;clear p0 p1 r0 r1;refine ah (bZ [(16,λv w=>aj P w v (Int.gcd (bC a i) (a.getD (i+1) 0)))]) (gL [(16,ag)]) 18 6 (by kernel_rfl) (by rfl) (by kernel_rfl) (aN (λ_ _ _=>aj.below) cK) ?_
   iterate 5 (refine aO λK hK=>?_;go_simp;refine hK _ ?_;clear hK K)
   refine ai ag 63 #[.agg #[.int .i64 rx,.slice ra rm rc],.agg #[.int .i64 px,.slice pa pm pc]] (by rfl) (by rfl) ag.some (λw=>by go_simp) (λw1 hg hf=>(R4 P K (bC a i) (a.getD (i+1) 0) _ _ w1 (λb' hb'=>hP b' (by have:=(ae.trans (uh HR).2.1 hg).size;omega)) ((uh HR).1.val.below hg) ((uh wy).below hg) hK (zW hal _) (hal _)).mono (by rintro e w' ⟨v',rfl,hv,hb⟩;exact ⟨_,rfl,hb,hv.aU,λt ht=>by cases ht;exact hv⟩)) ?_;rintro _ ⟨ex,ea,em,ec,rfl⟩;refine aF ?_;intro w2 hg2 aK;have q16:aj P w2 (.agg #[.int .i64 ex,.slice ea em ec]) (Int.gcd (bC a i) (a.getD (i+1) 0)):=aK 5 _ 16 (by decide) rfl rfl;clear aK y1 y2 y5 y6;have hblk:=((uh HR).1.grow hg2).heap;have s0:=(au hblk).1;have s1:=(au hblk).2.1;have s2:=(au hblk).2.2.1;have s3:=(au hblk).2.2.2;have Ot:=af (bH (ae.trans (uh HR).2.1 hg2) (show w.heap.size<=w.heap.size+1 by omega) hblk q16).1;have HG2:=af (bH (ae.trans (uh HR).2.1 hg2) (show w.heap.size<=w.heap.size+1 by omega) hblk q16).2;have HZ2:Hid (((w2.setCell ⟨w.heap.size+1,0,none⟩ (.int .i64 ex)).setCell ⟨w.heap.size+1,1,none⟩ (.slice ea em ec)).heap[w.heap.size]?=some (.cells #[.int .i64 0,.slice none 0 0] 78 (0,0))):=(jN (show w.heap.size≠w.heap.size+1 by omega) _ _).trans (Below.same hg2 _ _ (uh HR).2.2);clear q16 hblk hg2;go_wp2;go_roundg (gk - 1)
   case measure=>omega
   case rel=>exact ⟨i+1,ex,ea,em,ec,by simp,by omega,uh Ot,uh HG2,uh HZ2⟩
  ·have hin:i=n:=by omega
   subst hin;obtain ⟨r0,r1,_⟩:=(uh HR).1.cells;obtain ⟨z0,z1,z2,z3⟩:=au (uh HR).2.2;have n1:w.heap.size≠w.heap.size+1:=by omega
   have HV:=af ((uh HR).1.val.kE (uh HR).2.2 (.int .i64 rx) (.slice ra rm rc));have HG:Hid (ae w ((wr.setCell ⟨w.heap.size,0,none⟩ (.int .i64 rx)).setCell ⟨w.heap.size,1,none⟩ (.slice ra rm rc))):=(B_ (p:=⟨w.heap.size,0,none⟩) (uh HR).2.1 (d_ _) _).setCell (p:=⟨w.heap.size,1,none⟩) (d_ _) _;go_wp2;exact t_ (v:=.agg #[.int .i64 rx,.slice ra rm rc]) (by simp [results,Tryz.results45,go_sem,z0,z1]) rfl ⟨_,rfl,uh HV,uh HG⟩
def wO (x:Int):Int:=if 0<x then -x else 1 - x
set_option maxHeartbeats 20000000 in
theorem uL (P:Nat->Prop) (K:Nat) (x:Int) (vx:Value) (w:World) (hP:∀ b,w.heap.size<=b->P b) (h:aj P w vx x) (hx:Pl.Lt K x) (hK1:1<=K) (hK:K<=1500000000000) :
  Calls Tryz.prog 73 #[vx] w λe w'=>∃ v',e=.returned v'∧aj P w' v' (wO x)∧Below w.heap.size w w':=by
 obtain ⟨px,pa,pm,pc,rfl⟩:=h.shape;have zO:=af (dC h);have HZ0:Hid (((w.alloc (.cells #[.int .i64 px,.slice pa pm pc] 78)).alloc (.cells #[.int .i64 0,.slice none 0 0] 78)).heap[w.heap.size+1]?=some (.cells #[.int .i64 0,.slice none 0 0] 78)):=by
  have:=aG (w.alloc (.cells #[.int .i64 px,.slice pa pm pc] 78)) (.cells #[.int .i64 0,.slice none 0 0] 78);rwa [H_] at this
 have HV:=af ((uh zO).grow (ae.alloc _ (.cells #[.int .i64 0,.slice none 0 0] 78)));have HG:Hid (ae w ((w.alloc (.cells #[.int .i64 px,.slice pa pm pc] 78)).alloc (.cells #[.int .i64 0,.slice none 0 0] 78))):=ae.trans (ae.alloc _ _) (ae.alloc _ (.cells #[.int .i64 0,.slice none 0 0] 78));clear h zO;go_enter Tryz.func73,Tryz.ntmps73;go_wp2_with fail;refine (bY P _ _ _ (uh HV).val).mono ?_;rintro e w1 ⟨rfl,hw1⟩;have HG:=af (ae.trans (uh HG) hw1);have HV:=af ((uh HV).grow hw1);have HZ1:=af (Below.same hw1 _ _ (uh HZ0));have v0:=(uh HV).cells.1;have v1:=(uh HV).cells.2.1;clear hw1;by_cases hp:0<x
 ·have HN:wO x=-x:=h_ hp;have qV:=af HN;rw [J_ hp];clear HN;go_wp2_with fail;refine (lF P _ _ _ (uh HV).val).mono ?_;rintro e w2 ⟨v2,rfl,hv2,hw2⟩;obtain ⟨ex,ea,em,ec,rfl⟩:=hv2.shape;have hblk:=Below.same hw2 _ _ (uh HZ1);obtain ⟨z0,z1,z2,z3⟩:=au hblk;have YR:=af (hv2.kE hblk (.int .i64 ex) (.slice ea em ec));have Ey:Hid (ae w ((w2.setCell ⟨w.heap.size+1,0,none⟩ (.int .i64 ex)).setCell ⟨w.heap.size+1,1,none⟩ (.slice ea em ec))):=(B_ (p:=⟨w.heap.size+1,0,none⟩) (ae.trans (uh HG) hw2) (by show w.heap.size<=w.heap.size+1;omega) _).setCell (p:=⟨w.heap.size+1,1,none⟩) (by show w.heap.size<=w.heap.size+1;omega) _;clear hv2 hw2 hblk;go_wp2;exact t_ (v:=.agg #[.int .i64 ex,.slice ea em ec]) (by simp [results,Tryz.results73,go_sem,z0,z1]) rfl ⟨_,rfl,by rw [uh qV];exact uh YR,uh Ey⟩
 ·have HN:wO x=1 - x:=g_ hp;have qV:=af HN;obtain ⟨sg,hsg⟩:∃ sg,Int.sign x=sg:=⟨_,rfl⟩;have d0:decide (0<sg)=false:=by
   rw [<-hsg];rcases (show x<0∨x=0 by omega) with h|h
   ·rw [E_ h];decide
   ·rw [h];decide
  rw [hsg];clear HN hsg;have y1:=b_ v0;have y2:=b_ v1;go_wp2_with fail;clear v0 v1;refine ah (bZ [(8,λv w=>aj P w v 1),(10,λv w=>aj P w v (1 - x))]) (gL [(8,ag),(10,ag)]) 11 3 (by kernel_rfl) (by rfl) (by kernel_rfl) (aN (λ_ _ _=>aj.below) (aN (λ_ _ _=>aj.below) cK)) ?_;refine ai ag 40 #[.int .i64 1] (by rfl) (by rfl) ag.some (λw=>by go_simp) (λw1 hg hf=>(fM P 1 w1 (λb' hb'=>hP b' (by have:=(ae.trans (uh HG) hg).size;omega)) (by decide) (by decide)).mono (by rintro e w' ⟨v',rfl,hv,hb⟩;exact ⟨_,rfl,hb,hv.aU,λt ht=>by cases ht;exact hv⟩)) ?_;rintro _ ⟨cx,ca,cm,cc,rfl⟩
  (refine aO λK hK=>?_;go_simp;refine hK _ ?_;clear hK K)
  refine ai ag 57 #[.agg #[.int .i64 cx,.slice ca cm cc],.agg #[.int .i64 px,.slice pa pm pc]] (by rfl) (by rfl) ag.some (λw=>by go_simp) (λw1 hg hf=>(kF P K 1 x _ _ w1 (λb' hb'=>hP b' (by have:=(ae.trans (uh HG) hg).size;omega)) (hf 0 (by kernel_rfl) _ 8 rfl rfl) ((uh HV).val.below hg) hK (by rw [<-Pl.Lt];rw [Pl.dZ];exact aa9 (by decide) (Nat.pow_le_pow_right (by omega) hK1)) hx).mono (by rintro e w' ⟨v',rfl,hv,hb⟩;exact ⟨_,rfl,hb,hv.aU,λt ht=>by cases ht;exact hv⟩)) ?_;rintro _ ⟨ex,ea,em,ec,rfl⟩;refine aF ?_;intro w2 hg2 aK;have Xx:aj P w2 (.agg #[.int .i64 ex,.slice ea em ec]) (1 - x):=aK 2 _ 10 (by decide) rfl rfl;clear aK y1 y2;have hblk:=Below.same hg2 _ _ (uh HZ1);have z0:=(au hblk).1;have z1:=(au hblk).2.1;have z2:=(au hblk).2.2.1;have z3:=(au hblk).2.2.2;have YR:=af (Xx.kE hblk (.int .i64 ex) (.slice ea em ec));have Ey:Hid (ae w ((w2.setCell ⟨w.heap.size+1,0,none⟩ (.int .i64 ex)).setCell ⟨w.heap.size+1,1,none⟩ (.slice ea em ec))):=(B_ (p:=⟨w.heap.size+1,0,none⟩) (ae.trans (uh HG) hg2) (by show w.heap.size<=w.heap.size+1;omega) _).setCell (p:=⟨w.heap.size+1,1,none⟩) (by show w.heap.size<=w.heap.size+1;omega) _;clear Xx hg2 hblk;go_wp2;exact t_ (v:=.agg #[.int .i64 ex,.slice ea em ec]) (by simp [results,Tryz.results73,go_sem,z0,z1]) rfl ⟨_,rfl,by rw [uh qV];exact uh YR,uh Ey⟩
end
end Go.Proofs.YtgaafamcajcifaaGreat

namespace Go.Proofs.YtgaafamcajcifaaGreat
open Go Go.RowKit
theorem kX {P:Program} (w:World) (dT sT ty elem:TypeId) (k:Nat) (g o dLen dCap:Nat) (a:Addr) (sLen sCap:Nat) (cur:Array Value) (t:TypeId) (cs:List Value)
  (hu:P.underlying dT=some (.slice elem)) (hs:(P.info? elem).map (·.size)=some k)
  (hg:w.heap[g]?=some (.cells cur t (0,0))) (hn:cs.length=Nat.min sLen dLen*k)
  (hsrc:∀ j v,cs[j]?=some v->w.cell? (a.add j)=some v) (hfit:o+cs.length<=cur.size) (h1:∀ v∈cs,v.oneCell'=true) :
  (Builtin.copy_ #[dT,sT] ty #[.slice (some ⟨g,o,none⟩) dLen dCap,.slice (some a) sLen sCap]).run P w =
   .ok (goInt (Nat.min sLen dLen)) (w.setRow g (cur.toList.take o++cs++cur.toList.drop (o+cs.length)).toArray):=by
 have hl:=run_loadCells_list (P:=P) w a cs hsrc;have hst:=run_storeCells_at P g o t cs 0 cur w hg (by simpa using hfit) h1;cases hq:P.info? elem with
 | none=>simp [hq] at hs
 | some i =>
  have hi:i.size=k:=by simpa [hq] using hs
  simp [Builtin.copy_,run_underlying hu,Builtin.lenOf,Builtin.firstCells,sizeOf,typeInfo,hq,hi,<-hn,hl,hst]
end Go.Proofs.YtgaafamcajcifaaGreat

namespace Go.Proofs.YtgaafamcajcifaaGreat
open Go.RowKit Go.Sort
def bP (a:List Int) (v:Int):List Int:=a.mapIdx λk x=>if k=0 then x+v else x
theorem F6 (a:List Int) (v:Int) {n:Nat} (h:a.length=n):(List.range n).map (qi (λk=>a.getD k 0) 0 (a.getD 0 0+v))=bP a v:=by
 apply List.ext_getElem
 ·simp [bP,h]
 ·intro i h1 h2;have h3:i<a.length:=by simpa [bP] using h2
  simp only [List.getElem_map,List.getElem_range,bP,List.getElem_mapIdx,qi];by_cases e:i=0
  ·subst e;simp [a_,f_ h3]
  ·rw [g_ e,g_ e,a_,f_ h3];rfl
theorem De {P:Nat->Prop} {w:World} {v:Value} {l:List Int} (h:aD P w v l) (h0:0<l.length):∃ (g off cap:Nat) (cs:List Value),v=.slice (some ⟨g,off,none⟩) l.length cap∧cs.length=l.length*2∧(∀ j u,cs[j]?=some u->w.cell? ((⟨g,off,none⟩:Addr).add j)=some u)∧(∀ u∈cs,u.oneCell'=true) ∧
  ∀ i,i<l.length->∃ x a m c,cs[i*2]?=some (.int .i64 x)∧cs[i*2+1]?=some (.slice a m c)∧aj P w (.agg #[.int .i64 x,.slice a m c]) (l.getD i 0):=by
 obtain ⟨g,off,cap,ZN,rfl,hb,hg⟩:=h.get h0;have hadd:∀ j,(⟨g,off,none⟩:Addr).add j=⟨g,off+j,none⟩:=λj=>by unfold Addr.add;split <;> simp_all
 have hone:∀ j,j<l.length*2->∃ u,w.cell? ⟨g,off+j,none⟩=some u∧u.oneCell'=true:=λj hj=>by
  obtain ⟨x,a,m,c,h1,h2,_⟩:=hg (j/2) (by omega);rcases (show j=j/2*2∨j=j/2*2+1 by omega) with e|e
  ·exact ⟨.int .i64 x,by rw [e];exact h1,rfl⟩
  ·exact ⟨.slice a m c,by rw [e,<-abr];exact h2,rfl⟩
 refine ⟨g,off,cap,(List.range (l.length*2)).map (λj=>(w.cell? ⟨g,off+j,none⟩).getD undef),rfl,by simp,λj u hu=>?_,λu hu=>?_,λi hi=>?_⟩
 ·rw [aal] at hu;by_cases hj:j<l.length*2
  ·rw [abg hj] at hu;obtain ⟨u',h1,_⟩:=hone j hj;rw [hadd,h1];simp [h1] at hu;rw [hu]
  ·rw [O_ (by simp;omega)] at hu;cases hu
 ·obtain ⟨j,hj,e⟩:=m_.1 hu;obtain ⟨u',h1,h2⟩:=hone j (V_.1 hj);rw [h1] at e;simp at e;rw [<-e];exact h2
 ·obtain ⟨x,a,m,c,h1,h2,h3⟩:=hg i hi;refine ⟨x,a,m,c,?_,?_,by rw [a_,f_ hi];exact h3⟩
  ·rw [aal,abg (by omega)];simp [h1]
  ·rw [aal,abg (by omega)];simp only [Option.map_some];rw [<-abr,h2];rfl
theorem bz.copied {P:Nat->Prop} {w:World} {g n:Nat} {cur:Array Value} {cs:List Value} {f:Nat->Int} (hg:w.heap[g]?=some (.cells cur 78 (0,0))) (hsz:cur.size=2*n) (hcs:cs.length=n*2)
  (hc:∀ i,i<n->∃ x a m c,cs[i*2]?=some (.int .i64 x)∧cs[i*2+1]?=some (.slice a m c)∧aj P w (.agg #[.int .i64 x,.slice a m c]) (f i)) :
  bz P (w.setRow g (cur.toList.take 0++cs++cur.toList.drop (0+cs.length)).toArray) g n f:=by
 have e:(cur.toList.take 0++cs++cur.toList.drop (0+cs.length)).toArray=cs.toArray:=by
  have:cur.toList.drop (0+cs.length)=[]:=List.drop_of_length_le (by rw [Array.length_toList];omega);rw [this];simp
 rw [e];refine ⟨cs.toArray,setRow_heap w g cur _ _ _ hg,by simp;omega,λi hi=>?_⟩;obtain ⟨x,a,m,c,h1,h2,h3⟩:=hc i hi;refine ⟨x,a,m,c,by simpa using h1,by simpa using h2,h3.bW (λk cur' hk=>setRow_other w g k _ (λe=>?_))⟩;subst e;rw [hg] at hk;simp at hk
theorem pG {w0 w:World} {g:Nat} (h:ae w0 w) (hg:w0.heap.size<=g) (cs:Array Value):ae w0 (w.setRow g cs):=below_setRow h hg cs
attribute [local go_sem] bD
set_option maxHeartbeats 20000000 in
theorem nC (P:Nat->Prop) (K n:Nat) (a:List Int) (bv:Int) (va vb:Value) (w:World) (hP:∀ b,w.heap.size<=b->P b) (ha:aD P w va a) (hb:aj P w vb bv) (hla:a.length=n) (hn0:0<n) (hn:n<=1000) (hal:∀ k,Pl.Lt K (a.getD k 0)) (hbl:Pl.Lt K bv) (hK:K<=1500000000000) :
  Calls Tryz.prog 37 #[va,vb] w λe w'=>∃ v',e=.returned v'∧aD P w' v' (bP a bv)∧Below w.heap.size w w':=by
 obtain ⟨i0,hi0,hz0,hz1,hz2⟩:=U_ Tryz.dP;have hsz2:(Tryz.prog.info? 78).map (·.size)=some 2:=by rw [hi0];simp [hz1]
 have oI:=af hla;obtain ⟨gs,os,ac,cs,rfl,hcl,hsrc,hone,hval⟩:=De ha (by omega);obtain ⟨bx,ba,bm,bc,rfl⟩:=hb.shape;have HD:=af (dC hb);have QI:Hid (ae w (w.alloc (.cells #[.int .i64 bx,.slice ba bm bc] 78))):=ae.alloc _ _;rw [hla] at hcl hval;have HS:=af (x_ hcl (x_ hsrc (x_ hone hval)));rw [hla];clear ha hb hcl hsrc hone hval hla;go_enter Tryz.func37,Tryz.ntmps37;go_wp2_with (at_make;refine wpList_make_full _ rfl _ _ 69 rfl (w.heap.size+1) 78 i0 (.agg #[.int .i64 0,.slice none 0 0]) 2 Tryz.underlying69 hi0 hz0 hz1 .i64 .i64 _ _ n rfl rfl ?e1 ?e2 ?c1 ?c2 ?c3 ?_)
 case e1=>first | rfl | omega | simp
 case e2=>first | rfl | omega | simp
 case c1=>rw [hz2];omega
 case c2=>unfold maxLen;omega
 case c3=>first | omega | simp
 ·intro w1 hown hgrow;have hG1:ae (w.alloc (.cells #[.int .i64 bx,.slice ba bm bc] 78)) w1:=(n_ _ _).grown hgrow (d_ _) (by intro k hk;cases hk);obtain ⟨cur,jS,hcz⟩:=rZ hown;have dN:Hid (ae w w1):=(uh QI).trans hG1;have HD1:=af ((uh HD).grow hG1);have HC:=af (x_ jS hcz);clear hown hgrow hG1 HD QI;have Aa:=af (kX (P:=Tryz.prog) w1 69 69 3 78 2 (w.heap.size+1) 0 n n ⟨gs,os,none⟩ n ac cur 78 cs Tryz.underlying69 hsz2 jS (by rw [(uh HS).1];simp) (λj u hu=>(Below.cell (uh dN) (aav ((uh HS).2.1 j u hu))).trans ((uh HS).2.1 j u hu)) (by rw [(uh HS).1];omega) (uh HS).2.2.1);have uA:Hid (bz P (w1.setRow (w.heap.size+1) (cur.toList.take 0++cs++cur.toList.drop (0+cs.length)).toArray) (w.heap.size+1) n (λk=>a.getD k 0)):=bz.copied jS hcz (uh HS).1 (λi hi=>by
   obtain ⟨x,a',m,c,h1,h2,h3⟩:=(uh HS).2.2.2 i hi;exact ⟨x,a',m,c,h1,h2,h3.below (uh dN)⟩)
  have HG2:Hid (ae w (w1.setRow (w.heap.size+1) (cur.toList.take 0++cs++cur.toList.drop (0+cs.length)).toArray)):=pG (uh dN) (by omega) _;have HD2:Hid (bB P (w1.setRow (w.heap.size+1) (cur.toList.take 0++cs++cur.toList.drop (0+cs.length)).toArray) w.heap.size bx ba bm bc bv):=by
   refine ⟨(setRow_other w1 _ _ _ (by omega)).trans (uh HD1).heap,(uh HD1).val.bW (λk cur' hk=>setRow_other w1 _ k _ (λe=>?_))⟩;subst e;rw [jS] at hk;simp at hk
  obtain ⟨W1,hW1⟩:∃ W1,w1.setRow (w.heap.size+1) (cur.toList.take 0++cs++cur.toList.drop (0+cs.length)).toArray=W1:=⟨_,rfl⟩;rw [hW1] at Aa uA HG2 HD2;clear hW1;go_wp2_with fail;rw [uh Aa];clear Aa;obtain ⟨px,pa,pm,pc,Oa,Ob,hpv,_⟩:=(uh uA).get hn0;obtain ⟨d0,d1,_⟩:=(uh HD2).cells;simp only [Nat.zero_mul,M_] at Oa Ob;have wy:=af hpv;have y1:=b_ Oa;have y2:=b_ Ob;have y3:=b_ d0;have y4:=b_ d1;clear jS hcz HC hpv d0 d1 dN HD1;go_wp2_with fail;refine ah (bZ [(17,λv w=>aj P w v (a.getD 0 0+bv))]) (gL [(17,ag)]) 20 7 (by kernel_rfl) (by rfl) (by kernel_rfl) (aN (λ_ _ _=>aj.below) cK) ?_
  iterate 5 (refine aO λK hK=>?_;go_simp;refine hK _ ?_;clear hK K)
  refine ai ag 55 #[.agg #[.int .i64 px,.slice pa pm pc],.agg #[.int .i64 bx,.slice ba bm bc]] (by rfl) (by rfl) ag.some (λw=>by go_simp) (λw1 hg hf=>(gZ P K (a.getD 0 0) bv _ _ w1 (λb' hb'=>hP b' (by have:=(ae.trans (uh HG2) hg).size;omega)) ((uh wy).below hg) ((uh HD2).val.below hg) hK (hal _) hbl).mono (by rintro e w' ⟨v',rfl,hv,hb⟩;exact ⟨_,rfl,hb,hv.aU,λt ht=>by cases ht;exact hv⟩)) ?_;rintro _ ⟨nx,na,nm,nc,rfl⟩
  (refine aO λK hK=>?_;go_simp;refine hK _ ?_;clear hK K)
  refine aF ?_;intro w2 hw2 aK;have hv2:aj P w2 (.agg #[.int .i64 nx,.slice na nm nc]) (a.getD 0 0+bv):=aK 5 _ 17 (by decide) rfl rfl;clear aK y1 y2 y3 y4;have hR2:=(uh uA).grow hw2;have r0:=ae.cell hw2 Oa;have r1:=ae.cell hw2 Ob;have f0:=hR2.free 0;have f1:=hR2.free 1;have uI:Hid (aD P ((w2.setCell ⟨w.heap.size+1,0,none⟩ (.int .i64 nx)).setCell ⟨w.heap.size+1,1,none⟩ (.slice na nm nc)) (.slice (some ⟨w.heap.size+1,0,none⟩) n n) (bP a bv)):=by
   unfold Hid;have h1:=(hR2.set (i:=0) hn0 hv2).row (hP _ (by omega));rw [F6 a bv (uh oI)] at h1
   simpa using h1
  have Ey:Hid (ae w ((w2.setCell ⟨w.heap.size+1,0,none⟩ (.int .i64 nx)).setCell ⟨w.heap.size+1,1,none⟩ (.slice na nm nc))):=(B_ (p:=⟨w.heap.size+1,0,none⟩) (ae.trans (uh HG2) hw2) (by show w.heap.size<=w.heap.size+1;omega) _).setCell (p:=⟨w.heap.size+1,1,none⟩) (by show w.heap.size<=w.heap.size+1;omega) _;clear hv2 hw2 hR2;go_wp2;go_ret;exact ⟨_,rfl,uh uI,uh Ey⟩
end Go.Proofs.YtgaafamcajcifaaGreat
