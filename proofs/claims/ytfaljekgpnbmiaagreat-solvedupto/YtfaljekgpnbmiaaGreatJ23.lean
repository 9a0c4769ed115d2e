/- Joined: XSol2 XSol3 XCopy XSol4 XSol5. -/
import Derived.Test.YtfaljekgpnbmiaaGreatJ22
set_option linter.unusedVariables false
set_option linter.unusedSimpArgs false
set_option maxRecDepth 100000
namespace Go.Proofs.YtfaljekgpnbmiaaGreat
open Go.RowKit Go.Sort
theorem yD {f z:Nat->Int} {i:Nat} (k:Nat):ql (λk=>if k<i then f k else z k) i (f i) k=if k<i+1 then f k else z k:=by
 unfold ql;by_cases h:k=i
 ·subst h;rw [h_ rfl,h_ (by omega)]
 ·rw [g_ h]
  dsimp only
  by_cases h2:k<i
  ·rw [h_ h2,h_ (by omega)]
  ·rw [g_ h2,g_ (by omega)]
theorem bA.free {P:Nat->Prop} {w:World} {g n:Nat} {f:Nat->Int} (h:bA P w g n f) (o:Nat):w.frozen? ⟨g,o,none⟩=false:=by
 obtain ⟨cs,hb,_⟩:=h;exact aH hb o
theorem gT {P:Nat->Prop} {w:World} {v:Value} {ls:List (List Int)} (h:aM P w v ls) {i:Nat} (hi:i<ls.length):∃ g off cap u,v=.slice (some ⟨g,off,none⟩) ls.length cap∧w.cell? ⟨g,off+i,none⟩=some u∧aD P w u (ls.getD i [])∧ls.getD i []∈ls:=by
 obtain ⟨g,off,cap,cs,rfl,_,hg⟩:=h.get (by omega);obtain ⟨u,h1,h2⟩:=hg i hi;have e:ls.getD i []=ls[i]:=by rw [a_,f_ hi];rfl
 exact ⟨g,off,cap,u,rfl,h1,by rw [e];exact h2,by rw [e];exact aan hi⟩
section
section
attribute [local go_sem] bE
set_option maxHeartbeats 20000000 in
theorem IK (P:Nat->Prop) (K n:Nat) (a:List Int) (dv:Int) (va vd:Value) (w:World) (hP:∀ b,w.heap.size<=b->P b) (ha:aD P w va a) (hd:aj P w vd dv) (hla:a.length=n) (hn:n<=1000) (hal:∀ k,Pl.Lt K (a.getD k 0)) (hdl:Pl.Lt K dv) (hK:K<=1500000000000) :
  Calls Tryz.prog 215 #[va,vd] w λe w'=>∃ v',e=.returned v'∧aD P w' v' ((List.range n).map λk=>Int.fdiv (a.getD k 0) dv)∧Below w.heap.size w w':=by
 obtain ⟨i0,hi0,hz0,hz1,hz2⟩:=V_ Tryz.dR;have zA:=af ha;have oL:=af hla;obtain ⟨aa,ac,rfl⟩:∃ ad cap,va=.slice ad n cap:=by obtain ⟨ad,cap,e,_⟩:=ha;rw [hla] at e;exact ⟨ad,cap,e⟩
 obtain ⟨dx,da,dm,dc,rfl⟩:=hd.shape;have HD:=af (dD hd);have Rq:Hid (ae w (w.alloc (.cells #[.int .i64 dx,.slice da dm dc] 168))):=ae.alloc _ _;clear ha hd hla;go_enter Tryz.func215,Tryz.ntmps215;go_wp2_with (at_make;refine O_ _ rfl _ _ 159 rfl (w.heap.size+1) 168 i0 (.agg #[.int .i64 0,.slice none 0 0]) 2 Tryz.underlying159 hi0 hz0 hz1 .i64 .i64 _ _ n rfl rfl ?e1 ?e2 ?c1 ?c2 ?c3 ?_)
 case e1=>first | rfl | omega | simp
 case e2=>first | rfl | omega | simp
 case c1=>rw [hz2];omega
 case c2=>unfold maxLen;omega
 case c3=>first | omega | simp
 ·intro w1 hown hgrow;have hG1:ae (w.alloc (.cells #[.int .i64 dx,.slice da dm dc] 168)) w1:=(n_ _ _).grown hgrow (d_ _) (by intro k hk;cases hk);have uC:Hid (bA P w1 (w.heap.size+1) n (λ_=>0)):=bA.made hown;have dP:Hid (ae w w1):=(uh Rq).trans hG1;have HD1:=af ((uh HD).grow hG1);clear hown hgrow hG1 HD Rq;go_wp2_with fail;go_loopg [6] n (λk iv wr=>∃ (i:Nat),iv=.int .i64 i∧i+k=n∧Hid (bA P wr (w.heap.size+1) n (λk=>if k<i then Int.fdiv (a.getD k 0) dv else 0)∧ae w wr∧bC P wr w.heap.size dx da dm dc dv))
  case atStart=>exact ⟨0,rfl,by omega,(uh uC).congr (λi _=>by rw [g_ (by omega)]),uh dP,uh HD1⟩
  case round =>
   obtain ⟨i,rfl,hik,HR⟩:=hrel;by_cases hlt:i<n
   ·obtain ⟨ox,oy,om,oc,OY,OZ,_⟩:=(uh HR).1.get hlt;obtain ⟨ga,oa,ca,px,pa,pm,pc,ea,p0,p1,hpv⟩:=eY ((uh zA).below (uh HR).2.1) (i:=i) (by rw [uh oL];exact hlt);rw [uh oL] at ea;cases ea;have wB:=af hpv;obtain ⟨d0,d1,_⟩:=(uh HR).2.2.cells;have y1:=b_ p0;have y2:=b_ p1;have y3:=b_ d0;have y4:=b_ d1;clear hpv;go_wp2_with fail;clear p0 p1 d0 d1;refine ah (cK [(23,λv w=>aj P w v (Int.fdiv (a.getD i 0) dv))]) (gL [(23,ag)]) 26 9 (by kernel_rfl) (by rfl) (by kernel_rfl) (aN (λ_ _ _=>aj.below) cO) ?_
    iterate 7 (refine aO λK hK=>?_;go_simp;refine hK _ ?_;clear hK K)
    refine ai ag 224 #[.agg #[.int .i64 px,.slice pa pm pc],.agg #[.int .i64 dx,.slice da dm dc]] (by rfl) (by rfl) ag.some (λw=>by go_simp) (λw1 hg hf=>(lD P K (a.getD i 0) dv _ _ w1 (λb' hb'=>hP b' (by have:=(ae.trans (uh HR).2.1 hg).size;omega)) ((uh wB).below hg) ((uh HR).2.2.val.below hg) hK (hal _) hdl).mono (by rintro e w' ⟨v',rfl,hv,hb⟩;exact ⟨_,rfl,hb,hv.aU,λt ht=>by cases ht;exact hv⟩)) ?_;rintro _ ⟨nx,na,nm,nc,rfl⟩
    (refine aO λK hK=>?_;go_simp;refine hK _ ?_;clear hK K)
    refine aF ?_;intro w2 hw2 aK;have hv2:aj P w2 (.agg #[.int .i64 nx,.slice na nm nc]) (Int.fdiv (a.getD i 0) dv):=aK 7 _ 23 (by decide) rfl rfl;clear aK y1 y2 y3 y4;have hR2:=(uh HR).1.grow hw2;have r0:=ae.cell hw2 OY;have r1:=ae.cell hw2 OZ;have f0:=hR2.free (i*2);have f1:=hR2.free (i*2+1);have uK:Hid (bA P ((w2.setCell ⟨w.heap.size+1,i*2,none⟩ (.int .i64 nx)).setCell ⟨w.heap.size+1,i*2+1,none⟩ (.slice na nm nc)) (w.heap.size+1) n (λk=>if k<i+1 then Int.fdiv (a.getD k 0) dv else 0)):=(hR2.set hlt hv2).congr (λk _=>yD (f:=λk=>Int.fdiv (a.getD k 0) dv) (z:=λ_=>0) k);have HG2:Hid (ae w ((w2.setCell ⟨w.heap.size+1,i*2,none⟩ (.int .i64 nx)).setCell ⟨w.heap.size+1,i*2+1,none⟩ (.slice na nm nc))):=(B_ (p:=⟨w.heap.size+1,i*2,none⟩) (ae.trans (uh HR).2.1 hw2) (by show w.heap.size<=w.heap.size+1;omega) _).setCell (p:=⟨w.heap.size+1,i*2+1,none⟩) (by show w.heap.size<=w.heap.size+1;omega) _;have G6:Hid (bC P ((w2.setCell ⟨w.heap.size+1,i*2,none⟩ (.int .i64 nx)).setCell ⟨w.heap.size+1,i*2+1,none⟩ (.slice na nm nc)) w.heap.size dx da dm dc dv):=yZ ((uh HR).2.2.grow hw2) hR2.block.choose_spec (by decide) (by omega) _ _ _ _;clear hv2 hw2 hR2;go_wp2;go_roundg (gk - 1)
    case measure=>omega
    case rel=>exact ⟨i+1,by simp,by omega,uh uK,uh HG2,uh G6⟩
   ·have hin:i=n:=by omega
    have HF:Hid (aD P wr (.slice (some ⟨w.heap.size+1,0,none⟩) n n) ((List.range n).map λk=>Int.fdiv (a.getD k 0) dv)):=((uh HR).1.congr (f':=λk=>Int.fdiv (a.getD k 0) dv) (λk hk=>by rw [h_ (by omega)])).row (hP _ (by omega));go_wp2;go_ret;exact ⟨_,rfl,uh HF,(uh HR).2.1⟩
set_option maxHeartbeats 20000000 in
theorem tO (P:Nat->Prop) (n:Nat) (a:List Int) (va:Value) (w:World) (hP:∀ b,w.heap.size<=b->P b) (ha:aD P w va a) (hla:a.length=n) (hn:n<=1000) :
  Calls Tryz.prog 169 #[va] w λe w'=>∃ v',e=.returned v'∧aD P w' v' (a.map λx=>-x)∧Below w.heap.size w w':=by
 obtain ⟨i0,hi0,hz0,hz1,hz2⟩:=V_ Tryz.dR;have zA:=af ha;have oL:=af hla;obtain ⟨aa,ac,rfl⟩:∃ ad cap,va=.slice ad n cap:=by obtain ⟨ad,cap,e,_⟩:=ha;rw [hla] at e;exact ⟨ad,cap,e⟩
 clear ha hla;go_enter Tryz.func169,Tryz.ntmps169;go_wp2_with (at_make;refine O_ _ rfl _ _ 159 rfl w.heap.size 168 i0 (.agg #[.int .i64 0,.slice none 0 0]) 2 Tryz.underlying159 hi0 hz0 hz1 .i64 .i64 _ _ n rfl rfl ?e1 ?e2 ?c1 ?c2 ?c3 ?_)
 case e1=>first | rfl | omega | simp
 case e2=>first | rfl | omega | simp
 case c1=>rw [hz2];omega
 case c2=>unfold maxLen;omega
 case c3=>first | omega | simp
 ·intro w1 hown hgrow;have hG1:ae w w1:=(n_ _ _).grown hgrow (d_ _) (by intro k hk;cases hk);have uC:Hid (bA P w1 w.heap.size n (λ_=>0)):=bA.made hown;have dP:Hid (ae w w1):=hG1;clear hown hgrow hG1;go_wp2_with fail;go_loopg [4] n (λk iv wr=>∃ (i:Nat),iv=.int .i64 i∧i+k=n∧Hid (bA P wr w.heap.size n (λk=>if k<i then -a.getD k 0 else 0)∧ae w wr∧True))
  case atStart=>exact ⟨0,rfl,by omega,(uh uC).congr (λi _=>by rw [g_ (by omega)]),uh dP,trivial⟩
  case round =>
   obtain ⟨i,rfl,hik,HR⟩:=hrel;by_cases hlt:i<n
   ·obtain ⟨ox,oy,om,oc,OY,OZ,_⟩:=(uh HR).1.get hlt;obtain ⟨ga,oa,ca,px,pa,pm,pc,ea,p0,p1,hpv⟩:=eY ((uh zA).below (uh HR).2.1) (i:=i) (by rw [uh oL];exact hlt);rw [uh oL] at ea;cases ea;have HN:=af (lH P _ _ _ hpv);clear hpv;go_wp2_with fail;refine (uh HN).mono ?_;rintro e w2 ⟨v2,rfl,hv2,hw2⟩;obtain ⟨nx,na,nm,nc,rfl⟩:=hv2.shape;have hR2:=(uh HR).1.grow hw2;have r0:=ae.cell hw2 OY;have r1:=ae.cell hw2 OZ;have f0:=hR2.free (i*2);have f1:=hR2.free (i*2+1);have uK:Hid (bA P ((w2.setCell ⟨w.heap.size,i*2,none⟩ (.int .i64 nx)).setCell ⟨w.heap.size,i*2+1,none⟩ (.slice na nm nc)) (w.heap.size) n (λk=>if k<i+1 then -a.getD k 0 else 0)):=(hR2.set hlt hv2).congr (λk _=>yD (f:=λk=>-a.getD k 0) (z:=λ_=>0) k);have HG2:Hid (ae w ((w2.setCell ⟨w.heap.size,i*2,none⟩ (.int .i64 nx)).setCell ⟨w.heap.size,i*2+1,none⟩ (.slice na nm nc))):=(B_ (p:=⟨w.heap.size,i*2,none⟩) (ae.trans (uh HR).2.1 hw2) (by show w.heap.size<=w.heap.size;omega) _).setCell (p:=⟨w.heap.size,i*2+1,none⟩) (by show w.heap.size<=w.heap.size;omega) _;clear hv2 hw2 hR2;go_wp2;go_roundg (gk - 1)
    case measure=>omega
    case rel=>exact ⟨i+1,by simp,by omega,uh uK,uh HG2,trivial⟩
   ·have hin:i=n:=by omega
    have HF:Hid (aD P wr (.slice (some ⟨w.heap.size,0,none⟩) n n) (a.map λx=>-x)):=by
     unfold Hid;rw [<-Aa a n (uh oL)];exact ((uh HR).1.congr (f':=λk=>-a.getD k 0) (λk hk=>by rw [h_ (by omega)])).row (hP _ (d_ _))
    go_wp2;go_ret;exact ⟨_,rfl,uh HF,(uh HR).2.1⟩
end
def bD (a:List Int):Nat->Int
 | 0=>0
 | i+1=>Int.gcd (bD a i) (a.getD (i+1) 0)
theorem Pl.Lt.gcd {K:Nat} {a b:Int} (ha:Pl.Lt K a) (hb:Pl.Lt K b):Pl.Lt K (Int.gcd a b):=by
 rw [Pl.eB] at *
 rw [Int.natAbs_natCast];by_cases h:b=0
 ·subst h;rw [Int.gcd_zero_right];exact ha
 ·exact Nat.lt_of_le_of_lt (Nat.le_of_dvd (by omega) (Int.gcd_dvd_natAbs_right a b)) hb
theorem zY {K:Nat} {a:List Int} (ha:∀ k,Pl.Lt K (a.getD k 0)):∀ i,Pl.Lt K (bD a i)
 | 0=>by rw [Pl.eB];exact abx (by omega)
 | i+1=>(zY ha i).gcd (ha _)
attribute [local go_sem] bE
set_option maxHeartbeats 20000000 in
theorem K3 (P:Nat->Prop) (K n:Nat) (a:List Int) (va:Value) (w:World) (hP:∀ b,w.heap.size<=b->P b) (ha:aD P w va a) (hla:a.length=n+1) (hn:n<=100) (hal:∀ k,Pl.Lt K (a.getD k 0)) (hK:K<=1500000000000) :
  Calls Tryz.prog 213 #[va] w λe w'=>∃ v',e=.returned v'∧aj P w' v' (bD a n)∧Below w.heap.size w w':=by
 have zA:=af ha;obtain ⟨aa,ac,rfl⟩:∃ ad cap,va=.slice ad (n+1) cap:=by obtain ⟨ad,cap,e,_⟩:=ha;rw [hla] at e;exact ⟨ad,cap,e⟩
 have oL:=af hla;have zQ:Hid (bC P ((w.alloc (.cells #[.int .i64 0,.slice none 0 0] 168)).alloc (.cells #[.int .i64 0,.slice none 0 0] 168)) (w.heap.size+1) 0 none 0 0 0):=⟨by have:=aG (w.alloc (.cells #[.int .i64 0,.slice none 0 0] 168)) (.cells #[.int .i64 0,.slice none 0 0] 168);rwa [H_] at this,.inl ⟨rfl,by decide,by decide⟩⟩;have HZ0:Hid (((w.alloc (.cells #[.int .i64 0,.slice none 0 0] 168)).alloc (.cells #[.int .i64 0,.slice none 0 0] 168)).heap[w.heap.size]?=some (.cells #[.int .i64 0,.slice none 0 0] 168)):=Below.same (ae.alloc (w.alloc (.cells #[.int .i64 0,.slice none 0 0] 168)) (.cells #[.int .i64 0,.slice none 0 0] 168)) _ _ (aG w (.cells #[.int .i64 0,.slice none 0 0] 168));have xX:Hid (ae w ((w.alloc (.cells #[.int .i64 0,.slice none 0 0] 168)).alloc (.cells #[.int .i64 0,.slice none 0 0] 168))):=ae.trans (ae.alloc w (.cells #[.int .i64 0,.slice none 0 0] 168)) (ae.alloc _ (.cells #[.int .i64 0,.slice none 0 0] 168));clear ha hla;go_enter Tryz.func213,Tryz.ntmps213;go_wp2_with fail;go_loopg [4] n (λk iv wr=>∃ (i:Nat) (rx:Int) (ra:Option Addr) (rm rc:Nat),iv=.int .i64 ((i:Int)+1)∧i+k=n∧Hid (bC P wr (w.heap.size+1) rx ra rm rc (bD a i)∧ae w wr∧wr.heap[w.heap.size]?=some (.cells #[.int .i64 0,.slice none 0 0] 168)))
 case atStart=>exact ⟨0,0,none,0,0,by simp,by omega,uh zQ,uh xX,uh HZ0⟩
 case round =>
  obtain ⟨i,rx,ra,rm,rc,rfl,hik,HR⟩:=hrel;by_cases hlt:i<n
  ·obtain ⟨ga,oa,ca,px,pa,pm,pc,ea,p0,p1,hpv⟩:=eY ((uh zA).below (uh HR).2.1) (i:=i+1) (by rw [uh oL];omega);rw [uh oL] at ea;cases ea;have wB:=af hpv;obtain ⟨r0,r1,_⟩:=(uh HR).1.cells;have hi1:i+1<n+1:=by omega
   have hI:(i:Int)+1<(n:Int)+1:=by omega
   have hI0:(0:Int)<=(i:Int)+1:=by omega
   have Zh:IntKind.i64.wrap ((i:Int)+1+1)=(i:Int)+1+1:=by rw [aaE];omega
   have htn:((i:Int)+1).toNat=i+1:=by omega
   have y1:=b_ p0;have y2:=b_ p1;have y5:=b_ r0;have y6:=b_ r1;clear hpv;go_wp2_with fail;clear p0 p1 r0 r1;refine ah (cK [(16,λv w=>aj P w v (Int.gcd (bD a i) (a.getD (i+1) 0)))]) (gL [(16,ag)]) 18 6 (by kernel_rfl) (by rfl) (by kernel_rfl) (aN (λ_ _ _=>aj.below) cO) ?_
   iterate 5 (refine aO λK hK=>?_;go_simp;refine hK _ ?_;clear hK K)
   refine ai ag 265 #[.agg #[.int .i64 rx,.slice ra rm rc],.agg #[.int .i64 px,.slice pa pm pc]] (by rfl) (by rfl) ag.some (λw=>by go_simp) (λw1 hg hf=>(Ta P K (bD a i) (a.getD (i+1) 0) _ _ w1 (λb' hb'=>hP b' (by have:=(ae.trans (uh HR).2.1 hg).size;omega)) ((uh HR).1.val.below hg) ((uh wB).below hg) hK (zY hal _) (hal _)).mono (by rintro e w' ⟨v',rfl,hv,hb⟩;exact ⟨_,rfl,hb,hv.aU,λt ht=>by cases ht;exact hv⟩)) ?_;rintro _ ⟨ex,ea,em,ec,rfl⟩;refine aF ?_;intro w2 hg2 aK;have q16:aj P w2 (.agg #[.int .i64 ex,.slice ea em ec]) (Int.gcd (bD a i) (a.getD (i+1) 0)):=aK 5 _ 16 (by decide) rfl rfl;clear aK y1 y2 y5 y6;have hblk:=((uh HR).1.grow hg2).heap;have s0:=(au hblk).1;have s1:=(au hblk).2.1;have s2:=(au hblk).2.2.1;have s3:=(au hblk).2.2.2;have Pe:=af (bI (ae.trans (uh HR).2.1 hg2) (show w.heap.size<=w.heap.size+1 by omega) hblk q16).1;have HG2:=af (bI (ae.trans (uh HR).2.1 hg2) (show w.heap.size<=w.heap.size+1 by omega) hblk q16).2;have HZ2:Hid (((w2.setCell ⟨w.heap.size+1,0,none⟩ (.int .i64 ex)).setCell ⟨w.heap.size+1,1,none⟩ (.slice ea em ec)).heap[w.heap.size]?=some (.cells #[.int .i64 0,.slice none 0 0] 168 (0,0))):=(jP (show w.heap.size≠w.heap.size+1 by omega) _ _).trans (Below.same hg2 _ _ (uh HR).2.2);clear q16 hblk hg2;go_wp2;go_roundg (gk - 1)
   case measure=>omega
   case rel=>exact ⟨i+1,ex,ea,em,ec,by simp,by omega,uh Pe,uh HG2,uh HZ2⟩
  ·have hin:i=n:=by omega
   subst hin;obtain ⟨r0,r1,_⟩:=(uh HR).1.cells;obtain ⟨z0,z1,z2,z3⟩:=au (uh HR).2.2;have n1:w.heap.size≠w.heap.size+1:=by omega
   have HV:=af ((uh HR).1.val.kG (uh HR).2.2 (.int .i64 rx) (.slice ra rm rc));have HG:Hid (ae w ((wr.setCell ⟨w.heap.size,0,none⟩ (.int .i64 rx)).setCell ⟨w.heap.size,1,none⟩ (.slice ra rm rc))):=(B_ (p:=⟨w.heap.size,0,none⟩) (uh HR).2.1 (d_ _) _).setCell (p:=⟨w.heap.size,1,none⟩) (d_ _) _;go_wp2;exact t_ (v:=.agg #[.int .i64 rx,.slice ra rm rc]) (by simp [results,Tryz.results213,go_sem,z0,z1]) rfl ⟨_,rfl,uh HV,uh HG⟩
def wQ (x:Int):Int:=if 0<x then -x else 1 - x
set_option maxHeartbeats 20000000 in
theorem uN (P:Nat->Prop) (K:Nat) (x:Int) (vx:Value) (w:World) (hP:∀ b,w.heap.size<=b->P b) (h:aj P w vx x) (hx:Pl.Lt K x) (hK1:1<=K) (hK:K<=1500000000000) :
  Calls Tryz.prog 275 #[vx] w λe w'=>∃ v',e=.returned v'∧aj P w' v' (wQ x)∧Below w.heap.size w w':=by
 obtain ⟨px,pa,pm,pc,rfl⟩:=h.shape;have zQ:=af (dD h);have HZ0:Hid (((w.alloc (.cells #[.int .i64 px,.slice pa pm pc] 168)).alloc (.cells #[.int .i64 0,.slice none 0 0] 168)).heap[w.heap.size+1]?=some (.cells #[.int .i64 0,.slice none 0 0] 168)):=by
  have:=aG (w.alloc (.cells #[.int .i64 px,.slice pa pm pc] 168)) (.cells #[.int .i64 0,.slice none 0 0] 168);rwa [H_] at this
 have HV:=af ((uh zQ).grow (ae.alloc _ (.cells #[.int .i64 0,.slice none 0 0] 168)));have HG:Hid (ae w ((w.alloc (.cells #[.int .i64 px,.slice pa pm pc] 168)).alloc (.cells #[.int .i64 0,.slice none 0 0] 168))):=ae.trans (ae.alloc _ _) (ae.alloc _ (.cells #[.int .i64 0,.slice none 0 0] 168));clear h zQ;go_enter Tryz.func275,Tryz.ntmps275;go_wp2_with fail;refine (bZ P _ _ _ (uh HV).val).mono ?_;rintro e w1 ⟨rfl,hw1⟩;have HG:=af (ae.trans (uh HG) hw1);have HV:=af ((uh HV).grow hw1);have HZ1:=af (Below.same hw1 _ _ (uh HZ0));have v0:=(uh HV).cells.1;have v1:=(uh HV).cells.2.1;clear hw1;by_cases hp:0<x
 ·have HN:wQ x=-x:=h_ hp;have qX:=af HN;rw [J_ hp];clear HN;go_wp2_with fail;refine (lH P _ _ _ (uh HV).val).mono ?_;rintro e w2 ⟨v2,rfl,hv2,hw2⟩;obtain ⟨ex,ea,em,ec,rfl⟩:=hv2.shape;have hblk:=Below.same hw2 _ _ (uh HZ1);obtain ⟨z0,z1,z2,z3⟩:=au hblk;have Zw:=af (hv2.kG hblk (.int .i64 ex) (.slice ea em ec));have EB:Hid (ae w ((w2.setCell ⟨w.heap.size+1,0,none⟩ (.int .i64 ex)).setCell ⟨w.heap.size+1,1,none⟩ (.slice ea em ec))):=(B_ (p:=⟨w.heap.size+1,0,none⟩) (ae.trans (uh HG) hw2) (by show w.heap.size<=w.heap.size+1;omega) _).setCell (p:=⟨w.heap.size+1,1,none⟩) (by show w.heap.size<=w.heap.size+1;omega) _;clear hv2 hw2 hblk;go_wp2;exact t_ (v:=.agg #[.int .i64 ex,.slice ea em ec]) (by simp [results,Tryz.results275,go_sem,z0,z1]) rfl ⟨_,rfl,by rw [uh qX];exact uh Zw,uh EB⟩
 ·have HN:wQ x=1 - x:=g_ hp;have qX:=af HN;obtain ⟨sg,hsg⟩:∃ sg,Int.sign x=sg:=⟨_,rfl⟩;have d0:decide (0<sg)=false:=by
   rw [<-hsg];rcases (show x<0∨x=0 by omega) with h|h
   ·rw [E_ h];decide
   ·rw [h];decide
  rw [hsg];clear HN hsg;have y1:=b_ v0;have y2:=b_ v1;go_wp2_with fail;clear v0 v1;refine ah (cK [(8,λv w=>aj P w v 1),(10,λv w=>aj P w v (1 - x))]) (gL [(8,ag),(10,ag)]) 11 3 (by kernel_rfl) (by rfl) (by kernel_rfl) (aN (λ_ _ _=>aj.below) (aN (λ_ _ _=>aj.below) cO)) ?_;refine ai ag 168 #[.int .i64 1] (by rfl) (by rfl) ag.some (λw=>by go_simp) (λw1 hg hf=>(fP P 1 w1 (λb' hb'=>hP b' (by have:=(ae.trans (uh HG) hg).size;omega)) (by decide) (by decide)).mono (by rintro e w' ⟨v',rfl,hv,hb⟩;exact ⟨_,rfl,hb,hv.aU,λt ht=>by cases ht;exact hv⟩)) ?_;rintro _ ⟨cx,ca,cm,cc,rfl⟩
  (refine aO λK hK=>?_;go_simp;refine hK _ ?_;clear hK K)
  refine ai ag 225 #[.agg #[.int .i64 cx,.slice ca cm cc],.agg #[.int .i64 px,.slice pa pm pc]] (by rfl) (by rfl) ag.some (λw=>by go_simp) (λw1 hg hf=>(kH P K 1 x _ _ w1 (λb' hb'=>hP b' (by have:=(ae.trans (uh HG) hg).size;omega)) (hf 0 (by kernel_rfl) _ 8 rfl rfl) ((uh HV).val.below hg) hK (by rw [<-Pl.Lt];rw [Pl.eB];exact abA (by decide) (Nat.pow_le_pow_right (by omega) hK1)) hx).mono (by rintro e w' ⟨v',rfl,hv,hb⟩;exact ⟨_,rfl,hb,hv.aU,λt ht=>by cases ht;exact hv⟩)) ?_;rintro _ ⟨ex,ea,em,ec,rfl⟩;refine aF ?_;intro w2 hg2 aK;have Ye:aj P w2 (.agg #[.int .i64 ex,.slice ea em ec]) (1 - x):=aK 2 _ 10 (by decide) rfl rfl;clear aK y1 y2;have hblk:=Below.same hg2 _ _ (uh HZ1);have z0:=(au hblk).1;have z1:=(au hblk).2.1;have z2:=(au hblk).2.2.1;have z3:=(au hblk).2.2.2;have Zw:=af (Ye.kG hblk (.int .i64 ex) (.slice ea em ec));have EB:Hid (ae w ((w2.setCell ⟨w.heap.size+1,0,none⟩ (.int .i64 ex)).setCell ⟨w.heap.size+1,1,none⟩ (.slice ea em ec))):=(B_ (p:=⟨w.heap.size+1,0,none⟩) (ae.trans (uh HG) hg2) (by show w.heap.size<=w.heap.size+1;omega) _).setCell (p:=⟨w.heap.size+1,1,none⟩) (by show w.heap.size<=w.heap.size+1;omega) _;clear Ye hg2 hblk;go_wp2;exact t_ (v:=.agg #[.int .i64 ex,.slice ea em ec]) (by simp [results,Tryz.results275,go_sem,z0,z1]) rfl ⟨_,rfl,by rw [uh qX];exact uh Zw,uh EB⟩
end
end Go.Proofs.YtfaljekgpnbmiaaGreat

namespace Go.Proofs.YtfaljekgpnbmiaaGreat
open Go Go.RowKit
theorem kZ {P:Program} (w:World) (dT sT ty elem:TypeId) (k:Nat) (g o dLen dCap:Nat) (a:Addr) (sLen sCap:Nat) (cur:Array Value) (t:TypeId) (cs:List Value)
  (hu:P.underlying dT=some (.slice elem)) (hs:(P.info? elem).map (·.size)=some k)
  (hg:w.heap[g]?=some (.cells cur t (0,0))) (hn:cs.length=Nat.min sLen dLen*k)
  (hsrc:∀ j v,cs[j]?=some v->w.cell? (a.add j)=some v) (hfit:o+cs.length<=cur.size) (h1:∀ v∈cs,v.oneCell'=true) :
  (Builtin.copy_ #[dT,sT] ty #[.slice (some ⟨g,o,none⟩) dLen dCap,.slice (some a) sLen sCap]).run P w =
   .ok (goInt (Nat.min sLen dLen)) (w.setRow g (cur.toList.take o++cs++cur.toList.drop (o+cs.length)).toArray):=by
 have hl:=run_loadCells_list (P:=P) w a cs hsrc;have hst:=run_storeCells_at P g o t cs 0 cur w hg (by simpa using hfit) h1;cases hq:P.info? elem with
 | none=>simp [hq] at hs
 | some i =>
  have hi:i.size=k:=by simpa [hq] using hs
  simp [Builtin.copy_,run_underlying hu,Builtin.lenOf,Builtin.firstCells,sizeOf,typeInfo,hq,hi,<-hn,hl,hst]
end Go.Proofs.YtfaljekgpnbmiaaGreat

namespace Go.Proofs.YtfaljekgpnbmiaaGreat
open Go.RowKit Go.Sort
def bQ (a:List Int) (v:Int):List Int:=a.mapIdx λk x=>if k=0 then x+v else x
theorem Gb (a:List Int) (v:Int) {n:Nat} (h:a.length=n):(List.range n).map (ql (λk=>a.getD k 0) 0 (a.getD 0 0+v))=bQ a v:=by
 apply abU
 ·simp [bQ,h]
 ·intro i h1 h2;have h3:i<a.length:=by simpa [bQ] using h2
  simp only [adi,List.getElem_range,bQ,List.getElem_mapIdx,ql];by_cases e:i=0
  ·subst e;simp [a_,f_ h3]
  ·rw [g_ e,g_ e,a_,f_ h3];rfl
theorem Dg {P:Nat->Prop} {w:World} {v:Value} {l:List Int} (h:aD P w v l) (h0:0<l.length):∃ (g off cap:Nat) (cs:List Value),v=.slice (some ⟨g,off,none⟩) l.length cap∧cs.length=l.length*2∧(∀ j u,cs[j]?=some u->w.cell? ((⟨g,off,none⟩:Addr).add j)=some u)∧(∀ u∈cs,u.oneCell'=true) ∧
  ∀ i,i<l.length->∃ x a m c,cs[i*2]?=some (.int .i64 x)∧cs[i*2+1]?=some (.slice a m c)∧aj P w (.agg #[.int .i64 x,.slice a m c]) (l.getD i 0):=by
 obtain ⟨g,off,cap,scs,rfl,hb,hg⟩:=h.get h0;have hadd:∀ j,(⟨g,off,none⟩:Addr).add j=⟨g,off+j,none⟩:=λj=>by unfold Addr.add;split <;> simp_all
 have hone:∀ j,j<l.length*2->∃ u,w.cell? ⟨g,off+j,none⟩=some u∧u.oneCell'=true:=λj hj=>by
  obtain ⟨x,a,m,c,h1,h2,_⟩:=hg (j/2) (by omega);rcases (show j=j/2*2∨j=j/2*2+1 by omega) with e|e
  ·exact ⟨.int .i64 x,by rw [e];exact h1,rfl⟩
  ·exact ⟨.slice a m c,by rw [e,<-abY];exact h2,rfl⟩
 refine ⟨g,off,cap,(List.range (l.length*2)).map (λj=>(w.cell? ⟨g,off+j,none⟩).getD undef),rfl,by simp,λj u hu=>?_,λu hu=>?_,λi hi=>?_⟩
 ·rw [aas] at hu;by_cases hj:j<l.length*2
  ·rw [abK hj] at hu;obtain ⟨u',h1,_⟩:=hone j hj;rw [hadd,h1];simp [h1] at hu;rw [hu]
  ·rw [P_ (by simp;omega)] at hu;cases hu
 ·obtain ⟨j,hj,e⟩:=m_.1 hu;obtain ⟨u',h1,h2⟩:=hone j (W_.1 hj);rw [h1] at e;simp at e;rw [<-e];exact h2
 ·obtain ⟨x,a,m,c,h1,h2,h3⟩:=hg i hi;refine ⟨x,a,m,c,?_,?_,by rw [a_,f_ hi];exact h3⟩
  ·rw [aas,abK (by omega)];simp [h1]
  ·rw [aas,abK (by omega)];simp only [Option.map_some];rw [<-abY,h2];rfl
theorem bA.copied {P:Nat->Prop} {w:World} {g n:Nat} {cur:Array Value} {cs:List Value} {f:Nat->Int} (hg:w.heap[g]?=some (.cells cur 168 (0,0))) (hsz:cur.size=2*n) (hcs:cs.length=n*2)
  (hc:∀ i,i<n->∃ x a m c,cs[i*2]?=some (.int .i64 x)∧cs[i*2+1]?=some (.slice a m c)∧aj P w (.agg #[.int .i64 x,.slice a m c]) (f i)) :
  bA P (w.setRow g (cur.toList.take 0++cs++cur.toList.drop (0+cs.length)).toArray) g n f:=by
 have e:(cur.toList.take 0++cs++cur.toList.drop (0+cs.length)).toArray=cs.toArray:=by
  have:cur.toList.drop (0+cs.length)=[]:=List.drop_of_length_le (by rw [Array.length_toList];omega);rw [this];simp
 rw [e];refine ⟨cs.toArray,setRow_heap w g cur _ _ _ hg,by simp;omega,λi hi=>?_⟩;obtain ⟨x,a,m,c,h1,h2,h3⟩:=hc i hi;refine ⟨x,a,m,c,by simpa using h1,by simpa using h2,h3.bX (λk cur' hk=>setRow_other w g k _ (λe=>?_))⟩;subst e;rw [hg] at hk;simp at hk
theorem pJ {w0 w:World} {g:Nat} (h:ae w0 w) (hg:w0.heap.size<=g) (cs:Array Value):ae w0 (w.setRow g cs):=below_setRow h hg cs
section
attribute [local go_sem] bE
set_option maxHeartbeats 20000000 in
theorem nG (P:Nat->Prop) (K n:Nat) (a:List Int) (bv:Int) (va vb:Value) (w:World) (hP:∀ b,w.heap.size<=b->P b) (ha:aD P w va a) (hb:aj P w vb bv) (hla:a.length=n) (hn0:0<n) (hn:n<=1000) (hal:∀ k,Pl.Lt K (a.getD k 0)) (hbl:Pl.Lt K bv) (hK:K<=1500000000000) :
  Calls Tryz.prog 165 #[va,vb] w λe w'=>∃ v',e=.returned v'∧aD P w' v' (bQ a bv)∧Below w.heap.size w w':=by
 obtain ⟨i0,hi0,hz0,hz1,hz2⟩:=V_ Tryz.dR;have hsz2:(Tryz.prog.info? 168).map (·.size)=some 2:=by rw [hi0];simp [hz1]
 have oL:=af hla;obtain ⟨gs,os,ac,cs,rfl,hcl,hsrc,hone,hval⟩:=Dg ha (by omega);obtain ⟨bx,ba,bm,bc,rfl⟩:=hb.shape;have HD:=af (dD hb);have Rq:Hid (ae w (w.alloc (.cells #[.int .i64 bx,.slice ba bm bc] 168))):=ae.alloc _ _;rw [hla] at hcl hval;have HS:=af (x_ hcl (x_ hsrc (x_ hone hval)));rw [hla];clear ha hb hcl hsrc hone hval hla;go_enter Tryz.func165,Tryz.ntmps165;go_wp2_with (at_make;refine O_ _ rfl _ _ 159 rfl (w.heap.size+1) 168 i0 (.agg #[.int .i64 0,.slice none 0 0]) 2 Tryz.underlying159 hi0 hz0 hz1 .i64 .i64 _ _ n rfl rfl ?e1 ?e2 ?c1 ?c2 ?c3 ?_)
 case e1=>first | rfl | omega | simp
 case e2=>first | rfl | omega | simp
 case c1=>rw [hz2];omega
 case c2=>unfold maxLen;omega
 case c3=>first | omega | simp
 ·intro w1 hown hgrow;have hG1:ae (w.alloc (.cells #[.int .i64 bx,.slice ba bm bc] 168)) w1:=(n_ _ _).grown hgrow (d_ _) (by intro k hk;cases hk);obtain ⟨cur,jU,hcz⟩:=si hown;have dP:Hid (ae w w1):=(uh Rq).trans hG1;have HD1:=af ((uh HD).grow hG1);have HC:=af (x_ jU hcz);clear hown hgrow hG1 HD Rq;have Ac:=af (kZ (P:=Tryz.prog) w1 159 159 3 168 2 (w.heap.size+1) 0 n n ⟨gs,os,none⟩ n ac cur 168 cs Tryz.underlying159 hsz2 jU (by rw [(uh HS).1];simp) (λj u hu=>(Below.cell (uh dP) (aax ((uh HS).2.1 j u hu))).trans ((uh HS).2.1 j u hu)) (by rw [(uh HS).1];omega) (uh HS).2.2.1);have uC:Hid (bA P (w1.setRow (w.heap.size+1) (cur.toList.take 0++cs++cur.toList.drop (0+cs.length)).toArray) (w.heap.size+1) n (λk=>a.getD k 0)):=bA.copied jU hcz (uh HS).1 (λi hi=>by
   obtain ⟨x,a',m,c,h1,h2,h3⟩:=(uh HS).2.2.2 i hi;exact ⟨x,a',m,c,h1,h2,h3.below (uh dP)⟩)
  have HG2:Hid (ae w (w1.setRow (w.heap.size+1) (cur.toList.take 0++cs++cur.toList.drop (0+cs.length)).toArray)):=pJ (uh dP) (by omega) _;have HD2:Hid (bC P (w1.setRow (w.heap.size+1) (cur.toList.take 0++cs++cur.toList.drop (0+cs.length)).toArray) w.heap.size bx ba bm bc bv):=by
   refine ⟨(setRow_other w1 _ _ _ (by omega)).trans (uh HD1).heap,(uh HD1).val.bX (λk cur' hk=>setRow_other w1 _ k _ (λe=>?_))⟩;subst e;rw [jU] at hk;simp at hk
  obtain ⟨W1,hW1⟩:∃ W1,w1.setRow (w.heap.size+1) (cur.toList.take 0++cs++cur.toList.drop (0+cs.length)).toArray=W1:=⟨_,rfl⟩;rw [hW1] at Ac uC HG2 HD2;clear hW1;go_wp2_with fail;rw [uh Ac];clear Ac;obtain ⟨px,pa,pm,pc,OY,OZ,hpv,_⟩:=(uh uC).get hn0;obtain ⟨d0,d1,_⟩:=(uh HD2).cells;simp only [acL,M_] at OY OZ;have wB:=af hpv;have y1:=b_ OY;have y2:=b_ OZ;have y3:=b_ d0;have y4:=b_ d1;clear jU hcz HC hpv d0 d1 dP HD1;go_wp2_with fail;refine ah (cK [(17,λv w=>aj P w v (a.getD 0 0+bv))]) (gL [(17,ag)]) 20 7 (by kernel_rfl) (by rfl) (by kernel_rfl) (aN (λ_ _ _=>aj.below) cO) ?_
  iterate 5 (refine aO λK hK=>?_;go_simp;refine hK _ ?_;clear hK K)
  refine ai ag 223 #[.agg #[.int .i64 px,.slice pa pm pc],.agg #[.int .i64 bx,.slice ba bm bc]] (by rfl) (by rfl) ag.some (λw=>by go_simp) (λw1 hg hf=>(ig P K (a.getD 0 0) bv _ _ w1 (λb' hb'=>hP b' (by have:=(ae.trans (uh HG2) hg).size;omega)) ((uh wB).below hg) ((uh HD2).val.below hg) hK (hal _) hbl).mono (by rintro e w' ⟨v',rfl,hv,hb⟩;exact ⟨_,rfl,hb,hv.aU,λt ht=>by cases ht;exact hv⟩)) ?_;rintro _ ⟨nx,na,nm,nc,rfl⟩
  (refine aO λK hK=>?_;go_simp;refine hK _ ?_;clear hK K)
  refine aF ?_;intro w2 hw2 aK;have hv2:aj P w2 (.agg #[.int .i64 nx,.slice na nm nc]) (a.getD 0 0+bv):=aK 5 _ 17 (by decide) rfl rfl;clear aK y1 y2 y3 y4;have hR2:=(uh uC).grow hw2;have r0:=ae.cell hw2 OY;have r1:=ae.cell hw2 OZ;have f0:=hR2.free 0;have f1:=hR2.free 1;have uK:Hid (aD P ((w2.setCell ⟨w.heap.size+1,0,none⟩ (.int .i64 nx)).setCell ⟨w.heap.size+1,1,none⟩ (.slice na nm nc)) (.slice (some ⟨w.heap.size+1,0,none⟩) n n) (bQ a bv)):=by
   unfold Hid;have h1:=(hR2.set (i:=0) hn0 hv2).row (hP _ (by omega));rw [Gb a bv (uh oL)] at h1
   simpa using h1
  have EB:Hid (ae w ((w2.setCell ⟨w.heap.size+1,0,none⟩ (.int .i64 nx)).setCell ⟨w.heap.size+1,1,none⟩ (.slice na nm nc))):=(B_ (p:=⟨w.heap.size+1,0,none⟩) (ae.trans (uh HG2) hw2) (by show w.heap.size<=w.heap.size+1;omega) _).setCell (p:=⟨w.heap.size+1,1,none⟩) (by show w.heap.size<=w.heap.size+1;omega) _;clear hv2 hw2 hR2;go_wp2;go_ret;exact ⟨_,rfl,uh uK,uh EB⟩
end
theorem Tryz.l9:(Tryz.prog.info? 159).map (λi=>(i.zero,i.size,i.bytes))=some (some (.slice none 0 0),1,24):=by kernel_rfl
structure jO (P:Nat->Prop) (w:World) (xs:List Value) (ls:List (List Int)):Prop where
 len:xs.length=ls.length
 at_:∀ i,(hi:i<ls.length)->∃ u,xs[i]?=some u∧aD P w u ls[i]
theorem jO.grow {P:Nat->Prop} {w w':World} {xs:List Value} {ls:List (List Int)} (h:jO P w xs ls) (hg:Holds P w w'):jO P w' xs ls :=
 ⟨h.len,λi hi=>by obtain ⟨u,h1,h3⟩:=h.at_ i hi;exact ⟨u,h1,h3.holds hg⟩⟩
theorem jO.snoc {P:Nat->Prop} {w:World} {xs:List Value} {ls:List (List Int)} (h:jO P w xs ls) {u:Value} {row:List Int} (hu:aD P w u row):jO P w (xs++[u]) (ls++[row]):=by
 refine ⟨by simp [h.len],λi hi=>?_⟩;by_cases hl:i<ls.length
 ·obtain ⟨u',h1,h3⟩:=h.at_ i hl;exact ⟨u',by rw [aam (by rw [h.len];omega)];exact h1,by rw [abB hl];exact h3⟩
 ·have e:i=ls.length:=by simp at hi;omega
  subst e;exact ⟨u,by rw [S_ (by rw [h.len];omega),h.len];simp,by simpa using hu⟩
theorem jO.nil (P:Nat->Prop) (w:World):jO P w [] []:=⟨rfl,λi hi=>by simp at hi⟩
theorem jO.rows {P:Nat->Prop} {w:World} {B:Nat} {v:Value} {xs:List Value} {ls:List (List Int)} (h:jO P w xs ls) (ho:w.ownsRow B 159 1 v ls.length xs) (hP:∀ g,B<=g->P g):aM P w v ls:=by
 rcases ho.2 with ⟨rfl,h0⟩|⟨g,cap,cur,rfl,hb,jU,hle,hmx,hsz,htk⟩
 ·exact ⟨none,0,by rw [h0],by omega,λi hi=>by omega⟩
 ·refine ⟨some ⟨g,0,none⟩,cap,rfl,hle,λi hi=>?_⟩;obtain ⟨u,h1,h2⟩:=h.at_ i hi;refine ⟨g,0,u,rfl,?_,h2,hP g hb,cur,jU⟩;rw [cellsOf jU,M_];rw [<-htk,aak (by omega)] at h1
  simpa using h1
theorem OD {P:Nat->Prop} {w:World} {v:Value} {ls:List (List Int)} (h:aM P w v ls):∃ (ad:Option Addr) (cap:Nat) (cs:List Value),v=.slice ad ls.length cap∧jO P w cs ls∧(∀ u∈cs,u.oneCell'=true)∧(0<ls.length->∃ g off,ad=some ⟨g,off,none⟩∧∀ j u,cs[j]?=some u->w.cell? ((⟨g,off,none⟩:Addr).add j)=some u):=by
 by_cases h0:0<ls.length
 ·obtain ⟨g,off,cap,scs,rfl,hb,hg⟩:=h.get h0;have hadd:∀ j,(⟨g,off,none⟩:Addr).add j=⟨g,off+j,none⟩:=λj=>by unfold Addr.add;split <;> simp_all
  refine ⟨some ⟨g,off,none⟩,cap,(List.range ls.length).map (λj=>(w.cell? ⟨g,off+j,none⟩).getD undef),rfl,⟨by simp,λi hi=>?_⟩,λu hu=>?_,λ_=>⟨g,off,rfl,λj u hu=>?_⟩⟩
  ·obtain ⟨u,h1,h2⟩:=hg i hi;exact ⟨u,by rw [aas,abK hi];simp [h1],h2⟩
  ·obtain ⟨j,hj,e⟩:=m_.1 hu;obtain ⟨u',h1,h2⟩:=hg j (W_.1 hj);rw [h1] at e;simp at e;rw [<-e];obtain ⟨x,y,z,rfl⟩:=h2.aB
   rfl
  ·rw [aas] at hu;by_cases hj:j<ls.length
   ·rw [abK hj] at hu;obtain ⟨u',h1,_⟩:=hg j hj;rw [hadd,h1];simp [h1] at hu;rw [hu]
   ·rw [P_ (by simp;omega)] at hu;cases hu
 ·obtain ⟨ad,cap,rfl,_⟩:=h;exact ⟨ad,cap,[],rfl,⟨by simp;omega,λi hi=>by omega⟩,by simp,λh=>absurd h h0⟩
set_option maxHeartbeats 4000000 in
theorem yX (P:Nat->Prop) (ls:List (List Int)) (row:List Int) (va vr:Value) (w:World) (hP:∀ b,w.heap.size<=b->P b) (ha:aM P w va ls) (hr:aD P w vr row) (hn:ls.length<=1000) :
  Calls Tryz.prog 167 #[va,vr] w λe w'=>∃ v',e=.returned v'∧aM P w' v' (ls++[row])∧Below w.heap.size w w':=by
 obtain ⟨i0,hi0,hz0,hz1,hz2⟩:=V_ Tryz.l9;have hsz1:(Tryz.prog.info? 159).map (·.size)=some 1:=by rw [hi0];simp [hz1]
 obtain ⟨ad,ac,cs,rfl,hX,hone,hsrc⟩:=OD ha;obtain ⟨ra,rn,rc,rfl⟩:=hr.aB;obtain ⟨N,hN⟩:∃ N,ls.length=N:=⟨_,rfl⟩;have HX:=af hX;have HRW:=af hr;have vR:Hid (cs.length=N):=by rw [<-hN];exact hX.len
 have HN:=af hN;rw [hN] at hn hsrc;rw [hN];have hmk:=run_make (P:=Tryz.prog) w 162 159 i0 (.slice none 0 0) Tryz.underlying162 hi0 hz0 .i64 .i64 N ((N:Int)+1) (by omega) (by omega) (by rw [hz2];omega) (by omega);have hcells:(Value.slice none 0 0).cells=#[.slice none 0 0]:=rfl;rw [hz1,hcells,show ((N:Int)).toNat=N by omega,show ((N:Int)+1).toNat=N+1 by omega,Nat.mul_one] at hmk;have HMK:=af hmk;obtain ⟨W1,hW1⟩:∃ W1,w.alloc (.cells (madeCells #[.slice none 0 0] (N+1)) 159)=W1:=⟨_,rfl⟩;rw [hW1] at HMK;have hG1:ae w W1:=by rw [<-hW1];exact ae.alloc _ _
 have hblk:W1.heap[w.heap.size]?=some (.cells (madeCells #[.slice none 0 0] (N+1)) 159 (0,0)):=by rw [<-hW1];exact aG _ _
 have hcs:cs.length=N:=uh vR;have hcopy:∃ W2:World,(Builtin.copy_ #[162,162] 3 #[.slice (some ⟨w.heap.size,0,none⟩) N (N+1),.slice ad N ac]).run Tryz.prog W1=.ok (goInt N) W2∧ae w W2∧W2.ownsRow w.heap.size 159 1 (.slice (some ⟨w.heap.size,0,none⟩) N (N+1)) N cs:=by
  by_cases h0:0<N
  ·obtain ⟨g,off,rfl,hs⟩:=hsrc h0;have hrun:=kZ (P:=Tryz.prog) W1 162 162 3 159 1 w.heap.size 0 N (N+1) ⟨g,off,none⟩ N ac _ 159 cs Tryz.underlying162 hsz1 hblk (by rw [hcs];simp) (λj u hu=>(Below.cell hG1 (aax (hs j u hu))).trans (hs j u hu)) (by rw [hcs,size_madeCells];omega) hone;rw [show Nat.min N N=N from Nat.min_self N] at hrun;refine ⟨_,hrun,pJ hG1 (d_ _) _,⟨by rw [hcs];simp,.inr ⟨w.heap.size,N+1,_,rfl,d_ _,setRow_heap W1 _ _ _ _ _ hblk,by omega,by unfold maxLen;omega,?_,?_⟩⟩⟩
   ·simp [hcs,size_madeCells]
   ·simp [hcs]
  ·have hN0:N=0:=by omega
   subst hN0;have hc0:cs=[]:=aaD hcs;have hrun:=run_copy_none (P:=Tryz.prog) W1 162 162 3 159 (some ⟨w.heap.size,0,none⟩) ad 0 1 0 ac Tryz.underlying162 hsz1 (by simp);exact ⟨W1,by rw [M_];rw [hrun];rfl,hG1,⟨by rw [hc0];rfl,.inr ⟨w.heap.size,1,_,rfl,d_ _,hblk,by omega,by unfold maxLen;omega,by rw [size_madeCells],by rw [hc0];simp⟩⟩⟩
 obtain ⟨W2,hrun,hG2,hown⟩:=hcopy;have Ac:=af hrun;have HG2:=af hG2;have hal:=hown.alloc (.cells #[.slice ra rn rc] 159);clear ha hr hX hone hsrc hN hmk hcells hW1 hG1 hblk hcs hrun hG2 hown;go_enter Tryz.func167,Tryz.ntmps167;go_wp2_with fail;rw [uh HMK];simp only [ac8,Oper.upon];go_wp2_with fail;rw [uh Ac];simp only [ac8,Oper.upon];go_wp2_with (at_builtin;refine aau _ rfl _ _ 162 rfl w.heap.size 159 i0 (.slice none 0 0) 1 24 Tryz.underlying162 hi0 hz0 hz1 hz2 rfl (by decide) _ N cs rfl hal ⟨_,0,none⟩ 1 1 [.slice ra rn rc] rfl rfl ?d1 (by simp [Value.oneCell']) (by decide) ?d2 ?d3 ?d4 _ rfl ?_)
 case d1=>exact λj u hu=>aav (aay _ _) j u hu
 case d2=>unfold maxLen;omega
 case d3=>omega
 case d4=>exact w_ (uh HG2).size (by simp)
 ·intro g cap w2 hown1 hgrow hat hlt2;have hG3:ae w w2:=abS (ae.trans (uh HG2) (ae.alloc W2 _)) hgrow (w_ (uh HG2).size (by simp)) (bT hal);have HF:Hid (aM P w2 (.slice (some ⟨g,0,none⟩) (N+1) cap) (ls++[row])):=by
   have h1:=((uh HX).grow (.aX hG3)).snoc ((uh HRW).below hG3);exact h1.rows (by rw [C_,uh HN];exact hown1) hP
  have je:=af hG3;clear hown1 hgrow hat hlt2 hal hG3;go_wp2;go_ret;exact ⟨_,rfl,uh HF,uh je⟩
end Go.Proofs.YtfaljekgpnbmiaaGreat
