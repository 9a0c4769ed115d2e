/- Joined: XSol10 XStr XStr0 XStr1. -/
import Derived.Test.YtgaafamcajcifaaGreatK08
import Derived.Test.YtgaafamcajcifaaGreatK30
set_option linter.unusedVariables false
set_option linter.unusedSimpArgs false
set_option maxRecDepth 100000
namespace Go.Proofs.YtgaafamcajcifaaGreat
open Go.RowKit Go.Sort
structure aP where
 size:Nat
 zero:List (List Int)
 least:List (List Int)
 told:List (List Int)
def jT (P:Nat->Prop) (w:World) (v:Value) (r:aP):Prop:=∃ vz vl vt,v=.agg #[.int .i64 r.size,vz,vl,vt]∧aM P w vz r.zero∧aM P w vl r.least∧aM P w vt r.told
structure eH (r:aP):Prop where
 iY:∀ l∈r.zero,l.length=r.size+1
 dQ:∀ l∈r.least,l.length=r.size+1
 gT:∀ l∈r.told,l.length=r.size+1
 Aw:r.zero.length<=1000
 vg:r.least.length<=1000
 uN:r.told.length<=1000
structure dF (K:Nat) (r:aP):Prop where
 zero:∀ i k,Pl.Lt K ((r.zero.getD i []).getD k 0)
 least:∀ i k,Pl.Lt K ((r.least.getD i []).getD k 0)
 told:∀ i k,Pl.Lt K ((r.told.getD i []).getD k 0)
def aP.bK (r:aP) (St:List (List Int)):aP:=⟨r.size,r.zero.map λa=>dH a St r.size,r.least.map λa=>dH a St r.size,r.told.map λa=>dH a St r.size⟩
def aP.fixed (r:aP) (t:Nat) (x:Int):aP:=⟨r.size - 1,r.zero.map λa=>eX a t x,r.least.map λa=>eX a t x,r.told.map λa=>eX a t x⟩
structure oW (P:Nat->Prop) (w:World) (vz vl vt:Value) (r:aP):Prop where
 zero:aM P w vz r.zero
 least:aM P w vl r.least
 told:aM P w vt r.told
theorem iU {P:Nat->Prop} {w0 w:World} (hg:ae w0 w) {g:Nat} (hge:w0.heap.size<=g) {cs:Array Value} (hb:w.heap[g]?=some (.cells cs 74 (0,0))) (n:Int) (a1:Option Addr) (m1 c1:Nat) (a2:Option Addr) (m2 c2:Nat) (a3:Option Addr) (m3 c3:Nat) :
  ae w0 ((((w.setCell ⟨g,0,none⟩ (.int .i64 n)).setCell ⟨g,1,none⟩ (.slice a1 m1 c1)).setCell ⟨g,2,none⟩ (.slice a2 m2 c2)).setCell ⟨g,3,none⟩ (.slice a3 m3 c3))∧Holds P w ((((w.setCell ⟨g,0,none⟩ (.int .i64 n)).setCell ⟨g,1,none⟩ (.slice a1 m1 c1)).setCell ⟨g,2,none⟩ (.slice a2 m2 c2)).setCell ⟨g,3,none⟩ (.slice a3 m3 c3)):=by
 refine ⟨(((B_ (p:=⟨g,0,none⟩) hg hge _).setCell (p:=⟨g,1,none⟩) hge _).setCell (p:=⟨g,2,none⟩) hge _).setCell (p:=⟨g,3,none⟩) hge _,?_⟩;have b1:=j_ w g 0 _ _ (.int .i64 n) hb;have b2:=j_ _ g 1 _ _ (.slice a1 m1 c1) b1;have b3:=j_ _ g 2 _ _ (.slice a2 m2 c2) b2;exact (((bQ hb (by decide) (λe=>absurd e (by decide)) _ _).trans (bQ b1 (by decide) (λe=>absurd e (by decide)) _ _)).trans (bQ b2 (by decide) (λe=>absurd e (by decide)) _ _)).trans (bQ b3 (by decide) (λe=>absurd e (by decide)) _ _)
section
section
section
attribute [local go_sem] bD
set_option maxHeartbeats 1000000 in
theorem Cf (P:Nat->Prop) (K:Nat) (r:aP) (St:List (List Int)) (vr vs:Value) (w:World) (hP:∀ b,w.heap.size<=b->P b) (h:jT P w vr r) (hs:aM P w vs St) (hok:eH r) (Uw:St.length=r.size) (Xg:∀ l∈St,l.length=r.size) (hn:r.size<=100) (hlt:dF K r) (hsl:∀ i k,Pl.Lt K ((St.getD i []).getD k 0)) (hK:2*K+1<=1500000000000) :
  Calls Tryz.prog 61 #[vr,vs] w λe w'=>∃ v',e=.returned v'∧jT P w' v' (r.bK St)∧Below w.heap.size w w':=by
 obtain ⟨vz,vl,vt,rfl,h1,h2,h3⟩:=h;obtain ⟨za,zn,zc,rfl⟩:=h1.aB;obtain ⟨la,ln,lc,rfl⟩:=h2.aB;obtain ⟨ta,tn,tc,rfl⟩:=h3.aB;have HR:=af (oW.mk h1 h2 h3);have HST:=af hs;have EG:=af hok;have Wz:=af Xg;obtain ⟨sa,sc,rfl⟩:∃ ad cap,vs=.slice ad r.size cap:=by obtain ⟨ad,cap,e,_⟩:=hs;rw [Uw] at e;exact ⟨ad,cap,e⟩
 have hb:=aG w (.cells #[.int .i64 r.size,.slice za zn zc,.slice la ln lc,.slice ta tn tc] 74);have hb2:=Below.same (ae.alloc (w.alloc (.cells #[.int .i64 r.size,.slice za zn zc,.slice la ln lc,.slice ta tn tc] 74)) (.cells #[.int .i64 0,.slice none 0 0,.slice none 0 0,.slice none 0 0] 74)) _ _ hb;have HZ:Hid (((w.alloc (.cells #[.int .i64 r.size,.slice za zn zc,.slice la ln lc,.slice ta tn tc] 74)).alloc (.cells #[.int .i64 0,.slice none 0 0,.slice none 0 0,.slice none 0 0] 74)).heap[w.heap.size+1]?=some (.cells #[.int .i64 0,.slice none 0 0,.slice none 0 0,.slice none 0 0] 74)):=by
  have:=aG (w.alloc (.cells #[.int .i64 r.size,.slice za zn zc,.slice la ln lc,.slice ta tn tc] 74)) (.cells #[.int .i64 0,.slice none 0 0,.slice none 0 0,.slice none 0 0] 74);rwa [H_] at this
 have HG:Hid (ae w ((w.alloc (.cells #[.int .i64 r.size,.slice za zn zc,.slice la ln lc,.slice ta tn tc] 74)).alloc (.cells #[.int .i64 0,.slice none 0 0,.slice none 0 0,.slice none 0 0] 74))):=ae.trans (ae.alloc _ _) (ae.alloc _ _);have k1:((w.alloc (.cells #[.int .i64 r.size,.slice za zn zc,.slice la ln lc,.slice ta tn tc] 74)).alloc (.cells #[.int .i64 0,.slice none 0 0,.slice none 0 0,.slice none 0 0] 74)).cell? ⟨w.heap.size,1,none⟩=some (.slice za zn zc):=by rw [cellsOf hb2];rfl
 have k2:((w.alloc (.cells #[.int .i64 r.size,.slice za zn zc,.slice la ln lc,.slice ta tn tc] 74)).alloc (.cells #[.int .i64 0,.slice none 0 0,.slice none 0 0,.slice none 0 0] 74)).cell? ⟨w.heap.size,2,none⟩=some (.slice la ln lc):=by rw [cellsOf hb2];rfl
 have k3:((w.alloc (.cells #[.int .i64 r.size,.slice za zn zc,.slice la ln lc,.slice ta tn tc] 74)).alloc (.cells #[.int .i64 0,.slice none 0 0,.slice none 0 0,.slice none 0 0] 74)).cell? ⟨w.heap.size,3,none⟩=some (.slice ta tn tc):=by rw [cellsOf hb2];rfl
 clear h1 h2 h3 hs hok Xg hb hb2;go_enter Tryz.func61,Tryz.ntmps61;go_wp2_with fail;generalize hW:(w.alloc (.cells #[.int .i64 r.size,.slice za zn zc,.slice la ln lc,.slice ta tn tc] 74)).alloc (.cells #[.int .i64 0,.slice none 0 0,.slice none 0 0,.slice none 0 0] 74)=W at *
 have y1:=b_ k1;have y2:=b_ k2;have y3:=b_ k3;clear k1 k2 k3 hW;refine ah (bZ [(10,λv w=>aM P w v (r.zero.map λa=>dH a St r.size)),(14,λv w=>aM P w v (r.least.map λa=>dH a St r.size)),(18,λv w=>aM P w v (r.told.map λa=>dH a St r.size))]) (gL [(10,aZ),(14,aZ),(18,aZ)]) 20 15 (by kernel_rfl) (by rfl) (by kernel_rfl) (aN (λ_ _ _=>aM.below) (aN (λ_ _ _=>aM.below) (aN (λ_ _ _=>aM.below) cK))) ?_
 iterate 5 (refine aO λK hK=>?_;go_simp;refine hK _ ?_;clear hK K)
 refine ai aZ 84 #[.slice za zn zc,.slice sa r.size sc] (by rfl) (by rfl) aZ.some (λw=>by go_simp) (λwq hg hf=>(qD P K r.size r.zero St _ _ wq (λb' hb'=>hP b' (by have:=(ae.trans (uh HG) hg).size;omega)) ((uh HR).zero.below (ae.trans (uh HG) hg)) ((uh HST).below (ae.trans (uh HG) hg)) Uw hn (uh EG).Aw (uh EG).iY (uh Wz) (hlt.zero) hsl hK).mono (by rintro e w' ⟨v',rfl,hv,hb⟩;exact ⟨_,rfl,hb,hv.aB,λt ht=>by cases ht;exact hv⟩)) ?_;rintro _ ⟨xa,xm,xc,rfl⟩
 iterate 3 (refine aO λK hK=>?_;go_simp;refine hK _ ?_;clear hK K)
 refine ai aZ 84 #[.slice la ln lc,.slice sa r.size sc] (by rfl) (by rfl) aZ.some (λw=>by go_simp) (λwq hg hf=>(qD P K r.size r.least St _ _ wq (λb' hb'=>hP b' (by have:=(ae.trans (uh HG) hg).size;omega)) ((uh HR).least.below (ae.trans (uh HG) hg)) ((uh HST).below (ae.trans (uh HG) hg)) Uw hn (uh EG).vg (uh EG).dQ (uh Wz) (hlt.least) hsl hK).mono (by rintro e w' ⟨v',rfl,hv,hb⟩;exact ⟨_,rfl,hb,hv.aB,λt ht=>by cases ht;exact hv⟩)) ?_;rintro _ ⟨ya,ym,yc,rfl⟩
 iterate 3 (refine aO λK hK=>?_;go_simp;refine hK _ ?_;clear hK K)
 refine ai aZ 84 #[.slice ta tn tc,.slice sa r.size sc] (by rfl) (by rfl) aZ.some (λw=>by go_simp) (λwq hg hf=>(qD P K r.size r.told St _ _ wq (λb' hb'=>hP b' (by have:=(ae.trans (uh HG) hg).size;omega)) ((uh HR).told.below (ae.trans (uh HG) hg)) ((uh HST).below (ae.trans (uh HG) hg)) Uw hn (uh EG).uN (uh EG).gT (uh Wz) (hlt.told) hsl hK).mono (by rintro e w' ⟨v',rfl,hv,hb⟩;exact ⟨_,rfl,hb,hv.aB,λt ht=>by cases ht;exact hv⟩)) ?_;rintro _ ⟨va,vm,vc,rfl⟩
 (refine aO λK hK=>?_;go_simp;refine hK _ ?_;clear hK K)
 refine aF ?_;intro w2 hg2 aK;have e1:aM P w2 (.slice xa xm xc) (r.bK St).zero:=aK 5 _ 10 (by decide) rfl rfl;have e2:aM P w2 (.slice ya ym yc) (r.bK St).least:=aK 9 _ 14 (by decide) rfl rfl;have e3:aM P w2 (.slice va vm vc) (r.bK St).told:=aK 13 _ 18 (by decide) rfl rfl;clear aK;have hblk:=Below.same hg2 _ _ (uh HZ);have c0:w2.cell? ⟨w.heap.size+1,0,none⟩=some (.int .i64 0):=by rw [cellsOf hblk];rfl
 have c1:w2.cell? ⟨w.heap.size+1,1,none⟩=some (.slice none 0 0):=by rw [cellsOf hblk];rfl
 have c2:w2.cell? ⟨w.heap.size+1,2,none⟩=some (.slice none 0 0):=by rw [cellsOf hblk];rfl
 have c3:w2.cell? ⟨w.heap.size+1,3,none⟩=some (.slice none 0 0):=by rw [cellsOf hblk];rfl
 have f0:=aH hblk 0;have f1:=aH hblk 1;have f2:=aH hblk 2;have f3:=aH hblk 3;have Ey:=af (iU (P:=P) (ae.trans (uh HG) hg2) (show w.heap.size<=w.heap.size+1 by omega) hblk (r.size:Int) xa xm xc ya ym yc va vm vc);have Qw:Hid (jT P ((((w2.setCell ⟨w.heap.size+1,0,none⟩ (.int .i64 (r.size:Int))).setCell ⟨w.heap.size+1,1,none⟩ (.slice xa xm xc)).setCell ⟨w.heap.size+1,2,none⟩ (.slice ya ym yc)).setCell ⟨w.heap.size+1,3,none⟩ (.slice va vm vc)) (.agg #[.int .i64 (r.size:Int),.slice xa xm xc,.slice ya ym yc,.slice va vm vc]) (r.bK St)):=⟨_,_,_,rfl,e1.holds (uh Ey).2,e2.holds (uh Ey).2,e3.holds (uh Ey).2⟩;clear e1 e2 e3 hg2 hblk;go_wp2;exact t_ (v:=.agg #[.int .i64 (r.size:Int),.slice xa xm xc,.slice ya ym yc,.slice va vm vc]) (by simp [results,Tryz.results61,go_sem,c0,c1,c2,c3]) rfl ⟨_,rfl,uh Qw,(uh Ey).1⟩
set_option maxHeartbeats 1000000 in
theorem Em (P:Nat->Prop) (K at_:Nat) (r:aP) (x:Int) (vr vx:Value) (w:World) (hP:∀ b,w.heap.size<=b->P b) (h:jT P w vr r) (hx:aj P w vx x) (hok:eH r) (hn0:0<r.size) (hn:r.size<=100) (hat:at_<r.size) (hlt:dF K r) (hxl:Pl.Lt K x) (hK:2*K+1<=1500000000000) :
  Calls Tryz.prog 62 #[vr,.int .i64 at_,vx] w λe w'=>∃ v',e=.returned v'∧jT P w' v' (r.fixed at_ x)∧Below w.heap.size w w':=by
 obtain ⟨vz,vl,vt,rfl,h1,h2,h3⟩:=h;obtain ⟨za,zn,zc,rfl⟩:=h1.aB;obtain ⟨la,ln,lc,rfl⟩:=h2.aB;obtain ⟨ta,tn,tc,rfl⟩:=h3.aB;obtain ⟨bx,ba,bm,bc,rfl⟩:=hx.shape;have HR:=af (oW.mk h1 h2 h3);have EG:=af hok;have Ux:=af hx;have hszI:((r.size - 1:Nat):Int)=(r.size:Int) - 1:=by omega
 have HSZ:=af hszI;have OB0:=af (show True from trivial);have hb:=aG w (.cells #[.int .i64 r.size,.slice za zn zc,.slice la ln lc,.slice ta tn tc] 74);have hbx:=aG (w.alloc (.cells #[.int .i64 r.size,.slice za zn zc,.slice la ln lc,.slice ta tn tc] 74)) (.cells #[.int .i64 bx,.slice ba bm bc] 78);have hb2:=Below.same (ae.alloc ((w.alloc (.cells #[.int .i64 r.size,.slice za zn zc,.slice la ln lc,.slice ta tn tc] 74)).alloc (.cells #[.int .i64 bx,.slice ba bm bc] 78)) (.cells #[.int .i64 0,.slice none 0 0,.slice none 0 0,.slice none 0 0] 74)) _ _ (Below.same (ae.alloc (w.alloc (.cells #[.int .i64 r.size,.slice za zn zc,.slice la ln lc,.slice ta tn tc] 74)) (.cells #[.int .i64 bx,.slice ba bm bc] 78)) _ _ hb);have Tp:=Below.same (ae.alloc ((w.alloc (.cells #[.int .i64 r.size,.slice za zn zc,.slice la ln lc,.slice ta tn tc] 74)).alloc (.cells #[.int .i64 bx,.slice ba bm bc] 78)) (.cells #[.int .i64 0,.slice none 0 0,.slice none 0 0,.slice none 0 0] 74)) _ _ hbx;rw [H_] at Tp;have HZ:Hid ((((w.alloc (.cells #[.int .i64 r.size,.slice za zn zc,.slice la ln lc,.slice ta tn tc] 74)).alloc (.cells #[.int .i64 bx,.slice ba bm bc] 78)).alloc (.cells #[.int .i64 0,.slice none 0 0,.slice none 0 0,.slice none 0 0] 74)).heap[w.heap.size+1+1]?=some (.cells #[.int .i64 0,.slice none 0 0,.slice none 0 0,.slice none 0 0] 74)):=by
  have:=aG ((w.alloc (.cells #[.int .i64 r.size,.slice za zn zc,.slice la ln lc,.slice ta tn tc] 74)).alloc (.cells #[.int .i64 bx,.slice ba bm bc] 78)) (.cells #[.int .i64 0,.slice none 0 0,.slice none 0 0,.slice none 0 0] 74);rwa [H_,H_] at this
 have HG:Hid (ae w (((w.alloc (.cells #[.int .i64 r.size,.slice za zn zc,.slice la ln lc,.slice ta tn tc] 74)).alloc (.cells #[.int .i64 bx,.slice ba bm bc] 78)).alloc (.cells #[.int .i64 0,.slice none 0 0,.slice none 0 0,.slice none 0 0] 74))):=ae.trans (ae.trans (ae.alloc _ _) (ae.alloc _ _)) (ae.alloc _ _);have k0:(((w.alloc (.cells #[.int .i64 r.size,.slice za zn zc,.slice la ln lc,.slice ta tn tc] 74)).alloc (.cells #[.int .i64 bx,.slice ba bm bc] 78)).alloc (.cells #[.int .i64 0,.slice none 0 0,.slice none 0 0,.slice none 0 0] 74)).cell? ⟨w.heap.size,0,none⟩=some (.int .i64 r.size):=by rw [cellsOf hb2];rfl
 have k1:(((w.alloc (.cells #[.int .i64 r.size,.slice za zn zc,.slice la ln lc,.slice ta tn tc] 74)).alloc (.cells #[.int .i64 bx,.slice ba bm bc] 78)).alloc (.cells #[.int .i64 0,.slice none 0 0,.slice none 0 0,.slice none 0 0] 74)).cell? ⟨w.heap.size,1,none⟩=some (.slice za zn zc):=by rw [cellsOf hb2];rfl
 have k2:(((w.alloc (.cells #[.int .i64 r.size,.slice za zn zc,.slice la ln lc,.slice ta tn tc] 74)).alloc (.cells #[.int .i64 bx,.slice ba bm bc] 78)).alloc (.cells #[.int .i64 0,.slice none 0 0,.slice none 0 0,.slice none 0 0] 74)).cell? ⟨w.heap.size,2,none⟩=some (.slice la ln lc):=by rw [cellsOf hb2];rfl
 have k3:(((w.alloc (.cells #[.int .i64 r.size,.slice za zn zc,.slice la ln lc,.slice ta tn tc] 74)).alloc (.cells #[.int .i64 bx,.slice ba bm bc] 78)).alloc (.cells #[.int .i64 0,.slice none 0 0,.slice none 0 0,.slice none 0 0] 74)).cell? ⟨w.heap.size,3,none⟩=some (.slice ta tn tc):=by rw [cellsOf hb2];rfl
 have j0:=(au Tp).1;have j1:=(au Tp).2.1;clear h1 h2 h3 hx hok hb hb2 hbx Tp OB0 hszI;go_enter Tryz.func62,Tryz.ntmps62;go_wp2_with fail;generalize hW:((w.alloc (.cells #[.int .i64 r.size,.slice za zn zc,.slice la ln lc,.slice ta tn tc] 74)).alloc (.cells #[.int .i64 bx,.slice ba bm bc] 78)).alloc (.cells #[.int .i64 0,.slice none 0 0,.slice none 0 0,.slice none 0 0] 74)=W at *
 have y0:=b_ k0;have y1:=b_ k1;have y2:=b_ k2;have y3:=b_ k3;have y4:=b_ j0;have y5:=b_ j1;clear k0 k1 k2 k3 j0 j1 hW;refine ah (bZ [(14,λv w=>aM P w v (r.zero.map λa=>eX a at_ x)),(19,λv w=>aM P w v (r.least.map λa=>eX a at_ x)),(24,λv w=>aM P w v (r.told.map λa=>eX a at_ x))]) (gL [(14,aZ),(19,aZ),(24,aZ)]) 26 19 (by kernel_rfl) (by rfl) (by kernel_rfl) (aN (λ_ _ _=>aM.below) (aN (λ_ _ _=>aM.below) (aN (λ_ _ _=>aM.below) cK))) ?_
 iterate 7 (refine aO λK hK=>?_;go_simp;refine hK _ ?_;clear hK K)
 refine ai aZ 85 #[.slice za zn zc,.int .i64 at_,.agg #[.int .i64 bx,.slice ba bm bc]] (by rfl) (by rfl) aZ.some (λw=>by go_simp) (λwq hg hf=>(rA P K r.size at_ r.zero x _ _ wq (λb' hb'=>hP b' (by have:=(ae.trans (uh HG) hg).size;omega)) ((uh HR).zero.below (ae.trans (uh HG) hg)) ((uh Ux).below (ae.trans (uh HG) hg)) hn0 hn hat (uh EG).Aw (uh EG).iY (hlt.zero) hxl (by omega)).mono (by rintro e w' ⟨v',rfl,hv,hb⟩;exact ⟨_,rfl,hb,hv.aB,λt ht=>by cases ht;exact hv⟩)) ?_;rintro _ ⟨ya,ym,yc,rfl⟩
 iterate 4 (refine aO λK hK=>?_;go_simp;refine hK _ ?_;clear hK K)
 refine ai aZ 85 #[.slice la ln lc,.int .i64 at_,.agg #[.int .i64 bx,.slice ba bm bc]] (by rfl) (by rfl) aZ.some (λw=>by go_simp) (λwq hg hf=>(rA P K r.size at_ r.least x _ _ wq (λb' hb'=>hP b' (by have:=(ae.trans (uh HG) hg).size;omega)) ((uh HR).least.below (ae.trans (uh HG) hg)) ((uh Ux).below (ae.trans (uh HG) hg)) hn0 hn hat (uh EG).vg (uh EG).dQ (hlt.least) hxl (by omega)).mono (by rintro e w' ⟨v',rfl,hv,hb⟩;exact ⟨_,rfl,hb,hv.aB,λt ht=>by cases ht;exact hv⟩)) ?_;rintro _ ⟨va,vm,vc,rfl⟩
 iterate 4 (refine aO λK hK=>?_;go_simp;refine hK _ ?_;clear hK K)
 refine ai aZ 85 #[.slice ta tn tc,.int .i64 at_,.agg #[.int .i64 bx,.slice ba bm bc]] (by rfl) (by rfl) aZ.some (λw=>by go_simp) (λwq hg hf=>(rA P K r.size at_ r.told x _ _ wq (λb' hb'=>hP b' (by have:=(ae.trans (uh HG) hg).size;omega)) ((uh HR).told.below (ae.trans (uh HG) hg)) ((uh Ux).below (ae.trans (uh HG) hg)) hn0 hn hat (uh EG).uN (uh EG).gT (hlt.told) hxl (by omega)).mono (by rintro e w' ⟨v',rfl,hv,hb⟩;exact ⟨_,rfl,hb,hv.aB,λt ht=>by cases ht;exact hv⟩)) ?_;rintro _ ⟨ua,um,uc,rfl⟩
 (refine aO λK hK=>?_;go_simp;refine hK _ ?_;clear hK K)
 refine aF ?_;intro w2 hg2 aK;have e1:aM P w2 (.slice ya ym yc) (r.fixed at_ x).zero:=aK 7 _ 14 (by decide) rfl rfl;have e2:aM P w2 (.slice va vm vc) (r.fixed at_ x).least:=aK 12 _ 19 (by decide) rfl rfl;have e3:aM P w2 (.slice ua um uc) (r.fixed at_ x).told:=aK 17 _ 24 (by decide) rfl rfl;clear aK;have hblk:=Below.same hg2 _ _ (uh HZ);have c0:w2.cell? ⟨w.heap.size+1+1,0,none⟩=some (.int .i64 0):=by rw [cellsOf hblk];rfl
 have c1:w2.cell? ⟨w.heap.size+1+1,1,none⟩=some (.slice none 0 0):=by rw [cellsOf hblk];rfl
 have c2:w2.cell? ⟨w.heap.size+1+1,2,none⟩=some (.slice none 0 0):=by rw [cellsOf hblk];rfl
 have c3:w2.cell? ⟨w.heap.size+1+1,3,none⟩=some (.slice none 0 0):=by rw [cellsOf hblk];rfl
 have f0:=aH hblk 0;have f1:=aH hblk 1;have f2:=aH hblk 2;have f3:=aH hblk 3;have Ey:=af (iU (P:=P) (ae.trans (uh HG) hg2) (show w.heap.size<=w.heap.size+1+1 by omega) hblk ((r.size:Int) - 1) ya ym yc va vm vc ua um uc);have Qw:Hid (jT P ((((w2.setCell ⟨w.heap.size+1+1,0,none⟩ (.int .i64 ((r.size:Int) - 1))).setCell ⟨w.heap.size+1+1,1,none⟩ (.slice ya ym yc)).setCell ⟨w.heap.size+1+1,2,none⟩ (.slice va vm vc)).setCell ⟨w.heap.size+1+1,3,none⟩ (.slice ua um uc)) (.agg #[.int .i64 ((r.size:Int) - 1),.slice ya ym yc,.slice va vm vc,.slice ua um uc]) (r.fixed at_ x)):=⟨_,_,_,by rw [<-uh HSZ];rfl,e1.holds (uh Ey).2,e2.holds (uh Ey).2,e3.holds (uh Ey).2⟩;clear e1 e2 e3 hg2 hblk;go_wp2;exact t_ (v:=.agg #[.int .i64 ((r.size:Int) - 1),.slice ya ym yc,.slice va vm vc,.slice ua um uc]) (by simp [results,Tryz.results62,go_sem,c0,c1,c2,c3]) rfl ⟨_,rfl,uh Qw,(uh Ey).1⟩
end
theorem oC {L n:Nat} {s:Nat->Int} (h:∀ a,a<n->Pl.Lt L (s (a+1))):Pl.ry n s Pl.unit (1073741824^L):=λa ha=>by
 rw [Pl.EK s ha];have:=Pl.dZ.1 (h a ha);omega
theorem LA {L:Nat} {a:Int} (h:a.natAbs<=3*(3*1073741824^L*((1073741824^L*1073741824^L)*(1073741824^L*1073741824^L)))):Pl.Lt (5*L+1) a:=by
 rw [Pl.dZ];have e:1073741824^(5*L+1)=1073741824*(1073741824^L*((1073741824^L*1073741824^L)*(1073741824^L*1073741824^L))):=by
  rw [abI,abL,<-Nat.pow_add,<-Nat.pow_add,<-Nat.pow_add];congr 2;omega
 have hp:0<1073741824^L*((1073741824^L*1073741824^L)*(1073741824^L*1073741824^L)):=by
  have:0<1073741824^L:=aa6 (by omega);exact Nat.mul_pos this (Nat.mul_pos (Nat.mul_pos this this) (Nat.mul_pos this this))
 rw [e];rw [Nat.mul_assoc 3] at h;generalize 1073741824^L*((1073741824^L*1073741824^L)*(1073741824^L*1073741824^L))=z at *
 omega
theorem KC {L:Nat} {a:Int} (h:a.natAbs<=1073741824^L):Pl.Lt (5*L+1) a:=by
 rw [Pl.dZ];have h1:1073741824^L<1073741824^(5*L+1):=Nat.pow_lt_pow_right (by omega) (by omega);omega
theorem WI {L n:Nat} {s:Nat->Int} (h:∀ a,a<n->Pl.Lt L (s (a+1))):UB (5*L+1) n s where
 aQ:=λ_ _ a hr ha=>KC ((hr.inv (oC h)).1 a ha)
 kZ:=λ_ _ _ j a hr hl _ ha=>KC (Pl.Km hl (hr.inv (oC h)).1 j a ha)
 RH:=λ_ _ _ j a b hr hl hj ha hb=>LA (hr.RH (oC h) hl j hj a b ha hb)
theorem EP {L n kk at_:Nat} {s:Nat->Int} {St:Nat->Nat->Int} (h:∀ a,a<n->Pl.Lt L (s (a+1))) (hr:Pl.gX n s kk St) (hl:Pl.fG n s St at_) {a b:Nat} (ha:a<n) (hb:b<n):Pl.Lt (5*L+1) (St a b):=LA (hr.RH (oC h) hl 0 (aaZ _) a b ha hb)
end
attribute [local go_sem] bD
set_option maxHeartbeats 20000000 in
theorem D8 (P:Nat->Prop) (s:List Int) (vs:Value) (w:World) (hP:∀ b,w.heap.size<=b->P b) (hs:aD P w vs s) (hlen:s.length=1) :
  Calls Tryz.prog 59 #[vs] w λe w'=>∃ (g:Nat),e=.returned (.tuple #[.slice (some ⟨g,0,none⟩) 0 0,.int .i64 (-1)])∧Below w.heap.size w w':=by
 obtain ⟨i0,hi0,hz0,hz1,hz2⟩:=U_ Tryz.dP;have hsz2:(Tryz.prog.info? 78).map (·.size)=some 2:=by rw [hi0];simp [hz1]
 obtain ⟨gs,os,ac,cs,rfl,hcl,hsrc,hone,hval⟩:=De hs (by omega);have hcap:1<=ac:=by have:=hs.cap;omega
 rw [hlen] at hcl hval;have HS:=af (x_ hcl (x_ hsrc (x_ hone hval)));rw [hlen];clear hs hcl hsrc hone hval hlen;go_enter Tryz.func59,Tryz.ntmps59;go_wp2_with (at_make;refine wpList_make_full _ rfl _ _ 69 rfl w.heap.size 78 i0 (.agg #[.int .i64 0,.slice none 0 0]) 2 Tryz.underlying69 hi0 hz0 hz1 .i64 .i64 _ _ 0 rfl rfl ?e1 ?e2 ?c1 ?c2 ?c3 ?_)
 case e1=>first | rfl | omega | simp
 case e2=>first | rfl | omega | simp
 case c1=>rw [hz2];omega
 case c2=>unfold maxLen;omega
 case c3=>first | omega | simp
 ·intro w1 hown hgrow;have hG1:ae w w1:=(n_ _ _).grown hgrow (d_ _) (by intro k hk;cases hk);obtain ⟨cur,jS,hcz⟩:=rZ hown;have Aa:=λ(a:Addr) (c:Nat)=>kX (P:=Tryz.prog) w1 69 69 3 78 2 w.heap.size 0 0 0 a 0 c cur 78 [] Tryz.underlying69 hsz2 jS rfl (λj u hu=>by simp at hu) (by simp) (λv hv=>by simp at hv);have HG2:Hid (ae w (w1.setRow w.heap.size (cur.toList.take 0++[]++cur.toList.drop (0+([]:List Value).length)).toArray)):=pG hG1 (d_ _) _;obtain ⟨W1,hW1⟩:∃ W1,w1.setRow w.heap.size (cur.toList.take 0++[]++cur.toList.drop (0+([]:List Value).length)).toArray=W1:=⟨_,rfl⟩;rw [hW1] at HG2;have UC:Hid (∀ (a:Addr) (c:Nat),(Builtin.copy_ #[69,69] 3 #[.slice (some ⟨w.heap.size,0,none⟩) 0 0,.slice (some a) 0 c]).run Tryz.prog w1=.ok (goInt 0) W1):=λa c=>by rw [<-hW1];exact Aa a c
  have HU:=EH P 0 W1 (λb' hb'=>hP b' (by have:=(uh HG2).size;omega)) (by omega);rw [show ((0:Nat):Int)=0 from rfl] at HU;have HUU:=af HU;have sM:Hid (∀ wx,ae w wx->aD P wx (.slice (some ⟨w.heap.size,0,none⟩) 0 0) []):=λwx hgx=>⟨_,_,rfl,d_ _,λi hi=>absurd hi (aaD i)⟩;clear hown hgrow jS hcz hW1 Aa HU;by_cases hac:ac=1
  ·subst hac;go_wp2_with fail;rw [uh UC];simp only [Result.andThen_ok,Oper.upon];go_wp2_with fail;refine (uh HUU).mono ?_;rintro e w3 ⟨g,R,rfl,hg,-,-,-,hb3⟩;have jb:Hid (ae w w3):=(uh HG2).trans hb3;clear hb3;go_wp2_with fail;go_loopg [] 0 (λk wr=>Hid (ae w wr))
   case atStart=>exact uh jb
   case round =>
    rename Nat=>go;rename World=>wo;have HR:Hid (ae w wo):=hrel;have vO:=af (rC P 1 0 [] _ wo (λb' hb'=>hP b' (by have:=(uh HR).size;omega)) (uh sM wo (uh HR)) rfl (by omega) (λk=>by rw [List.getD_nil,Pl.dZ];exact aa6 (by omega)) (by omega));clear hrel;go_wp2_with fail;refine (uh vO).mono ?_;rintro e w4 ⟨c,rfl,mR,hw4⟩;have kC:Hid (ae w w4):=(uh HR).trans hw4;clear hw4 vO;rcases mR with ⟨rfl,hno⟩|⟨at_,hat,rfl,hnz,ky⟩
    ·clear hno;go_wp2_with fail;go_loopg [8,9] 0 (λk av jv wr=>av=.bool true∧jv=.int .i64 0∧Hid (ae w4 wr))
     case atStart=>exact ⟨rfl,rfl,ae.refl _⟩
     case round =>
      obtain ⟨rfl,rfl,HI⟩:=hrel;have gD:Hid (ae w wr):=(uh kC).trans (uh HI);go_wp2;go_ret2;exact ⟨g,rfl,uh gD⟩
    ·omega
  ·go_wp2_with fail;rw [uh UC];simp only [Result.andThen_ok,Oper.upon];go_wp2_with fail;refine (uh HUU).mono ?_;rintro e w3 ⟨g,R,rfl,hg,-,-,-,hb3⟩;have jb:Hid (ae w w3):=(uh HG2).trans hb3;clear hb3;go_wp2_with fail;go_loopg [] 0 (λk wr=>Hid (ae w wr))
   case atStart=>exact uh jb
   case round =>
    rename Nat=>go;rename World=>wo;have HR:Hid (ae w wo):=hrel;have vO:=af (rC P 1 0 [] _ wo (λb' hb'=>hP b' (by have:=(uh HR).size;omega)) (uh sM wo (uh HR)) rfl (by omega) (λk=>by rw [List.getD_nil,Pl.dZ];exact aa6 (by omega)) (by omega));clear hrel;go_wp2_with fail;refine (uh vO).mono ?_;rintro e w4 ⟨c,rfl,mR,hw4⟩;have kC:Hid (ae w w4):=(uh HR).trans hw4;clear hw4 vO;rcases mR with ⟨rfl,hno⟩|⟨at_,hat,rfl,hnz,ky⟩
    ·clear hno;go_wp2_with fail;go_loopg [8,9] 0 (λk av jv wr=>av=.bool true∧jv=.int .i64 0∧Hid (ae w4 wr))
     case atStart=>exact ⟨rfl,rfl,ae.refl _⟩
     case round =>
      obtain ⟨rfl,rfl,HI⟩:=hrel;have gD:Hid (ae w wr):=(uh kC).trans (uh HI);go_wp2;go_ret2;exact ⟨g,rfl,uh gD⟩
    ·omega
end
def iR (n:Nat) (St:Nat->Nat->Int):List (List Int):=(List.range n).map λi=>(List.range n).map (St i)
theorem pY (n:Nat) (St:Nat->Nat->Int):(iR n St).length=n:=by simp [iR]
theorem Ce {n:Nat} {St:Nat->Nat->Int}:∀ l∈iR n St,l.length=n:=λl hl=>by
 unfold iR at hl;obtain ⟨i,_,rfl⟩:=m_.1 hl;simp
theorem yx {n:Nat} (St:Nat->Nat->Int) {i:Nat} (hi:i<n):(iR n St).getD i []=(List.range n).map (St i):=by
 unfold iR;rw [a_,aal,abg hi];rfl
theorem zI {n:Nat} (St:Nat->Nat->Int) {i k:Nat} (hi:i<n) (hk:k<n):((iR n St).getD i []).getD k 0=St i k:=by
 rw [yx St hi];exact Pl.bJ _ _ _ hk
theorem vU {n K:Nat} {St:Nat->Nat->Int} (h:∀ i k,i<n->k<n->Pl.Lt K (St i k)) (i k:Nat):Pl.Lt K (((iR n St).getD i []).getD k 0):=by
 have h0:Pl.Lt K 0:=by rw [Pl.dZ];exact aa6 (by omega)
 by_cases hi:i<n
 ·by_cases hk:k<n
  ·rw [zI St hi hk];exact h i k hi hk
  ·rw [yx St hi,a_,O_ (by simp;omega)];exact h0
 ·have e:(iR n St).getD i []=[]:=by rw [a_,O_ (by rw [pY];omega)];rfl
  rw [e];exact h0
structure IL (n:Nat) (s:Nat->Int) (at_ kk:Nat) (St:Nat->Nat->Int):Prop where
 lt:at_<n
 rounds:Pl.gX n s kk St
 nz:Pl.aQ n St s at_≠0
 only:∀ j,j<n->j≠at_->Pl.aQ n St s j=0
theorem IL.least {n:Nat} {s:Nat->Int} {at_ kk:Nat} {St:Nat->Nat->Int} (h:IL n s at_ kk St):Pl.fG n s St at_:=⟨h.lt,h.nz,λj hj hz=>by
 by_cases e:j=at_
 ·rw [e];exact d_ _
 ·exact absurd (h.only j hj e) hz⟩
theorem F5 (P:Nat->Prop) (L n:Nat) (s:List Int) (vs:Value) (w:World) (hP:∀ b,w.heap.size<=b->P b) (hs:aD P w vs s) (hlen:s.length=n+1) (hn:n<=100) (hl:∀ k,Pl.Lt L (s.getD k 0)) (hK:10*L+4<=1500000000000) :
  Calls Tryz.prog 59 #[vs] w λe w'=>∃ (g:Nat) (c:Int),e=.returned (.tuple #[.slice (some ⟨g,0,none⟩) n n,.int .i64 c])∧Below w.heap.size w w' ∧
   ((c=-1∧∃ kk St,Pl.gX n (λk=>s.getD k 0) kk St∧∀ j,j<n->Pl.aQ n St (λk=>s.getD k 0) j=0) ∨
    ∃ (at_ kk:Nat) (St:Nat->Nat->Int),c=at_∧IL n (λk=>s.getD k 0) at_ kk St∧aM P w' (.slice (some ⟨g,0,none⟩) n n) (iR n St)):=by
 by_cases h0:n=0
 ·subst h0;refine (D8 P s vs w hP hs hlen).mono ?_;rintro e w' ⟨g,rfl,hb⟩;exact ⟨g,-1,rfl,hb,.inl ⟨rfl,0,Pl.unit,Pl.gX.start _ _,λj hj=>absurd hj (aaD j)⟩⟩
 ·refine (F7 P (5*L+1) n s vs w hP hs hlen (by omega) hn (WI λa _=>hl (a+1)) (by omega)).mono ?_;rintro e w' ⟨g,R,kk,St,c,rfl,hg,hR,hF,hH,hb,hr,hc⟩;refine ⟨g,c,rfl,hb,?_⟩;rcases hc with ⟨rfl,hz⟩|⟨k,rfl,hk,hnz,hz⟩
  ·exact .inl ⟨rfl,kk,St,hr,hz⟩
  ·refine .inr ⟨k,kk,St,rfl,⟨hk,hr,hnz,hz⟩,?_⟩;have:=zP hF hH (by omega) (λ_ _=>rfl) n (d_ _) (λk hk=>by
    rcases hk with rfl|⟨i,hi,rfl⟩
    ·exact hP _ hg
    ·exact hP _ (hR _ (by omega)))
   simp only [M_] at this;exact this
end Go.Proofs.YtgaafamcajcifaaGreat
