/- Joined: XSol10 XReg5 XStr XStr0. -/
import Derived.Test.YtfaljekgpnbmiaaJ29
set_option linter.unusedVariables false
set_option linter.unusedSimpArgs false
set_option maxRecDepth 100000
namespace Go.Proofs.Ytfaljekgpnbmiaa
open Go.RowKit Go.Sort
structure RegL where
 size:Nat
 zero:List (List Int)
 least:List (List Int)
 told:List (List Int)
def RegAt (P:Nat→Prop) (w:World) (v:Value) (r:RegL):Prop:=∃ vz vl vt,v=.agg #[.int .i64 r.size,vz,vl,vt]∧RowsAt P w vz r.zero∧RowsAt P w vl r.least∧RowsAt P w vt r.told
structure RegOk (r:RegL):Prop where
 zeroL:∀ l∈r.zero,l.length=r.size+1
 leastL:∀ l∈r.least,l.length=r.size+1
 toldL:∀ l∈r.told,l.length=r.size+1
 zeroN:r.zero.length≤1000
 leastN:r.least.length≤1000
 toldN:r.told.length≤1000
structure RegLt (K:Nat) (r:RegL):Prop where
 zero:∀ i k,Pl.Lt K ((r.zero.getD i []).getD k 0)
 least:∀ i k,Pl.Lt K ((r.least.getD i []).getD k 0)
 told:∀ i k,Pl.Lt K ((r.told.getD i []).getD k 0)
def RegL.turned (r:RegL) (St:List (List Int)):RegL:=⟨r.size,r.zero.map fun a=>turnedP a St r.size,r.least.map fun a=>turnedP a St r.size,r.told.map fun a=>turnedP a St r.size⟩
def RegL.fixed (r:RegL) (t:Nat) (x:Int):RegL:=⟨r.size - 1,r.zero.map fun a=>fixedP a t x,r.least.map fun a=>fixedP a t x,r.told.map fun a=>fixedP a t x⟩
structure Reg3 (P:Nat→Prop) (w:World) (vz vl vt:Value) (r:RegL):Prop where
 zero:RowsAt P w vz r.zero
 least:RowsAt P w vl r.least
 told:RowsAt P w vt r.told
theorem reg_store {P:Nat→Prop} {w0 w:World} (hg:Grows w0 w) {g:Nat} (hge:w0.heap.size≤g) {cs:Array Value} (hb:w.heap[g]?=some (.cells cs 78 (0,0))) (n:Int) (a1:Option Addr) (m1 c1:Nat) (a2:Option Addr) (m2 c2:Nat) (a3:Option Addr) (m3 c3:Nat) :
  Grows w0 ((((w.setCell ⟨g,0,none⟩ (.int .i64 n)).setCell ⟨g,1,none⟩ (.slice a1 m1 c1)).setCell ⟨g,2,none⟩ (.slice a2 m2 c2)).setCell ⟨g,3,none⟩ (.slice a3 m3 c3))∧Holds P w ((((w.setCell ⟨g,0,none⟩ (.int .i64 n)).setCell ⟨g,1,none⟩ (.slice a1 m1 c1)).setCell ⟨g,2,none⟩ (.slice a2 m2 c2)).setCell ⟨g,3,none⟩ (.slice a3 m3 c3)):=by
 refine ⟨(((Below.setCell (p:=⟨g,0,none⟩) hg hge _).setCell (p:=⟨g,1,none⟩) hge _).setCell (p:=⟨g,2,none⟩) hge _).setCell (p:=⟨g,3,none⟩) hge _,?_⟩
 have b1:=heap_setCell_same w g 0 _ _ (.int .i64 n) hb
 have b2:=heap_setCell_same _ g 1 _ _ (.slice a1 m1 c1) b1
 have b3:=heap_setCell_same _ g 2 _ _ (.slice a2 m2 c2) b2
 exact (((holds_set hb (by decide) (fun e=>absurd e (by decide)) _ _).trans (holds_set b1 (by decide) (fun e=>absurd e (by decide)) _ _)).trans (holds_set b2 (by decide) (fun e=>absurd e (by decide)) _ _)).trans (holds_set b3 (by decide) (fun e=>absurd e (by decide)) _ _)
section
attribute [local go_sem] valUpon
set_option maxHeartbeats 1000000 in
theorem turned_reg (P:Nat→Prop) (K:Nat) (r:RegL) (St:List (List Int)) (vr vs:Value) (w:World) (hP:∀ b,w.heap.size≤b→P b) (h:RegAt P w vr r) (hs:RowsAt P w vs St) (hok:RegOk r) (hSn:St.length=r.size) (hSl:∀ l∈St,l.length=r.size) (hn:r.size≤100) (hlt:RegLt K r) (hsl:∀ i k,Pl.Lt K ((St.getD i []).getD k 0)) (hK:2*K+1≤1500000000000) :
  Calls Try.prog 111 #[vr,vs] w fun e w'=>∃ v',e=.returned v'∧RegAt P w' v' (r.turned St)∧Below w.heap.size w w':=by
 obtain ⟨vz,vl,vt,rfl,h1,h2,h3⟩:=h
 obtain ⟨za,zn,zc,rfl⟩:=h1.shapeS
 obtain ⟨la,ln,lc,rfl⟩:=h2.shapeS
 obtain ⟨ta,tn,tc,rfl⟩:=h3.shapeS
 have HR:=hide (Reg3.mk h1 h2 h3)
 have HST:=hide hs
 have HOK:=hide hok
 have HSTL:=hide hSl
 obtain ⟨sa,sc,rfl⟩:∃ ad cap,vs=.slice ad r.size cap:=by obtain ⟨ad,cap,e,_⟩:=hs;rw [hSn] at e;exact ⟨ad,cap,e⟩
 have hb:=slot_one w (.cells #[.int .i64 r.size,.slice za zn zc,.slice la ln lc,.slice ta tn tc] 78)
 have hb2:=Below.same (Grows.alloc (w.alloc (.cells #[.int .i64 r.size,.slice za zn zc,.slice la ln lc,.slice ta tn tc] 78)) (.cells #[.int .i64 0,.slice none 0 0,.slice none 0 0,.slice none 0 0] 78)) _ _ hb
 have HZ:Hid (((w.alloc (.cells #[.int .i64 r.size,.slice za zn zc,.slice la ln lc,.slice ta tn tc] 78)).alloc (.cells #[.int .i64 0,.slice none 0 0,.slice none 0 0,.slice none 0 0] 78)).heap[w.heap.size+1]?=some (.cells #[.int .i64 0,.slice none 0 0,.slice none 0 0,.slice none 0 0] 78)):=by
  have:=slot_one (w.alloc (.cells #[.int .i64 r.size,.slice za zn zc,.slice la ln lc,.slice ta tn tc] 78)) (.cells #[.int .i64 0,.slice none 0 0,.slice none 0 0,.slice none 0 0] 78)
  rwa [World.size_alloc] at this
 have HG:Hid (Grows w ((w.alloc (.cells #[.int .i64 r.size,.slice za zn zc,.slice la ln lc,.slice ta tn tc] 78)).alloc (.cells #[.int .i64 0,.slice none 0 0,.slice none 0 0,.slice none 0 0] 78))):=Grows.trans (Grows.alloc _ _) (Grows.alloc _ _)
 have k1:((w.alloc (.cells #[.int .i64 r.size,.slice za zn zc,.slice la ln lc,.slice ta tn tc] 78)).alloc (.cells #[.int .i64 0,.slice none 0 0,.slice none 0 0,.slice none 0 0] 78)).cell? ⟨w.heap.size,1,none⟩=some (.slice za zn zc):=by rw [cellsOf hb2];rfl
 have k2:((w.alloc (.cells #[.int .i64 r.size,.slice za zn zc,.slice la ln lc,.slice ta tn tc] 78)).alloc (.cells #[.int .i64 0,.slice none 0 0,.slice none 0 0,.slice none 0 0] 78)).cell? ⟨w.heap.size,2,none⟩=some (.slice la ln lc):=by rw [cellsOf hb2];rfl
 have k3:((w.alloc (.cells #[.int .i64 r.size,.slice za zn zc,.slice la ln lc,.slice ta tn tc] 78)).alloc (.cells #[.int .i64 0,.slice none 0 0,.slice none 0 0,.slice none 0 0] 78)).cell? ⟨w.heap.size,3,none⟩=some (.slice ta tn tc):=by rw [cellsOf hb2];rfl
 clear h1 h2 h3 hs hok hSl hb hb2
 go_enter Try.func111,Try.ntmps111
 go_wp2_with fail
 generalize hW:(w.alloc (.cells #[.int .i64 r.size,.slice za zn zc,.slice la ln lc,.slice ta tn tc] 78)).alloc (.cells #[.int .i64 0,.slice none 0 0,.slice none 0 0,.slice none 0 0] 78)=W at *
 have y1:=cell_regrown k1
 have y2:=cell_regrown k2
 have y3:=cell_regrown k3
 clear k1 k2 k3 hW
 refine wp_region_grown (phiL [(10,fun v w=>RowsAt P w v (r.zero.map fun a=>turnedP a St r.size)),(14,fun v w=>RowsAt P w v (r.least.map fun a=>turnedP a St r.size)),(18,fun v w=>RowsAt P w v (r.told.map fun a=>turnedP a St r.size))]) (gL [(10,ShapeS),(14,ShapeS),(18,ShapeS)]) 20 15 (by kernel_rfl) (by rfl) (by kernel_rfl) (phi_c (fun _ _ _=>RowsAt.below) (phi_c (fun _ _ _=>RowsAt.below) (phi_c (fun _ _ _=>RowsAt.below) phi_n))) ?_
 iterate 5 (refine lex_s fun K hK=>?_;go_simp;refine hK _ ?_;clear hK K)
 refine lex_call ShapeS 150 #[.slice za zn zc,.slice sa r.size sc] (by rfl) (by rfl) ShapeS.some (fun w=>by go_simp) (fun wq hg hf=>(turnedSums_any P K r.size r.zero St _ _ wq (fun b' hb'=>hP b' (by have:=(Grows.trans (uh HG) hg).size;omega)) ((uh HR).zero.below (Grows.trans (uh HG) hg)) ((uh HST).below (Grows.trans (uh HG) hg)) hSn hn (uh HOK).zeroN (uh HOK).zeroL (uh HSTL) (hlt.zero) hsl hK).mono (by rintro e w' ⟨v',rfl,hv,hb⟩;exact ⟨_,rfl,hb,hv.shapeS,fun t ht=>by cases ht;exact hv⟩)) ?_
 rintro _ ⟨xa,xm,xc,rfl⟩
 iterate 3 (refine lex_s fun K hK=>?_;go_simp;refine hK _ ?_;clear hK K)
 refine lex_call ShapeS 150 #[.slice la ln lc,.slice sa r.size sc] (by rfl) (by rfl) ShapeS.some (fun w=>by go_simp) (fun wq hg hf=>(turnedSums_any P K r.size r.least St _ _ wq (fun b' hb'=>hP b' (by have:=(Grows.trans (uh HG) hg).size;omega)) ((uh HR).least.below (Grows.trans (uh HG) hg)) ((uh HST).below (Grows.trans (uh HG) hg)) hSn hn (uh HOK).leastN (uh HOK).leastL (uh HSTL) (hlt.least) hsl hK).mono (by rintro e w' ⟨v',rfl,hv,hb⟩;exact ⟨_,rfl,hb,hv.shapeS,fun t ht=>by cases ht;exact hv⟩)) ?_
 rintro _ ⟨ya,ym,yc,rfl⟩
 iterate 3 (refine lex_s fun K hK=>?_;go_simp;refine hK _ ?_;clear hK K)
 refine lex_call ShapeS 150 #[.slice ta tn tc,.slice sa r.size sc] (by rfl) (by rfl) ShapeS.some (fun w=>by go_simp) (fun wq hg hf=>(turnedSums_any P K r.size r.told St _ _ wq (fun b' hb'=>hP b' (by have:=(Grows.trans (uh HG) hg).size;omega)) ((uh HR).told.below (Grows.trans (uh HG) hg)) ((uh HST).below (Grows.trans (uh HG) hg)) hSn hn (uh HOK).toldN (uh HOK).toldL (uh HSTL) (hlt.told) hsl hK).mono (by rintro e w' ⟨v',rfl,hv,hb⟩;exact ⟨_,rfl,hb,hv.shapeS,fun t ht=>by cases ht;exact hv⟩)) ?_
 rintro _ ⟨va,vm,vc,rfl⟩
 (refine lex_s fun K hK=>?_;go_simp;refine hK _ ?_;clear hK K)
 refine lex_last ?_
 intro w2 hg2 hphi
 have e1:RowsAt P w2 (.slice xa xm xc) (r.turned St).zero:=hphi 5 _ 10 (by decide) rfl rfl
 have e2:RowsAt P w2 (.slice ya ym yc) (r.turned St).least:=hphi 9 _ 14 (by decide) rfl rfl
 have e3:RowsAt P w2 (.slice va vm vc) (r.turned St).told:=hphi 13 _ 18 (by decide) rfl rfl
 clear hphi
 have hblk:=Below.same hg2 _ _ (uh HZ)
 have c0:w2.cell? ⟨w.heap.size+1,0,none⟩=some (.int .i64 0):=by rw [cellsOf hblk];rfl
 have c1:w2.cell? ⟨w.heap.size+1,1,none⟩=some (.slice none 0 0):=by rw [cellsOf hblk];rfl
 have c2:w2.cell? ⟨w.heap.size+1,2,none⟩=some (.slice none 0 0):=by rw [cellsOf hblk];rfl
 have c3:w2.cell? ⟨w.heap.size+1,3,none⟩=some (.slice none 0 0):=by rw [cellsOf hblk];rfl
 have f0:=freeOf hblk 0
 have f1:=freeOf hblk 1
 have f2:=freeOf hblk 2
 have f3:=freeOf hblk 3
 have HGF:=hide (reg_store (P:=P) (Grows.trans (uh HG) hg2) (show w.heap.size≤w.heap.size+1 by omega) hblk (r.size:Int) xa xm xc ya ym yc va vm vc)
 have HRF:Hid (RegAt P ((((w2.setCell ⟨w.heap.size+1,0,none⟩ (.int .i64 (r.size:Int))).setCell ⟨w.heap.size+1,1,none⟩ (.slice xa xm xc)).setCell ⟨w.heap.size+1,2,none⟩ (.slice ya ym yc)).setCell ⟨w.heap.size+1,3,none⟩ (.slice va vm vc)) (.agg #[.int .i64 (r.size:Int),.slice xa xm xc,.slice ya ym yc,.slice va vm vc]) (r.turned St)):=⟨_,_,_,rfl,e1.holds (uh HGF).2,e2.holds (uh HGF).2,e3.holds (uh HGF).2⟩
 clear e1 e2 e3 hg2 hblk
 go_wp2
 exact bodyPost_ret (v:=.agg #[.int .i64 (r.size:Int),.slice xa xm xc,.slice ya ym yc,.slice va vm vc]) (by simp [results,Try.results111,go_sem,c0,c1,c2,c3]) rfl ⟨_,rfl,uh HRF,(uh HGF).1⟩
set_option maxHeartbeats 1000000 in
theorem fixed_reg (P:Nat→Prop) (K at_:Nat) (r:RegL) (x:Int) (vr vx:Value) (w:World) (hP:∀ b,w.heap.size≤b→P b) (h:RegAt P w vr r) (hx:WhAt P w vx x) (hok:RegOk r) (hn0:0<r.size) (hn:r.size≤100) (hat:at_<r.size) (hlt:RegLt K r) (hxl:Pl.Lt K x) (hK:2*K+1≤1500000000000) :
  Calls Try.prog 112 #[vr,.int .i64 at_,vx] w fun e w'=>∃ v',e=.returned v'∧RegAt P w' v' (r.fixed at_ x)∧Below w.heap.size w w':=by
 obtain ⟨vz,vl,vt,rfl,h1,h2,h3⟩:=h
 obtain ⟨za,zn,zc,rfl⟩:=h1.shapeS
 obtain ⟨la,ln,lc,rfl⟩:=h2.shapeS
 obtain ⟨ta,tn,tc,rfl⟩:=h3.shapeS
 obtain ⟨bx,ba,bm,bc,rfl⟩:=hx.shape
 have HR:=hide (Reg3.mk h1 h2 h3)
 have HOK:=hide hok
 have HXV:=hide hx
 have hszI:((r.size - 1:Nat):Int)=(r.size:Int) - 1:=by omega
 have HSZ:=hide hszI
 have OB0:=hide (show True from trivial)
 have hb:=slot_one w (.cells #[.int .i64 r.size,.slice za zn zc,.slice la ln lc,.slice ta tn tc] 78)
 have hbx:=slot_one (w.alloc (.cells #[.int .i64 r.size,.slice za zn zc,.slice la ln lc,.slice ta tn tc] 78)) (.cells #[.int .i64 bx,.slice ba bm bc] 82)
 have hb2:=Below.same (Grows.alloc ((w.alloc (.cells #[.int .i64 r.size,.slice za zn zc,.slice la ln lc,.slice ta tn tc] 78)).alloc (.cells #[.int .i64 bx,.slice ba bm bc] 82)) (.cells #[.int .i64 0,.slice none 0 0,.slice none 0 0,.slice none 0 0] 78)) _ _ (Below.same (Grows.alloc (w.alloc (.cells #[.int .i64 r.size,.slice za zn zc,.slice la ln lc,.slice ta tn tc] 78)) (.cells #[.int .i64 bx,.slice ba bm bc] 82)) _ _ hb)
 have hbx2:=Below.same (Grows.alloc ((w.alloc (.cells #[.int .i64 r.size,.slice za zn zc,.slice la ln lc,.slice ta tn tc] 78)).alloc (.cells #[.int .i64 bx,.slice ba bm bc] 82)) (.cells #[.int .i64 0,.slice none 0 0,.slice none 0 0,.slice none 0 0] 78)) _ _ hbx
 rw [World.size_alloc] at hbx2
 have HZ:Hid ((((w.alloc (.cells #[.int .i64 r.size,.slice za zn zc,.slice la ln lc,.slice ta tn tc] 78)).alloc (.cells #[.int .i64 bx,.slice ba bm bc] 82)).alloc (.cells #[.int .i64 0,.slice none 0 0,.slice none 0 0,.slice none 0 0] 78)).heap[w.heap.size+1+1]?=some (.cells #[.int .i64 0,.slice none 0 0,.slice none 0 0,.slice none 0 0] 78)):=by
  have:=slot_one ((w.alloc (.cells #[.int .i64 r.size,.slice za zn zc,.slice la ln lc,.slice ta tn tc] 78)).alloc (.cells #[.int .i64 bx,.slice ba bm bc] 82)) (.cells #[.int .i64 0,.slice none 0 0,.slice none 0 0,.slice none 0 0] 78)
  rwa [World.size_alloc,World.size_alloc] at this
 have HG:Hid (Grows w (((w.alloc (.cells #[.int .i64 r.size,.slice za zn zc,.slice la ln lc,.slice ta tn tc] 78)).alloc (.cells #[.int .i64 bx,.slice ba bm bc] 82)).alloc (.cells #[.int .i64 0,.slice none 0 0,.slice none 0 0,.slice none 0 0] 78))):=Grows.trans (Grows.trans (Grows.alloc _ _) (Grows.alloc _ _)) (Grows.alloc _ _)
 have k0:(((w.alloc (.cells #[.int .i64 r.size,.slice za zn zc,.slice la ln lc,.slice ta tn tc] 78)).alloc (.cells #[.int .i64 bx,.slice ba bm bc] 82)).alloc (.cells #[.int .i64 0,.slice none 0 0,.slice none 0 0,.slice none 0 0] 78)).cell? ⟨w.heap.size,0,none⟩=some (.int .i64 r.size):=by rw [cellsOf hb2];rfl
 have k1:(((w.alloc (.cells #[.int .i64 r.size,.slice za zn zc,.slice la ln lc,.slice ta tn tc] 78)).alloc (.cells #[.int .i64 bx,.slice ba bm bc] 82)).alloc (.cells #[.int .i64 0,.slice none 0 0,.slice none 0 0,.slice none 0 0] 78)).cell? ⟨w.heap.size,1,none⟩=some (.slice za zn zc):=by rw [cellsOf hb2];rfl
 have k2:(((w.alloc (.cells #[.int .i64 r.size,.slice za zn zc,.slice la ln lc,.slice ta tn tc] 78)).alloc (.cells #[.int .i64 bx,.slice ba bm bc] 82)).alloc (.cells #[.int .i64 0,.slice none 0 0,.slice none 0 0,.slice none 0 0] 78)).cell? ⟨w.heap.size,2,none⟩=some (.slice la ln lc):=by rw [cellsOf hb2];rfl
 have k3:(((w.alloc (.cells #[.int .i64 r.size,.slice za zn zc,.slice la ln lc,.slice ta tn tc] 78)).alloc (.cells #[.int .i64 bx,.slice ba bm bc] 82)).alloc (.cells #[.int .i64 0,.slice none 0 0,.slice none 0 0,.slice none 0 0] 78)).cell? ⟨w.heap.size,3,none⟩=some (.slice ta tn tc):=by rw [cellsOf hb2];rfl
 have j0:=(int_cells hbx2).1
 have j1:=(int_cells hbx2).2.1
 clear h1 h2 h3 hx hok hb hb2 hbx hbx2 OB0 hszI
 go_enter Try.func112,Try.ntmps112
 go_wp2_with fail
 generalize hW:((w.alloc (.cells #[.int .i64 r.size,.slice za zn zc,.slice la ln lc,.slice ta tn tc] 78)).alloc (.cells #[.int .i64 bx,.slice ba bm bc] 82)).alloc (.cells #[.int .i64 0,.slice none 0 0,.slice none 0 0,.slice none 0 0] 78)=W at *
 have y0:=cell_regrown k0
 have y1:=cell_regrown k1
 have y2:=cell_regrown k2
 have y3:=cell_regrown k3
 have y4:=cell_regrown j0
 have y5:=cell_regrown j1
 clear k0 k1 k2 k3 j0 j1 hW
 refine wp_region_grown (phiL [(14,fun v w=>RowsAt P w v (r.zero.map fun a=>fixedP a at_ x)),(19,fun v w=>RowsAt P w v (r.least.map fun a=>fixedP a at_ x)),(24,fun v w=>RowsAt P w v (r.told.map fun a=>fixedP a at_ x))]) (gL [(14,ShapeS),(19,ShapeS),(24,ShapeS)]) 26 19 (by kernel_rfl) (by rfl) (by kernel_rfl) (phi_c (fun _ _ _=>RowsAt.below) (phi_c (fun _ _ _=>RowsAt.below) (phi_c (fun _ _ _=>RowsAt.below) phi_n))) ?_
 iterate 7 (refine lex_s fun K hK=>?_;go_simp;refine hK _ ?_;clear hK K)
 refine lex_call ShapeS 151 #[.slice za zn zc,.int .i64 at_,.agg #[.int .i64 bx,.slice ba bm bc]] (by rfl) (by rfl) ShapeS.some (fun w=>by go_simp) (fun wq hg hf=>(fixedSums_any P K r.size at_ r.zero x _ _ wq (fun b' hb'=>hP b' (by have:=(Grows.trans (uh HG) hg).size;omega)) ((uh HR).zero.below (Grows.trans (uh HG) hg)) ((uh HXV).below (Grows.trans (uh HG) hg)) hn0 hn hat (uh HOK).zeroN (uh HOK).zeroL (hlt.zero) hxl (by omega)).mono (by rintro e w' ⟨v',rfl,hv,hb⟩;exact ⟨_,rfl,hb,hv.shapeS,fun t ht=>by cases ht;exact hv⟩)) ?_
 rintro _ ⟨ya,ym,yc,rfl⟩
 iterate 4 (refine lex_s fun K hK=>?_;go_simp;refine hK _ ?_;clear hK K)
 refine lex_call ShapeS 151 #[.slice la ln lc,.int .i64 at_,.agg #[.int .i64 bx,.slice ba bm bc]] (by rfl) (by rfl) ShapeS.some (fun w=>by go_simp) (fun wq hg hf=>(fixedSums_any P K r.size at_ r.least x _ _ wq (fun b' hb'=>hP b' (by have:=(Grows.trans (uh HG) hg).size;omega)) ((uh HR).least.below (Grows.trans (uh HG) hg)) ((uh HXV).below (Grows.trans (uh HG) hg)) hn0 hn hat (uh HOK).leastN (uh HOK).leastL (hlt.least) hxl (by omega)).mono (by rintro e w' ⟨v',rfl,hv,hb⟩;exact ⟨_,rfl,hb,hv.shapeS,fun t ht=>by cases ht;exact hv⟩)) ?_
 rintro _ ⟨va,vm,vc,rfl⟩
 iterate 4 (refine lex_s fun K hK=>?_;go_simp;refine hK _ ?_;clear hK K)
 refine lex_call ShapeS 151 #[.slice ta tn tc,.int .i64 at_,.agg #[.int .i64 bx,.slice ba bm bc]] (by rfl) (by rfl) ShapeS.some (fun w=>by go_simp) (fun wq hg hf=>(fixedSums_any P K r.size at_ r.told x _ _ wq (fun b' hb'=>hP b' (by have:=(Grows.trans (uh HG) hg).size;omega)) ((uh HR).told.below (Grows.trans (uh HG) hg)) ((uh HXV).below (Grows.trans (uh HG) hg)) hn0 hn hat (uh HOK).toldN (uh HOK).toldL (hlt.told) hxl (by omega)).mono (by rintro e w' ⟨v',rfl,hv,hb⟩;exact ⟨_,rfl,hb,hv.shapeS,fun t ht=>by cases ht;exact hv⟩)) ?_
 rintro _ ⟨ua,um,uc,rfl⟩
 (refine lex_s fun K hK=>?_;go_simp;refine hK _ ?_;clear hK K)
 refine lex_last ?_
 intro w2 hg2 hphi
 have e1:RowsAt P w2 (.slice ya ym yc) (r.fixed at_ x).zero:=hphi 7 _ 14 (by decide) rfl rfl
 have e2:RowsAt P w2 (.slice va vm vc) (r.fixed at_ x).least:=hphi 12 _ 19 (by decide) rfl rfl
 have e3:RowsAt P w2 (.slice ua um uc) (r.fixed at_ x).told:=hphi 17 _ 24 (by decide) rfl rfl
 clear hphi
 have hblk:=Below.same hg2 _ _ (uh HZ)
 have c0:w2.cell? ⟨w.heap.size+1+1,0,none⟩=some (.int .i64 0):=by rw [cellsOf hblk];rfl
 have c1:w2.cell? ⟨w.heap.size+1+1,1,none⟩=some (.slice none 0 0):=by rw [cellsOf hblk];rfl
 have c2:w2.cell? ⟨w.heap.size+1+1,2,none⟩=some (.slice none 0 0):=by rw [cellsOf hblk];rfl
 have c3:w2.cell? ⟨w.heap.size+1+1,3,none⟩=some (.slice none 0 0):=by rw [cellsOf hblk];rfl
 have f0:=freeOf hblk 0
 have f1:=freeOf hblk 1
 have f2:=freeOf hblk 2
 have f3:=freeOf hblk 3
 have HGF:=hide (reg_store (P:=P) (Grows.trans (uh HG) hg2) (show w.heap.size≤w.heap.size+1+1 by omega) hblk ((r.size:Int) - 1) ya ym yc va vm vc ua um uc)
 have HRF:Hid (RegAt P ((((w2.setCell ⟨w.heap.size+1+1,0,none⟩ (.int .i64 ((r.size:Int) - 1))).setCell ⟨w.heap.size+1+1,1,none⟩ (.slice ya ym yc)).setCell ⟨w.heap.size+1+1,2,none⟩ (.slice va vm vc)).setCell ⟨w.heap.size+1+1,3,none⟩ (.slice ua um uc)) (.agg #[.int .i64 ((r.size:Int) - 1),.slice ya ym yc,.slice va vm vc,.slice ua um uc]) (r.fixed at_ x)):=⟨_,_,_,by rw [←uh HSZ];rfl,e1.holds (uh HGF).2,e2.holds (uh HGF).2,e3.holds (uh HGF).2⟩
 clear e1 e2 e3 hg2 hblk
 go_wp2
 exact bodyPost_ret (v:=.agg #[.int .i64 ((r.size:Int) - 1),.slice ya ym yc,.slice va vm vc,.slice ua um uc]) (by simp [results,Try.results112,go_sem,c0,c1,c2,c3]) rfl ⟨_,rfl,uh HRF,(uh HGF).1⟩
end
end Go.Proofs.Ytfaljekgpnbmiaa

namespace Go.Proofs.Ytfaljekgpnbmiaa.Pl
section
variable {n:Nat} {s:Nat→Int} {at_:Nat} {St:Nat→Nat→Int}
def strT (n:Nat) (s:Nat→Int) (at_:Nat) (St:Nat→Nat→Int) (a:Nat):Int:=if a=at_∨rise n St s a=0 then 0 else Int.fdiv (rise n St s a) (rise n St s at_)
theorem to_row (j:Nat):∀ a,strTo n s at_ St j a=if a<j then (fun b=>St a b - strT n s at_ St a*St at_ b) else St a:=by
 induction j with
 | zero=>intro a;rw [if_neg (by omega)];rfl
 | succ j ih =>
  intro a
  show strStep n s at_ (strTo n s at_ St j) j a=_
  by_cases e:a=j
  ·subst e
   rw [if_pos (by omega)]
   have hr:=to_rise_later (n:=n) (s:=s) (at_:=at_) (St:=St) a (a:=a) (Nat.le_refl _)
   have ha:=to_rise_at (n:=n) (s:=s) (at_:=at_) (St:=St) a
   have hrow:=to_later (n:=n) (s:=s) (at_:=at_) (St:=St) a (a:=a) (Nat.le_refl _)
   have hrat:=to_at (n:=n) (s:=s) (at_:=at_) (St:=St) a
   unfold strStep strT
   rw [hr,ha]
   by_cases hc:a=at_∨rise n St s a=0
   ·rw [if_pos hc,if_pos hc,hrow]
    funext b
    rw [Int.zero_mul,Int.sub_zero]
   ·rw [if_neg hc,if_neg hc]
    funext b
    unfold subRow
    rw [if_pos rfl,hrow,hrat]
  ·rw [step_other j e,ih a]
   by_cases h:a<j
   ·rw [if_pos h,if_pos (by omega)]
   ·rw [if_neg h,if_neg (by omega)]
theorem to_rise (j a:Nat):rise n (strTo n s at_ St j) s a=if a<j then rise n St s a - strT n s at_ St a*rise n St s at_ else rise n St s a:=by
 by_cases h:a<j
 ·rw [if_pos h]
  unfold rise
  rw [to_row j a,if_pos h,←sm_mul,←sm_sub]
  refine sm_congr fun i _=>?_
  rw [Int.mul_sub,Int.mul_left_comm]
 ·rw [if_neg h]
  exact to_rise_later j (by omega)
theorem rest_le (h:LeastAt n s St at_) {a:Nat} (ha:a<n):(rise n St s a - strT n s at_ St a*rise n St s at_).natAbs≤(rise n St s at_).natAbs∧(a≠at_→(rise n St s a - strT n s at_ St a*rise n St s at_).natAbs<(rise n St s at_).natAbs):=by
 have h1:0<(rise n St s at_).natAbs:=by have:=h.2.1;omega
 unfold strT
 by_cases hc:a=at_∨rise n St s a=0
 ·rw [if_pos hc,Int.zero_mul,Int.sub_zero]
  rcases hc with e|e
  ·rw [e];exact ⟨Nat.le_refl _,fun h=>absurd rfl h⟩
  ·rw [e];exact ⟨by simp,fun _=>by simpa using h.2.1⟩
 ·rw [if_neg hc]
  have:=rest_less (rise n St s a) h.2.1
  exact ⟨by omega,fun _=>this⟩
theorem strT_le (h:LeastAt n s St at_) {M a:Nat} (hM:(rise n St s a).natAbs≤M):(strT n s at_ St a).natAbs*(rise n St s at_).natAbs≤M+(rise n St s at_).natAbs:=by
 unfold strT
 by_cases hc:a=at_∨rise n St s a=0
 ·rw [if_pos hc];simp
 ·rw [if_neg hc]
  have h1:=times_le (rise n St s a) h.2.1
  have h2:(((Int.fdiv (rise n St s a) (rise n St s at_)).natAbs*(rise n St s at_).natAbs:Nat):Int)≤(rise n St s a).natAbs+(rise n St s at_).natAbs:=by rw [Int.natCast_mul];exact h1
  omega
def EntLe (n:Nat) (St:Nat→Nat→Int) (N:Nat):Prop:=∀ a b,a<n→b<n→(St a b).natAbs≤N
def RiseLe (n:Nat) (s:Nat→Int) (St:Nat→Nat→Int) (M:Nat):Prop:=∀ a,a<n→(rise n St s a).natAbs≤M
theorem to_ent (h:LeastAt n s St at_) {N M:Nat} (hN:EntLe n St N) (hM:RiseLe n s St M) (j:Nat):EntLe n (strTo n s at_ St j) (N+(M+(rise n St s at_).natAbs)/(rise n St s at_).natAbs*N):=by
 intro a b ha hb
 have h1:0<(rise n St s at_).natAbs:=by have:=h.2.1;omega
 have h2:=hN a b ha hb
 have h3:=hN at_ b h.1 hb
 rw [to_row j a]
 by_cases hj:a<j
 ·rw [if_pos hj]
  have h4:(strT n s at_ St a).natAbs≤(M+(rise n St s at_).natAbs)/(rise n St s at_).natAbs:=(Nat.le_div_iff_mul_le h1).2 (strT_le h (hM a ha))
  have h5:(strT n s at_ St a*St at_ b).natAbs≤(M+(rise n St s at_).natAbs)/(rise n St s at_).natAbs*N:=by
   rw [Int.natAbs_mul];exact Nat.mul_le_mul h4 h3
  show (St a b - strT n s at_ St a*St at_ b).natAbs≤_
  generalize strT n s at_ St a*St at_ b=z at *
  omega
 ·rw [if_neg hj];exact Nat.le_trans h2 (Nat.le_add_right _ _)
theorem to_riseLe (h:LeastAt n s St at_):RiseLe n s (strTo n s at_ St n) (rise n St s at_).natAbs:=fun a ha=>by
 rw [to_rise,if_pos ha];exact (rest_le h ha).1
theorem mid_riseLe (h:LeastAt n s St at_) {M:Nat} (hM:RiseLe n s St M) (j:Nat):RiseLe n s (strTo n s at_ St j) M:=fun a ha=>by
 rw [to_rise]
 split
 ·exact Nat.le_trans (rest_le h ha).1 (hM at_ h.1)
 ·exact hM a ha
theorem ent_times {N M m:Nat} (hm:0<m) (hmM:m≤M):(N+(M+m)/m*N)*m≤3*(N*M):=by
 have h1:(M+m)/m*m≤M+m:=Nat.div_mul_le_self _ _
 have h2:(M+m)/m*N*m=(M+m)/m*m*N:=Nat.mul_right_comm _ _ _
 have h3:(M+m)/m*m*N≤(M+m)*N:=Nat.mul_le_mul_right _ h1
 have h4:N*m≤N*M:=Nat.mul_le_mul_left _ hmM
 rw [Nat.add_mul,h2]
 rw [Nat.add_mul,Nat.mul_comm M N,Nat.mul_comm m N] at h3
 omega
def OneSign (n:Nat) (s:Nat→Int) (St:Nat→Nat→Int):Prop:=(∀ a,a<n→0≤rise n St s a)∨(∀ a,a<n→rise n St s a≤0)
theorem to_sign (h:LeastAt n s St at_):OneSign n s (strTo n s at_ St n):=by
 have key:∀ a,a<n→∃ x,rise n (strTo n s at_ St n) s a=x∧(0<rise n St s at_→0≤x)∧(rise n St s at_<0→x≤0):=fun a ha=>by
  refine ⟨_,rfl,?_,?_⟩ <;> rw [to_rise,if_pos ha] <;> unfold strT <;> intro hp
  ·by_cases hc:a=at_∨rise n St s a=0
   ·rw [if_pos hc];rcases hc with e | e
    ·rw [e];omega
    ·rw [e];omega
   ·rw [if_neg hc,Int.fdiv_eq_ediv_of_nonneg _ (by omega)]
    have h1:=Int.mul_ediv_add_emod (rise n St s a) (rise n St s at_)
    have h2:=Int.emod_nonneg (rise n St s a) h.2.1
    rw [Int.mul_comm] at h1
    omega
  ·by_cases hc:a=at_∨rise n St s a=0
   ·rw [if_pos hc];rcases hc with e | e
    ·rw [e];omega
    ·rw [e];omega
   ·rw [if_neg hc,←Int.neg_fdiv_neg,Int.fdiv_eq_ediv_of_nonneg _ (by omega)]
    have h1:=Int.mul_ediv_add_emod (-rise n St s a) (-rise n St s at_)
    have h2:=Int.emod_nonneg (-rise n St s a) (show -rise n St s at_≠0 by omega)
    generalize (-rise n St s a)/(-rise n St s at_)=q at *
    generalize (-rise n St s a)%(-rise n St s at_)=r at *
    rw [Int.neg_mul,Int.mul_comm] at h1
    omega
 rcases (show 0<rise n St s at_∨rise n St s at_<0 by have:=h.2.1;omega) with hp|hp
 ·exact .inl fun a ha=>by obtain ⟨x,e,h1,_⟩:=key a ha;rw [e];exact h1 hp
 ·exact .inr fun a ha=>by obtain ⟨x,e,_,h1⟩:=key a ha;rw [e];exact h1 hp
theorem rest_half (h:LeastAt n s St at_) (hs:OneSign n s St) {a:Nat} (ha:a<n) (hne:a≠at_):2*(rise n St s a - strT n s at_ St a*rise n St s at_).natAbs≤(rise n St s a).natAbs:=by
 unfold strT
 by_cases hc:a=at_∨rise n St s a=0
 ·rcases hc with e | e
  ·exact absurd e hne
  ·rw [if_pos (.inr e),e];simp
 ·rw [if_neg hc]
  have hle:=h.2.2 a ha (fun e=>hc (.inr e))
  have haz:rise n St s a≠0:=fun e=>hc (.inr e)
  have hnz:=h.2.1
  have main:∀ x m:Int,0<m→m≤x→2*(x - x/m*m).natAbs≤x.natAbs:=fun x m hm hx=>by
   have h1:=Int.mul_ediv_add_emod x m
   have h2:=Int.emod_nonneg x (show m≠0 by omega)
   have h3:=Int.emod_lt_of_pos x hm
   have h4:1≤x/m:=(Int.le_ediv_iff_mul_le hm).2 (by omega)
   have h5:m*1≤m*(x/m):=Int.mul_le_mul_of_nonneg_left h4 (by omega)
   rw [Int.mul_comm (x/m) m]
   omega
  rcases hs with hp|hp
  ·have h1:=hp a ha
   have h2:=hp at_ h.1
   rw [Int.fdiv_eq_ediv_of_nonneg _ h2]
   exact main _ _ (by omega) (by omega)
  ·have h1:=hp a ha
   have h2:=hp at_ h.1
   rw [←Int.neg_fdiv_neg,Int.fdiv_eq_ediv_of_nonneg _ (by omega)]
   have:=main (-rise n St s a) (-rise n St s at_) (by omega) (by omega)
   rw [Int.mul_neg] at this
   omega
def StrInv (n:Nat) (s:Nat→Int) (C:Nat) (St:Nat→Nat→Int):Prop :=
 (OneSign n s St∧∃ N M,EntLe n St N∧RiseLe n s St M∧∀ at_,LeastAt n s St at_→N*M*((M*(rise n St s at_).natAbs)*(M*(rise n St s at_).natAbs))≤C) ∨
 (EntLe n St (3*C)∧∀ at_,LeastAt n s St at_→∀ a,a<n→a≠at_→rise n St s a=0)
theorem EntLe.mono {N N':Nat} (h:EntLe n St N) (hN:N≤N'):EntLe n St N':=fun a b ha hb=>Nat.le_trans (h a b ha hb) hN
theorem live_three {N M m C:Nat} (hm:0<m) (hmM:m≤M) (hC:N*M*((M*m)*(M*m))≤C):N+(M+m)/m*N≤3*C:=by
 have h1:=ent_times (N:=N) hm hmM
 have hM:0<M:=by omega
 have h2:1≤(M*m)*(M*m):=Nat.mul_pos (Nat.mul_pos hM hm) (Nat.mul_pos hM hm)
 have h3:N*M*1≤N*M*((M*m)*(M*m)):=Nat.mul_le_mul_left _ h2
 have h4:(N+(M+m)/m*N)*1≤(N+(M+m)/m*N)*m:=Nat.mul_le_mul_left _ hm
 omega
theorem StrInv.mid {C:Nat} (h:StrInv n s C St) (ha:LeastAt n s St at_) (j:Nat) (hj:j≤n):EntLe n (strTo n s at_ St j) (3*C):=by
 rcases h with ⟨_,N,M,hN,hM,hC⟩|⟨hN,hd⟩
 ·have h1:0<(rise n St s at_).natAbs:=by have:=ha.2.1;omega
  exact (to_ent ha hN hM j).mono (live_three h1 (hM at_ ha.1) (hC at_ ha))
 ·rw [to_alone j (fun a ha'=>by
   by_cases e:a=at_
   ·exact .inl e
   ·exact .inr (hd at_ ha a (by omega) e))]
  exact hN
theorem half_sq {N M m m' C:Nat} {N':Nat} (h1:N'*m≤3*(N*M)) (h2:2*m'≤M) (hC:N*M*((M*m)*(M*m))≤C):N'*m*((m*m')*(m*m'))≤C:=by
 have h3:N'*m*((m*m')*(m*m'))≤3*(N*M)*((m*m')*(m*m')):=Nat.mul_le_mul_right _ h1
 have h4:(2*m')*(2*m')≤M*M:=Nat.mul_le_mul h2 h2
 have e1:3*(N*M)*((m*m')*(m*m'))=N*M*(m*m)*(3*(m'*m')):=by
  simp only [Nat.mul_assoc,Nat.mul_left_comm,Nat.mul_comm]
 have e2:N*M*((M*m)*(M*m))=N*M*(m*m)*(M*M):=by
  simp only [Nat.mul_assoc,Nat.mul_left_comm,Nat.mul_comm]
 have e3:(2*m')*(2*m')=4*(m'*m'):=by
  simp only [Nat.mul_assoc,Nat.mul_left_comm,Nat.mul_comm]
 have h5:N*M*(m*m)*(3*(m'*m'))≤N*M*(m*m)*(M*M):=Nat.mul_le_mul_left _ (by omega)
 omega
theorem StrInv.round {C:Nat} (h:StrInv n s C St) (ha:LeastAt n s St at_):StrInv n s C (strTo n s at_ St n):=by
 have hmid:=h.mid ha n (Nat.le_refl _)
 rcases h with ⟨hs,N,M,hN,hM,hC⟩|⟨hN,hd⟩
 ·have hm:0<(rise n St s at_).natAbs:=by have:=ha.2.1;omega
  have hat:rise n (strTo n s at_ St n) s at_=rise n St s at_:=to_rise_at n
  by_cases hex:∃ a,a<n∧a≠at_∧rise n (strTo n s at_ St n) s a≠0
  ·obtain ⟨a,ha1,ha2,ha3⟩:=hex
   refine .inl ⟨to_sign ha,_,_,to_ent ha hN hM n,to_riseLe ha,fun at2 h2=>?_⟩
   have h3:=h2.2.2 a ha1 ha3
   have h4:2*(rise n (strTo n s at_ St n) s a).natAbs≤M:=by
    rw [to_rise,if_pos ha1]
    exact Nat.le_trans (rest_half ha hs ha1 ha2) (hM a ha1)
   exact half_sq (ent_times hm (hM at_ ha.1)) (show 2*(rise n (strTo n s at_ St n) s at2).natAbs≤M by omega) (hC at_ ha)
  ·refine .inr ⟨hmid,fun at2 h2 a ha1 hne=>?_⟩
   have key:∀ b,b<n→b≠at_→rise n (strTo n s at_ St n) s b=0:=fun b hb hbn=>by
    apply Classical.byContradiction
    intro h3
    exact hex ⟨b,hb,hbn,h3⟩
   have e2:at2=at_:=by
    apply Classical.byContradiction
    intro h3
    exact h2.2.1 (key at2 h2.1 h3)
   exact key a ha1 (by rw [←e2];exact hne)
 ·have e:strTo n s at_ St n=St:=to_alone n (fun a ha'=>by
   by_cases e:a=at_
   ·exact .inl e
   ·exact .inr (hd at_ ha a ha' e))
  rw [e];exact .inr ⟨hN,hd⟩
theorem unit_ent (n:Nat):EntLe n unit 1:=fun a b _ _=>by unfold unit;split <;> simp
theorem StrInv.first {M:Nat} (hM:RiseLe n s unit M) (ha:LeastAt n s unit at_):StrInv n s (3*M*((M*M)*(M*M))) (strTo n s at_ unit n)∧∀ j,EntLe n (strTo n s at_ unit j) (3*(3*M*((M*M)*(M*M)))):=by
 have hm:0<(rise n unit s at_).natAbs:=by have:=ha.2.1;omega
 have hmM:=hM at_ ha.1
 have h1:=ent_times (N:=1) hm hmM
 rw [Nat.one_mul] at h1
 refine ⟨.inl ⟨to_sign ha,_,_,to_ent ha (unit_ent n) hM n,to_riseLe ha,fun at2 h2=>?_⟩,fun j=>(to_ent ha (unit_ent n) hM j).mono ?_⟩
 ·have h3:=to_riseLe ha at2 h2.1
  refine Nat.mul_le_mul h1 (Nat.mul_le_mul ?_ ?_) <;> exact Nat.mul_le_mul hmM (Nat.le_trans h3 hmM)
 ·have hM1:1≤M:=by omega
  have h4:(1+(M+(rise n unit s at_).natAbs)/(rise n unit s at_).natAbs*1)*1≤(1+(M+(rise n unit s at_).natAbs)/(rise n unit s at_).natAbs*1)*(rise n unit s at_).natAbs:=Nat.mul_le_mul_left _ hm
  have h5:1≤(M*M)*(M*M):=Nat.mul_pos (Nat.mul_pos hM1 hM1) (Nat.mul_pos hM1 hM1)
  have h6:3*M*1≤3*M*((M*M)*(M*M)):=Nat.mul_le_mul_left _ h5
  omega
theorem Rounds.inv {M k:Nat} (hM:RiseLe n s unit M) (h:Rounds n s k St):RiseLe n s St M∧(k=0∧St=unit∨StrInv n s (3*M*((M*M)*(M*M))) St):=by
 obtain ⟨T,A,h0,rfl,h2⟩:=h
 induction k with
 | zero=>rw [h0];exact ⟨hM,.inl ⟨rfl,rfl⟩⟩
 | succ k ih =>
  obtain ⟨i1,i2⟩:=ih (fun i hi=>h2 i (by omega))
  obtain ⟨h3,h4⟩:=h2 k (by omega)
  rw [h4]
  refine ⟨fun a ha=>Nat.le_trans (to_riseLe h3 a ha) (i1 _ h3.1),.inr ?_⟩
  rcases i2 with ⟨_,e⟩|e
  ·rw [e] at h3
   rw [e]
   exact (StrInv.first hM h3).1
  ·exact e.round h3
theorem Rounds.ent {M k:Nat} (hM:RiseLe n s unit M) (h:Rounds n s k St) (ha:LeastAt n s St at_) (j:Nat) (hj:j≤n):EntLe n (strTo n s at_ St j) (3*(3*M*((M*M)*(M*M)))):=by
 rcases (h.inv hM).2 with ⟨_,e⟩|e
 ·subst e;exact (StrInv.first hM ha).2 j
 ·exact e.mid ha j hj
end
end Go.Proofs.Ytfaljekgpnbmiaa.Pl

namespace Go.Proofs.Ytfaljekgpnbmiaa
open Go.RowKit Go.Sort
theorem unit_riseLe {L n:Nat} {s:Nat→Int} (h:∀ a,a<n→Pl.Lt L (s (a+1))):Pl.RiseLe n s Pl.unit (1073741824^L):=fun a ha=>by
 rw [Pl.rise_unit s ha]
 have:=Pl.lt_nat.1 (h a ha)
 omega
theorem five_lt {L:Nat} {a:Int} (h:a.natAbs≤3*(3*1073741824^L*((1073741824^L*1073741824^L)*(1073741824^L*1073741824^L)))):Pl.Lt (5*L+1) a:=by
 rw [Pl.lt_nat]
 have e:1073741824^(5*L+1)=1073741824*(1073741824^L*((1073741824^L*1073741824^L)*(1073741824^L*1073741824^L))):=by
  rw [Nat.pow_succ,Nat.mul_comm,←Nat.pow_add,←Nat.pow_add,←Nat.pow_add]
  congr 2
  omega
 have hp:0<1073741824^L*((1073741824^L*1073741824^L)*(1073741824^L*1073741824^L)):=by
  have:0<1073741824^L:=Nat.pow_pos (by omega)
  exact Nat.mul_pos this (Nat.mul_pos (Nat.mul_pos this this) (Nat.mul_pos this this))
 rw [e]
 rw [Nat.mul_assoc 3] at h
 generalize 1073741824^L*((1073741824^L*1073741824^L)*(1073741824^L*1073741824^L))=z at *
 omega
theorem one_lt {L:Nat} {a:Int} (h:a.natAbs≤1073741824^L):Pl.Lt (5*L+1) a:=by
 rw [Pl.lt_nat]
 have h1:1073741824^L<1073741824^(5*L+1):=Nat.pow_lt_pow_right (by omega) (by omega)
 omega
theorem str_lt {L n:Nat} {s:Nat→Int} (h:∀ a,a<n→Pl.Lt L (s (a+1))):StrLt (5*L+1) n s where
 rise:=fun _ _ a hr ha=>one_lt ((hr.inv (unit_riseLe h)).1 a ha)
 mid:=fun _ _ _ j a hr hl _ ha=>one_lt (Pl.mid_riseLe hl (hr.inv (unit_riseLe h)).1 j a ha)
 ent:=fun _ _ _ j a b hr hl hj ha hb=>five_lt (hr.ent (unit_riseLe h) hl j hj a b ha hb)
theorem str_steps {L n kk at_:Nat} {s:Nat→Int} {St:Nat→Nat→Int} (h:∀ a,a<n→Pl.Lt L (s (a+1))) (hr:Pl.Rounds n s kk St) (hl:Pl.LeastAt n s St at_) {a b:Nat} (ha:a<n) (hb:b<n):Pl.Lt (5*L+1) (St a b):=five_lt (hr.ent (unit_riseLe h) hl 0 (Nat.zero_le _) a b ha hb)
attribute [local go_sem] valUpon
set_option maxHeartbeats 20000000 in
theorem straight_none (P:Nat→Prop) (s:List Int) (vs:Value) (w:World) (hP:∀ b,w.heap.size≤b→P b) (hs:RowAt P w vs s) (hlen:s.length=1) :
  Calls Try.prog 109 #[vs] w fun e w'=>∃ (g:Nat),e=.returned (.tuple #[.slice (some ⟨g,0,none⟩) 0 0,.int .i64 (-1)])∧Below w.heap.size w w':=by
 obtain ⟨i0,hi0,hz0,hz1,hz2⟩:=info_parts Try.infoWhole
 have hsz2:(Try.prog.info? 82).map (·.size)=some 2:=by rw [hi0];simp [hz1]
 obtain ⟨gs,os,ac,cs,rfl,hcl,hsrc,hone,hval⟩:=row_list hs (by omega)
 have hcap:1≤ac:=by have:=hs.cap;omega
 rw [hlen] at hcl hval
 have HS:=hide (And.intro hcl (And.intro hsrc (And.intro hone hval)))
 rw [hlen]
 clear hs hcl hsrc hone hval hlen
 go_enter Try.func109,Try.ntmps109
 go_wp2_with (at_make;refine wpList_make_full _ rfl _ _ 73 rfl w.heap.size 82 i0 (.agg #[.int .i64 0,.slice none 0 0]) 2 Try.underlying73 hi0 hz0 hz1 .i64 .i64 _ _ 0 rfl rfl ?e1 ?e2 ?c1 ?c2 ?c3 ?_)
 case e1=>first | rfl | omega | simp
 case e2=>first | rfl | omega | simp
 case c1=>rw [hz2];omega
 case c2=>unfold maxLen;omega
 case c3=>first | omega | simp
 ·intro w1 hown hgrow
  have hG1:Grows w w1:=(Below.refl _ _).grown hgrow (Nat.le_refl _) (by intro k hk;cases hk)
  obtain ⟨cur,hcur,hcz⟩:=block_two hown
  have HRUN:=fun (a:Addr) (c:Nat)=>run_copy_rows (P:=Try.prog) w1 73 73 3 82 2 w.heap.size 0 0 0 a 0 c cur 82 [] Try.underlying73 hsz2 hcur rfl (fun j u hu=>by simp at hu) (by simp) (fun v hv=>by simp at hv)
  have HG2:Hid (Grows w (w1.setRow w.heap.size (cur.toList.take 0++[]++cur.toList.drop (0+([]:List Value).length)).toArray)):=grows_setRow hG1 (Nat.le_refl _) _
  obtain ⟨W1,hW1⟩:∃ W1,w1.setRow w.heap.size (cur.toList.take 0++[]++cur.toList.drop (0+([]:List Value).length)).toArray=W1:=⟨_,rfl⟩
  rw [hW1] at HG2
  have HRUN2:Hid (∀ (a:Addr) (c:Nat),(Builtin.copy_ #[73,73] 3 #[.slice (some ⟨w.heap.size,0,none⟩) 0 0,.slice (some a) 0 c]).run Try.prog w1=.ok (goInt 0) W1):=fun a c=>by rw [←hW1];exact HRUN a c
  have HU:=units_any P 0 W1 (fun b' hb'=>hP b' (by have:=(uh HG2).size;omega)) (by omega)
  rw [show ((0:Nat):Int)=0 from rfl] at HU
  have HUU:=hide HU
  have HROW:Hid (∀ wx,Grows w wx→RowAt P wx (.slice (some ⟨w.heap.size,0,none⟩) 0 0) []):=fun wx hgx=>⟨_,_,rfl,Nat.le_refl _,fun i hi=>absurd hi (Nat.not_lt_zero i)⟩
  clear hown hgrow hcur hcz hW1 HRUN HU
  by_cases hac:ac=1
  ·subst hac
   go_wp2_with fail
   rw [uh HRUN2]
   simp only [Result.andThen_ok,Oper.upon]
   go_wp2_with fail
   refine (uh HUU).mono ?_
   rintro e w3 ⟨g,R,rfl,hg,-,-,-,hb3⟩
   have HG3:Hid (Grows w w3):=(uh HG2).trans hb3
   clear hb3
   go_wp2_with fail
   go_loopg [] 0 (fun k wr=>Hid (Grows w wr))
   case atStart=>exact uh HG3
   case round =>
    rename Nat=>go
    rename World=>wo
    have HR:Hid (Grows w wo):=hrel
    have HLR:=hide (leastRise_any P 1 0 [] _ wo (fun b' hb'=>hP b' (by have:=(uh HR).size;omega)) (uh HROW wo (uh HR)) rfl (by omega) (fun k=>by rw [List.getD_nil,Pl.lt_nat];exact Nat.pow_pos (by omega)) (by omega))
    clear hrel
    go_wp2_with fail
    refine (uh HLR).mono ?_
    rintro e w4 ⟨c,rfl,hbest,hw4⟩
    have HG4:Hid (Grows w w4):=(uh HR).trans hw4
    clear hw4 HLR
    rcases hbest with ⟨rfl,hno⟩|⟨at_,hat,rfl,hnz,hleast⟩
    ·clear hno
     go_wp2_with fail
     go_loopg [8,9] 0 (fun k av jv wr=>av=.bool true∧jv=.int .i64 0∧Hid (Grows w4 wr))
     case atStart=>exact ⟨rfl,rfl,Grows.refl _⟩
     case round =>
      obtain ⟨rfl,rfl,HI⟩:=hrel
      have HG5:Hid (Grows w wr):=(uh HG4).trans (uh HI)
      go_wp2
      go_ret2
      exact ⟨g,rfl,uh HG5⟩
    ·omega
  ·go_wp2_with fail
   rw [uh HRUN2]
   simp only [Result.andThen_ok,Oper.upon]
   go_wp2_with fail
   refine (uh HUU).mono ?_
   rintro e w3 ⟨g,R,rfl,hg,-,-,-,hb3⟩
   have HG3:Hid (Grows w w3):=(uh HG2).trans hb3
   clear hb3
   go_wp2_with fail
   go_loopg [] 0 (fun k wr=>Hid (Grows w wr))
   case atStart=>exact uh HG3
   case round =>
    rename Nat=>go
    rename World=>wo
    have HR:Hid (Grows w wo):=hrel
    have HLR:=hide (leastRise_any P 1 0 [] _ wo (fun b' hb'=>hP b' (by have:=(uh HR).size;omega)) (uh HROW wo (uh HR)) rfl (by omega) (fun k=>by rw [List.getD_nil,Pl.lt_nat];exact Nat.pow_pos (by omega)) (by omega))
    clear hrel
    go_wp2_with fail
    refine (uh HLR).mono ?_
    rintro e w4 ⟨c,rfl,hbest,hw4⟩
    have HG4:Hid (Grows w w4):=(uh HR).trans hw4
    clear hw4 HLR
    rcases hbest with ⟨rfl,hno⟩|⟨at_,hat,rfl,hnz,hleast⟩
    ·clear hno
     go_wp2_with fail
     go_loopg [8,9] 0 (fun k av jv wr=>av=.bool true∧jv=.int .i64 0∧Hid (Grows w4 wr))
     case atStart=>exact ⟨rfl,rfl,Grows.refl _⟩
     case round =>
      obtain ⟨rfl,rfl,HI⟩:=hrel
      have HG5:Hid (Grows w wr):=(uh HG4).trans (uh HI)
      go_wp2
      go_ret2
      exact ⟨g,rfl,uh HG5⟩
    ·omega
end Go.Proofs.Ytfaljekgpnbmiaa
