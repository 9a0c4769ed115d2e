/- Joined: XSet7 XHall XLim XLim2. -/
import Derived.Test.YtfaljekgpnbmiaaJ32
set_option linter.unusedVariables false
set_option linter.unusedSimpArgs false
set_option maxRecDepth 100000
namespace Go.Proofs.Ytfaljekgpnbmiaa
open Go.RowKit Go.Sort
structure RegIn (P:Nat→Prop) (w0 w:World) (r:RegL) (za:Option Addr) (zn zc:Nat) (la:Option Addr) (ln lc:Nat) (ta:Option Addr) (tn tc:Nat):Prop where
 own:w.heap[w0.heap.size]?=some (.cells #[.int .i64 r.size,.slice za zn zc,.slice la ln lc,.slice ta tn tc] 78 (0,0))
 res:w.heap[w0.heap.size+1]?=some (.cells #[.int .i64 0,.slice none 0 0,.slice none 0 0,.slice none 0 0] 78 (0,0))
 rows:Reg3 P w (.slice za zn zc) (.slice la ln lc) (.slice ta tn tc) r
 grows:Grows w0 w
theorem Reg3.holds {P:Nat→Prop} {w w':World} {vz vl vt:Value} {r:RegL} (h:Reg3 P w vz vl vt r) (hh:Holds P w w'):Reg3 P w' vz vl vt r:=⟨h.zero.holds hh,h.least.holds hh,h.told.holds hh⟩
theorem Reg3.grow {P:Nat→Prop} {w w':World} {vz vl vt:Value} {r:RegL} (h:Reg3 P w vz vl vt r) (hg:Grows w w'):Reg3 P w' vz vl vt r:=h.holds (.of_below hg)
theorem RegIn.grow {P:Nat→Prop} {w0 w w':World} {r:RegL} {za la ta:Option Addr} {zn zc ln lc tn tc:Nat} (h:RegIn P w0 w r za zn zc la ln lc ta tn tc) (hg:Grows w w'):RegIn P w0 w' r za zn zc la ln lc ta tn tc :=
 ⟨Below.same hg _ _ h.own,Below.same hg _ _ h.res,h.rows.grow hg,h.grows.trans hg⟩
theorem RowsAt.len {P:Nat→Prop} {w:World} {ad:Option Addr} {n c:Nat} {ls:List (List Int)} (h:RowsAt P w (.slice ad n c) ls):n=ls.length:=by
 obtain ⟨_,_,e,_⟩:=h
 cases e;rfl
theorem RegIn.less {P:Nat→Prop} {w0 w:World} {r:RegL} {za la ta:Option Addr} {m zc ln lc tn tc:Nat} (h:RegIn P w0 w r za (m+1) zc la ln lc ta tn tc):RegIn P w0 (w.setCell ⟨w0.heap.size,1,none⟩ (.slice za m zc)) r.less za m zc la ln lc ta tn tc:=by
 have hb:=h.own
 have hh:Holds P w (w.setCell ⟨w0.heap.size,1,none⟩ (.slice za m zc)):=holds_set hb (by decide) (fun e=>absurd e (by decide)) _ _
 have hlen:=h.rows.zero.len
 refine ⟨?_,?_,⟨?_,h.rows.least.holds hh,h.rows.told.holds hh⟩,Below.setCell (p:=⟨w0.heap.size,1,none⟩) h.grows (Nat.le_refl _) _⟩
 ·have:=heap_setCell_same w w0.heap.size 1 _ _ (.slice za m zc) hb
  exact this
 ·exact (Below.heap_setCell _ _ _ _ (show w0.heap.size+1≠w0.heap.size by omega)).trans h.res
 ·have h1:=h.rows.zero
  rw [RegL.zero_split (show 0<r.zero.length by omega)] at h1
  exact h1.front.holds hh
theorem take_getD (ls:List (List Int)) {i:Nat} (h:i<ls.length):ls.take (i+1)=ls.take i++[ls.getD i []]:=by
 rw [List.take_succ_eq_append_getElem h,List.getD_eq_getElem?_getD,List.getElem?_eq_getElem h];rfl
theorem RegIn.store {P:Nat→Prop} {w0 w:World} {r r2:RegL} {za la ta:Option Addr} {zn zc ln lc tn tc:Nat} (h:RegIn P w0 w r za zn zc la ln lc ta tn tc) {a1 a2 a3:Option Addr} {m1 c1 m2 c2 m3 c3:Nat} (h2:Reg3 P w (.slice a1 m1 c1) (.slice a2 m2 c2) (.slice a3 m3 c3) r2) :
  RegIn P w0 ((((w.setCell ⟨w0.heap.size,0,none⟩ (.int .i64 r2.size)).setCell ⟨w0.heap.size,1,none⟩ (.slice a1 m1 c1)).setCell ⟨w0.heap.size,2,none⟩ (.slice a2 m2 c2)).setCell ⟨w0.heap.size,3,none⟩ (.slice a3 m3 c3)) r2 a1 m1 c1 a2 m2 c2 a3 m3 c3:=by
 have hs:=reg_store (P:=P) h.grows (Nat.le_refl _) h.own (r2.size:Int) a1 m1 c1 a2 m2 c2 a3 m3 c3
 have hne:w0.heap.size+1≠w0.heap.size:=by omega
 refine ⟨?_,?_,h2.holds hs.2,hs.1⟩
 ·have b1:=heap_setCell_same w w0.heap.size 0 _ _ (.int .i64 r2.size) h.own
  have b2:=heap_setCell_same _ w0.heap.size 1 _ _ (.slice a1 m1 c1) b1
  have b3:=heap_setCell_same _ w0.heap.size 2 _ _ (.slice a2 m2 c2) b2
  have b4:=heap_setCell_same _ w0.heap.size 3 _ _ (.slice a3 m3 c3) b3
  exact b4
 ·exact (Below.heap_setCell _ _ _ _ hne).trans ((Below.heap_setCell _ _ _ _ hne).trans ((Below.heap_setCell _ _ _ _ hne).trans ((Below.heap_setCell _ _ _ _ hne).trans h.res)))
theorem RegIn.ret {P:Nat→Prop} {w0 w:World} {r:RegL} {za la ta:Option Addr} {zn zc ln lc tn tc:Nat} (h:RegIn P w0 w r za zn zc la ln lc ta tn tc) (n:Int) (a1 a2 a3:Option Addr) (m1 c1 m2 c2 m3 c3:Nat) :
  Grows w0 ((((w.setCell ⟨w0.heap.size+1,0,none⟩ (.int .i64 n)).setCell ⟨w0.heap.size+1,1,none⟩ (.slice a1 m1 c1)).setCell ⟨w0.heap.size+1,2,none⟩ (.slice a2 m2 c2)).setCell ⟨w0.heap.size+1,3,none⟩ (.slice a3 m3 c3))∧Holds P w ((((w.setCell ⟨w0.heap.size+1,0,none⟩ (.int .i64 n)).setCell ⟨w0.heap.size+1,1,none⟩ (.slice a1 m1 c1)).setCell ⟨w0.heap.size+1,2,none⟩ (.slice a2 m2 c2)).setCell ⟨w0.heap.size+1,3,none⟩ (.slice a3 m3 c3)) :=
 reg_store (P:=P) h.grows (show w0.heap.size≤w0.heap.size+1 by omega) h.res n a1 m1 c1 a2 m2 c2 a3 m3 c3
theorem RegIn.cells {P:Nat→Prop} {w0 w:World} {r:RegL} {za la ta:Option Addr} {zn zc ln lc tn tc:Nat} (h:RegIn P w0 w r za zn zc la ln lc ta tn tc) :
  w.cell? ⟨w0.heap.size,0,none⟩=some (.int .i64 r.size)∧w.cell? ⟨w0.heap.size,1,none⟩=some (.slice za zn zc)∧w.cell? ⟨w0.heap.size,2,none⟩=some (.slice la ln lc)∧w.cell? ⟨w0.heap.size,3,none⟩=some (.slice ta tn tc)∧(∀ o,w.frozen? ⟨w0.heap.size,o,none⟩=false):=by
 refine ⟨?_,?_,?_,?_,fun o=>freeOf h.own o⟩ <;> (rw [cellsOf h.own];rfl)
theorem RegIn.zeros {P:Nat→Prop} {w0 w:World} {r:RegL} {za la ta:Option Addr} {zn zc ln lc tn tc:Nat} (h:RegIn P w0 w r za zn zc la ln lc ta tn tc) :
  w.cell? ⟨w0.heap.size+1,0,none⟩=some (.int .i64 0)∧w.cell? ⟨w0.heap.size+1,1,none⟩=some (.slice none 0 0)∧w.cell? ⟨w0.heap.size+1,2,none⟩=some (.slice none 0 0)∧w.cell? ⟨w0.heap.size+1,3,none⟩=some (.slice none 0 0)∧(∀ o,w.frozen? ⟨w0.heap.size+1,o,none⟩=false):=by
 refine ⟨?_,?_,?_,?_,fun o=>freeOf h.res o⟩ <;> (rw [cellsOf h.res];rfl)
section
section
section
attribute [local go_sem] valUpon tailWp
set_option maxHeartbeats 2000000 in
theorem settled_any (P:Nat→Prop) (L:Nat) (r:RegL) (vr:Value) (w:World) (hP:∀ b,w.heap.size≤b→P b) (h:RegAt P w vr r) (hok:RegOk r) (hn:r.size≤100) (hlt:RegLt L r) (hK:20*limbs L r.size+10≤1500000000000) :
  Calls Try.prog 57 #[vr] w fun e w'=>∃ (v':Value) (ok:Bool),e=.returned (.tuple #[v',.bool ok])∧ShapeR v'∧Below w.heap.size w w'∧(ok=true→∃ r1,RegAt P w' v' r1.whole∧ZRounds r r.zero.length r1∧∀ a∈r1.least,commonP a r1.size=0→0≤a.getD 0 0)∧(ok=false→∀ A,¬ r.reg.Ans A):=by
 obtain ⟨vz,vl,vt,rfl,h1,h2,h3⟩:=h
 obtain ⟨za,zn,zc,rfl⟩:=h1.shapeS
 obtain ⟨la,ln,lc,rfl⟩:=h2.shapeS
 obtain ⟨ta,tn,tc,rfl⟩:=h3.shapeS
 have HZN:Hid (zn=r.zero.length):=h1.len
 have HOK:=hide hok
 have HLT:=hide hlt
 have HI:Hid (RegIn P w ((w.alloc (.cells #[.int .i64 r.size,.slice za zn zc,.slice la ln lc,.slice ta tn tc] 78)).alloc (.cells #[.int .i64 0,.slice none 0 0,.slice none 0 0,.slice none 0 0] 78)) r za zn zc la ln lc ta tn tc):=by
  have hg:Grows w ((w.alloc (.cells #[.int .i64 r.size,.slice za zn zc,.slice la ln lc,.slice ta tn tc] 78)).alloc (.cells #[.int .i64 0,.slice none 0 0,.slice none 0 0,.slice none 0 0] 78)):=Grows.trans (Grows.alloc _ _) (Grows.alloc _ _)
  refine ⟨Below.same (Grows.alloc _ _) _ _ (slot_one w _),?_,(Reg3.mk h1 h2 h3).grow hg,hg⟩
  have:=slot_one (w.alloc (.cells #[.int .i64 r.size,.slice za zn zc,.slice la ln lc,.slice ta tn tc] 78)) (.cells #[.int .i64 0,.slice none 0 0,.slice none 0 0,.slice none 0 0] 78)
  rwa [World.size_alloc] at this
 clear h1 h2 h3 hok hlt
 go_enter Try.func57,Try.ntmps57
 go_wp2_with fail
 generalize hW:(w.alloc (.cells #[.int .i64 r.size,.slice za zn zc,.slice la ln lc,.slice ta tn tc] 78)).alloc (.cells #[.int .i64 0,.slice none 0 0,.slice none 0 0,.slice none 0 0] 78)=W at *
 clear hW
 go_loopg [] zn (fun k wr=>∃ (r':RegL) (za:Option Addr) (nz zc:Nat) (la:Option Addr) (ln lc:Nat) (ta:Option Addr) (tn tc j:Nat),nz=k∧j+k=zn∧Hid (RegIn P w wr r' za nz zc la ln lc ta tn tc∧ZRounds r j r'))
 case atStart=>exact ⟨r,za,zn,zc,la,ln,lc,ta,tn,tc,0,rfl,by omega,uh HI,.start r⟩
 case round =>
  clear HI
  obtain ⟨r',za,nz,zc,la,ln,lc,ta,tn,tc,j,hnz,hjk,HR⟩:=hrel
  have hown:=(uh HR).1.own
  have k0:wr.cell? ⟨w.heap.size,0,none⟩=some (.int .i64 r'.size):=by rw [cellsOf hown];rfl
  have k1:wr.cell? ⟨w.heap.size,1,none⟩=some (.slice za nz zc):=by rw [cellsOf hown];rfl
  have k2:wr.cell? ⟨w.heap.size,2,none⟩=some (.slice la ln lc):=by rw [cellsOf hown];rfl
  have k3:wr.cell? ⟨w.heap.size,3,none⟩=some (.slice ta tn tc):=by rw [cellsOf hown];rfl
  have f1:=freeOf hown 1
  clear hown
  have HIV:=hide ((uh HR).2.inv (uh HOK) (uh HLT) hn)
  subst hnz
  by_cases h0:0<nz
  ·obtain ⟨m,rfl⟩:∃ m,nz=m+1:=⟨nz - 1,by omega⟩
   have hm:m≤1000:=by have h1:=(uh HIV).ok.zeroN;have h2:=(uh HR).1.rows.zero.len;omega
   have hzl:=(uh HR).1.rows.zero.len
   obtain ⟨gz,oz,cz,u,ez,u0,hu,-⟩:=rows_cell (uh HR).1.rows.zero (i:=m) (by omega)
   have hcz:=(uh HR).1.rows.zero.cap
   rw [←hzl] at ez
   cases ez
   have HZL:=hide hzl
   obtain ⟨ua,un,uc,rfl⟩:=hu.shapeS
   have HU:=hide hu
   clear hzl hu
   have hcast:(((m+1:Nat):Int) - 1)=(m:Int):=by omega
   have hcast2:(((m:Int)+1) - 1)=(m:Int):=by omega
   have hmz:m≤zc:=by omega
   have HL:=hide ((uh HR).1.less)
   generalize hWL:wr.setCell ⟨w.heap.size,1,none⟩ (.slice (some ⟨gz,oz,none⟩) m zc)=WL at *
   have g0:WL.cell? ⟨w.heap.size,0,none⟩=some (.int .i64 r'.size):=by rw [cellsOf (uh HL).own];rfl
   have g1:WL.cell? ⟨w.heap.size,1,none⟩=some (.slice (some ⟨gz,oz,none⟩) m zc):=by rw [cellsOf (uh HL).own];rfl
   have g2:WL.cell? ⟨w.heap.size,2,none⟩=some (.slice la ln lc):=by rw [cellsOf (uh HL).own];rfl
   have g3:WL.cell? ⟨w.heap.size,3,none⟩=some (.slice ta tn tc):=by rw [cellsOf (uh HL).own];rfl
   have HLZ:Hid (r'.lastZero=r'.zero.getD m []):=by unfold Hid RegL.lastZero;rw [←uh HZL];rfl
   have HULZ:Hid (RowAt P WL (.slice ua un uc) r'.lastZero):=by
    unfold Hid
    rw [uh HLZ]
    rw [←hWL]
    exact (uh HU).holds (holds_set (uh HR).1.own (by decide) (fun e=>absurd e (by decide)) _ _)
   have HWO:=hide (without_any P (limbs L (r.size - r'.size)) r'.less r'.lastZero (.agg #[.int .i64 r'.size,.slice (some ⟨gz,oz,none⟩) m zc,.slice la ln lc,.slice ta tn tc]) (.slice ua un uc) WL (fun b hb=>hP b (by have:=(uh HL).grows.size;omega)) ⟨_,_,_,rfl,(uh HL).rows.zero,(uh HL).rows.least,(uh HL).rows.told⟩ (uh HULZ) (uh HIV).ok.less ((uh HIV).ok.lastZero (by rw [←uh HZL];omega)) (Nat.le_trans (uh HIV).size hn) (uh HIV).lt.less (fun k=>(uh HIV).lt.lastZero k) (by have:=limbs_mono L (show r.size - r'.size≤r.size by omega);omega))
   clear HULZ HU
   go_wp2_with fail
   refine (uh HWO).mono ?_
   rintro e w2 ⟨v',ok,rfl,⟨n',a1,m1,c1,a2,m2,c2,a3,m3,c3,rfl⟩,hb,ht,hf⟩
   have HI2:Hid (RegIn P w (w2.alloc (.cells #[.int .i64 n',.slice a1 m1 c1,.slice a2 m2 c2,.slice a3 m3 c3] 78)) r'.less (some ⟨gz,oz,none⟩) m zc la ln lc ta tn tc):=((uh HL).grow hb).grow (Grows.alloc _ _)
   clear g0 g1 g2 g3 k0 k1 k2 k3 u0 HWO
   cases ok with
   | false =>
    have HF:Hid (∀ A,¬ r.reg.Ans A):=fun A hA=>none_ans (r:=r') (by rw [←uh HZL];omega) (hf rfl) A (((uh HR).2.ans A).2 hA)
    obtain ⟨z0,z1,z2,z3,yf⟩:=(uh HI2).zeros
    have y0:=yf 0
    have y1:=yf 1
    have y2:=yf 2
    have y3:=yf 3
    clear hf ht hb yf
    go_wp2
    exact bodyPost_ret (v:=.tuple #[.agg #[.int .i64 0,.slice none 0 0,.slice none 0 0,.slice none 0 0],.bool false]) (by simp [results,Try.results57,go_sem,z0,z1,z2,z3]) rfl ⟨_,false,rfl,⟨_,_,_,_,_,_,_,_,_,_,rfl⟩,((uh HI2).ret 0 none none none 0 0 0 0 0 0).1,fun h=>(by cases h),fun _=>uh HF⟩
   | true =>
    obtain ⟨r2,⟨vz2,vl2,vt2,e2,hz2,hl2,ht2⟩,hwo⟩:=ht rfl
    cases e2
    have hal:Grows w2 (w2.alloc (.cells #[.int .i64 r2.size,.slice a1 m1 c1,.slice a2 m2 c2,.slice a3 m3 c3] 78)):=Grows.alloc _ _
    have HS:Hid (Reg3 P (w2.alloc (.cells #[.int .i64 r2.size,.slice a1 m1 c1,.slice a2 m2 c2,.slice a3 m3 c3] 78)) (.slice a1 m1 c1) (.slice a2 m2 c2) (.slice a3 m3 c3) r2):=(Reg3.mk hz2 hl2 ht2).grow hal
    have hm1:m1=m:=by
     have h1:=hz2.len
     have h2:=(hwo.ok (uh HIV).ok.less).2.2
     have h3:=(uh HL).rows.zero.len
     omega
    have HST:Hid (ZRounds r (j+1) r2):=(uh HR).2.snoc ⟨by rw [←uh HZL];omega,hwo⟩
    have HI3:=hide ((uh HI2).store (uh HS))
    obtain ⟨k0,k1,k2,k3,kf⟩:=(uh HI2).cells
    have f0:=kf 0
    have f1:=kf 1
    have f2:=kf 2
    have f3:=kf 3
    have hnb:=slot_one w2 (.cells #[.int .i64 r2.size,.slice a1 m1 c1,.slice a2 m2 c2,.slice a3 m3 c3] 78)
    have n0:(w2.alloc (.cells #[.int .i64 r2.size,.slice a1 m1 c1,.slice a2 m2 c2,.slice a3 m3 c3] 78)).cell? ⟨w2.heap.size,0,none⟩=some (.int .i64 r2.size):=by rw [cellsOf hnb];rfl
    have n1:(w2.alloc (.cells #[.int .i64 r2.size,.slice a1 m1 c1,.slice a2 m2 c2,.slice a3 m3 c3] 78)).cell? ⟨w2.heap.size,1,none⟩=some (.slice a1 m1 c1):=by rw [cellsOf hnb];rfl
    have n2:(w2.alloc (.cells #[.int .i64 r2.size,.slice a1 m1 c1,.slice a2 m2 c2,.slice a3 m3 c3] 78)).cell? ⟨w2.heap.size,2,none⟩=some (.slice a2 m2 c2):=by rw [cellsOf hnb];rfl
    have n3:(w2.alloc (.cells #[.int .i64 r2.size,.slice a1 m1 c1,.slice a2 m2 c2,.slice a3 m3 c3] 78)).cell? ⟨w2.heap.size,3,none⟩=some (.slice a3 m3 c3):=by rw [cellsOf hnb];rfl
    clear hf ht hb hz2 hl2 ht2 hwo kf hnb hal
    subst hm1
    go_wp2
    go_roundg m1
    case measure=>omega
    case rel=>exact ⟨r2,a1,m1,c1,a2,m2,c2,a3,m3,c3,j+1,rfl,by omega,uh HI3,uh HST⟩
  ·have hz0:nz=0:=by omega
   subst hz0
   have HJ:Hid (ZRounds r r.zero.length r'):=by have h1:=(uh HR).2;have h2:j=r.zero.length:=(by have:=uh HZN;omega);rwa [h2] at h1
   have HLL:Hid (ln=r'.least.length):=(uh HR).1.rows.least.len
   have HRI:=hide (uh HR).1
   obtain ⟨WE,hWE⟩:∃ WE,WE=wr:=⟨_,rfl⟩
   subst hWE
   clear HR hjk h0
   have hL0:20*limbs L (r.size - r'.size)+10≤1500000000000:=by have:=limbs_mono L (show r.size - r'.size≤r.size by omega);omega
   have hns:r'.size≤100:=Nat.le_trans (uh HIV).size hn
   have hln:ln≤1000:=by have h1:=(uh HIV).ok.leastN;have h2:=uh HLL;omega
   go_wp2_with fail
   go_loopg [7,8] ln (fun k vl iv wr=>∃ (i:Nat) (a:Option Addr) (n c:Nat),iv=.int .i64 i∧vl=.slice a n c∧i+k=ln∧Hid (RowsOwn P WE.heap.size wr (.slice a n c) ((r'.least.take i).flatMap (keepD r'.size))∧Grows WE wr∧∀ x∈r'.least.take i,commonP x r'.size=0→0≤x.getD 0 0))
   case atStart=>exact ⟨0,none,0,0,rfl,rfl,by omega,by simpa using RowsOwn.nil P _ _,Grows.refl _,by simp⟩
   case round =>
    obtain ⟨i,aL,nL,cL,rfl,rfl,hik,HR⟩:=hrel
    have HI:=hide ((uh HRI).grow (uh HR).2.1)
    obtain ⟨k0,k1,k2,k3,kf⟩:=(uh HI).cells
    by_cases hlt:i<ln
    ·obtain ⟨gl,ol,cl,u,el,u0,hu,hmem⟩:=rows_cell (uh HI).rows.least (i:=i) (by rw [←uh HLL];exact hlt)
     rw [←uh HLL] at el
     cases el
     obtain ⟨ua,un,uc,rfl⟩:=hu.shapeS
     have HU:=hide hu
     have HM:=hide hmem
     have HUL:Hid ((r'.least.getD i []).length=r'.size+1):=(uh HIV).ok.leastL _ hmem
     have hi0:¬ ((i:Int)<0):=by omega
     have HC:=hide (common_any P (limbs L (r.size - r'.size)) r'.size (r'.least.getD i []) _ wr (fun b hb=>hP b (by have:=(uh HI).grows.size;omega)) hu (uh HUL) hns ((uh HIV).lt.least i) (by omega))
     clear hu hmem kf
     go_wp2_with fail
     refine (uh HC).mono ?_
     rintro e w1 ⟨v1,rfl,hv1,hb1⟩
     obtain ⟨dx,da,dm,dc,rfl⟩:=hv1.shape
     have HV0:=hide (var_new hv1)
     have HG2:Hid (Grows wr (w1.alloc (.cells #[.int .i64 dx,.slice da dm dc] 82))):=Grows.trans hb1 (Grows.alloc _ _)
     have hge:wr.heap.size≤w1.heap.size:=hb1.size
     clear hv1 hb1 HC
     have q0:=(uh HV0).cells.1
     have q1:=(uh HV0).cells.2.1
     go_wp2_with fail
     refine (Sign_any P _ _ _ (uh HV0).val).mono ?_
     rintro e w3 ⟨rfl,hw3⟩
     have HV:=hide ((uh HV0).grow hw3)
     have HG3:=hide (Grows.trans (uh HG2) hw3)
     have HI3:=hide ((uh HI).grow (uh HG3))
     have HO3:=hide ((uh HR).1.grow (uh HG3))
     have HU3:=hide ((uh HU).below (uh HG3))
     have g2:=(uh HI3).cells.2.2.1
     have v0:=(uh HV).cells.1
     have v1:=(uh HV).cells.2.1
     have u3:=(uh HG3).cell u0
     clear hw3 HV0 HG2 HI HU q0 q1 k0 k1 k2 k3 u0
     generalize w1.heap.size=gd at *
     by_cases hc:commonP (r'.least.getD i []) r'.size=0
     ·have hs0:Int.sign (commonP (r'.least.getD i []) r'.size)=0:=by rw [hc];rfl
      rw [hs0]
      obtain ⟨gs,os,ac,px,pa,pm,pc,es,p0,p1,hpv⟩:=row_cell (uh HU3) (i:=0) (by rw [uh HUL];omega)
      rw [uh HUL] at es
      cases es
      rw [show os+0*2=os by omega] at p0 p1
      have HPV:=hide hpv
      have HC0:=hide hc
      clear hc hs0 hpv
      go_wp2_with fail
      refine (Sign_any P _ _ _ (uh HPV)).mono ?_
      rintro e w4 ⟨rfl,hw4⟩
      have HG4:=hide (Grows.trans (uh HG3) hw4)
      have HI4:=hide ((uh HI3).grow hw4)
      have HO4:=hide ((uh HO3).grow hw4)
      clear hw4 g2 v0 v1 u3 p0 p1
      by_cases hneg:(r'.least.getD i []).getD 0 0<0
      ·rw [Int.sign_eq_neg_one_of_neg hneg]
       have HF:Hid (∀ A,¬ r.reg.Ans A):=fun A hA=>whole_none (uh HM) (uh HC0) hneg A (((uh HJ).ans A).2 hA)
       obtain ⟨z0,z1,z2,z3,yf⟩:=(uh HI4).zeros
       have y0:=yf 0
       have y1:=yf 1
       have y2:=yf 2
       have y3:=yf 3
       clear hneg yf
       go_wp2
       exact bodyPost_ret (v:=.tuple #[.agg #[.int .i64 0,.slice none 0 0,.slice none 0 0,.slice none 0 0],.bool false]) (by simp [results,Try.results57,go_sem,z0,z1,z2,z3]) rfl ⟨_,false,rfl,⟨_,_,_,_,_,_,_,_,_,_,rfl⟩,((uh HI4).ret 0 none none none 0 0 0 0 0 0).1,fun h=>(by cases h),fun _=>uh HF⟩
      ·obtain ⟨sg,hsg⟩:∃ sg,Int.sign ((r'.least.getD i []).getD 0 0)=sg:=⟨_,rfl⟩
       have d0:decide (sg<0)=false:=by
        rw [←hsg];simp only [decide_eq_false_iff_not,Int.not_lt];rcases (show (r'.least.getD i []).getD 0 0=0∨0<(r'.least.getD i []).getD 0 0 by omega) with h | h
        ·rw [h];decide
        ·rw [Int.sign_eq_one_of_pos h];decide
       have d1:¬ (sg<0):=by simpa using d0
       rw [hsg]
       have HN:Hid ((r'.least.take (i+1)).flatMap (keepD r'.size)=(r'.least.take i).flatMap (keepD r'.size)∧∀ x∈r'.least.take (i+1),commonP x r'.size=0→0≤x.getD 0 0):=by
        have e:=take_getD (r'.least) (i:=i) (by rw [←uh HLL];exact hlt)
        constructor
        ·rw [e,List.flatMap_append]
         rw [List.flatMap_singleton,keepD,if_pos (uh HC0),List.append_nil]
        ·rw [e]
         intro x hx hx0
         rcases List.mem_append.1 hx with h|h
         ·exact (uh HR).2.2 x h hx0
         ·rw [List.mem_singleton] at h;rw [h];omega
       clear hneg hsg
       go_wp2
       go_roundg (gk - 1)
       case measure=>omega
       case rel=>exact ⟨i+1,aL,nL,cL,by simp,rfl,by omega,by rw [(uh HN).1];exact uh HO4,(uh HR).2.1.trans (uh HG4),(uh HN).2⟩
     ·obtain ⟨sg,hsg⟩:∃ sg,Int.sign (commonP (r'.least.getD i []) r'.size)=sg:=⟨_,rfl⟩
      have hs1:sg≠0:=by rw [←hsg];intro h;exact hc (Int.sign_eq_zero_iff_zero.1 h)
      have d1:(sg != 0)=true:=by simpa using hs1
      have d2:(sg == 0)=false:=by simp [hs1]
      rw [hsg]
      have HC1:=hide hc
      clear hsg hc hs1
      obtain ⟨row,hrow⟩:∃ row,dividedP r'.size (r'.least.getD i []) (commonP (r'.least.getD i []) r'.size)=row:=⟨_,rfl⟩
      have HROW:=hide hrow
      have HDV:Hid (∀ wq,Grows w3 wq→Calls Try.prog 82 #[.slice ua un uc,.agg #[.int .i64 dx,.slice da dm dc]] wq fun e w'=>∃ v',e=.returned v'∧RowAt P w' v' row∧Below wq.heap.size wq w'):=fun wq hg=>by
       rw [←hrow]
       exact divided_any P (limbs L (r.size - r'.size)) (r'.size+1) (r'.least.getD i []) (commonP (r'.least.getD i []) r'.size) _ _ wq (fun b' hb'=>hP b' (by have h1:=(uh HI3).grows.size;have h2:=hg.size;omega)) ((uh HU3).below hg) ((uh HV).val.below hg) (uh HUL) (by omega) ((uh HIV).lt.least i) (common_lt ((uh HIV).lt.least i) _) (by omega)
      clear hrow
      go_wp2_with fail
      have x2:=cell_regrown g2
      have x3:=cell_regrown u3
      have x4:=cell_regrown v0
      have x5:=cell_regrown v1
      clear g2 u3 v0 v1
      refine wp_region_grown2 (phiL [(63,fun v w=>RowAt P w v row),(64,FreshRow P row)]) (gL [(63,ShapeS),(64,Shape1)]) 79 9 (by kernel_rfl) (by rfl) (by kernel_rfl) (phi_c (fun _ _ _=>RowAt.below) (phi_c (fun _ _ _=>FreshRow.grow) phi_n)) ?_
      iterate 7 (refine lex_s fun K hK=>?_;go_simp;refine hK _ ?_;clear hK K)
      refine lex_call ShapeS 82 #[.slice ua un uc,.agg #[.int .i64 dx,.slice da dm dc]] (by rfl) (by rfl) ShapeS.some (fun w=>by go_simp) (fun wq hg hf=>(uh HDV wq hg).mono (by rintro e w' ⟨v',rfl,hv,hb⟩;exact ⟨_,rfl,hb,hv.shapeS,fun t ht=>by cases ht;exact hv⟩)) ?_
      rintro _ ⟨xa,xm,xc,rfl⟩
      refine lex_grow Shape1 (by rfl) (by rfl) Shape1.some (fun wq hg hf=>⟨.slice (some ⟨wq.heap.size,0,none⟩) 1 1,wq.alloc (.cells #[.slice xa xm xc] 73),by go_simp,Grows.alloc _ _,⟨_,rfl⟩,fun t ht=>by cases ht;exact FreshRow.new (hf 7 (by kernel_rfl) _ 63 rfl rfl)⟩) ?_
      rintro _ ⟨gx,rfl⟩
      refine lex_last ?_
      intro w4 hg4 hphi
      have hfr:FreshRow P row (.slice (some ⟨gx,0,none⟩) 1 1) w4:=hphi 8 _ 64 (by decide) rfl rfl
      clear hphi
      obtain ⟨gx',u,ex,hbx,hru⟩:=hfr
      cases ex
      have HO4:=hide ((uh HO3).grow hg4)
      have hB4:WE.heap.size≤w4.heap.size:=((uh HR).2.1.trans ((uh HG3).trans hg4)).size
      have hlen4:((r'.least.take i).flatMap (keepD r'.size)).length≤1000000:=by
       have h1:=flat_len r'.size (r'.least.take i)
       rw [List.length_take] at h1
       have h2:=uh HLL
       omega
      have hnL:nL=((r'.least.take i).flatMap (keepD r'.size)).length:=(uh HO4).len
      refine wp_append_row (P:=P) (.tmp 56) (.tmp 64) rfl WE.heap.size (.slice aL nL cL) ((r'.least.take i).flatMap (keepD r'.size)) row u rfl (uh HO4) gx 1 rfl hbx hru hlen4 hB4 ?_
      intro g cap w5 hown5 hbel5 _
      have HG5:Hid (Below WE.heap.size WE w5):=Below.trans ((uh HR).2.1.trans ((uh HG3).trans hg4)) hbel5
      have HN:Hid (RowsOwn P WE.heap.size w5 (.slice (some ⟨g,0,none⟩) (((r'.least.take i).flatMap (keepD r'.size)).length+1) cap) ((r'.least.take (i+1)).flatMap (keepD r'.size))∧∀ x∈r'.least.take (i+1),commonP x r'.size=0→0≤x.getD 0 0):=by
       have e:=take_getD (r'.least) (i:=i) (by rw [←uh HLL];exact hlt)
       constructor
       ·rw [e,List.flatMap_append,List.flatMap_singleton,keepD,if_neg (uh HC1),uh HROW]
        exact hown5
       ·rw [e]
        intro x hx hx0
        rcases List.mem_append.1 hx with h|h
        ·exact (uh HR).2.2 x h hx0
        ·rw [List.mem_singleton] at h;rw [h] at hx0;exact absurd hx0 (uh HC1)
      generalize (((r'.least.take i).flatMap (keepD r'.size)).length+1)=n5 at *
      clear hown5 hbel5 hg4 hbx hru HO4 hB4 hlen4 hnL
      show Oper.wp _ _ _ _ _ _
      go_wp2
      go_roundg (gk - 1)
      case measure=>omega
      case rel=>exact ⟨i+1,_,_,_,by simp,rfl,by omega,(uh HN).1,uh HG5,(uh HN).2⟩
    ·have hin:i=ln:=by omega
     have HF:Hid (RowsOwn P WE.heap.size wr (.slice aL nL cL) (r'.least.flatMap (keepD r'.size))∧∀ x∈r'.least,commonP x r'.size=0→0≤x.getD 0 0):=by
      have h1:=(uh HR).1
      have h2:=(uh HR).2.2
      rw [hin,uh HLL,List.take_length] at h1 h2
      exact ⟨h1,h2⟩
     have HRT:Hid (Reg3 P wr (.slice za 0 zc) (.slice aL nL cL) (.slice ta tn tc) r'.whole):=⟨(uh HI).rows.zero,(uh HF).1.rows (fun g hg=>hP g (Nat.le_trans (uh HRI).grows.size hg)),(uh HI).rows.told⟩
     have f2:=kf 2
     have hb:=(uh HI).own
     have HH:Hid (Holds P wr (wr.setCell ⟨w.heap.size,2,none⟩ (.slice aL nL cL))):=holds_set hb (by decide) (fun e=>absurd e (by decide)) _ _
     have HI2:Hid (RegIn P w (wr.setCell ⟨w.heap.size,2,none⟩ (.slice aL nL cL)) r'.whole za 0 zc aL nL cL ta tn tc):=by
      refine ⟨?_,?_,(uh HRT).holds (uh HH),Below.setCell (p:=⟨w.heap.size,2,none⟩) (uh HI).grows (Nat.le_refl _) _⟩
      ·have:=heap_setCell_same wr w.heap.size 2 _ _ (.slice aL nL cL) hb
       exact this
      ·exact (Below.heap_setCell _ _ _ _ (show w.heap.size+1≠w.heap.size by omega)).trans (uh HI).res
     generalize hWF:wr.setCell ⟨w.heap.size,2,none⟩ (.slice aL nL cL)=WF at *
     obtain ⟨j0',j1,j2,j3,_⟩:=(uh HI2).cells
     have j0:WF.cell? ⟨w.heap.size,0,none⟩=some (.int .i64 r'.size):=j0'
     obtain ⟨z0,z1,z2,z3,yf⟩:=(uh HI2).zeros
     have y0:=yf 0
     have y1:=yf 1
     have y2:=yf 2
     have y3:=yf 3
     have HGF:=hide ((uh HI2).ret (r'.size:Int) za aL ta 0 zc nL cL tn tc)
     have HRF:=hide ((uh HI2).rows.holds (uh HGF).2)
     clear kf hb yf j0'
     go_wp2
     exact bodyPost_ret (v:=.tuple #[.agg #[.int .i64 (r'.size:Int),.slice za 0 zc,.slice aL nL cL,.slice ta tn tc],.bool true]) (by simp [results,Try.results57,go_sem,z0,z1,z2,z3]) rfl ⟨_,true,rfl,⟨_,_,_,_,_,_,_,_,_,_,rfl⟩,(uh HGF).1,fun _=>⟨r',⟨_,_,_,rfl,(uh HRF).zero,(uh HRF).least,(uh HRF).told⟩,uh HJ,(uh HF).2⟩,fun h=>(by cases h)⟩
end
theorem turn_holds {P:Nat→Prop} {w w':World} {b gl gc:Nat} {t:Pl.Tab} (h:TabOwn P w b gl gc t) (ht:Turns (Own3 b gl gc) w w'):Holds P w w':=by
 intro k cs T hT hk hc
 refine ht.block k (lt_of_block hc) ?_
 obtain ⟨⟨lcap,ccap,sx,sa,sm,sc,h1,h2,cs1,h3,_⟩,_,h10⟩:=h
 rintro (e|e|e)
 ·rw [e,h1] at hc
  simp only [Option.some.injEq,Obj.cells.injEq] at hc
  rw [←hc.2.1] at hT
  rcases hT with h|h|h <;> exact absurd h (by decide)
 ·rw [e,h3] at hc
  simp only [Option.some.injEq,Obj.cells.injEq] at hc
  rw [←hc.2.1] at hT
  rcases hT with h|h|h <;> exact absurd h (by decide)
 ·rw [e] at hk;exact h10 hk
theorem tab_lt {F:Int→Nat→Int} {n L:Nat} {U:List Int} {t:Pl.Tab} (hn:n≤9) (hok:Pl.TabOk F n t) (hst:Pl.Stat U n t) (hU:∀ x∈U,∀ k,k<n+1→Pl.Lt L (F x k)):TabLt ((n+1)*L+1) t:=by
 have hs:Pl.Small F n t (1073741824^L):=⟨pow_one_le L,fun c hc k hk=>lt_of (hU _ (hst.cols _ ⟨c,hc,rfl⟩) k hk),fun r hr k hk=>lt_of (hU _ (hst.lines _ ⟨r,hr,rfl⟩) k hk)⟩
 have hp:=hok.pos
 have hb:=fac_pow_lt (n:=n) (L:=L) hn
 refine ⟨fun r j hr hj=>?_,?_⟩
 ·rw [hok.cols] at hj
  obtain ⟨h1,h2⟩:=hok.cell_le hs hr hj
  exact lt_le h1 h2 hb
 ·have h1:=hok.scale_le hs
  exact lt_le (by omega) (Int.le_refl _) (by omega)
def RegL.S (r:RegL) (i k:Nat):Int:=(r.least.getD i []).getD k 0
theorem all_lt {r:RegL} {L:Nat} (hL:1≤L) (hl:RegLt L r) {x:Int} (hx:x∈Pl.allNames r.size r.least.length) (k:Nat):Pl.Lt L (Pl.formS r.S x k):=by
 rcases List.mem_append.1 hx with h|h
 ·obtain ⟨i,_,rfl⟩:=List.mem_map.1 h
  rw [Pl.formS_sum];exact hl.least i k
 ·obtain ⟨j,_,rfl⟩:=List.mem_map.1 h
  rw [Pl.formS_unit]
  unfold Pl.unit
  obtain ⟨L',rfl⟩:∃ L',L=L'+1:=⟨L - 1,by omega⟩
  split <;> exact one_small (by decide)
theorem allW_lt {F:Int→Nat→Int} {U:List Int} {L:Nat} {s:List Int} (hU:∀ x∈U,∀ k,Pl.Lt L (F x k)) (hs:∀ k,Pl.Lt L (s.getD k 0)):∀ x∈(-1073741824:Int)::U,∀ k,Pl.Lt L (formW F s x k):=by
 intro x hx k
 by_cases e:x=-1073741824
 ·rw [e,formW_own];exact hs k
 ·rw [formW_other e]
  rcases List.mem_cons.1 hx with h|h
  ·exact absurd h e
  ·exact hU x h k
theorem form_ok {n m:Nat} {S:Nat→Nat→Int} (hn:n≤100) (hm:m≤1000) {D:List Nat} {U:List Int} (hU:Pl.NamesLeft n m D U):FormOk (Pl.formS S) n U:=by
 refine ⟨fun k h1 h2=>?_,fun x hx=>?_,fun k h1 h2=>?_⟩
 ·have e:-(k:Int)=-1 - ((k - 1:Nat):Int):=by omega
  rw [e,Pl.formS_unit,show k - 1+1=k by omega]
 ·rcases List.mem_append.1 ((hU x).1 hx).1 with h | h
  ·obtain ⟨i,hi,rfl⟩:=List.mem_map.1 h
   have:=List.mem_range.1 hi;omega
  ·obtain ⟨i,hi,rfl⟩:=List.mem_map.1 h
   have:=List.mem_range.1 hi;omega
 ·refine (hU _).2 ⟨List.mem_append.2 (.inr (List.mem_map.2 ⟨k - 1,List.mem_range.2 (by omega),by omega⟩)),fun j _=>by omega⟩
theorem tied_tab {r:RegL} (hz:r.zero=[]) (ht:r.reg.Tied):Pl.Tied (Pl.formS r.S) r.size r.least.length:=by
 intro D d0 hD k hk
 have key:=ht (fun i=>D (i+1)) (fun s hs=>by
  have:r.reg.zero=[]:=by show r.zero.map lf=[];rw [hz];rfl
  rw [this] at hs;cases hs) (fun s hs=>by
  obtain ⟨a,ha,rfl⟩:=List.mem_map.1 hs
  obtain ⟨i,hi,e⟩:=List.mem_iff_getElem.1 ha
  have h1:=hD i hi
  rw [Pl.formS_sum] at h1
  have e2:r.S i=lf a:=by
   funext k
   unfold RegL.S lf
   rw [List.getD_eq_getElem?_getD (l:=r.least),List.getElem?_eq_getElem hi,e];rfl
  rw [e2] at h1
  unfold Pl.ev at h1
  rw [Pl.sm_head,d0,Int.mul_zero,Int.zero_add] at h1
  exact h1)
 rcases k with _|k
 ·exact d0
 ·exact key k (by show k<r.size;omega)
theorem has_inall {r:RegL} (x:Nat→Int):(∀ a∈r.least,0≤Pl.ev r.size (lf a) (Pl.pt x))↔Pl.InAll r.size r.least.length r.S (Pl.pt x):=by
 have e2:∀ i (hi:i<r.least.length),r.S i=lf r.least[i]:=fun i hi=>by
  funext k
  unfold RegL.S lf
  rw [List.getD_eq_getElem?_getD (l:=r.least),List.getElem?_eq_getElem hi];rfl
 constructor
 ·intro h i hi
  rw [e2 i hi];exact h _ (List.getElem_mem hi)
 ·intro h a ha
  obtain ⟨i,hi,e⟩:=List.mem_iff_getElem.1 ha
  rw [←e,←e2 i hi];exact h i hi
theorem tied_some {r:RegL} (hz:r.zero=[]) (ht:r.reg.Tied) (hn:0<r.size):0<r.least.length:=by
 apply Classical.byContradiction
 intro hc
 have hl:r.least=[]:=List.eq_nil_of_length_eq_zero (by omega)
 have:=ht (fun _=>1) (fun s hs=>by
  have:r.reg.zero=[]:=by show r.zero.map lf=[];rw [hz];rfl
  rw [this] at hs;cases hs) (fun s hs=>by
  have:r.reg.least=[]:=by show r.least.map lf=[];rw [hl];rfl
  rw [this] at hs;cases hs) 0 hn
 simp at this
end
abbrev PT:Nat→Prop:=fun _=>True
theorem Top.cut_point {F:Int→Nat→Int} {n L:Nat} {U:List Int} {s:List Int} {t:Pl.Tab} (h:Top F n U L s t) (hF:FormOk F n U):Good F n U L t.cut∧AtPoint t.cut:=by
 refine ⟨cut_good h.good hF h.name,fun k hk h0=>?_⟩
 rw [Pl.cut_len] at hk
 rw [cut_name t hk] at h0
 rw [cut_cell t hk]
 exact h.pt k (by omega) h0
theorem Top.le {n m:Nat} {S:Nat→Nat→Int} {D:List Nat} {U:List Int} {L:Nat} {s:List Int} {t:Pl.Tab} (h:Top (Pl.formS S) n U L s t) (hU:Pl.NamesLeft n m D U) {x:Nat→Int} (hx:Pl.InAll n m S (Pl.pt x)):Pl.ev n (lf s) (Pl.pt x)≤Int.fdiv (t.cell L 0) t.scale:=by
 have hU':∀ y∈(-1073741824:Int)::U,0≤y→∃ i:Nat,i<m∧y=i:=fun y hy h0=>by
  rcases List.mem_cons.1 hy with e|hy
  ·omega
  ·exact hU.nat y hy h0
 have h1:=Pl.top_point hU' (fun i hi=>by rw [formW_other (by omega),Pl.formS_sum]) h.good.ok h.good.stat h.good.cols (wr:=L) (by rw [h.good.len];omega) h.top hx
 rw [h.name] at h1
 have e:formW (Pl.formS S) s (-1073741824)=lf s:=by funext k;exact formW_own _ _ _
 rwa [e] at h1
theorem Top.value_lt {F:Int→Nat→Int} {n L K:Nat} {U:List Int} {s:List Int} {t:Pl.Tab} (h:Top F n U L s t) (hlt:TabLt K t):Pl.Lt K (Int.fdiv (t.cell L 0) t.scale) :=
 (hlt.cell L 0 (by rw [h.good.len];omega) (by omega)).fdiv h.good.ok.pos
theorem neg_lf (s:List Int):lf (s.map fun x=>-x)=fun k=>-lf s k:=by
 funext k
 unfold lf
 rw [List.getD_eq_getElem?_getD,List.getElem?_map,List.getD_eq_getElem?_getD]
 rcases s[k]? with _|x <;> rfl
theorem ev_neg (n:Nat) (f P:Nat→Int):Pl.ev n (fun k=>-f k) P=-Pl.ev n f P:=by
 unfold Pl.ev
 have:Pl.sm (n+1) (fun k=>-f k*P k)=Pl.sm (n+1) (fun k=>(-1)*(f k*P k)):=Pl.sm_congr fun k _=>by rw [Int.neg_mul,Int.neg_mul,Int.one_mul]
 rw [this,Pl.sm_mul,Int.neg_mul,Int.one_mul]
end
structure RegTab (r:RegL) (D:List Nat) (U:List Int) (N:Nat) (t:Pl.Tab):Prop where
 good:Good (Pl.formS r.S) r.size U N t
 pt:AtPoint t
 names:Pl.NamesLeft r.size r.least.length D U
 free:Pl.Free r.size r.least.length r.S D
 small:N≤900
structure RegFit (L:Nat) (r:RegL):Prop where
 zero:r.zero=[]
 tied:r.reg.Tied
 ok:RegOk r
 lt:RegLt L r
 one:1≤L
 size0:0<r.size
 size:r.size≤9
 few:r.least.length≤800
section
variable {r:RegL} {L N b gl gc:Nat} {D:List Nat} {U:List Int} {t:Pl.Tab} {s:List Int}
theorem RegFit.unames (h:RegFit L r) (hU:Pl.NamesLeft r.size r.least.length D U):∀ x∈U,∀ k,Pl.Lt L (Pl.formS r.S x k):=fun x hx k=>all_lt h.one h.lt ((hU x).1 hx).1 k
theorem RegFit.form (h:RegFit L r) (hU:Pl.NamesLeft r.size r.least.length D U):FormOk (Pl.formS r.S) r.size U:=form_ok (by have:=h.size;omega) (by have:=h.few;omega) hU
theorem RegTab.lt (h:RegTab r D U N t) (hf:RegFit L r):TabLt ((r.size+1)*L+1) t:=tab_lt hf.size h.good.ok h.good.stat (fun x hx k _=>hf.unames h.names x hx k)
theorem RegTab.tiedU (h:RegTab r D U N t) (hf:RegFit L r):Pl.TiedU (Pl.formS r.S) r.size U:=h.free.tied h.names (fun i _=>Pl.formS_sum _ _) (tied_tab hf.zero hf.tied)
theorem top_lt (hf:RegFit L r) (hU:Pl.NamesLeft r.size r.least.length D U) (hs:∀ k,Pl.Lt L (s.getD k 0)) {c:Nat} {t':Pl.Tab} (h:Fair (formW (Pl.formS r.S) s) r.size (-1073741824::U) (N+1) c t'):TabLt ((r.size+1)*L+1) t':=tab_lt hf.size h.ok h.stat (fun x hx k _=>allW_lt (hf.unames hU) hs x hx k)
theorem RegTab.cut (h:RegTab r D U N t) (hf:RegFit L r) {t2:Pl.Tab} (ht:Top (Pl.formS r.S) r.size U N s t2):RegTab r D U N t2.cut:=⟨(ht.cut_point (hf.form h.names)).1,(ht.cut_point (hf.form h.names)).2,h.names,h.free,h.small⟩
theorem good_fair {F:Int→Nat→Int} {n:Nat} (h:Good F n U N t):Fair F n U N 0 t:=⟨h.ok,h.names,h.stat,fun k hk=>absurd hk (Nat.not_lt_zero k),h.len⟩
theorem highest_reg (P:Nat→Prop) (hf:RegFit L r) (hT:RegTab r D U N t) (vs:Value) (w:World) (hP:∀ b',w.heap.size≤b'→P b') (h:TabOwn P w b gl gc t) (hs:RowAt P w vs s) (hlen:s.length=r.size+1) (hsl:∀ k,Pl.Lt L (s.getD k 0)) (hK:2*((r.size+1)*L+1)+1≤1500000000000) :
  Calls Try.prog 119 #[.pointer (some ⟨b,0,none⟩),vs] w fun e w'=>∃ (v':Value) (gl':Nat) (t2:Pl.Tab),e=.returned v'∧TabOwn P w' b gl' gc t2.cut∧(gl'=gl∨w.heap.size≤gl')∧Turns (Own3 b gl gc) w w'∧WhAt P w' v' (Int.fdiv (t2.cell N 0) t2.scale)∧Top (Pl.formS r.S) r.size U N s t2∧RegTab r D U N t2.cut∧Pl.Lt ((r.size+1)*L+1) (Int.fdiv (t2.cell N 0) t2.scale):=by
 have hLL:L≤(r.size+1)*L+1:=by rw [Nat.add_mul,Nat.one_mul];omega
 refine (Highest_any P ((r.size+1)*L+1) b gl gc (Pl.formS r.S) r.size U N t s vs w hP h hs hT.good hT.pt (hf.form hT.names) (by have:=hf.size;omega) hT.small hlen (fun k=>(hsl k).mono hLL) (hT.lt hf) (fun t' ht'=>top_lt hf hT.names hsl ht') hK (hT.tiedU hf)).mono ?_
 rintro e w' ⟨v',gl',t2,rfl,h1,h2,h3,h4,h5⟩
 exact ⟨v',gl',t2,rfl,h1,h2,h3,h4,h5,hT.cut hf h5,h5.value_lt (top_lt hf hT.names hsl (good_fair h5.good))⟩
theorem lowest_reg (P:Nat→Prop) (hf:RegFit L r) (hT:RegTab r D U N t) (vs:Value) (w:World) (hP:∀ b',w.heap.size≤b'→P b') (h:TabOwn P w b gl gc t) (hs:RowAt P w vs s) (hlen:s.length=r.size+1) (hsl:∀ k,Pl.Lt L (s.getD k 0)) (hK:2*((r.size+1)*L+1)+1≤1500000000000) :
  Calls Try.prog 88 #[.pointer (some ⟨b,0,none⟩),vs] w fun e w'=>∃ (v':Value) (gl':Nat) (t2:Pl.Tab),e=.returned v'∧TabOwn P w' b gl' gc t2.cut∧(gl'=gl∨w.heap.size≤gl')∧Turns (Own3 b gl gc) w w'∧WhAt P w' v' (-Int.fdiv (t2.cell N 0) t2.scale)∧Top (Pl.formS r.S) r.size U N (s.map fun x=>-x) t2∧RegTab r D U N t2.cut∧Pl.Lt ((r.size+1)*L+1) (-Int.fdiv (t2.cell N 0) t2.scale):=by
 have hLL:L≤(r.size+1)*L+1:=by rw [Nat.add_mul,Nat.one_mul];omega
 have hneg:∀ k,Pl.Lt L ((s.map fun x=>-x).getD k 0):=fun k=>by
  have:=congrFun (neg_lf s) k
  unfold lf at this
  rw [this];exact (hsl k).neg
 refine (Lowest_any P ((r.size+1)*L+1) b gl gc (Pl.formS r.S) r.size U N t s vs w hP h hs hT.good hT.pt (hf.form hT.names) (by have:=hf.size;omega) hT.small hlen (fun k=>(hsl k).mono hLL) (hT.lt hf) (fun t' ht'=>top_lt hf hT.names hneg ht') hK (hT.tiedU hf)).mono ?_
 rintro e w' ⟨v',gl',t2,rfl,h1,h2,h3,h4,h5⟩
 exact ⟨v',gl',t2,rfl,h1,h2,h3,h4,h5,hT.cut hf h5,(h5.value_lt (top_lt hf hT.names hneg (good_fair h5.good))).neg⟩
theorem new_reg (hf:RegFit L r) (vl:Value) (w:World) (h:RowsAt PT w vl r.least) (hK:2*((r.size+1)*L+1)+1≤1500000000000) :
  Calls Try.prog 84 #[vl,.int .i64 r.size] w fun e w'=>∃ (b gl gc:Nat) (t':Pl.Tab),e=.returned (.pointer (some ⟨b,0,none⟩))∧w.heap.size≤b∧w.heap.size≤gl∧w.heap.size≤gc∧TabOwn (·≠gc) w' b gl gc t'∧Grows w w'∧Good (Pl.formS r.S) r.size (Pl.allNames r.size r.least.length) r.least.length t' :=
 New_any r.least r.size vl w h hf.size0 (by have:=hf.size;omega) (tied_some hf.zero hf.tied hf.size0) (by have:=hf.few;omega) hf.ok.leastL ((r.size+1)*L+1) hK (fun t' ht'=>tab_lt hf.size ht'.ok ht'.stat (fun x hx k _=>hf.unames (Pl.NamesLeft.start _ _) x hx k)) (tied_tab hf.zero hf.tied)
theorem empty_reg (hf:RegFit L r) (w:World) (h:TabOwn (·≠gc) w b gl gc t) (hg:Good (Pl.formS r.S) r.size (Pl.allNames r.size r.least.length) r.least.length t) (hK:2*((r.size+1)*L+1)+1≤1500000000000) :
  Calls Try.prog 85 #[.pointer (some ⟨b,0,none⟩)] w fun e w'=>∃ (ans:Bool) (t':Pl.Tab),e=.returned (.bool ans)∧TabOwn (·≠gc) w' b gl gc t'∧Turns (Own3 b gl gc) w w'∧(ans=false→RegTab r [] (Pl.allNames r.size r.least.length) r.least.length t')∧(ans=true→∀ x,¬ r.reg.Has x):=by
 refine (IsEmpty_any (·≠gc) ((r.size+1)*L+1) b gl gc (Pl.formS r.S) r.size (Pl.allNames r.size r.least.length) r.least.length t w (fun b' hb' e=>by have:=h.lt.2.2.1;omega) h hg (by have:=hf.size;omega) (by have:=hf.few;omega) (fun t' ht'=>tab_lt hf.size ht'.ok ht'.stat (fun x hx k _=>hf.unames (Pl.NamesLeft.start _ _) x hx k)) hK).mono ?_
 rintro e w' ⟨ans,t',rfl,h1,h2,h3,h4,h5⟩
 refine ⟨ans,t',rfl,h1,h2,fun ha=>⟨h3,h4 ha,Pl.NamesLeft.start _ _,Pl.Free.start _ _ _,by have:=hf.few;omega⟩,fun ha x hx=>?_⟩
 obtain ⟨rr,hr,n1,n2,n3⟩:=h5 ha
 refine Pl.no_point (Pl.NamesLeft.start r.size r.least.length).nat (fun i _=>Pl.formS_sum _ _) h3.ok h3.stat h3.cols hr n1 n2 n3 x ((has_inall x).1 fun a ha'=>?_)
 exact hx.least (lf a) (List.mem_map.2 ⟨a,ha',rfl⟩)
end
end Go.Proofs.Ytfaljekgpnbmiaa
