/- Joined: XProd2 XLat17. -/
import Derived.Test.YtfaljekgpnbmiaaJ35
set_option linter.unusedVariables false
set_option linter.unusedSimpArgs false
set_option maxRecDepth 100000
namespace Go.Proofs.Ytfaljekgpnbmiaa
open Go.RowKit Go.Sort
structure RowsLaid (P:Nat→Prop) (w:World) (g n i:Nat) (R:Nat→Nat) (f:Nat→Nat→Int):Prop where
 above:∀ r,r<i→g<R r∧R r<w.heap.size
 fam:Fam P w i R (fun _=>n) f
 list:∃ cs:Array Value,w.heap[g]?=some (.cells cs 73 (0,0))∧cs.size=n∧∀ j,j<i→cs[j]?=some (.slice (some ⟨R j,0,none⟩) n n)
theorem RowsLaid.add {P:Nat→Prop} {w w2:World} {g n i:Nat} {R:Nat→Nat} {f:Nat→Nat→Int} (h:RowsLaid P w g n i R f) (hi:i<n) (hg:Grows w w2) (hr:RowIn P w2 w.heap.size n (f i)):RowsLaid P (w2.setCell ⟨g,i,none⟩ (.slice (some ⟨w.heap.size,0,none⟩) n n)) g n (i+1) (fun r=>if r=i then w.heap.size else R r) f:=by
 obtain ⟨cs,h1,h2,h3⟩:=h.list
 have hb:=Below.same hg _ _ h1
 have hgl:=lt_of_block h1
 have hrl:=hr.lt
 have F:=(h.fam.grow hg).snoc (g:=w.heap.size) (fr:=f i) hr (fun r hr'=>by have:=(h.above r hr').2;omega) (fun _ _=>rfl)
 refine ⟨fun r hr'=>?_,F.far hb (by decide) (fun r hr'=>?_) _ _,_,heap_setCell_same w2 g i _ _ _ hb,by simp [h2],fun j hj=>?_⟩
 ·have hsz:(w2.setCell ⟨g,i,none⟩ (.slice (some ⟨w.heap.size,0,none⟩) n n)).heap.size=w2.heap.size:=by simp
  rw [hsz]
  by_cases e:r=i
  ·rw [if_pos e];omega
  ·rw [if_neg e]
   have:=h.above r (by omega)
   have:=hg.size
   omega
 ·by_cases e:r=i
  ·rw [if_pos e];omega
  ·rw [if_neg e]
   have:=h.above r (by omega)
   omega
 ·by_cases e:j=i
  ·rw [if_pos e,e];exact Array.getElem?_setIfInBounds_self_of_lt (by omega)
  ·rw [if_neg e,Array.getElem?_setIfInBounds_ne (by omega)];exact h3 j (by omega)
structure ProdAt (w0 w:World) (g n:Nat) (R:Nat→Nat) (f:Nat→Nat→Int) (xx:Int) (xa:Option Addr) (xm xc:Nat) (wd:Int):Prop where
 fam:Fam PT w n R (fun _=>n) f
 head:HeadAt w g n R 0 n
 var:VarAt PT w w0.heap.size xx xa xm xc wd
 grows:Grows w0 w
 above:∀ r,r<n→w0.heap.size<R r
theorem ProdAt.grow {w0 w w':World} {g n:Nat} {R:Nat→Nat} {f:Nat→Nat→Int} {xx:Int} {xa:Option Addr} {xm xc:Nat} {wd:Int} (h:ProdAt w0 w g n R f xx xa xm xc wd) (hg:Grows w w'):ProdAt w0 w' g n R f xx xa xm xc wd:=⟨h.fam.grow hg,h.head.grow hg,h.var.grow hg,h.grows.trans hg,h.above⟩
theorem ProdAt.congr {w0 w:World} {g n:Nat} {R:Nat→Nat} {f f':Nat→Nat→Int} {xx:Int} {xa:Option Addr} {xm xc:Nat} {wd:Int} (h:ProdAt w0 w g n R f xx xa xm xc wd) (he:∀ r i,r<n→i<n→f r i=f' r i):ProdAt w0 w g n R f' xx xa xm xc wd:=⟨h.fam.congr he,h.head,h.var,h.grows,h.above⟩
theorem ProdAt.set {w0 w:World} {g n:Nat} {R:Nat→Nat} {f:Nat→Nat→Int} {xx:Int} {xa:Option Addr} {xm xc:Nat} {wd:Int} (h:ProdAt w0 w g n R f xx xa xm xc wd) {i j:Nat} (hi:i<n) (hj:j<n) {x:Int} {a:Option Addr} {m c:Nat} {v:Int} (hv:WhAt PT w (.agg #[.int .i64 x,.slice a m c]) v):ProdAt w0 ((w.setCell ⟨R i,j*2,none⟩ (.int .i64 x)).setCell ⟨R i,j*2+1,none⟩ (.slice a m c)) g n R (upd2 f i j v) xx xa xm xc wd:=by
 have ha:=h.above i hi
 have hne:=fam_head_ne h.fam h.head i hi
 exact ⟨h.fam.set hi hj hv,(h.head.far (Ne.symm hne) _ _).far (Ne.symm hne) _ _,h.var.put (h.fam.rows i hi).block (by omega) _ _ _ _,(Below.setCell (p:=⟨R i,j*2,none⟩) h.grows (Nat.le_of_lt ha) _).setCell (p:=⟨R i,j*2+1,none⟩) (Nat.le_of_lt ha) _,h.above⟩
theorem ProdAt.list {w0 w:World} {g n:Nat} {R:Nat→Nat} {f:Nat→Nat→Int} {xx:Int} {xa:Option Addr} {xm xc:Nat} {wd:Int} (h:ProdAt w0 w g n R f xx xa xm xc wd):RowsAt PT w (.slice (some ⟨g,0,none⟩) n n) (matL n f):=by
 have h1:=head_rows h.fam h.head (by omega) (fun _ _=>rfl) n (Nat.le_refl _) (fun _ _=>trivial)
 have e:((List.range n).map fun i=>(List.range n).map (f (0+i)))=matL n f:=by
  unfold matL
  exact List.map_congr_left fun i _=>List.map_congr_left fun j _=>by rw [Nat.zero_add]
 rwa [e] at h1
section
attribute [local go_sem] valUpon
set_option maxHeartbeats 4000000 in
theorem products_any (K L n m:Nat) (ls:List (List Int)) (ws:List Int) (va vw:Value) (w:World) (ha:RowsAt PT w va ls) (hb:RowAt PT w vw ws) (hm:ls.length=m) (hmw:ws.length=m) (hlen:∀ l∈ls,l.length=n+1) (hn0:0<n) (hn:n≤100) (hm8:m≤1000) (hpos:∀ k,k<m→0<ws.getD k 0) (lw:∀ k,Pl.Lt K (ws.getD k 0)) (la:∀ i k,Pl.Lt L ((ls.getD i []).getD k 0)) (hK:2*K+2*L+3≤1500000000000) :
  Calls Try.prog 121 #[va,vw,.int .i64 n] w fun e w'=>∃ v',e=.returned v'∧RowsAt PT w' v' (matL n (Pl.prodG m (fun i k=>(ls.getD i []).getD k 0) (weightP ws m)))∧Below w.heap.size w w':=by
 obtain ⟨i0,hi0,hz0,hz1,hz2⟩:=info_parts Try.infoWhole
 obtain ⟨i1,hi1,hy0,hy1,hy2⟩:=info_parts Try.infoRow
 obtain ⟨aa,ac,rfl⟩:∃ ad cap,va=.slice ad m cap:=by obtain ⟨ad,cap,e,_⟩:=ha;rw [hm] at e;exact ⟨ad,cap,e⟩
 obtain ⟨ba,bc,rfl⟩:∃ ad cap,vw=.slice ad m cap:=by obtain ⟨ad,cap,e,_⟩:=hb;rw [hmw] at e;exact ⟨ad,cap,e⟩
 have HA:=hide ha
 have HB:=hide hb
 have HM:=hide hm
 have HMW:=hide hmw
 have HLEN:=hide hlen
 have HV0:=hide (var_new (w:=w) (whole_zero PT w))
 have HG0:=hide (Grows.alloc w (.cells #[.int .i64 0,.slice none 0 0] 82))
 clear ha hb hm hmw hlen
 go_enter Try.func121,Try.ntmps121
 go_wp2_with fail
 go_loopg [8] m (fun q iv wr=>∃ (i:Nat) (xx:Int) (xa:Option Addr) (xm xc:Nat),iv=.int .i64 i∧i+q=m∧Hid (VarAt PT wr w.heap.size xx xa xm xc (widestP ws i)∧Grows w wr))
 case atStart=>exact ⟨0,0,none,0,0,rfl,by omega,uh HV0,uh HG0⟩
 case round =>
  clear HV0 HG0
  obtain ⟨i,xx,xa,xm,xc,rfl,hiq,HR⟩:=hrel
  by_cases hlt:i<m
  ·obtain ⟨gp,op,_,px,pa,pm,pc,ep,p0,p1,hp⟩:=row_cell ((uh HB).below (uh HR).2) (i:=i) (by rw [uh HMW];exact hlt)
   rw [uh HMW] at ep
   cases ep
   have HPV:=hide hp
   have HPC:=hide (And.intro p0 p1)
   obtain ⟨x0,x1,x2,x3⟩:=(uh HR).1.cells
   clear hp
   go_wp2_with fail
   have y0:=cell_regrown p0
   have y1:=cell_regrown p1
   have y2:=cell_regrown x0
   have y3:=cell_regrown x1
   clear p0 p1 x0 x1
   refine wp_region_grown (phiL []) (gL [(27,(·=.int .i64 (Int.sign (ws.getD i 0 - widestP ws i))))]) 111 6 (by kernel_rfl) (by rfl) (by kernel_rfl) (phiL_grows (by simp)) ?_
   iterate 5 (refine lex_s fun K hK=>?_;go_simp;refine hK _ ?_;clear hK K)
   refine lex_call (·=.int .i64 (Int.sign (ws.getD i 0 - widestP ws i))) 89 #[.agg #[.int .i64 px,.slice pa pm pc],.agg #[.int .i64 xx,.slice xa xm xc]] (by rfl) (by rfl) ⟨_,rfl⟩ (fun w=>by go_simp) (fun wq hg hf=>(Compare_any PT K _ _ _ _ wq (fun _ _=>trivial) ((uh HPV).below hg) ((uh HR).1.val.below hg) (by omega) (lw i) (widest_lt lw i)).mono (by rintro e w' ⟨rfl,hb⟩;exact ⟨_,rfl,hb,rfl,fun t ht=>by cases ht;exact True.intro⟩)) ?_
   rintro _ rfl
   refine lex_last ?_
   intro w1 hw1 hphi
   clear hphi y0 y1 y2 y3
   have HR1:=hide (And.intro ((uh HR).1.grow hw1) ((uh HR).2.trans hw1))
   have p0:=Grows.cell hw1 (uh HPC).1
   have p1:=Grows.cell hw1 (uh HPC).2
   obtain ⟨z0,z1,z2,z3⟩:=(uh HR1).1.cells
   have HPV1:=hide ((uh HPV).below hw1)
   clear hw1 x2 x3
   by_cases hc:widestP ws i<ws.getD i 0
   ·rw [Int.sign_eq_one_of_pos (show 0<ws.getD i 0 - widestP ws i by omega)]
    have HW:Hid (widestP ws (i+1)=ws.getD i 0):=if_pos hc
    have HS:Hid (VarAt PT ((w1.setCell ⟨w.heap.size,0,none⟩ (.int .i64 px)).setCell ⟨w.heap.size,1,none⟩ (.slice pa pm pc)) w.heap.size px pa pm pc (ws.getD i 0)∧Grows w ((w1.setCell ⟨w.heap.size,0,none⟩ (.int .i64 px)).setCell ⟨w.heap.size,1,none⟩ (.slice pa pm pc))):=⟨⟨int_sets (uh HR1).1.heap _ _,(uh HPV1).sets (uh HR1).1.heap _ _⟩,(Below.setCell (p:=⟨w.heap.size,0,none⟩) (uh HR1).2 (Nat.le_refl _) _).setCell (p:=⟨w.heap.size,1,none⟩) (Nat.le_refl _) _⟩
    clear hc
    go_wp2
    go_roundg (gk - 1)
    case measure=>omega
    case rel=>exact ⟨i+1,px,pa,pm,pc,by simp,by omega,by rw [uh HW];exact (uh HS).1,(uh HS).2⟩
   ·have HW:Hid (widestP ws (i+1)=widestP ws i):=if_neg hc
    obtain ⟨sg,hsg⟩:∃ sg,Int.sign (ws.getD i 0 - widestP ws i)=sg:=⟨_,rfl⟩
    have d0:¬ (0<sg):=by
     rw [←hsg]
     rcases (show ws.getD i 0 - widestP ws i<0∨ws.getD i 0 - widestP ws i=0 by omega) with h|h
     ·rw [Int.sign_eq_neg_one_of_neg h];decide
     ·rw [h];decide
    have d1:decide (0<sg)=false:=decide_eq_false d0
    rw [hsg]
    clear hsg hc
    go_wp2
    go_roundg (gk - 1)
    case measure=>omega
    case rel=>exact ⟨i+1,xx,xa,xm,xc,by simp,by omega,by rw [uh HW];exact (uh HR1).1,(uh HR1).2⟩
  ·have him:i=m:=by omega
   have HWD:Hid (VarAt PT wr w.heap.size xx xa xm xc (widestP ws m)∧Grows w wr):=by rw [←him];exact uh HR
   obtain ⟨WE,hWE⟩:∃ WE,WE=wr:=⟨_,rfl⟩
   subst hWE
   clear HR hiq
   go_wp2_with (at_make;refine wpList_make_full _ rfl _ _ 76 rfl WE.heap.size 73 i1 (.slice none 0 0) 1 Try.underlying76 hi1 hy0 hy1 .i64 .i64 _ _ n rfl rfl ?e1 ?e2 ?c1 ?c2 ?c3 ?_)
   case e1=>first | rfl | omega | simp
   case e2=>first | rfl | omega | simp
   case c1=>rw [hy2];omega
   case c2=>unfold maxLen;omega
   case c3=>first | omega | simp
   ·intro w1 hown hgrow
    have hG1:Grows WE w1:=(Below.refl _ _).grown hgrow (Nat.le_refl _) (by intro k hk;cases hk)
    have HL0:Hid (RowsLaid PT w1 WE.heap.size n 0 (fun _=>0) (fun _ _=>0)):=by
     obtain ⟨cs,h1,h2,_⟩:=ListTo.made (P:=PT) hown
     exact ⟨fun r hr=>by omega,⟨fun r hr=>by omega,fun r s hr=>by omega⟩,cs,h1,h2,fun j hj=>by omega⟩
    have HG1:=hide hG1
    clear hown hgrow hG1
    go_wp2_with fail
    go_loopg [10] n (fun q iv wr=>∃ (i:Nat) (R:Nat→Nat),iv=.int .i64 i∧i+q=n∧Hid (RowsLaid PT wr WE.heap.size n i R (fun _ _=>0)∧Grows WE wr))
    case atStart=>exact ⟨0,fun _=>0,rfl,by omega,uh HL0,uh HG1⟩
    case round =>
     clear HL0 HG1
     rename Nat=>gi
     rename World=>wi
     obtain ⟨i',R,rfl,hiq,HR⟩:=hrel
     by_cases hin:i'<n
     ·go_wp2_with (at_make;refine wpList_make_full _ rfl _ _ 73 rfl wi.heap.size 82 i0 (.agg #[.int .i64 0,.slice none 0 0]) 2 Try.underlying73 hi0 hz0 hz1 .i64 .i64 _ _ n rfl rfl ?e1 ?e2 ?c1 ?c2 ?c3 ?_)
      case e1=>first | rfl | omega | simp
      case e2=>first | rfl | omega | simp
      case c1=>rw [hz2];omega
      case c2=>unfold maxLen;omega
      case c3=>first | omega | simp
      ·intro w2 hown hgrow
       have hG2:Grows wi w2:=(Below.refl _ _).grown hgrow (Nat.le_refl _) (by intro k hk;cases hk)
       have hR2:RowIn PT w2 wi.heap.size n (fun _=>0):=RowIn.made hown
       obtain ⟨cs,h1,h2,_⟩:=(uh HR).1.list
       have hb2:=Below.same hG2 _ _ h1
       obtain ⟨u0,l0⟩:∃ u0,w2.cell? ⟨WE.heap.size,i',none⟩=some u0:=⟨cs[i'],by rw [cellsOf hb2];exact Array.getElem?_eq_getElem (by omega)⟩
       have l1:w2.frozen? ⟨WE.heap.size,i',none⟩=false:=freeOf hb2 i'
       have HA2:=hide ((uh HR).1.add hin hG2 hR2)
       have HG2:Hid (Grows WE (w2.setCell ⟨WE.heap.size,i',none⟩ (.slice (some ⟨wi.heap.size,0,none⟩) n n))):=Below.setCell (p:=⟨WE.heap.size,i',none⟩) ((uh HR).2.trans hG2) (Nat.le_refl _) _
       clear hown hgrow hG2 hR2 h1 h2 hb2
       go_wp2
       go_roundg (gi - 1)
       case measure=>omega
       case rel=>exact ⟨i'+1,_,by simp,by omega,uh HA2,uh HG2⟩
     ·have hin':i'=n:=by omega
      have HF0:Hid (ProdAt w wi WE.heap.size n R (Pl.prodG 0 (fun i k=>(ls.getD i []).getD k 0) (weightP ws m)) xx xa xm xc (widestP ws m)):=by
       have h1:=(uh HR).1
       rw [hin'] at h1
       obtain ⟨cs,l1,l2,l3⟩:=h1.list
       exact ⟨h1.fam.congr (fun _ _ _ _=>rfl),⟨cs,l1,fun j hj=>by rw [Nat.zero_add];exact l3 j hj⟩,(uh HWD).1.grow (uh HR).2,(uh HWD).2.trans (uh HR).2,fun r hr=>by have:=(h1.above r hr).1;have:=(uh HWD).1.lt;omega⟩
      clear HR hiq hin'
      go_wp2_with fail
      go_loopg [11] m (fun q kv wr=>∃ (k:Nat),kv=.int .i64 k∧k+q=m∧Hid (ProdAt w wr WE.heap.size n R (Pl.prodG k (fun i k=>(ls.getD i []).getD k 0) (weightP ws m)) xx xa xm xc (widestP ws m)))
      case atStart=>exact ⟨0,rfl,by omega,uh HF0⟩
      case round =>
       clear HF0
       rename Nat=>gk0
       obtain ⟨k,rfl,hkq,HR⟩:=hrel
       by_cases hkm:k<m
       ·have hgw:Grows w wr:=(uh HR).grows
        obtain ⟨gp,op,_,px,pa,pm,pc,ep,p0,p1,hp⟩:=row_cell ((uh HB).below hgw) (i:=k) (by rw [uh HMW];exact hkm)
        rw [uh HMW] at ep
        cases ep
        have HPV:=hide hp
        obtain ⟨x0,x1,x2,x3⟩:=(uh HR).var.cells
        have HWL:Hid (Pl.Lt (2*K) (weightP ws m k)):=weight_lt lw (hpos k hkm)
        have hdl:Pl.Lt K (Int.fdiv (widestP ws m) (ws.getD k 0)):=(widest_lt lw m).fdiv (hpos k hkm)
        clear hp x2 x3
        go_wp2_with fail
        have y0:=cell_regrown x0
        have y1:=cell_regrown x1
        have y2:=cell_regrown p0
        have y3:=cell_regrown p1
        clear x0 x1 p0 p1
        refine wp_region_grown (phiL [(62,fun v w=>WhAt PT w v (Int.fdiv (widestP ws m) (ws.getD k 0))),(12,FreshV wr)]) (gL [(62,ShapeI),(12,ShapeP)]) 111 7 (by kernel_rfl) (by rfl) (by kernel_rfl) (phi_c (fun _ _ _=>WhAt.below) (phi_c (fun _ _ _=>FreshV.grow) phi_n)) ?_
        iterate 5 (refine lex_s fun K hK=>?_;go_simp;refine hK _ ?_;clear hK K)
        refine lex_call ShapeI 91 #[.agg #[.int .i64 xx,.slice xa xm xc],.agg #[.int .i64 px,.slice pa pm pc]] (by rfl) (by rfl) ShapeI.some (fun w=>by go_simp) (fun wq hg hf=>(Div_any PT K _ _ _ _ wq (fun _ _=>trivial) ((uh HR).var.val.below hg) ((uh HPV).below hg) (by omega) (widest_lt lw m) (lw k)).mono (by rintro e w' ⟨v',rfl,hv,hb⟩;exact ⟨_,rfl,hb,hv.shapeI,fun t ht=>by cases ht;exact hv⟩)) ?_
        rintro _ ⟨dx,da,dm,dc,rfl⟩
        refine lex_grow ShapeP (by rfl) (by rfl) ShapeP.some (fun wq hg hf=>⟨.pointer (some ⟨wq.heap.size,0,none⟩),wq.alloc (.cells #[.int .i64 0,.slice none 0 0] 82),by go_simp,Grows.alloc _ _,⟨_,rfl⟩,fun t ht=>by cases ht;exact FreshV.new hg⟩) ?_
        rintro _ ⟨g12,rfl⟩
        refine lex_last ?_
        intro w3 hw3 hphi
        have hv3:WhAt PT w3 (.agg #[.int .i64 dx,.slice da dm dc]) (Int.fdiv (widestP ws m) (ws.getD k 0)):=hphi 5 _ 62 (by decide) rfl rfl
        obtain ⟨g12',e6,f6⟩:FreshV wr (.pointer (some ⟨g12,0,none⟩)) w3:=hphi 6 _ 12 (by decide) rfl rfl
        cases e6
        clear hphi y0 y1 y2 y3
        obtain ⟨z0,z1,z2,z3⟩:=slot_of f6.2
        have hst:=store_new (P:=PT) hw3 f6.1 f6.2 hv3
        obtain ⟨W3,hW3⟩:∃ W,(w3.setCell ⟨g12,0,none⟩ (.int .i64 dx)).setCell ⟨g12,1,none⟩ (.slice da dm dc)=W:=⟨_,rfl⟩
        rw [hW3] at hst
        have HV3:=hide hst.1
        have HG3:=hide hst.2
        have hg12:wr.heap.size≤g12:=f6.1
        have c0:=hst.1.cells.1
        have c1:=hst.1.cells.2.1
        clear hst hv3 f6 hw3
        go_wp2_with fail
        try rw [hW3]
        clear hW3 z0 z1 z2 z3
        refine (Mul_any PT K _ _ _ _ W3 (fun _ _=>trivial) (uh HV3).val (uh HV3).val (by omega) hdl hdl).mono ?_
        rintro e w4 ⟨v4,rfl,hv4,hw4⟩
        obtain ⟨ex,ea,em,ec,rfl⟩:=hv4.shape
        have hb4:=(uh HV3).grow hw4
        obtain ⟨c0',c1',c2',c3'⟩:=hb4.cells
        obtain ⟨W4,hW4⟩:∃ W,(w4.setCell ⟨g12,0,none⟩ (.int .i64 ex)).setCell ⟨g12,1,none⟩ (.slice ea em ec)=W:=⟨_,rfl⟩
        have HV4:Hid (VarAt PT W4 g12 ex ea em ec (weightP ws m k)):=by unfold Hid;rw [←hW4];exact ⟨int_sets hb4.heap _ _,hv4.sets hb4.heap _ _⟩
        have HG4:Hid (Grows wr W4):=by unfold Hid;rw [←hW4];exact (Below.setCell (p:=⟨g12,0,none⟩) ((uh HG3).trans hw4) hg12 _).setCell (p:=⟨g12,1,none⟩) hg12 _
        have HRg:Hid (∀ r,r<n→R r<wr.heap.size):=fun r hr=>((uh HR).fam.rows r hr).lt
        have HP4:Hid (ProdAt w W4 WE.heap.size n R (prodTo (fun i k=>(ls.getD i []).getD k 0) (weightP ws m) k 0 0) xx xa xm xc (widestP ws m)):=((uh HR).grow (uh HG4)).congr (fun r i _ _=>(prodTo_start r i).symm)
        clear hb4 hv4 hw4 hdl HV3 HG3 c0 c1
        go_wp2_with fail
        try rw [hW4]
        clear hW4 c0' c1' c2' c3'
        obtain ⟨WK,hWK⟩:∃ WK,WK=wr:=⟨_,rfl⟩
        subst hWK
        go_loopg [13] n (fun q iv wr=>∃ (i:Nat),iv=.int .i64 i∧i+q=n∧Hid (ProdAt w wr WE.heap.size n R (prodTo (fun i k=>(ls.getD i []).getD k 0) (weightP ws m) k i 0) xx xa xm xc (widestP ws m)∧VarAt PT wr g12 ex ea em ec (weightP ws m k)))
        case atStart=>exact ⟨0,rfl,by omega,uh HP4,uh HV4⟩
        case round =>
         clear HP4 HV4 HG4
         rename Nat=>gi4
         obtain ⟨i,rfl,hiq,HI⟩:=hrel
         by_cases hin2:i<n
         ·have hgw2:Grows w wr:=(uh HI).1.grows
          obtain ⟨gs,os,_,us,es,s0,hsr,hsm⟩:=rows_cell ((uh HA).below hgw2) (i:=k) (by rw [uh HM];exact hkm)
          rw [uh HM] at es
          cases es
          have hsl:=uh HLEN _ hsm
          obtain ⟨usa,usc,rfl⟩:∃ ad cap,us=.slice ad (n+1) cap:=by obtain ⟨ad,cap,e,_⟩:=hsr;rw [hsl] at e;exact ⟨ad,cap,e⟩
          have HSR:=hide hsr
          have HSL:=hide hsl
          obtain ⟨gt,ot,_,px,pa,pm,pc,ep,p0,p1,hp⟩:=row_cell hsr (i:=i+1) (by rw [hsl];omega)
          rw [hsl] at ep
          cases ep
          have HPV2:=hide hp
          obtain ⟨e0,e1,_,_⟩:=(uh HI).2.cells
          have wi1:IntKind.i64.wrap ((i:Int)+1)=(i:Int)+1:=by rw [IntKind.wrap_i64];omega
          have ti1:((i:Int)+1).toNat=i+1:=by omega
          have li1:(i:Int)+1<(n:Int)+1:=by omega
          have li2:0≤(i:Int)+1:=by omega
          clear hsr hsm hsl hp
          go_wp2_with fail
          have y0:=cell_regrown e0
          have y1:=cell_regrown e1
          have y2:=cell_regrown s0
          have y3:=cell_regrown p0
          have y4:=cell_regrown p1
          clear e0 e1 s0 p0 p1
          refine wp_region_grown (phiL [(80,fun v w=>WhAt PT w v (weightP ws m k*(ls.getD k []).getD (i+1) 0)),(14,FreshV wr)]) (gL [(80,ShapeI),(14,ShapeP)]) 111 11 (by kernel_rfl) (by rfl) (by kernel_rfl) (phi_c (fun _ _ _=>WhAt.below) (phi_c (fun _ _ _=>FreshV.grow) phi_n)) ?_
          iterate 9 (refine lex_s fun K hK=>?_;go_simp;refine hK _ ?_;clear hK K)
          refine lex_call ShapeI 93 #[.agg #[.int .i64 ex,.slice ea em ec],.agg #[.int .i64 px,.slice pa pm pc]] (by rfl) (by rfl) ShapeI.some (fun w=>by go_simp) (fun wq hg hf=>(Mul_any PT (2*K+L) _ _ _ _ wq (fun _ _=>trivial) ((uh HI).2.val.below hg) ((uh HPV2).below hg) (by omega) ((uh HWL).mono (by omega)) ((la k (i+1)).mono (by omega))).mono (by rintro e w' ⟨v',rfl,hv,hb⟩;exact ⟨_,rfl,hb,hv.shapeI,fun t ht=>by cases ht;exact hv⟩)) ?_
          rintro _ ⟨sx,sa,sm,sc,rfl⟩
          refine lex_grow ShapeP (by rfl) (by rfl) ShapeP.some (fun wq hg hf=>⟨.pointer (some ⟨wq.heap.size,0,none⟩),wq.alloc (.cells #[.int .i64 0,.slice none 0 0] 82),by go_simp,Grows.alloc _ _,⟨_,rfl⟩,fun t ht=>by cases ht;exact FreshV.new hg⟩) ?_
          rintro _ ⟨g14,rfl⟩
          refine lex_last ?_
          intro w5 hw5 hphi
          have hv5:WhAt PT w5 (.agg #[.int .i64 sx,.slice sa sm sc]) (weightP ws m k*(ls.getD k []).getD (i+1) 0):=hphi 9 _ 80 (by decide) rfl rfl
          obtain ⟨g14',e6,f6⟩:FreshV wr (.pointer (some ⟨g14,0,none⟩)) w5:=hphi 10 _ 14 (by decide) rfl rfl
          cases e6
          clear hphi y0 y1 y2 y3 y4
          obtain ⟨z0,z1,z2,z3⟩:=slot_of f6.2
          have hst:=store_new (P:=PT) hw5 f6.1 f6.2 hv5
          obtain ⟨W5,hW5⟩:∃ W,(w5.setCell ⟨g14,0,none⟩ (.int .i64 sx)).setCell ⟨g14,1,none⟩ (.slice sa sm sc)=W:=⟨_,rfl⟩
          rw [hW5] at hst
          have HV5:=hide hst.1
          have HG5:=hide hst.2
          have hg14:wr.heap.size≤g14:=f6.1
          clear hst hv5 f6 hw5
          go_wp2_with fail
          try rw [hW5]
          clear hW5 z0 z1 z2 z3
          have HP5:Hid (ProdAt w W5 WE.heap.size n R (prodTo (fun i k=>(ls.getD i []).getD k 0) (weightP ws m) k i 0) xx xa xm xc (widestP ws m)∧VarAt PT W5 g12 ex ea em ec (weightP ws m k)):=⟨(uh HI).1.grow (uh HG5),(uh HI).2.grow (uh HG5)⟩
          have HR14:Hid (∀ r,r<n→R r≠g14∧R r≠g12):=fun r hr=>by have h1:=uh HRg r hr;have h2:=((uh HI).1.fam.rows r hr).lt;exact ⟨by omega,by omega⟩
          clear HG5
          go_loopg [15] n (fun q jv wr=>∃ (j:Nat),jv=.int .i64 j∧j+q=n∧Hid (ProdAt w wr WE.heap.size n R (prodTo (fun i k=>(ls.getD i []).getD k 0) (weightP ws m) k i j) xx xa xm xc (widestP ws m)∧VarAt PT wr g12 ex ea em ec (weightP ws m k)∧VarAt PT wr g14 sx sa sm sc (weightP ws m k*(ls.getD k []).getD (i+1) 0)))
          case atStart=>exact ⟨0,rfl,by omega,(uh HP5).1,(uh HP5).2,uh HV5⟩
          case round =>
           clear HP5 HV5
           obtain ⟨j,rfl,hjq,HJ⟩:=hrel
           by_cases hjn:j<n
           ·have hgw3:Grows w wr:=(uh HJ).1.grows
            obtain ⟨gs',os',_,us,es,s0,hsr,hsm⟩:=rows_cell ((uh HA).below hgw3) (i:=k) (by rw [uh HM];exact hkm)
            rw [uh HM] at es
            cases es
            have hsl:=uh HSL
            obtain ⟨vsa,vsc,rfl⟩:∃ ad cap,us=.slice ad (n+1) cap:=by obtain ⟨ad,cap,e,_⟩:=hsr;rw [hsl] at e;exact ⟨ad,cap,e⟩
            obtain ⟨gu,ou,_,ux,ua,um,uc,eu,u0,u1,hu⟩:=row_cell hsr (i:=j+1) (by rw [hsl];omega)
            rw [hsl] at eu
            cases eu
            have HUV:=hide hu
            obtain ⟨fx,fa,fm,fc,f0,f1,hfv,_⟩:=((uh HJ).1.fam.rows i hin2).get hjn
            rw [prodTo_at] at hfv
            have HFV:=hide hfv
            have HFC:=hide (And.intro f0 f1)
            have h0:=(uh HJ).1.head.cell hin2
            rw [Nat.zero_add] at h0
            obtain ⟨t0,t1,_,_⟩:=(uh HJ).2.2.cells
            have HPL:Hid (Pl.Lt (2*K+2*L+1) (Pl.prodG k (fun i k=>(ls.getD i []).getD k 0) (weightP ws m) i j)):=prodG_lt (by omega) la (fun k' hk'=>weight_lt lw (hpos k' (by omega))) i j
            have wj1:IntKind.i64.wrap ((j:Int)+1)=(j:Int)+1:=by rw [IntKind.wrap_i64];omega
            have tj1:((j:Int)+1).toNat=j+1:=by omega
            have lj1:(j:Int)+1<(n:Int)+1:=by omega
            have lj2:0≤(j:Int)+1:=by omega
            clear hsr hsm hsl hu hfv
            go_wp2_with fail
            have y0:=cell_regrown h0
            have y1:=cell_regrown f0
            have y2:=cell_regrown f1
            have y3:=cell_regrown t0
            have y4:=cell_regrown t1
            have y5:=cell_regrown s0
            have y6:=cell_regrown u0
            have y7:=cell_regrown u1
            clear h0 f0 f1 t0 t1 s0 u0 u1
            refine wp_region_grown (phiL [(107,fun v w=>WhAt PT w v ((weightP ws m k*(ls.getD k []).getD (i+1) 0)*(ls.getD k []).getD (j+1) 0)),(108,fun v w=>WhAt PT w v (Pl.prodG k (fun i k=>(ls.getD i []).getD k 0) (weightP ws m) i j+(weightP ws m k*(ls.getD k []).getD (i+1) 0)*(ls.getD k []).getD (j+1) 0))]) (gL [(107,ShapeI),(108,ShapeI)]) 111 24 (by kernel_rfl) (by rfl) (by kernel_rfl) (phi_c (fun _ _ _=>WhAt.below) (phi_c (fun _ _ _=>WhAt.below) phi_n)) ?_
            iterate 21 (refine lex_s fun K hK=>?_;go_simp;refine hK _ ?_;clear hK K)
            refine lex_call ShapeI 93 #[.agg #[.int .i64 sx,.slice sa sm sc],.agg #[.int .i64 ux,.slice ua um uc]] (by rfl) (by rfl) ShapeI.some (fun w=>by go_simp) (fun wq hg hf=>(Mul_any PT (2*K+L) _ _ _ _ wq (fun _ _=>trivial) ((uh HJ).2.2.val.below hg) ((uh HUV).below hg) (by omega) (((uh HWL).mul (la k (i+1))).mono (by omega)) ((la k (j+1)).mono (by omega))).mono (by rintro e w' ⟨v',rfl,hv,hb⟩;exact ⟨_,rfl,hb,hv.shapeI,fun t ht=>by cases ht;exact hv⟩)) ?_
            rintro _ ⟨tx,ta,tm,tc,rfl⟩
            refine lex_call ShapeI 90 #[.agg #[.int .i64 fx,.slice fa fm fc],.agg #[.int .i64 tx,.slice ta tm tc]] (by rfl) (by rfl) ShapeI.some (fun w=>by go_simp) (fun wq hg hf=>(Add_any PT (2*K+2*L+1) _ _ _ _ wq (fun _ _=>trivial) ((uh HFV).below hg) (hf 21 (by kernel_rfl) _ 107 rfl rfl) (by omega) ((uh HPL).mono (by omega)) ((((uh HWL).mul (la k (i+1))).mul (la k (j+1))).mono (by omega))).mono (by rintro e w' ⟨v',rfl,hv,hb⟩;exact ⟨_,rfl,hb,hv.shapeI,fun t ht=>by cases ht;exact hv⟩)) ?_
            rintro _ ⟨hx,ha,hm,hc,rfl⟩
            (refine lex_s fun K hK=>?_;go_simp;refine hK _ ?_;clear hK K)
            refine lex_last ?_
            intro w7 hw7 hphi
            have hv7:WhAt PT w7 (.agg #[.int .i64 hx,.slice ha hm hc]) (Pl.prodG k (fun i k=>(ls.getD i []).getD k 0) (weightP ws m) i j+(weightP ws m k*(ls.getD k []).getD (i+1) 0)*(ls.getD k []).getD (j+1) 0):=hphi 22 _ 108 (by decide) rfl rfl
            clear hphi y0 y1 y2 y3 y4 y5 y6 y7
            have hP7:=(uh HJ).1.grow hw7
            have f0:=Grows.cell hw7 (uh HFC).1
            have f1:=Grows.cell hw7 (uh HFC).2
            obtain ⟨cb,hcb⟩:=(hP7.fam.rows i hin2).block
            have b0:=freeOf hcb (j*2)
            have b1:=freeOf hcb (j*2+1)
            have hnn:=uh HR14 i hin2
            have HS7:=hide (And.intro ((hP7.set hin2 hjn hv7).congr (fun x y _ _=>prodTo_set x y)) (And.intro (((uh HJ).2.1.grow hw7).put ⟨cb,hcb⟩ (Ne.symm hnn.2) (j*2) (j*2+1) (.int .i64 hx) (.slice ha hm hc)) (((uh HJ).2.2.grow hw7).put ⟨cb,hcb⟩ (Ne.symm hnn.1) (j*2) (j*2+1) (.int .i64 hx) (.slice ha hm hc))))
            clear hP7 hcb hnn hv7 hw7
            go_wp2
            go_roundg (gk - 1)
            case measure=>omega
            case rel=>exact ⟨j+1,by simp,by omega,uh HS7⟩
           ·have hjn':j=n:=by omega
            have HE:Hid (ProdAt w wr WE.heap.size n R (prodTo (fun i k=>(ls.getD i []).getD k 0) (weightP ws m) k (i+1) 0) xx xa xm xc (widestP ws m)∧VarAt PT wr g12 ex ea em ec (weightP ws m k)):=⟨(uh HJ).1.congr (fun x y _ hy=>by rw [hjn'];exact prodTo_row hy),(uh HJ).2.1⟩
            go_wp2
            go_roundg (gi4 - 1)
            case measure=>omega
            case rel=>exact ⟨i+1,by simp,by omega,uh HE⟩
         ·have hin2':i=n:=by omega
          have HE:Hid (ProdAt w wr WE.heap.size n R (Pl.prodG (k+1) (fun i k=>(ls.getD i []).getD k 0) (weightP ws m)) xx xa xm xc (widestP ws m)):=(uh HI).1.congr (fun x y hx _=>by rw [hin2'];exact prodTo_end hx)
          go_wp2
          go_roundg (gk0 - 1)
          case measure=>omega
          case rel=>exact ⟨k+1,by simp,by omega,uh HE⟩
       ·have hkm':k=m:=by omega
        have HE:Hid (RowsAt PT wr (.slice (some ⟨WE.heap.size,0,none⟩) n n) (matL n (Pl.prodG m (fun i k=>(ls.getD i []).getD k 0) (weightP ws m)))∧Grows w wr):=by have h1:=uh HR;rw [hkm'] at h1;exact ⟨h1.list,h1.grows⟩
        go_wp2
        go_ret
        exact ⟨_,rfl,(uh HE).1,(uh HE).2⟩
end
theorem LatMem.list {P:Nat→Prop} {B:Nat} {w:World} {n b gs gp go cs cp co:Nat} {R:Nat→Nat} {St G Ov:Nat→Nat→Int} {V:Nat→Int} (h:LatMem P B w n b gs gp go cs cp co R St G Ov V) (hP:∀ g,B≤g→P g):RowsAt P w (.slice (some ⟨gs,0,none⟩) n cs) (matL n St):=by
 have h1:=head_rows h.fam h.steps (by omega) (fun i hi=>by unfold latLen;rw [if_neg (by omega)]) cs h.caps.1 (fun k hk=>by
  rcases hk with rfl|⟨i,hi,rfl⟩
  ·exact hP _ h.base.2.1
  ·exact hP _ (h.base.2.2.2.2 _ (by omega)))
 have e:((List.range n).map fun i=>(List.range n).map (latF n St G Ov V (0+i)))=matL n St:=by
  unfold matL
  refine List.map_congr_left fun i hi=>List.map_congr_left fun j _=>?_
  have:=List.mem_range.1 hi
  unfold latF
  rw [Nat.zero_add,if_pos this]
 rwa [e] at h1
theorem red_measure {n s s' k k':Nat} (h:s'+1≤s):s'*(n+1)+(n - k')<s*(n+1)+(n - k):=by
 have:=Nat.mul_le_mul_right (n+1) h
 rw [Nat.add_mul,Nat.one_mul] at this
 omega
set_option maxHeartbeats 4000000 in
theorem Reduce_any (P:Nat→Prop) (n LQ:Nat) (ls:List (List Int)) (vq:Value) (w:World) (hP:∀ b,w.heap.size≤b→P b) (h:RowsAt P w vq ls) (hl:ls.length=n) (hr:∀ l∈ls,l.length=n) (hn0:0<n) (hn:n≤9)
  (hQ:Pl.Posi n (fun i j=>(ls.getD i []).getD j 0)) (hS:∀ i j,(ls.getD i []).getD j 0=(ls.getD j []).getD i 0) (hlq:∀ a b,a<n→b<n→Pl.Lt LQ ((ls.getD a []).getD b 0)) (hK:3*((n+1)*latG n (latL n LQ) n+1)+20≤1500000000000) :
  Calls Try.prog 120 #[vq] w fun e w'=>∃ (v':Value) (St:Nat→Nat→Int),e=.returned v'∧RowsAt P w' v' (matL n St)∧Pl.Uni n St∧(∀ a b,a<n→b<n→Pl.Lt (latL n LQ) (St a b))∧Below w.heap.size w w':=by
 have HST:=hide (start_any P n ls vq w hP h hl hr hn0 (by omega))
 obtain ⟨va,vn,vc,rfl⟩:=h.shapeS
 obtain ⟨Q,hQf⟩:∃ Q:Nat→Nat→Int,Q=fun i j=>(ls.getD i []).getD j 0:=⟨_,rfl⟩
 have HQ:Hid (Pl.Posi n Q):=by unfold Hid;rw [hQf];exact hQ
 have HS:Hid (∀ i j,Q i j=Q j i):=by unfold Hid;rw [hQf];exact hS
 have HLQ:Hid (∀ a b,a<n→b<n→Pl.Lt LQ (Q a b)):=by unfold Hid;rw [hQf];exact hlq
 rw [←hQf] at HST
 obtain ⟨D,hD⟩:∃ D:Int,D=1073741824^latD n LQ:=⟨_,rfl⟩
 obtain ⟨T,hT⟩:∃ T:Int,T=1073741824^(latD n LQ+1):=⟨_,rfl⟩
 have HDT:Hid (((n+4:Nat):Int)*D≤4*T∧0≤D):=by
  have h1:=pow_one_le (latD n LQ)
  rw [hD,hT,Int.pow_succ]
  refine ⟨?_,by omega⟩
  have:((n+4:Nat):Int)*1073741824^latD n LQ≤13*1073741824^latD n LQ:=Int.mul_le_mul_of_nonneg_right (by omega) (by omega)
  omega
 have HO0:Hid (Out n Q Pl.unit Q T D):=by unfold Hid;rw [hD,hT];exact Out.start (uh HQ) (uh HS) hn (uh HLQ)
 have HLG:Hid (∀ St G,Out n Q St G T D→(∀ a b,a<n→b<n→Pl.Lt (latL n LQ) (G a b))∧∀ a b,a<n→b<n→Pl.Lt (latL n LQ) (St a b)):=fun St G hO=>by
  rw [hT] at hO
  exact ⟨hO.lg (uh HQ),hO.lst (uh HQ) (uh HS) hn (uh HLQ)⟩
 clear hD hT hQ hS hlq h hr hQf
 have hKL:∀ m,m≤n→3*((n+1)*latG n (latL n LQ) m+1)+20≤1500000000000:=fun m hm=>by
  have h1:=Nat.mul_le_mul_left (n+1) (latG_mono n (latL n LQ) hm)
  omega
 have HKL:=hide hKL
 have hn100:n≤100:=by omega
 clear hKL hK
 generalize latL n LQ=L0 at *
 go_enter Try.func120,Try.ntmps120
 go_wp2_with fail
 refine (uh HST).mono ?_
 rintro e w1 ⟨b,gs,gp,go,cs,cp,co,R0,Ov0,V0,rfl,hM,hB1,hV0⟩
 have HM:=hide hM
 have HB1:=hide hB1
 have HV0:=hide hV0
 clear hM hB1 hV0 HST
 go_wp2_with fail
 go_loopg [4] ((Pl.sm (n+1) (Pl.vol n Q)).toNat*(n+1)+(n - 1)) (fun q kv wr=>∃ (k:Nat) (R:Nat→Nat) (St G Ov:Nat→Nat→Int) (V:Nat→Int),kv=.int .i64 k∧1≤k∧k≤n∧(Pl.sm (n+1) (Pl.vol n G)).toNat*(n+1)+(n - k)=q∧Hid (LatMem P w.heap.size wr n b gs gp go cs cp co R St G Ov V∧Out n Q St G T D∧V 0=1∧Below w.heap.size w wr))
 case atStart=>exact ⟨1,R0,_,_,Ov0,V0,rfl,by omega,by omega,rfl,uh HM,uh HO0,uh HV0,uh HB1⟩
 case round =>
  clear HM HV0 HO0 HB1
  rename Nat=>gq
  rename World=>wo
  obtain ⟨k,R,St,G,Ov,V,rfl,hk1,hkn,hq,HR⟩:=hrel
  have HMQ:=hide hq
  clear hq
  obtain ⟨k0,_,_,_⟩:=(uh HR).1.cells
  by_cases hlt:k<n
  ·obtain ⟨m,rfl⟩:∃ m,k=m+1:=⟨k - 1,by omega⟩
   have hpo:=(uh HR).2.1.red.posi (uh HQ)
   have HME:=hide (measure_any P w.heap.size ((n+1)*L0+1) n b gs gp go cs cp co R St G Ov V wo (fun b' hb'=>hP b' (by have:=(uh HR).2.2.2.size;omega)) (uh HR).1 hn0 hn100 hpo (uh HR).2.1.red.symm (uh HR).2.2.1 (fun l i j hl' hi hj=>gm_lt hpo (uh HLG _ _ (uh HR).2.1).1 hn hl' hi hj) (fun l hl'=>vol_lt hpo (uh HLG _ _ (uh HR).2.1).1 hn hl') (by have:=uh HKL 0 (by omega);simp only [latG] at this;omega))
   clear hpo
   go_wp2_with fail
   refine (uh HME).mono ?_
   rintro e w2 ⟨Ov1,V1,rfl,hM2,hB2,hov,hvol⟩
   have HM2:=hide hM2
   have HB2:=hide ((uh HR).2.2.2.trans hB2)
   have HIN:Hid (Inn n Q (m+1) (m+1) St G Ov1 V1 T D (latG n L0 0)):=⟨(uh HR).2.1.red,hvol,hov,fun l h1 h2=>by omega,fun i hi _=>(uh HR).2.1.diag i hi,(uh HR).2.1.vols,(uh HLG _ _ (uh HR).2.1).2,(uh HLG _ _ (uh HR).2.1).1⟩
   have HVOL:=hide hvol
   clear hM2 hB2 hov hvol HME k0
   go_wp2_with fail
   go_loopg [5] (m+1) (fun q jv wr=>∃ (j:Nat) (St' G' Ov':Nat→Nat→Int),jv=.int .i64 ((j:Int) - 1)∧j=q∧j≤m+1∧Hid (LatMem P w.heap.size wr n b gs gp go cs cp co R St' G' Ov' V1∧Inn n Q (m+1) j St' G' Ov' V1 T D (latG n L0 (m+1 - j))∧(∀ l,l≤n→Pl.vol n G' l=Pl.vol n G l)∧Below w.heap.size w wr))
   case atStart=>exact ⟨m+1,St,G,Ov1,by simp,rfl,Nat.le_refl _,uh HM2,by rw [Nat.sub_self];exact uh HIN,fun _ _=>rfl,uh HB2⟩
   case round =>
    clear HM2 HIN HB2
    obtain ⟨j,St',G',Ov',rfl,hjq,hjm,HJ⟩:=hrel
    subst hjq
    have em:((m+1:Nat):Int)=(m:Int)+1:=by omega
    rcases (show j=0∨∃ i,j=i+1 from by rcases j with _|i;exact .inl rfl;exact .inr ⟨i,rfl⟩) with hj0|⟨i,hji⟩
    ·subst hj0
     have HO2:=hide ((uh HJ).2.1.out (uh HQ) hlt (uh HDT).1 (uh HDT).2)
     have HVS:Hid (∀ l,l≤n→Pl.vol n G' l=Pl.vol n G l):=fun l hl'=>((uh HJ).2.1.vol l hl').symm.trans (uh HVOL l hl')
     have HSM:Hid (Pl.sm (n+1) (Pl.vol n G')=Pl.sm (n+1) (Pl.vol n G)):=Pl.sm_congr fun l hl'=>uh HVS l (by omega)
     have hpo:=(uh HO2).red.posi (uh HQ)
     have HV10:Hid (V1 0=1):=by unfold Hid;rw [(uh HJ).2.1.vol 0 (by omega)];exact Pl.vol_zero n G'
     have HIO:=hide (isOrdered_any P w.heap.size ((n+1)*L0+1) n m b gs gp go cs cp co R St' G' Ov' V1 wr (fun b' hb'=>hP b' (by have:=(uh HJ).2.2.2.size;omega)) (uh HJ).1 hlt hn100 (by rw [(uh HJ).2.1.ov (m+1) m (by omega) hlt];exact gm_lt hpo (uh HLG _ _ (uh HO2)).1 hn (by omega) hlt (by omega)) (fun l hl'=>by rw [(uh HJ).2.1.vol l hl'];exact vol_lt hpo (uh HLG _ _ (uh HO2)).1 hn hl') (by have:=uh HKL 0 (by omega);simp only [latG] at this;omega))
     go_wp2_with fail
     refine (uh HIO).mono ?_
     rintro e w4 ⟨rfl,hw4⟩
     have hBw:w.heap.size≤wr.heap.size:=(uh HJ).2.2.2.size
     have HM4:=hide ((uh HJ).1.grow hw4)
     have HB4:Hid (Below w.heap.size w w4):=(uh HJ).2.2.2.trans (Below.mono hw4 hBw)
     by_cases hord:99*(V1 (m+1)*V1 (m+1))≤100*(V1 (m+2)*V1 m+Ov' (m+1) m*Ov' (m+1) m)
     ·rw [decide_eq_true hord]
      clear hord hw4 hpo HIO
      go_wp2
      go_roundg ((Pl.sm (n+1) (Pl.vol n G')).toNat*(n+1)+(n - (m+2)))
      case measure=>rw [←uh HMQ,uh HSM];omega
      case rel=>exact ⟨m+2,R,St',G',Ov',V1,by simp;omega,by omega,by omega,rfl,uh HM4,uh HO2,uh HV10,uh HB4⟩
     ·rw [decide_eq_false hord]
      have hless:Pl.vol n (Pl.exG G' (m+1)) (m+1)<Pl.vol n G' (m+1):=by
       refine Pl.vol_ex_less hpo (uh HO2).red.symm (((uh HO2).red.ex (k:=m+1) (by omega) hlt).posi (uh HQ)) (by omega) hlt ?_
       have e1:m+1 - 1=m:=by omega
       rw [e1,←(uh HJ).2.1.vol (m+1+1) (by omega),←(uh HJ).2.1.vol m (by omega),←(uh HJ).2.1.vol (m+1) (by omega),←(uh HJ).2.1.ov (m+1) m (by omega) hlt]
       exact Int.not_le.1 hord
      have HEX:=hide ((uh HO2).ex (uh HQ) (k:=m+1) (by omega) hlt hless)
      have HXC:=hide (exchange_any P w.heap.size n m b gs gp go cs cp co R St' G' Ov' V1 w4 (uh HM4) hlt hn100)
      have hsp:0≤Pl.sm (n+1) (Pl.vol n (Pl.exG G' (m+1))):=Pl.sm_nonneg fun l hl'=>Int.le_of_lt (Pl.vol_pos ((uh HEX).1.red.posi (uh HQ)) (by omega))
      have HMS:Hid ((Pl.sm (n+1) (Pl.vol n (Pl.exG G' (m+1)))).toNat+1≤(Pl.sm (n+1) (Pl.vol n G)).toNat):=by have h1:=(uh HEX).2;rw [uh HSM] at h1;unfold Hid;omega
      clear hord hw4 hpo HIO hless hsp
      go_wp2_with fail
      refine (uh HXC).mono ?_
      rintro e w5 ⟨R5,rfl,hM5,hB5⟩
      have HM5:=hide hM5
      have HB5:=hide ((uh HB4).trans hB5)
      clear hM5 hB5 HXC
      rcases (show m=0∨∃ i,m=i+1 from by rcases m with _|i;exact .inl rfl;exact .inr ⟨i,rfl⟩) with hm0|⟨i,hmi⟩
      ·subst hm0
       go_wp2
       go_roundg ((Pl.sm (n+1) (Pl.vol n (Pl.exG G' (0+1)))).toNat*(n+1)+(n - 1))
       case measure=>rw [←uh HMQ];exact red_measure (uh HMS)
       case rel=>exact ⟨1,R5,_,_,Ov',V1,by simp,by omega,by omega,rfl,uh HM5,(uh HEX).1,uh HV10,uh HB5⟩
      ·subst hmi
       have c1:((i+1:Nat):Int)+1 - 1=(i:Int)+1:=by omega
       have c2:(i:Int)+1+1 - 1=(i:Int)+1:=by omega
       have c3:(1:Int)<(i:Int)+1+1:=by omega
       go_wp2
       go_roundg ((Pl.sm (n+1) (Pl.vol n (Pl.exG G' (i+1+1)))).toNat*(n+1)+(n - (i+1)))
       case measure=>rw [←uh HMQ];exact red_measure (uh HMS)
       case rel=>exact ⟨i+1,R5,_,_,Ov',V1,by simp,by omega,by omega,rfl,uh HM5,(uh HEX).1,uh HV10,uh HB5⟩
    ·subst hji
     obtain ⟨t,ht⟩:∃ t,Int.fdiv (Ov' (m+1) i+Ov' (m+1) i+V1 (i+1)) (V1 (i+1)+V1 (i+1))=t:=⟨_,rfl⟩
     have hpo:=(uh HJ).2.1.red.posi (uh HQ)
     have hin:i<n:=by omega
     have e2:m+1 - i=(m+1 - (i+1))+1:=by omega
     have HNX:Hid (Inn n Q (m+1) i (Pl.subRow St' (m+1) i t) (Pl.shortG G' (m+1) i t) (shortO Ov' (m+1) i t (V1 (i+1))) V1 T D (latG n L0 (m+1 - i))):=by
      unfold Hid
      rw [e2]
      exact (uh HJ).2.1.step (uh HQ) (by omega) hlt hn ht
     have hLm:latG n L0 (m+1 - (i+1))≤(n+1)*latG n L0 (m+1 - (i+1)):=by rw [Nat.add_mul,Nat.one_mul];omega
     have lo:Pl.Lt ((n+1)*latG n L0 (m+1 - (i+1))+1) (Ov' (m+1) i):=by rw [(uh HJ).2.1.ov (m+1) i (by omega) hlt];exact gm_lt hpo (uh HJ).2.1.lg hn (by omega) hlt hin
     have hvp:0<V1 (i+1):=by rw [(uh HJ).2.1.vol (i+1) (by omega)];exact Pl.vol_pos hpo (by omega)
     have HSH:=hide (shorten_any P w.heap.size ((n+1)*latG n L0 (m+1 - (i+1))+1) n (m+1) i b gs gp go cs cp co R St' G' Ov' V1 t wr (fun b' hb'=>hP b' (by have:=(uh HJ).2.2.2.size;omega)) (uh HJ).1 (by omega) hlt hn100 ht lo (by rw [(uh HJ).2.1.vol (i+1) (by omega)];exact vol_lt hpo (uh HJ).2.1.lg hn (by omega)) (by rw [←ht];exact times_lt hvp lo) (fun a c ha hc=>((uh HJ).2.1.lst a c ha hc).mono (by omega)) (fun a c ha hc=>((uh HJ).2.1.lg a c ha hc).mono (by omega)) (fun a c hc ha=>by rw [(uh HJ).2.1.ov a c hc ha];exact gm_lt hpo (uh HJ).2.1.lg hn (by omega) ha (by omega)) (by have:=uh HKL (m+1 - (i+1)) (by omega);omega))
     rw [em] at HSH
     clear ht hpo e2 hLm lo hvp
     have c1:((i+1:Nat):Int) - 1=(i:Int):=by omega
     have c2:(i:Int)+1 - 1=(i:Int):=by omega
     have c3:(0:Int)≤(i:Int):=by omega
     go_wp2_with fail
     refine (uh HSH).mono ?_
     rintro e w3 ⟨rfl,hM3,hB3⟩
     have HM3:=hide hM3
     have HB3:=hide ((uh HJ).2.2.2.trans hB3)
     clear hM3 hB3 HSH
     go_wp2
     go_roundg i
     case measure=>omega
     case rel=>exact ⟨i,_,_,_,by simp,rfl,by omega,uh HM3,uh HNX,fun l hl'=>((uh HNX).vol l hl').symm.trans (uh HVOL l hl'),uh HB3⟩
  ·have hkn':k=n:=by omega
   have HF:Hid (RowsAt P wo (.slice (some ⟨gs,0,none⟩) n cs) (matL n St)∧Pl.Uni n St∧∀ a b,a<n→b<n→Pl.Lt L0 (St a b)):=⟨(uh HR).1.list hP,(uh HR).2.1.red.uni,(uh HLG _ _ (uh HR).2.1).2⟩
   go_wp2
   go_ret
   exact ⟨_,St,rfl,(uh HF).1,(uh HF).2.1,(uh HF).2.2,(uh HR).2.2.2⟩
end Go.Proofs.Ytfaljekgpnbmiaa
