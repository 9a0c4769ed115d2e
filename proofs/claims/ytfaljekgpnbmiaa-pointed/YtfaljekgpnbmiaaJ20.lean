/- Joined: XSol1 XSol2 XSol3 XCopy. -/
import Derived.Test.YtfaljekgpnbmiaaJ19
set_option linter.unusedVariables false
set_option linter.unusedSimpArgs false
set_option maxRecDepth 100000
namespace Go.Proofs.Ytfaljekgpnbmiaa
open Go.RowKit Go.Sort
def alongP (a st:List Int) (i:Nat):Int:=Pl.sm i (fun k=>a.getD (k+1) 0*st.getD k 0)
theorem along_lt {K:Nat} {a st:List Int} (ha:∀ k,Pl.Lt K (a.getD k 0)) (hs:∀ k,Pl.Lt K (st.getD k 0)) {i:Nat} (hi:i≤1000):Pl.Lt (2*K+1) (alongP a st i) :=
 Pl.Lt.sum (fun r _=>by rw [Nat.two_mul];exact (ha _).mul (hs _)) (by omega)
theorem row_cell {P:Nat→Prop} {w:World} {v:Value} {l:List Int} (h:RowAt P w v l) {i:Nat} (hi:i<l.length):∃ g off cap x a m c,v=.slice (some ⟨g,off,none⟩) l.length cap∧w.cell? ⟨g,off+i*2,none⟩=some (.int .i64 x)∧w.cell? ⟨g,off+i*2+1,none⟩=some (.slice a m c)∧WhAt P w (.agg #[.int .i64 x,.slice a m c]) (l.getD i 0):=by
 obtain ⟨g,off,cap,cs,rfl,_,hg⟩:=h.get (by omega)
 obtain ⟨x,a,m,c,h1,h2,h3⟩:=hg i hi
 exact ⟨g,off,cap,x,a,m,c,rfl,h1,h2,by rw [List.getD_eq_getElem?_getD,List.getElem?_eq_getElem hi];exact h3⟩
section
section
section
attribute [local go_sem] valUpon
set_option maxHeartbeats 20000000 in
theorem along_any (P:Nat→Prop) (K n:Nat) (a st:List Int) (va vs:Value) (w:World) (hP:∀ b,w.heap.size≤b→P b) (ha:RowAt P w va a) (hst:RowAt P w vs st) (hla:a.length=n+1) (hls:st.length=n) (hn:n≤100) (hal:∀ k,Pl.Lt K (a.getD k 0)) (hsl:∀ k,Pl.Lt K (st.getD k 0)) (hK:2*K+1≤1500000000000) :
  Calls Try.prog 110 #[va,vs] w fun e w'=>∃ v',e=.returned v'∧WhAt P w' v' (alongP a st n)∧Below w.heap.size w w':=by
 have HRA:=hide ha
 have HRS:=hide hst
 obtain ⟨aa,ac,rfl⟩:∃ ad cap,va=.slice ad (n+1) cap:=by obtain ⟨ad,cap,e,_⟩:=ha;rw [hla] at e;exact ⟨ad,cap,e⟩
 obtain ⟨sa,sc,rfl⟩:∃ ad cap,vs=.slice ad n cap:=by obtain ⟨ad,cap,e,_⟩:=hst;rw [hls] at e;exact ⟨ad,cap,e⟩
 have HLA:=hide (And.intro hla hls)
 have HW0:=hide (And.intro (slot_one w (.cells #[.int .i64 0,.slice none 0 0] 82)) (Grows.trans (Grows.alloc w (.cells #[.int .i64 0,.slice none 0 0] 82)) (Grows.alloc _ (.cells #[.int .i64 0,.slice none 0 0] 82))))
 have HV0:Hid (VarAt P ((w.alloc (.cells #[.int .i64 0,.slice none 0 0] 82)).alloc (.cells #[.int .i64 0,.slice none 0 0] 82)) (w.heap.size+1) 0 none 0 0 0):=⟨by have:=slot_one (w.alloc (.cells #[.int .i64 0,.slice none 0 0] 82)) (.cells #[.int .i64 0,.slice none 0 0] 82);rwa [World.size_alloc] at this,.inl ⟨rfl,by decide,by decide⟩⟩
 have HZ0:Hid (((w.alloc (.cells #[.int .i64 0,.slice none 0 0] 82)).alloc (.cells #[.int .i64 0,.slice none 0 0] 82)).heap[w.heap.size]?=some (.cells #[.int .i64 0,.slice none 0 0] 82)):=Below.same (Grows.alloc (w.alloc (.cells #[.int .i64 0,.slice none 0 0] 82)) (.cells #[.int .i64 0,.slice none 0 0] 82)) _ _ (slot_one w (.cells #[.int .i64 0,.slice none 0 0] 82))
 have HG0:Hid (Grows w ((w.alloc (.cells #[.int .i64 0,.slice none 0 0] 82)).alloc (.cells #[.int .i64 0,.slice none 0 0] 82))):=Grows.trans (Grows.alloc w (.cells #[.int .i64 0,.slice none 0 0] 82)) (Grows.alloc _ (.cells #[.int .i64 0,.slice none 0 0] 82))
 clear ha hst hla hls HW0
 go_enter Try.func110,Try.ntmps110
 go_wp2_with fail
 go_loopg [6] n (fun k iv wr=>∃ (i:Nat) (rx:Int) (ra:Option Addr) (rm rc:Nat),iv=.int .i64 i∧i+k=n∧Hid (VarAt P wr (w.heap.size+1) rx ra rm rc (alongP a st i)∧Grows w wr∧wr.heap[w.heap.size]?=some (.cells #[.int .i64 0,.slice none 0 0] 82)))
 case atStart=>exact ⟨0,0,none,0,0,rfl,by omega,uh HV0,uh HG0,uh HZ0⟩
 case round =>
  obtain ⟨i,rx,ra,rm,rc,rfl,hik,HR⟩:=hrel
  by_cases hlt:i<n
  ·obtain ⟨ga,oa,ca,px,pa,pm,pc,ea,p0,p1,hpv⟩:=row_cell ((uh HRA).below (uh HR).2.1) (i:=i+1) (by rw [(uh HLA).1];omega)
   obtain ⟨gs,os,cs,qx,qa,qm,qc,es,q0,q1,hqv⟩:=row_cell ((uh HRS).below (uh HR).2.1) (i:=i) (by rw [(uh HLA).2];omega)
   rw [(uh HLA).1] at ea
   rw [(uh HLA).2] at es
   cases ea
   cases es
   have HPV:=hide hpv
   have HQV:=hide hqv
   obtain ⟨r0,r1,_⟩:=(uh HR).1.cells
   have hi1:i+1<n+1:=by omega
   have hI:(i:Int)+1<(n:Int)+1:=by omega
   have hI0:(0:Int)≤(i:Int)+1:=by omega
   have hwi:IntKind.i64.wrap ((i:Int)+1)=(i:Int)+1:=by rw [IntKind.wrap_i64];omega
   have htn:((i:Int)+1).toNat=i+1:=by omega
   have y1:=cell_regrown p0
   have y2:=cell_regrown p1
   have y3:=cell_regrown q0
   have y4:=cell_regrown q1
   have y5:=cell_regrown r0
   have y6:=cell_regrown r1
   clear hpv hqv
   go_wp2_with fail
   clear p0 p1 q0 q1 r0 r1
   refine wp_region_grown (phiL [(30,fun v w=>WhAt P w v (a.getD (i+1) 0*st.getD i 0)),(31,fun v w=>WhAt P w v (alongP a st i+a.getD (i+1) 0*st.getD i 0))]) (gL [(30,ShapeI),(31,ShapeI)]) 33 12 (by kernel_rfl) (by rfl) (by kernel_rfl) (phi_c (fun _ _ _=>WhAt.below) (phi_c (fun _ _ _=>WhAt.below) phi_n)) ?_
   iterate 10 (refine lex_s fun K hK=>?_;go_simp;refine hK _ ?_;clear hK K)
   refine lex_call ShapeI 93 #[.agg #[.int .i64 px,.slice pa pm pc],.agg #[.int .i64 qx,.slice qa qm qc]] (by rfl) (by rfl) ShapeI.some (fun w=>by go_simp) (fun w1 hg hf=>(Mul_any P K (a.getD (i+1) 0) (st.getD i 0) _ _ w1 (fun b' hb'=>hP b' (by have:=(Grows.trans (uh HR).2.1 hg).size;omega)) ((uh HPV).below hg) ((uh HQV).below hg) (by omega) (hal _) (hsl _)).mono (by rintro e w' ⟨v',rfl,hv,hb⟩;exact ⟨_,rfl,hb,hv.shapeI,fun t ht=>by cases ht;exact hv⟩)) ?_
   rintro _ ⟨cx,ca,cm,cc,rfl⟩
   refine lex_call ShapeI 90 #[.agg #[.int .i64 rx,.slice ra rm rc],.agg #[.int .i64 cx,.slice ca cm cc]] (by rfl) (by rfl) ShapeI.some (fun w=>by go_simp) (fun w1 hg hf=>(Add_any P (2*K+1) (alongP a st i) (a.getD (i+1) 0*st.getD i 0) _ _ w1 (fun b' hb'=>hP b' (by have:=(Grows.trans (uh HR).2.1 hg).size;omega)) ((uh HR).1.val.below hg) (hf 10 (by kernel_rfl) _ 30 rfl rfl) hK (along_lt hal hsl (by omega)) (Pl.Lt.mono (Pl.Lt.mul (hal _) (hsl _)) (by omega))).mono (by rintro e w' ⟨v',rfl,hv,hb⟩;exact ⟨_,rfl,hb,hv.shapeI,fun t ht=>by cases ht;exact hv⟩)) ?_
   rintro _ ⟨ex,ea,em,ec,rfl⟩
   refine lex_last ?_
   intro w2 hg2 hphi
   have q31:WhAt P w2 (.agg #[.int .i64 ex,.slice ea em ec]) (alongP a st i+a.getD (i+1) 0*st.getD i 0):=hphi 11 _ 31 (by decide) rfl rfl
   clear hphi y1 y2 y3 y4 y5 y6
   have hblk:=((uh HR).1.grow hg2).heap
   have s0:=(int_cells hblk).1
   have s1:=(int_cells hblk).2.1
   have s2:=(int_cells hblk).2.2.1
   have s3:=(int_cells hblk).2.2.2
   have HVd:=hide (store_new (Grows.trans (uh HR).2.1 hg2) (show w.heap.size≤w.heap.size+1 by omega) hblk q31).1
   have HG2:=hide (store_new (Grows.trans (uh HR).2.1 hg2) (show w.heap.size≤w.heap.size+1 by omega) hblk q31).2
   have HZ2:Hid (((w2.setCell ⟨w.heap.size+1,0,none⟩ (.int .i64 ex)).setCell ⟨w.heap.size+1,1,none⟩ (.slice ea em ec)).heap[w.heap.size]?=some (.cells #[.int .i64 0,.slice none 0 0] 82 (0,0))):=(int_far (show w.heap.size≠w.heap.size+1 by omega) _ _).trans (Below.same hg2 _ _ (uh HR).2.2)
   clear q31 hblk hg2
   go_wp2
   go_roundg (gk - 1)
   case measure=>omega
   case rel=>exact ⟨i+1,ex,ea,em,ec,by simp,by omega,uh HVd,uh HG2,uh HZ2⟩
  ·have hin:i=n:=by omega
   subst hin
   obtain ⟨r0,r1,_⟩:=(uh HR).1.cells
   obtain ⟨z0,z1,z2,z3⟩:=int_cells (uh HR).2.2
   have n1:w.heap.size≠w.heap.size+1:=by omega
   have HV:=hide ((uh HR).1.val.sets (uh HR).2.2 (.int .i64 rx) (.slice ra rm rc))
   have HG:Hid (Grows w ((wr.setCell ⟨w.heap.size,0,none⟩ (.int .i64 rx)).setCell ⟨w.heap.size,1,none⟩ (.slice ra rm rc))):=(Below.setCell (p:=⟨w.heap.size,0,none⟩) (uh HR).2.1 (Nat.le_refl _) _).setCell (p:=⟨w.heap.size,1,none⟩) (Nat.le_refl _) _
   go_wp2
   exact bodyPost_ret (v:=.agg #[.int .i64 rx,.slice ra rm rc]) (by simp [results,Try.results110,go_sem,z0,z1]) rfl ⟨_,rfl,uh HV,uh HG⟩
end
theorem upd_next {f z:Nat→Int} {i:Nat} (k:Nat):updF (fun k=>if k<i then f k else z k) i (f i) k=if k<i+1 then f k else z k:=by
 unfold updF
 by_cases h:k=i
 ·subst h;rw [if_pos rfl,if_pos (by omega)]
 ·rw [if_neg h]
  dsimp only
  by_cases h2:k<i
  ·rw [if_pos h2,if_pos (by omega)]
  ·rw [if_neg h2,if_neg (by omega)]
theorem RowIn.free {P:Nat→Prop} {w:World} {g n:Nat} {f:Nat→Int} (h:RowIn P w g n f) (o:Nat):w.frozen? ⟨g,o,none⟩=false:=by
 obtain ⟨cs,hb,_⟩:=h
 exact freeOf hb o
theorem rows_cell {P:Nat→Prop} {w:World} {v:Value} {ls:List (List Int)} (h:RowsAt P w v ls) {i:Nat} (hi:i<ls.length):∃ g off cap u,v=.slice (some ⟨g,off,none⟩) ls.length cap∧w.cell? ⟨g,off+i,none⟩=some u∧RowAt P w u (ls.getD i [])∧ls.getD i []∈ls:=by
 obtain ⟨g,off,cap,cs,rfl,_,hg⟩:=h.get (by omega)
 obtain ⟨u,h1,h2⟩:=hg i hi
 have e:ls.getD i []=ls[i]:=by rw [List.getD_eq_getElem?_getD,List.getElem?_eq_getElem hi];rfl
 exact ⟨g,off,cap,u,rfl,h1,by rw [e];exact h2,by rw [e];exact List.getElem_mem hi⟩
attribute [local go_sem] valUpon
set_option maxHeartbeats 20000000 in
theorem divided_any (P:Nat→Prop) (K n:Nat) (a:List Int) (dv:Int) (va vd:Value) (w:World) (hP:∀ b,w.heap.size≤b→P b) (ha:RowAt P w va a) (hd:WhAt P w vd dv) (hla:a.length=n) (hn:n≤1000) (hal:∀ k,Pl.Lt K (a.getD k 0)) (hdl:Pl.Lt K dv) (hK:K≤1500000000000) :
  Calls Try.prog 82 #[va,vd] w fun e w'=>∃ v',e=.returned v'∧RowAt P w' v' ((List.range n).map fun k=>Int.fdiv (a.getD k 0) dv)∧Below w.heap.size w w':=by
 obtain ⟨i0,hi0,hz0,hz1,hz2⟩:=info_parts Try.infoWhole
 have HRA:=hide ha
 have HLA:=hide hla
 obtain ⟨aa,ac,rfl⟩:∃ ad cap,va=.slice ad n cap:=by obtain ⟨ad,cap,e,_⟩:=ha;rw [hla] at e;exact ⟨ad,cap,e⟩
 obtain ⟨dx,da,dm,dc,rfl⟩:=hd.shape
 have HD:=hide (var_new hd)
 have HGa:Hid (Grows w (w.alloc (.cells #[.int .i64 dx,.slice da dm dc] 82))):=Grows.alloc _ _
 clear ha hd hla
 go_enter Try.func82,Try.ntmps82
 go_wp2_with (at_make;refine wpList_make_full _ rfl _ _ 73 rfl (w.heap.size+1) 82 i0 (.agg #[.int .i64 0,.slice none 0 0]) 2 Try.underlying73 hi0 hz0 hz1 .i64 .i64 _ _ n rfl rfl ?e1 ?e2 ?c1 ?c2 ?c3 ?_)
 case e1=>first | rfl | omega | simp
 case e2=>first | rfl | omega | simp
 case c1=>rw [hz2];omega
 case c2=>unfold maxLen;omega
 case c3=>first | omega | simp
 ·intro w1 hown hgrow
  have hG1:Grows (w.alloc (.cells #[.int .i64 dx,.slice da dm dc] 82)) w1:=(Below.refl _ _).grown hgrow (Nat.le_refl _) (by intro k hk;cases hk)
  have HRI:Hid (RowIn P w1 (w.heap.size+1) n (fun _=>0)):=RowIn.made hown
  have HG1:Hid (Grows w w1):=(uh HGa).trans hG1
  have HD1:=hide ((uh HD).grow hG1)
  clear hown hgrow hG1 HD HGa
  go_wp2_with fail
  go_loopg [6] n (fun k iv wr=>∃ (i:Nat),iv=.int .i64 i∧i+k=n∧Hid (RowIn P wr (w.heap.size+1) n (fun k=>if k<i then Int.fdiv (a.getD k 0) dv else 0)∧Grows w wr∧VarAt P wr w.heap.size dx da dm dc dv))
  case atStart=>exact ⟨0,rfl,by omega,(uh HRI).congr (fun i _=>by rw [if_neg (by omega)]),uh HG1,uh HD1⟩
  case round =>
   obtain ⟨i,rfl,hik,HR⟩:=hrel
   by_cases hlt:i<n
   ·obtain ⟨ox,oy,om,oc,r00,r01,_⟩:=(uh HR).1.get hlt
    obtain ⟨ga,oa,ca,px,pa,pm,pc,ea,p0,p1,hpv⟩:=row_cell ((uh HRA).below (uh HR).2.1) (i:=i) (by rw [uh HLA];exact hlt)
    rw [uh HLA] at ea
    cases ea
    have HPV:=hide hpv
    obtain ⟨d0,d1,_⟩:=(uh HR).2.2.cells
    have y1:=cell_regrown p0
    have y2:=cell_regrown p1
    have y3:=cell_regrown d0
    have y4:=cell_regrown d1
    clear hpv
    go_wp2_with fail
    clear p0 p1 d0 d1
    refine wp_region_grown (phiL [(23,fun v w=>WhAt P w v (Int.fdiv (a.getD i 0) dv))]) (gL [(23,ShapeI)]) 26 9 (by kernel_rfl) (by rfl) (by kernel_rfl) (phi_c (fun _ _ _=>WhAt.below) phi_n) ?_
    iterate 7 (refine lex_s fun K hK=>?_;go_simp;refine hK _ ?_;clear hK K)
    refine lex_call ShapeI 91 #[.agg #[.int .i64 px,.slice pa pm pc],.agg #[.int .i64 dx,.slice da dm dc]] (by rfl) (by rfl) ShapeI.some (fun w=>by go_simp) (fun w1 hg hf=>(Div_any P K (a.getD i 0) dv _ _ w1 (fun b' hb'=>hP b' (by have:=(Grows.trans (uh HR).2.1 hg).size;omega)) ((uh HPV).below hg) ((uh HR).2.2.val.below hg) hK (hal _) hdl).mono (by rintro e w' ⟨v',rfl,hv,hb⟩;exact ⟨_,rfl,hb,hv.shapeI,fun t ht=>by cases ht;exact hv⟩)) ?_
    rintro _ ⟨nx,na,nm,nc,rfl⟩
    (refine lex_s fun K hK=>?_;go_simp;refine hK _ ?_;clear hK K)
    refine lex_last ?_
    intro w2 hw2 hphi
    have hv2:WhAt P w2 (.agg #[.int .i64 nx,.slice na nm nc]) (Int.fdiv (a.getD i 0) dv):=hphi 7 _ 23 (by decide) rfl rfl
    clear hphi y1 y2 y3 y4
    have hR2:=(uh HR).1.grow hw2
    have r0:=Grows.cell hw2 r00
    have r1:=Grows.cell hw2 r01
    have f0:=hR2.free (i*2)
    have f1:=hR2.free (i*2+1)
    have HRI2:Hid (RowIn P ((w2.setCell ⟨w.heap.size+1,i*2,none⟩ (.int .i64 nx)).setCell ⟨w.heap.size+1,i*2+1,none⟩ (.slice na nm nc)) (w.heap.size+1) n (fun k=>if k<i+1 then Int.fdiv (a.getD k 0) dv else 0)):=(hR2.set hlt hv2).congr (fun k _=>upd_next (f:=fun k=>Int.fdiv (a.getD k 0) dv) (z:=fun _=>0) k)
    have HG2:Hid (Grows w ((w2.setCell ⟨w.heap.size+1,i*2,none⟩ (.int .i64 nx)).setCell ⟨w.heap.size+1,i*2+1,none⟩ (.slice na nm nc))):=(Below.setCell (p:=⟨w.heap.size+1,i*2,none⟩) (Grows.trans (uh HR).2.1 hw2) (by show w.heap.size≤w.heap.size+1;omega) _).setCell (p:=⟨w.heap.size+1,i*2+1,none⟩) (by show w.heap.size≤w.heap.size+1;omega) _
    have HV2:Hid (VarAt P ((w2.setCell ⟨w.heap.size+1,i*2,none⟩ (.int .i64 nx)).setCell ⟨w.heap.size+1,i*2+1,none⟩ (.slice na nm nc)) w.heap.size dx da dm dc dv):=var_set2 ((uh HR).2.2.grow hw2) hR2.block.choose_spec (by decide) (by omega) _ _ _ _
    clear hv2 hw2 hR2
    go_wp2
    go_roundg (gk - 1)
    case measure=>omega
    case rel=>exact ⟨i+1,by simp,by omega,uh HRI2,uh HG2,uh HV2⟩
   ·have hin:i=n:=by omega
    have HF:Hid (RowAt P wr (.slice (some ⟨w.heap.size+1,0,none⟩) n n) ((List.range n).map fun k=>Int.fdiv (a.getD k 0) dv)):=((uh HR).1.congr (f':=fun k=>Int.fdiv (a.getD k 0) dv) (fun k hk=>by rw [if_pos (by omega)])).row (hP _ (by omega))
    go_wp2
    go_ret
    exact ⟨_,rfl,uh HF,(uh HR).2.1⟩
set_option maxHeartbeats 20000000 in
theorem opposite_any (P:Nat→Prop) (n:Nat) (a:List Int) (va:Value) (w:World) (hP:∀ b,w.heap.size≤b→P b) (ha:RowAt P w va a) (hla:a.length=n) (hn:n≤1000) :
  Calls Try.prog 64 #[va] w fun e w'=>∃ v',e=.returned v'∧RowAt P w' v' (a.map fun x=>-x)∧Below w.heap.size w w':=by
 obtain ⟨i0,hi0,hz0,hz1,hz2⟩:=info_parts Try.infoWhole
 have HRA:=hide ha
 have HLA:=hide hla
 obtain ⟨aa,ac,rfl⟩:∃ ad cap,va=.slice ad n cap:=by obtain ⟨ad,cap,e,_⟩:=ha;rw [hla] at e;exact ⟨ad,cap,e⟩
 clear ha hla
 go_enter Try.func64,Try.ntmps64
 go_wp2_with (at_make;refine wpList_make_full _ rfl _ _ 73 rfl w.heap.size 82 i0 (.agg #[.int .i64 0,.slice none 0 0]) 2 Try.underlying73 hi0 hz0 hz1 .i64 .i64 _ _ n rfl rfl ?e1 ?e2 ?c1 ?c2 ?c3 ?_)
 case e1=>first | rfl | omega | simp
 case e2=>first | rfl | omega | simp
 case c1=>rw [hz2];omega
 case c2=>unfold maxLen;omega
 case c3=>first | omega | simp
 ·intro w1 hown hgrow
  have hG1:Grows w w1:=(Below.refl _ _).grown hgrow (Nat.le_refl _) (by intro k hk;cases hk)
  have HRI:Hid (RowIn P w1 w.heap.size n (fun _=>0)):=RowIn.made hown
  have HG1:Hid (Grows w w1):=hG1
  clear hown hgrow hG1
  go_wp2_with fail
  go_loopg [4] n (fun k iv wr=>∃ (i:Nat),iv=.int .i64 i∧i+k=n∧Hid (RowIn P wr w.heap.size n (fun k=>if k<i then -a.getD k 0 else 0)∧Grows w wr∧True))
  case atStart=>exact ⟨0,rfl,by omega,(uh HRI).congr (fun i _=>by rw [if_neg (by omega)]),uh HG1,trivial⟩
  case round =>
   obtain ⟨i,rfl,hik,HR⟩:=hrel
   by_cases hlt:i<n
   ·obtain ⟨ox,oy,om,oc,r00,r01,_⟩:=(uh HR).1.get hlt
    obtain ⟨ga,oa,ca,px,pa,pm,pc,ea,p0,p1,hpv⟩:=row_cell ((uh HRA).below (uh HR).2.1) (i:=i) (by rw [uh HLA];exact hlt)
    rw [uh HLA] at ea
    cases ea
    have HN:=hide (Neg_any P _ _ _ hpv)
    clear hpv
    go_wp2_with fail
    refine (uh HN).mono ?_
    rintro e w2 ⟨v2,rfl,hv2,hw2⟩
    obtain ⟨nx,na,nm,nc,rfl⟩:=hv2.shape
    have hR2:=(uh HR).1.grow hw2
    have r0:=Grows.cell hw2 r00
    have r1:=Grows.cell hw2 r01
    have f0:=hR2.free (i*2)
    have f1:=hR2.free (i*2+1)
    have HRI2:Hid (RowIn P ((w2.setCell ⟨w.heap.size,i*2,none⟩ (.int .i64 nx)).setCell ⟨w.heap.size,i*2+1,none⟩ (.slice na nm nc)) (w.heap.size) n (fun k=>if k<i+1 then -a.getD k 0 else 0)):=(hR2.set hlt hv2).congr (fun k _=>upd_next (f:=fun k=>-a.getD k 0) (z:=fun _=>0) k)
    have HG2:Hid (Grows w ((w2.setCell ⟨w.heap.size,i*2,none⟩ (.int .i64 nx)).setCell ⟨w.heap.size,i*2+1,none⟩ (.slice na nm nc))):=(Below.setCell (p:=⟨w.heap.size,i*2,none⟩) (Grows.trans (uh HR).2.1 hw2) (by show w.heap.size≤w.heap.size;omega) _).setCell (p:=⟨w.heap.size,i*2+1,none⟩) (by show w.heap.size≤w.heap.size;omega) _
    clear hv2 hw2 hR2
    go_wp2
    go_roundg (gk - 1)
    case measure=>omega
    case rel=>exact ⟨i+1,by simp,by omega,uh HRI2,uh HG2,trivial⟩
   ·have hin:i=n:=by omega
    have HF:Hid (RowAt P wr (.slice (some ⟨w.heap.size,0,none⟩) n n) (a.map fun x=>-x)):=by
     unfold Hid
     rw [←range_neg a n (uh HLA)]
     exact ((uh HR).1.congr (f':=fun k=>-a.getD k 0) (fun k hk=>by rw [if_pos (by omega)])).row (hP _ (Nat.le_refl _))
    go_wp2
    go_ret
    exact ⟨_,rfl,uh HF,(uh HR).2.1⟩
end
def commonP (a:List Int):Nat→Int
 | 0=>0
 | i+1=>Int.gcd (commonP a i) (a.getD (i+1) 0)
theorem Pl.Lt.gcd {K:Nat} {a b:Int} (ha:Pl.Lt K a) (hb:Pl.Lt K b):Pl.Lt K (Int.gcd a b):=by
 rw [Pl.lt_nat] at *
 rw [Int.natAbs_natCast]
 by_cases h:b=0
 ·subst h;rw [Int.gcd_zero_right];exact ha
 ·exact Nat.lt_of_le_of_lt (Nat.le_of_dvd (by omega) (Int.gcd_dvd_natAbs_right a b)) hb
theorem common_lt {K:Nat} {a:List Int} (ha:∀ k,Pl.Lt K (a.getD k 0)):∀ i,Pl.Lt K (commonP a i)
 | 0=>by rw [Pl.lt_nat];exact Nat.pow_pos (by omega)
 | i+1=>(common_lt ha i).gcd (ha _)
attribute [local go_sem] valUpon
set_option maxHeartbeats 20000000 in
theorem common_any (P:Nat→Prop) (K n:Nat) (a:List Int) (va:Value) (w:World) (hP:∀ b,w.heap.size≤b→P b) (ha:RowAt P w va a) (hla:a.length=n+1) (hn:n≤100) (hal:∀ k,Pl.Lt K (a.getD k 0)) (hK:K≤1500000000000) :
  Calls Try.prog 80 #[va] w fun e w'=>∃ v',e=.returned v'∧WhAt P w' v' (commonP a n)∧Below w.heap.size w w':=by
 have HRA:=hide ha
 obtain ⟨aa,ac,rfl⟩:∃ ad cap,va=.slice ad (n+1) cap:=by obtain ⟨ad,cap,e,_⟩:=ha;rw [hla] at e;exact ⟨ad,cap,e⟩
 have HLA:=hide hla
 have HV0:Hid (VarAt P ((w.alloc (.cells #[.int .i64 0,.slice none 0 0] 82)).alloc (.cells #[.int .i64 0,.slice none 0 0] 82)) (w.heap.size+1) 0 none 0 0 0):=⟨by have:=slot_one (w.alloc (.cells #[.int .i64 0,.slice none 0 0] 82)) (.cells #[.int .i64 0,.slice none 0 0] 82);rwa [World.size_alloc] at this,.inl ⟨rfl,by decide,by decide⟩⟩
 have HZ0:Hid (((w.alloc (.cells #[.int .i64 0,.slice none 0 0] 82)).alloc (.cells #[.int .i64 0,.slice none 0 0] 82)).heap[w.heap.size]?=some (.cells #[.int .i64 0,.slice none 0 0] 82)):=Below.same (Grows.alloc (w.alloc (.cells #[.int .i64 0,.slice none 0 0] 82)) (.cells #[.int .i64 0,.slice none 0 0] 82)) _ _ (slot_one w (.cells #[.int .i64 0,.slice none 0 0] 82))
 have HG0:Hid (Grows w ((w.alloc (.cells #[.int .i64 0,.slice none 0 0] 82)).alloc (.cells #[.int .i64 0,.slice none 0 0] 82))):=Grows.trans (Grows.alloc w (.cells #[.int .i64 0,.slice none 0 0] 82)) (Grows.alloc _ (.cells #[.int .i64 0,.slice none 0 0] 82))
 clear ha hla
 go_enter Try.func80,Try.ntmps80
 go_wp2_with fail
 go_loopg [4] n (fun k iv wr=>∃ (i:Nat) (rx:Int) (ra:Option Addr) (rm rc:Nat),iv=.int .i64 ((i:Int)+1)∧i+k=n∧Hid (VarAt P wr (w.heap.size+1) rx ra rm rc (commonP a i)∧Grows w wr∧wr.heap[w.heap.size]?=some (.cells #[.int .i64 0,.slice none 0 0] 82)))
 case atStart=>exact ⟨0,0,none,0,0,by simp,by omega,uh HV0,uh HG0,uh HZ0⟩
 case round =>
  obtain ⟨i,rx,ra,rm,rc,rfl,hik,HR⟩:=hrel
  by_cases hlt:i<n
  ·obtain ⟨ga,oa,ca,px,pa,pm,pc,ea,p0,p1,hpv⟩:=row_cell ((uh HRA).below (uh HR).2.1) (i:=i+1) (by rw [uh HLA];omega)
   rw [uh HLA] at ea
   cases ea
   have HPV:=hide hpv
   obtain ⟨r0,r1,_⟩:=(uh HR).1.cells
   have hi1:i+1<n+1:=by omega
   have hI:(i:Int)+1<(n:Int)+1:=by omega
   have hI0:(0:Int)≤(i:Int)+1:=by omega
   have hwi:IntKind.i64.wrap ((i:Int)+1+1)=(i:Int)+1+1:=by rw [IntKind.wrap_i64];omega
   have htn:((i:Int)+1).toNat=i+1:=by omega
   have y1:=cell_regrown p0
   have y2:=cell_regrown p1
   have y5:=cell_regrown r0
   have y6:=cell_regrown r1
   clear hpv
   go_wp2_with fail
   clear p0 p1 r0 r1
   refine wp_region_grown (phiL [(16,fun v w=>WhAt P w v (Int.gcd (commonP a i) (a.getD (i+1) 0)))]) (gL [(16,ShapeI)]) 18 6 (by kernel_rfl) (by rfl) (by kernel_rfl) (phi_c (fun _ _ _=>WhAt.below) phi_n) ?_
   iterate 5 (refine lex_s fun K hK=>?_;go_simp;refine hK _ ?_;clear hK K)
   refine lex_call ShapeI 113 #[.agg #[.int .i64 rx,.slice ra rm rc],.agg #[.int .i64 px,.slice pa pm pc]] (by rfl) (by rfl) ShapeI.some (fun w=>by go_simp) (fun w1 hg hf=>(Gcd_any P K (commonP a i) (a.getD (i+1) 0) _ _ w1 (fun b' hb'=>hP b' (by have:=(Grows.trans (uh HR).2.1 hg).size;omega)) ((uh HR).1.val.below hg) ((uh HPV).below hg) hK (common_lt hal _) (hal _)).mono (by rintro e w' ⟨v',rfl,hv,hb⟩;exact ⟨_,rfl,hb,hv.shapeI,fun t ht=>by cases ht;exact hv⟩)) ?_
   rintro _ ⟨ex,ea,em,ec,rfl⟩
   refine lex_last ?_
   intro w2 hg2 hphi
   have q16:WhAt P w2 (.agg #[.int .i64 ex,.slice ea em ec]) (Int.gcd (commonP a i) (a.getD (i+1) 0)):=hphi 5 _ 16 (by decide) rfl rfl
   clear hphi y1 y2 y5 y6
   have hblk:=((uh HR).1.grow hg2).heap
   have s0:=(int_cells hblk).1
   have s1:=(int_cells hblk).2.1
   have s2:=(int_cells hblk).2.2.1
   have s3:=(int_cells hblk).2.2.2
   have HVd:=hide (store_new (Grows.trans (uh HR).2.1 hg2) (show w.heap.size≤w.heap.size+1 by omega) hblk q16).1
   have HG2:=hide (store_new (Grows.trans (uh HR).2.1 hg2) (show w.heap.size≤w.heap.size+1 by omega) hblk q16).2
   have HZ2:Hid (((w2.setCell ⟨w.heap.size+1,0,none⟩ (.int .i64 ex)).setCell ⟨w.heap.size+1,1,none⟩ (.slice ea em ec)).heap[w.heap.size]?=some (.cells #[.int .i64 0,.slice none 0 0] 82 (0,0))):=(int_far (show w.heap.size≠w.heap.size+1 by omega) _ _).trans (Below.same hg2 _ _ (uh HR).2.2)
   clear q16 hblk hg2
   go_wp2
   go_roundg (gk - 1)
   case measure=>omega
   case rel=>exact ⟨i+1,ex,ea,em,ec,by simp,by omega,uh HVd,uh HG2,uh HZ2⟩
  ·have hin:i=n:=by omega
   subst hin
   obtain ⟨r0,r1,_⟩:=(uh HR).1.cells
   obtain ⟨z0,z1,z2,z3⟩:=int_cells (uh HR).2.2
   have n1:w.heap.size≠w.heap.size+1:=by omega
   have HV:=hide ((uh HR).1.val.sets (uh HR).2.2 (.int .i64 rx) (.slice ra rm rc))
   have HG:Hid (Grows w ((wr.setCell ⟨w.heap.size,0,none⟩ (.int .i64 rx)).setCell ⟨w.heap.size,1,none⟩ (.slice ra rm rc))):=(Below.setCell (p:=⟨w.heap.size,0,none⟩) (uh HR).2.1 (Nat.le_refl _) _).setCell (p:=⟨w.heap.size,1,none⟩) (Nat.le_refl _) _
   go_wp2
   exact bodyPost_ret (v:=.agg #[.int .i64 rx,.slice ra rm rc]) (by simp [results,Try.results80,go_sem,z0,z1]) rfl ⟨_,rfl,uh HV,uh HG⟩
def nextP (x:Int):Int:=if 0<x then -x else 1 - x
set_option maxHeartbeats 20000000 in
theorem nextOffset_any (P:Nat→Prop) (K:Nat) (x:Int) (vx:Value) (w:World) (hP:∀ b,w.heap.size≤b→P b) (h:WhAt P w vx x) (hx:Pl.Lt K x) (hK1:1≤K) (hK:K≤1500000000000) :
  Calls Try.prog 123 #[vx] w fun e w'=>∃ v',e=.returned v'∧WhAt P w' v' (nextP x)∧Below w.heap.size w w':=by
 obtain ⟨px,pa,pm,pc,rfl⟩:=h.shape
 have HV0:=hide (var_new h)
 have HZ0:Hid (((w.alloc (.cells #[.int .i64 px,.slice pa pm pc] 82)).alloc (.cells #[.int .i64 0,.slice none 0 0] 82)).heap[w.heap.size+1]?=some (.cells #[.int .i64 0,.slice none 0 0] 82)):=by
  have:=slot_one (w.alloc (.cells #[.int .i64 px,.slice pa pm pc] 82)) (.cells #[.int .i64 0,.slice none 0 0] 82)
  rwa [World.size_alloc] at this
 have HV:=hide ((uh HV0).grow (Grows.alloc _ (.cells #[.int .i64 0,.slice none 0 0] 82)))
 have HG:Hid (Grows w ((w.alloc (.cells #[.int .i64 px,.slice pa pm pc] 82)).alloc (.cells #[.int .i64 0,.slice none 0 0] 82))):=Grows.trans (Grows.alloc _ _) (Grows.alloc _ (.cells #[.int .i64 0,.slice none 0 0] 82))
 clear h HV0
 go_enter Try.func123,Try.ntmps123
 go_wp2_with fail
 refine (Sign_any P _ _ _ (uh HV).val).mono ?_
 rintro e w1 ⟨rfl,hw1⟩
 have HG:=hide (Grows.trans (uh HG) hw1)
 have HV:=hide ((uh HV).grow hw1)
 have HZ1:=hide (Below.same hw1 _ _ (uh HZ0))
 have v0:=(uh HV).cells.1
 have v1:=(uh HV).cells.2.1
 clear hw1
 by_cases hp:0<x
 ·have HN:nextP x=-x:=if_pos hp
  have HNX:=hide HN
  rw [Int.sign_eq_one_of_pos hp]
  clear HN
  go_wp2_with fail
  refine (Neg_any P _ _ _ (uh HV).val).mono ?_
  rintro e w2 ⟨v2,rfl,hv2,hw2⟩
  obtain ⟨ex,ea,em,ec,rfl⟩:=hv2.shape
  have hblk:=Below.same hw2 _ _ (uh HZ1)
  obtain ⟨z0,z1,z2,z3⟩:=int_cells hblk
  have HVF:=hide (hv2.sets hblk (.int .i64 ex) (.slice ea em ec))
  have HGF:Hid (Grows w ((w2.setCell ⟨w.heap.size+1,0,none⟩ (.int .i64 ex)).setCell ⟨w.heap.size+1,1,none⟩ (.slice ea em ec))):=(Below.setCell (p:=⟨w.heap.size+1,0,none⟩) (Grows.trans (uh HG) hw2) (by show w.heap.size≤w.heap.size+1;omega) _).setCell (p:=⟨w.heap.size+1,1,none⟩) (by show w.heap.size≤w.heap.size+1;omega) _
  clear hv2 hw2 hblk
  go_wp2
  exact bodyPost_ret (v:=.agg #[.int .i64 ex,.slice ea em ec]) (by simp [results,Try.results123,go_sem,z0,z1]) rfl ⟨_,rfl,by rw [uh HNX];exact uh HVF,uh HGF⟩
 ·have HN:nextP x=1 - x:=if_neg hp
  have HNX:=hide HN
  obtain ⟨sg,hsg⟩:∃ sg,Int.sign x=sg:=⟨_,rfl⟩
  have d0:decide (0<sg)=false:=by
   rw [←hsg]
   rcases (show x<0∨x=0 by omega) with h|h
   ·rw [Int.sign_eq_neg_one_of_neg h];decide
   ·rw [h];decide
  rw [hsg]
  clear HN hsg
  have y1:=cell_regrown v0
  have y2:=cell_regrown v1
  go_wp2_with fail
  clear v0 v1
  refine wp_region_grown (phiL [(8,fun v w=>WhAt P w v 1),(10,fun v w=>WhAt P w v (1 - x))]) (gL [(8,ShapeI),(10,ShapeI)]) 11 3 (by kernel_rfl) (by rfl) (by kernel_rfl) (phi_c (fun _ _ _=>WhAt.below) (phi_c (fun _ _ _=>WhAt.below) phi_n)) ?_
  refine lex_call ShapeI 63 #[.int .i64 1] (by rfl) (by rfl) ShapeI.some (fun w=>by go_simp) (fun w1 hg hf=>(Of_any P 1 w1 (fun b' hb'=>hP b' (by have:=(Grows.trans (uh HG) hg).size;omega)) (by decide) (by decide)).mono (by rintro e w' ⟨v',rfl,hv,hb⟩;exact ⟨_,rfl,hb,hv.shapeI,fun t ht=>by cases ht;exact hv⟩)) ?_
  rintro _ ⟨cx,ca,cm,cc,rfl⟩
  (refine lex_s fun K hK=>?_;go_simp;refine hK _ ?_;clear hK K)
  refine lex_call ShapeI 92 #[.agg #[.int .i64 cx,.slice ca cm cc],.agg #[.int .i64 px,.slice pa pm pc]] (by rfl) (by rfl) ShapeI.some (fun w=>by go_simp) (fun w1 hg hf=>(Sub_any P K 1 x _ _ w1 (fun b' hb'=>hP b' (by have:=(Grows.trans (uh HG) hg).size;omega)) (hf 0 (by kernel_rfl) _ 8 rfl rfl) ((uh HV).val.below hg) hK (by rw [←Pl.Lt];rw [Pl.lt_nat];exact Nat.lt_of_lt_of_le (by decide) (Nat.pow_le_pow_right (by omega) hK1)) hx).mono (by rintro e w' ⟨v',rfl,hv,hb⟩;exact ⟨_,rfl,hb,hv.shapeI,fun t ht=>by cases ht;exact hv⟩)) ?_
  rintro _ ⟨ex,ea,em,ec,rfl⟩
  refine lex_last ?_
  intro w2 hg2 hphi
  have q10:WhAt P w2 (.agg #[.int .i64 ex,.slice ea em ec]) (1 - x):=hphi 2 _ 10 (by decide) rfl rfl
  clear hphi y1 y2
  have hblk:=Below.same hg2 _ _ (uh HZ1)
  have z0:=(int_cells hblk).1
  have z1:=(int_cells hblk).2.1
  have z2:=(int_cells hblk).2.2.1
  have z3:=(int_cells hblk).2.2.2
  have HVF:=hide (q10.sets hblk (.int .i64 ex) (.slice ea em ec))
  have HGF:Hid (Grows w ((w2.setCell ⟨w.heap.size+1,0,none⟩ (.int .i64 ex)).setCell ⟨w.heap.size+1,1,none⟩ (.slice ea em ec))):=(Below.setCell (p:=⟨w.heap.size+1,0,none⟩) (Grows.trans (uh HG) hg2) (by show w.heap.size≤w.heap.size+1;omega) _).setCell (p:=⟨w.heap.size+1,1,none⟩) (by show w.heap.size≤w.heap.size+1;omega) _
  clear q10 hg2 hblk
  go_wp2
  exact bodyPost_ret (v:=.agg #[.int .i64 ex,.slice ea em ec]) (by simp [results,Try.results123,go_sem,z0,z1]) rfl ⟨_,rfl,by rw [uh HNX];exact uh HVF,uh HGF⟩
end
end Go.Proofs.Ytfaljekgpnbmiaa

namespace Go.Proofs.Ytfaljekgpnbmiaa
open Go Go.RowKit
theorem run_copy_rows {P:Program} (w:World) (dT sT ty elem:TypeId) (k:Nat) (g o dLen dCap:Nat) (a:Addr) (sLen sCap:Nat) (cur:Array Value) (t:TypeId) (cs:List Value)
  (hu:P.underlying dT=some (.slice elem)) (hs:(P.info? elem).map (·.size)=some k)
  (hg:w.heap[g]?=some (.cells cur t (0,0))) (hn:cs.length=Nat.min sLen dLen*k)
  (hsrc:∀ j v,cs[j]?=some v→w.cell? (a.add j)=some v) (hfit:o+cs.length≤cur.size) (h1:∀ v∈cs,v.oneCell'=true) :
  (Builtin.copy_ #[dT,sT] ty #[.slice (some ⟨g,o,none⟩) dLen dCap,.slice (some a) sLen sCap]).run P w =
   .ok (goInt (Nat.min sLen dLen)) (w.setRow g (cur.toList.take o++cs++cur.toList.drop (o+cs.length)).toArray):=by
 have hl:=run_loadCells_list (P:=P) w a cs hsrc
 have hst:=run_storeCells_at P g o t cs 0 cur w hg (by simpa using hfit) h1
 cases hq:P.info? elem with
 | none=>simp [hq] at hs
 | some i =>
  have hi:i.size=k:=by simpa [hq] using hs
  simp [Builtin.copy_,run_underlying hu,Builtin.lenOf,Builtin.firstCells,sizeOf,typeInfo,hq,hi,←hn,hl,hst]
end Go.Proofs.Ytfaljekgpnbmiaa
