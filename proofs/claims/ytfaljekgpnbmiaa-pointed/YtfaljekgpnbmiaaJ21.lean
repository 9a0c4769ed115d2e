/- Joined: XSol4 XSol5 XList XSol6. -/
import Derived.Test.YtfaljekgpnbmiaaJ20
set_option linter.unusedVariables false
set_option linter.unusedSimpArgs false
set_option maxRecDepth 100000
namespace Go.Proofs.Ytfaljekgpnbmiaa
open Go.RowKit Go.Sort
def raisedP (a:List Int) (v:Int):List Int:=a.mapIdx fun k x=>if k=0 then x+v else x
theorem raised_range (a:List Int) (v:Int) {n:Nat} (h:a.length=n):(List.range n).map (updF (fun k=>a.getD k 0) 0 (a.getD 0 0+v))=raisedP a v:=by
 apply List.ext_getElem
 ·simp [raisedP,h]
 ·intro i h1 h2
  have h3:i<a.length:=by simpa [raisedP] using h2
  simp only [List.getElem_map,List.getElem_range,raisedP,List.getElem_mapIdx,updF]
  by_cases e:i=0
  ·subst e
   simp [List.getD_eq_getElem?_getD,List.getElem?_eq_getElem h3]
  ·rw [if_neg e,if_neg e,List.getD_eq_getElem?_getD,List.getElem?_eq_getElem h3];rfl
theorem row_list {P:Nat→Prop} {w:World} {v:Value} {l:List Int} (h:RowAt P w v l) (h0:0<l.length):∃ (g off cap:Nat) (cs:List Value),v=.slice (some ⟨g,off,none⟩) l.length cap∧cs.length=l.length*2∧(∀ j u,cs[j]?=some u→w.cell? ((⟨g,off,none⟩:Addr).add j)=some u)∧(∀ u∈cs,u.oneCell'=true) ∧
  ∀ i,i<l.length→∃ x a m c,cs[i*2]?=some (.int .i64 x)∧cs[i*2+1]?=some (.slice a m c)∧WhAt P w (.agg #[.int .i64 x,.slice a m c]) (l.getD i 0):=by
 obtain ⟨g,off,cap,scs,rfl,hb,hg⟩:=h.get h0
 have hadd:∀ j,(⟨g,off,none⟩:Addr).add j=⟨g,off+j,none⟩:=fun j=>by unfold Addr.add;split <;> simp_all
 have hone:∀ j,j<l.length*2→∃ u,w.cell? ⟨g,off+j,none⟩=some u∧u.oneCell'=true:=fun j hj=>by
  obtain ⟨x,a,m,c,h1,h2,_⟩:=hg (j/2) (by omega)
  rcases (show j=j/2*2∨j=j/2*2+1 by omega) with e|e
  ·exact ⟨.int .i64 x,by rw [e];exact h1,rfl⟩
  ·exact ⟨.slice a m c,by rw [e,←Nat.add_assoc];exact h2,rfl⟩
 refine ⟨g,off,cap,(List.range (l.length*2)).map (fun j=>(w.cell? ⟨g,off+j,none⟩).getD undef),rfl,by simp,fun j u hu=>?_,fun u hu=>?_,fun i hi=>?_⟩
 ·rw [List.getElem?_map] at hu
  by_cases hj:j<l.length*2
  ·rw [List.getElem?_range hj] at hu
   obtain ⟨u',h1,_⟩:=hone j hj
   rw [hadd,h1]
   simp [h1] at hu
   rw [hu]
  ·rw [List.getElem?_eq_none (by simp;omega)] at hu;cases hu
 ·obtain ⟨j,hj,e⟩:=List.mem_map.1 hu
  obtain ⟨u',h1,h2⟩:=hone j (List.mem_range.1 hj)
  rw [h1] at e
  simp at e
  rw [←e];exact h2
 ·obtain ⟨x,a,m,c,h1,h2,h3⟩:=hg i hi
  refine ⟨x,a,m,c,?_,?_,by rw [List.getD_eq_getElem?_getD,List.getElem?_eq_getElem hi];exact h3⟩
  ·rw [List.getElem?_map,List.getElem?_range (by omega)]
   simp [h1]
  ·rw [List.getElem?_map,List.getElem?_range (by omega)]
   simp only [Option.map_some]
   rw [←Nat.add_assoc,h2];rfl
theorem RowIn.copied {P:Nat→Prop} {w:World} {g n:Nat} {cur:Array Value} {cs:List Value} {f:Nat→Int} (hg:w.heap[g]?=some (.cells cur 82 (0,0))) (hsz:cur.size=2*n) (hcs:cs.length=n*2)
  (hc:∀ i,i<n→∃ x a m c,cs[i*2]?=some (.int .i64 x)∧cs[i*2+1]?=some (.slice a m c)∧WhAt P w (.agg #[.int .i64 x,.slice a m c]) (f i)) :
  RowIn P (w.setRow g (cur.toList.take 0++cs++cur.toList.drop (0+cs.length)).toArray) g n f:=by
 have e:(cur.toList.take 0++cs++cur.toList.drop (0+cs.length)).toArray=cs.toArray:=by
  have:cur.toList.drop (0+cs.length)=[]:=List.drop_of_length_le (by rw [Array.length_toList];omega)
  rw [this];simp
 rw [e]
 refine ⟨cs.toArray,setRow_heap w g cur _ _ _ hg,by simp;omega,fun i hi=>?_⟩
 obtain ⟨x,a,m,c,h1,h2,h3⟩:=hc i hi
 refine ⟨x,a,m,c,by simpa using h1,by simpa using h2,h3.keep (fun k cur' hk=>setRow_other w g k _ (fun e=>?_))⟩
 subst e
 rw [hg] at hk
 simp at hk
theorem grows_setRow {w0 w:World} {g:Nat} (h:Grows w0 w) (hg:w0.heap.size≤g) (cs:Array Value):Grows w0 (w.setRow g cs):=below_setRow h hg cs
section
section
section
attribute [local go_sem] valUpon
set_option maxHeartbeats 20000000 in
theorem raised_any (P:Nat→Prop) (K n:Nat) (a:List Int) (bv:Int) (va vb:Value) (w:World) (hP:∀ b,w.heap.size≤b→P b) (ha:RowAt P w va a) (hb:WhAt P w vb bv) (hla:a.length=n) (hn0:0<n) (hn:n≤1000) (hal:∀ k,Pl.Lt K (a.getD k 0)) (hbl:Pl.Lt K bv) (hK:K≤1500000000000) :
  Calls Try.prog 60 #[va,vb] w fun e w'=>∃ v',e=.returned v'∧RowAt P w' v' (raisedP a bv)∧Below w.heap.size w w':=by
 obtain ⟨i0,hi0,hz0,hz1,hz2⟩:=info_parts Try.infoWhole
 have hsz2:(Try.prog.info? 82).map (·.size)=some 2:=by rw [hi0];simp [hz1]
 have HLA:=hide hla
 obtain ⟨gs,os,ac,cs,rfl,hcl,hsrc,hone,hval⟩:=row_list ha (by omega)
 obtain ⟨bx,ba,bm,bc,rfl⟩:=hb.shape
 have HD:=hide (var_new hb)
 have HGa:Hid (Grows w (w.alloc (.cells #[.int .i64 bx,.slice ba bm bc] 82))):=Grows.alloc _ _
 rw [hla] at hcl hval
 have HS:=hide (And.intro hcl (And.intro hsrc (And.intro hone hval)))
 rw [hla]
 clear ha hb hcl hsrc hone hval hla
 go_enter Try.func60,Try.ntmps60
 go_wp2_with (at_make;refine wpList_make_full _ rfl _ _ 73 rfl (w.heap.size+1) 82 i0 (.agg #[.int .i64 0,.slice none 0 0]) 2 Try.underlying73 hi0 hz0 hz1 .i64 .i64 _ _ n rfl rfl ?e1 ?e2 ?c1 ?c2 ?c3 ?_)
 case e1=>first | rfl | omega | simp
 case e2=>first | rfl | omega | simp
 case c1=>rw [hz2];omega
 case c2=>unfold maxLen;omega
 case c3=>first | omega | simp
 ·intro w1 hown hgrow
  have hG1:Grows (w.alloc (.cells #[.int .i64 bx,.slice ba bm bc] 82)) w1:=(Below.refl _ _).grown hgrow (Nat.le_refl _) (by intro k hk;cases hk)
  obtain ⟨cur,hcur,hcz⟩:=block_two hown
  have HG1:Hid (Grows w w1):=(uh HGa).trans hG1
  have HD1:=hide ((uh HD).grow hG1)
  have HC:=hide (And.intro hcur hcz)
  clear hown hgrow hG1 HD HGa
  have HRUN:=hide (run_copy_rows (P:=Try.prog) w1 73 73 3 82 2 (w.heap.size+1) 0 n n ⟨gs,os,none⟩ n ac cur 82 cs Try.underlying73 hsz2 hcur (by rw [(uh HS).1];simp) (fun j u hu=>(Below.cell (uh HG1) (block_lt_of_cell ((uh HS).2.1 j u hu))).trans ((uh HS).2.1 j u hu)) (by rw [(uh HS).1];omega) (uh HS).2.2.1)
  have HRI:Hid (RowIn P (w1.setRow (w.heap.size+1) (cur.toList.take 0++cs++cur.toList.drop (0+cs.length)).toArray) (w.heap.size+1) n (fun k=>a.getD k 0)):=RowIn.copied hcur hcz (uh HS).1 (fun i hi=>by
   obtain ⟨x,a',m,c,h1,h2,h3⟩:=(uh HS).2.2.2 i hi
   exact ⟨x,a',m,c,h1,h2,h3.below (uh HG1)⟩)
  have HG2:Hid (Grows w (w1.setRow (w.heap.size+1) (cur.toList.take 0++cs++cur.toList.drop (0+cs.length)).toArray)):=grows_setRow (uh HG1) (by omega) _
  have HD2:Hid (VarAt P (w1.setRow (w.heap.size+1) (cur.toList.take 0++cs++cur.toList.drop (0+cs.length)).toArray) w.heap.size bx ba bm bc bv):=by
   refine ⟨(setRow_other w1 _ _ _ (by omega)).trans (uh HD1).heap,(uh HD1).val.keep (fun k cur' hk=>setRow_other w1 _ k _ (fun e=>?_))⟩
   subst e
   rw [hcur] at hk
   simp at hk
  obtain ⟨W1,hW1⟩:∃ W1,w1.setRow (w.heap.size+1) (cur.toList.take 0++cs++cur.toList.drop (0+cs.length)).toArray=W1:=⟨_,rfl⟩
  rw [hW1] at HRUN HRI HG2 HD2
  clear hW1
  go_wp2_with fail
  rw [uh HRUN]
  clear HRUN
  obtain ⟨px,pa,pm,pc,r00,r01,hpv,_⟩:=(uh HRI).get hn0
  obtain ⟨d0,d1,_⟩:=(uh HD2).cells
  simp only [Nat.zero_mul,Nat.zero_add] at r00 r01
  have HPV:=hide hpv
  have y1:=cell_regrown r00
  have y2:=cell_regrown r01
  have y3:=cell_regrown d0
  have y4:=cell_regrown d1
  clear hcur hcz HC hpv d0 d1 HG1 HD1
  go_wp2_with fail
  refine wp_region_grown (phiL [(17,fun v w=>WhAt P w v (a.getD 0 0+bv))]) (gL [(17,ShapeI)]) 20 7 (by kernel_rfl) (by rfl) (by kernel_rfl) (phi_c (fun _ _ _=>WhAt.below) phi_n) ?_
  iterate 5 (refine lex_s fun K hK=>?_;go_simp;refine hK _ ?_;clear hK K)
  refine lex_call ShapeI 90 #[.agg #[.int .i64 px,.slice pa pm pc],.agg #[.int .i64 bx,.slice ba bm bc]] (by rfl) (by rfl) ShapeI.some (fun w=>by go_simp) (fun w1 hg hf=>(Add_any P K (a.getD 0 0) bv _ _ w1 (fun b' hb'=>hP b' (by have:=(Grows.trans (uh HG2) hg).size;omega)) ((uh HPV).below hg) ((uh HD2).val.below hg) hK (hal _) hbl).mono (by rintro e w' ⟨v',rfl,hv,hb⟩;exact ⟨_,rfl,hb,hv.shapeI,fun t ht=>by cases ht;exact hv⟩)) ?_
  rintro _ ⟨nx,na,nm,nc,rfl⟩
  (refine lex_s fun K hK=>?_;go_simp;refine hK _ ?_;clear hK K)
  refine lex_last ?_
  intro w2 hw2 hphi
  have hv2:WhAt P w2 (.agg #[.int .i64 nx,.slice na nm nc]) (a.getD 0 0+bv):=hphi 5 _ 17 (by decide) rfl rfl
  clear hphi y1 y2 y3 y4
  have hR2:=(uh HRI).grow hw2
  have r0:=Grows.cell hw2 r00
  have r1:=Grows.cell hw2 r01
  have f0:=hR2.free 0
  have f1:=hR2.free 1
  have HRI2:Hid (RowAt P ((w2.setCell ⟨w.heap.size+1,0,none⟩ (.int .i64 nx)).setCell ⟨w.heap.size+1,1,none⟩ (.slice na nm nc)) (.slice (some ⟨w.heap.size+1,0,none⟩) n n) (raisedP a bv)):=by
   unfold Hid
   have h1:=(hR2.set (i:=0) hn0 hv2).row (hP _ (by omega))
   rw [raised_range a bv (uh HLA)] at h1
   simpa using h1
  have HGF:Hid (Grows w ((w2.setCell ⟨w.heap.size+1,0,none⟩ (.int .i64 nx)).setCell ⟨w.heap.size+1,1,none⟩ (.slice na nm nc))):=(Below.setCell (p:=⟨w.heap.size+1,0,none⟩) (Grows.trans (uh HG2) hw2) (by show w.heap.size≤w.heap.size+1;omega) _).setCell (p:=⟨w.heap.size+1,1,none⟩) (by show w.heap.size≤w.heap.size+1;omega) _
  clear hv2 hw2 hR2
  go_wp2
  go_ret
  exact ⟨_,rfl,uh HRI2,uh HGF⟩
end
theorem Try.infoRow:(Try.prog.info? 73).map (fun i=>(i.zero,i.size,i.bytes))=some (some (.slice none 0 0),1,24):=by kernel_rfl
structure RowsX (P:Nat→Prop) (w:World) (xs:List Value) (ls:List (List Int)):Prop where
 len:xs.length=ls.length
 at_:∀ i,(hi:i<ls.length)→∃ u,xs[i]?=some u∧RowAt P w u ls[i]
theorem RowsX.grow {P:Nat→Prop} {w w':World} {xs:List Value} {ls:List (List Int)} (h:RowsX P w xs ls) (hg:Holds P w w'):RowsX P w' xs ls :=
 ⟨h.len,fun i hi=>by obtain ⟨u,h1,h3⟩:=h.at_ i hi;exact ⟨u,h1,h3.holds hg⟩⟩
theorem RowsX.snoc {P:Nat→Prop} {w:World} {xs:List Value} {ls:List (List Int)} (h:RowsX P w xs ls) {u:Value} {row:List Int} (hu:RowAt P w u row):RowsX P w (xs++[u]) (ls++[row]):=by
 refine ⟨by simp [h.len],fun i hi=>?_⟩
 by_cases hl:i<ls.length
 ·obtain ⟨u',h1,h3⟩:=h.at_ i hl
  exact ⟨u',by rw [List.getElem?_append_left (by rw [h.len];omega)];exact h1,by rw [List.getElem_append_left hl];exact h3⟩
 ·have e:i=ls.length:=by simp at hi;omega
  subst e
  exact ⟨u,by rw [List.getElem?_append_right (by rw [h.len];omega),h.len];simp,by simpa using hu⟩
theorem RowsX.nil (P:Nat→Prop) (w:World):RowsX P w [] []:=⟨rfl,fun i hi=>by simp at hi⟩
theorem RowsX.rows {P:Nat→Prop} {w:World} {B:Nat} {v:Value} {xs:List Value} {ls:List (List Int)} (h:RowsX P w xs ls) (ho:w.ownsRow B 73 1 v ls.length xs) (hP:∀ g,B≤g→P g):RowsAt P w v ls:=by
 rcases ho.2 with ⟨rfl,h0⟩|⟨g,cap,cur,rfl,hb,hcur,hle,hmx,hsz,htk⟩
 ·exact ⟨none,0,by rw [h0],by omega,fun i hi=>by omega⟩
 ·refine ⟨some ⟨g,0,none⟩,cap,rfl,hle,fun i hi=>?_⟩
  obtain ⟨u,h1,h2⟩:=h.at_ i hi
  refine ⟨g,0,u,rfl,?_,h2,hP g hb,cur,hcur⟩
  rw [cellsOf hcur,Nat.zero_add]
  rw [←htk,List.getElem?_take_of_lt (by omega)] at h1
  simpa using h1
theorem rows_list {P:Nat→Prop} {w:World} {v:Value} {ls:List (List Int)} (h:RowsAt P w v ls):∃ (ad:Option Addr) (cap:Nat) (cs:List Value),v=.slice ad ls.length cap∧RowsX P w cs ls∧(∀ u∈cs,u.oneCell'=true)∧(0<ls.length→∃ g off,ad=some ⟨g,off,none⟩∧∀ j u,cs[j]?=some u→w.cell? ((⟨g,off,none⟩:Addr).add j)=some u):=by
 by_cases h0:0<ls.length
 ·obtain ⟨g,off,cap,scs,rfl,hb,hg⟩:=h.get h0
  have hadd:∀ j,(⟨g,off,none⟩:Addr).add j=⟨g,off+j,none⟩:=fun j=>by unfold Addr.add;split <;> simp_all
  refine ⟨some ⟨g,off,none⟩,cap,(List.range ls.length).map (fun j=>(w.cell? ⟨g,off+j,none⟩).getD undef),rfl,⟨by simp,fun i hi=>?_⟩,fun u hu=>?_,fun _=>⟨g,off,rfl,fun j u hu=>?_⟩⟩
  ·obtain ⟨u,h1,h2⟩:=hg i hi
   exact ⟨u,by rw [List.getElem?_map,List.getElem?_range hi];simp [h1],h2⟩
  ·obtain ⟨j,hj,e⟩:=List.mem_map.1 hu
   obtain ⟨u',h1,h2⟩:=hg j (List.mem_range.1 hj)
   rw [h1] at e
   simp at e
   rw [←e]
   obtain ⟨x,y,z,rfl⟩:=h2.shapeS
   rfl
  ·rw [List.getElem?_map] at hu
   by_cases hj:j<ls.length
   ·rw [List.getElem?_range hj] at hu
    obtain ⟨u',h1,_⟩:=hg j hj
    rw [hadd,h1]
    simp [h1] at hu
    rw [hu]
   ·rw [List.getElem?_eq_none (by simp;omega)] at hu;cases hu
 ·obtain ⟨ad,cap,rfl,_⟩:=h
  exact ⟨ad,cap,[],rfl,⟨by simp;omega,fun i hi=>by omega⟩,by simp,fun h=>absurd h h0⟩
set_option maxHeartbeats 4000000 in
theorem with_any (P:Nat→Prop) (ls:List (List Int)) (row:List Int) (va vr:Value) (w:World) (hP:∀ b,w.heap.size≤b→P b) (ha:RowsAt P w va ls) (hr:RowAt P w vr row) (hn:ls.length≤1000) :
  Calls Try.prog 62 #[va,vr] w fun e w'=>∃ v',e=.returned v'∧RowsAt P w' v' (ls++[row])∧Below w.heap.size w w':=by
 obtain ⟨i0,hi0,hz0,hz1,hz2⟩:=info_parts Try.infoRow
 have hsz1:(Try.prog.info? 73).map (·.size)=some 1:=by rw [hi0];simp [hz1]
 obtain ⟨ad,ac,cs,rfl,hX,hone,hsrc⟩:=rows_list ha
 obtain ⟨ra,rn,rc,rfl⟩:=hr.shapeS
 obtain ⟨N,hN⟩:∃ N,ls.length=N:=⟨_,rfl⟩
 have HX:=hide hX
 have HRW:=hide hr
 have HCL:Hid (cs.length=N):=by rw [←hN];exact hX.len
 have HN:=hide hN
 rw [hN] at hn hsrc
 rw [hN]
 have hmk:=run_make (P:=Try.prog) w 76 73 i0 (.slice none 0 0) Try.underlying76 hi0 hz0 .i64 .i64 N ((N:Int)+1) (by omega) (by omega) (by rw [hz2];omega) (by omega)
 have hcells:(Value.slice none 0 0).cells=#[.slice none 0 0]:=rfl
 rw [hz1,hcells,show ((N:Int)).toNat=N by omega,show ((N:Int)+1).toNat=N+1 by omega,Nat.mul_one] at hmk
 have HMK:=hide hmk
 obtain ⟨W1,hW1⟩:∃ W1,w.alloc (.cells (madeCells #[.slice none 0 0] (N+1)) 73)=W1:=⟨_,rfl⟩
 rw [hW1] at HMK
 have hG1:Grows w W1:=by rw [←hW1];exact Grows.alloc _ _
 have hblk:W1.heap[w.heap.size]?=some (.cells (madeCells #[.slice none 0 0] (N+1)) 73 (0,0)):=by rw [←hW1];exact slot_one _ _
 have hcs:cs.length=N:=uh HCL
 have hcopy:∃ W2:World,(Builtin.copy_ #[76,76] 3 #[.slice (some ⟨w.heap.size,0,none⟩) N (N+1),.slice ad N ac]).run Try.prog W1=.ok (goInt N) W2∧Grows w W2∧W2.ownsRow w.heap.size 73 1 (.slice (some ⟨w.heap.size,0,none⟩) N (N+1)) N cs:=by
  by_cases h0:0<N
  ·obtain ⟨g,off,rfl,hs⟩:=hsrc h0
   have hrun:=run_copy_rows (P:=Try.prog) W1 76 76 3 73 1 w.heap.size 0 N (N+1) ⟨g,off,none⟩ N ac _ 73 cs Try.underlying76 hsz1 hblk (by rw [hcs];simp) (fun j u hu=>(Below.cell hG1 (block_lt_of_cell (hs j u hu))).trans (hs j u hu)) (by rw [hcs,size_madeCells];omega) hone
   rw [show Nat.min N N=N from Nat.min_self N] at hrun
   refine ⟨_,hrun,grows_setRow hG1 (Nat.le_refl _) _,⟨by rw [hcs];simp,.inr ⟨w.heap.size,N+1,_,rfl,Nat.le_refl _,setRow_heap W1 _ _ _ _ _ hblk,by omega,by unfold maxLen;omega,?_,?_⟩⟩⟩
   ·simp [hcs,size_madeCells]
   ·simp [hcs]
  ·have hN0:N=0:=by omega
   subst hN0
   have hc0:cs=[]:=List.eq_nil_of_length_eq_zero hcs
   have hrun:=run_copy_none (P:=Try.prog) W1 76 76 3 73 (some ⟨w.heap.size,0,none⟩) ad 0 1 0 ac Try.underlying76 hsz1 (by simp)
   exact ⟨W1,by rw [Nat.zero_add];rw [hrun];rfl,hG1,⟨by rw [hc0];rfl,.inr ⟨w.heap.size,1,_,rfl,Nat.le_refl _,hblk,by omega,by unfold maxLen;omega,by rw [size_madeCells],by rw [hc0];simp⟩⟩⟩
 obtain ⟨W2,hrun,hG2,hown⟩:=hcopy
 have HRUN:=hide hrun
 have HG2:=hide hG2
 have hal:=hown.alloc (.cells #[.slice ra rn rc] 73)
 clear ha hr hX hone hsrc hN hmk hcells hW1 hG1 hblk hcs hrun hG2 hown
 go_enter Try.func62,Try.ntmps62
 go_wp2_with fail
 rw [uh HMK]
 simp only [Result.andThen_ok,Oper.upon]
 go_wp2_with fail
 rw [uh HRUN]
 simp only [Result.andThen_ok,Oper.upon]
 go_wp2_with (at_builtin;refine wpList_append_lies _ rfl _ _ 76 rfl w.heap.size 73 i0 (.slice none 0 0) 1 24 Try.underlying76 hi0 hz0 hz1 hz2 rfl (by decide) _ N cs rfl hal ⟨_,0,none⟩ 1 1 [.slice ra rn rc] rfl rfl ?d1 (by simp [Value.oneCell']) (by decide) ?d2 ?d3 ?d4 _ rfl ?_)
 case d1=>exact fun j u hu=>World.news_of_block (heap_alloc_new _ _) j u hu
 case d2=>unfold maxLen;omega
 case d3=>omega
 case d4=>exact Nat.le_trans (uh HG2).size (by simp)
 ·intro g cap w2 hown1 hgrow hat hlt2
  have hG3:Grows w w2:=Below.grown (Grows.trans (uh HG2) (Grows.alloc W2 _)) hgrow (Nat.le_trans (uh HG2).size (by simp)) (own_base hal)
  have HF:Hid (RowsAt P w2 (.slice (some ⟨g,0,none⟩) (N+1) cap) (ls++[row])):=by
   have h1:=((uh HX).grow (.of_below hG3)).snoc ((uh HRW).below hG3)
   exact h1.rows (by rw [List.length_append,uh HN];exact hown1) hP
  have HG3:=hide hG3
  clear hown1 hgrow hat hlt2 hal hG3
  go_wp2
  go_ret
  exact ⟨_,rfl,uh HF,uh HG3⟩
end
theorem RowAt.set40 {P:Nat→Prop} {w:World} {v:Value} {l:List Int} (h:RowAt P w v l) {k:Nat} {cs:Array Value} (hk:w.heap[k]?=some (.cells cs 73 (0,0))) (o:Nat) (u:Value):RowAt P (w.setCell ⟨k,o,none⟩ u) v l:=by
 obtain ⟨ad,cap,rfl,hc,h⟩:=h
 refine ⟨ad,cap,rfl,hc,fun i hi=>?_⟩
 obtain ⟨g,off,x,a,m,c,e,c1,c2,hw,hp,cs',hcs⟩:=h i hi
 have hs:=KeepT.setCell (e:=82) hk (by decide) o u g cs' hcs
 exact ⟨g,off,x,a,m,c,e,by rw [cellsOf (hs.trans hcs),←cellsOf hcs];exact c1,by rw [cellsOf (hs.trans hcs),←cellsOf hcs];exact c2,hw.keep (KeepT.setCell hk (by decide) o u),hp,cs',hs.trans hcs⟩
def ListTo (P:Nat→Prop) (w:World) (g n:Nat) (ls:List (List Int)):Prop:=∃ cs:Array Value,w.heap[g]?=some (.cells cs 73 (0,0))∧cs.size=n∧ls.length≤n∧∀ i,(hi:i<ls.length)→∃ u,cs[i]?=some u∧RowAt P w u ls[i]
theorem ListTo.grow {P:Nat→Prop} {w w':World} {g n:Nat} {ls:List (List Int)} (h:ListTo P w g n ls) (hb:Grows w w'):ListTo P w' g n ls:=by
 obtain ⟨cs,h1,h2,h3,h4⟩:=h
 refine ⟨cs,Below.same hb _ _ h1,h2,h3,fun i hi=>?_⟩
 obtain ⟨u,d1,d2⟩:=h4 i hi
 exact ⟨u,d1,d2.below hb⟩
theorem ListTo.lt {P:Nat→Prop} {w:World} {g n:Nat} {ls:List (List Int)} (h:ListTo P w g n ls):g<w.heap.size:=by
 obtain ⟨cs,h1,_⟩:=h
 exact lt_of_block h1
theorem ListTo.free {P:Nat→Prop} {w:World} {g n:Nat} {ls:List (List Int)} (h:ListTo P w g n ls) (o:Nat):w.frozen? ⟨g,o,none⟩=false:=by
 obtain ⟨cs,h1,_⟩:=h
 exact freeOf h1 o
theorem ListTo.cell {P:Nat→Prop} {w:World} {g n:Nat} {ls:List (List Int)} (h:ListTo P w g n ls) {i:Nat} (hi:i<n):∃ u,w.cell? ⟨g,i,none⟩=some u:=by
 obtain ⟨cs,h1,h2,_⟩:=h
 exact ⟨cs[i],by rw [cellsOf h1];exact Array.getElem?_eq_getElem (by omega)⟩
theorem ListTo.rows {P:Nat→Prop} {w:World} {g n:Nat} {ls:List (List Int)} (h:ListTo P w g n ls) (hn:ls.length=n) (hp:P g):RowsAt P w (.slice (some ⟨g,0,none⟩) n n) ls:=by
 obtain ⟨cs,h1,h2,h3,h4⟩:=h
 refine ⟨some ⟨g,0,none⟩,n,by rw [hn],by omega,fun i hi=>?_⟩
 obtain ⟨u,d1,d2⟩:=h4 i hi
 exact ⟨g,0,u,rfl,by rw [cellsOf h1,Nat.zero_add];exact d1,d2,hp,cs,h1⟩
theorem ListTo.add {P:Nat→Prop} {w:World} {g n:Nat} {ls:List (List Int)} (h:ListTo P w g n ls) (hl:ls.length<n) {u:Value} {row:List Int} (hu:RowAt P w u row):ListTo P (w.setCell ⟨g,ls.length,none⟩ u) g n (ls++[row]):=by
 obtain ⟨cs,h1,h2,h3,h4⟩:=h
 refine ⟨_,heap_setCell_same w g ls.length _ _ u h1,by simp [h2],by simp;omega,fun i hi=>?_⟩
 by_cases hlt:i<ls.length
 ·obtain ⟨u',d1,d2⟩:=h4 i hlt
  exact ⟨u',by rw [Array.getElem?_setIfInBounds_ne (by omega)];exact d1,by rw [List.getElem_append_left hlt];exact d2.set40 h1 _ _⟩
 ·have e:i=ls.length:=by simp at hi;omega
  subst e
  exact ⟨u,Array.getElem?_setIfInBounds_self_of_lt (by omega),by simpa using hu.set40 h1 _ _⟩
theorem ListTo.made {P:Nat→Prop} {w:World} {B g n:Nat} {xs:List Value} (h:w.ownsRow B 73 1 (.slice (some ⟨g,0,none⟩) n n) n xs):ListTo P w g n []:=by
 rcases h.2 with ⟨h1,_⟩|⟨g',cap,cur,he,hb,hgg,hle,hm,hcs,htk⟩
 ·simp at h1
 ·simp only [Value.slice.injEq,Option.some.injEq,Addr.mk.injEq,and_true,true_and] at he
  obtain ⟨rfl,rfl⟩:=he
  exact ⟨cur,hgg,by omega,by simp,fun i hi=>by simp at hi⟩
theorem ListTo.block {P:Nat→Prop} {w:World} {g n:Nat} {ls:List (List Int)} (h:ListTo P w g n ls):∃ cs,w.heap[g]?=some (.cells cs 73 (0,0)):=by
 obtain ⟨cs,h1,_⟩:=h
 exact ⟨cs,h1⟩
end
def turnedF (a:List Int) (St:List (List Int)) (n k:Nat):Int:=if k=0 then a.getD 0 0 else alongP a (St.getD (k - 1) []) n
def turnedP (a:List Int) (St:List (List Int)) (n:Nat):List Int:=(List.range (n+1)).map (turnedF a St n)
theorem take_snoc_map (f:List Int→List Int) (ls:List (List Int)) {i:Nat} (hi:i<ls.length):(ls.take (i+1)).map f=(ls.take i).map f++[f (ls.getD i [])]:=by
 rw [List.take_succ_eq_append_getElem hi,List.map_append]
 have e:ls.getD i []=ls[i]:=by rw [List.getD_eq_getElem?_getD,List.getElem?_eq_getElem hi];rfl
 rw [e];rfl
attribute [local go_sem] valUpon
set_option maxHeartbeats 20000000 in
theorem turnedSums_any (P:Nat→Prop) (K n:Nat) (ls St:List (List Int)) (va vs:Value) (w:World) (hP:∀ b,w.heap.size≤b→P b) (ha:RowsAt P w va ls) (hs:RowsAt P w vs St) (hSn:St.length=n) (hn:n≤100) (hm:ls.length≤1000) (hlen:∀ l∈ls,l.length=n+1) (hslen:∀ l∈St,l.length=n) (hal:∀ i k,Pl.Lt K ((ls.getD i []).getD k 0)) (hsl:∀ i k,Pl.Lt K ((St.getD i []).getD k 0)) (hK:2*K+1≤1500000000000) :
  Calls Try.prog 150 #[va,vs] w fun e w'=>∃ v',e=.returned v'∧RowsAt P w' v' (ls.map fun a=>turnedP a St n)∧Below w.heap.size w w':=by
 obtain ⟨i0,hi0,hz0,hz1,hz2⟩:=info_parts Try.infoWhole
 obtain ⟨i1,hi1,hy0,hy1,hy2⟩:=info_parts Try.infoRow
 have HRA:=hide ha
 have HRS:=hide hs
 have HLEN:=hide hlen
 have HSL:=hide hslen
 obtain ⟨N,hN⟩:∃ N,ls.length=N:=⟨_,rfl⟩
 have HN:=hide hN
 have HSN:=hide hSn
 obtain ⟨aa,ac,rfl⟩:∃ ad cap,va=.slice ad N cap:=by obtain ⟨ad,cap,e,_⟩:=ha;rw [hN] at e;exact ⟨ad,cap,e⟩
 obtain ⟨sa,sc,rfl⟩:∃ ad cap,vs=.slice ad n cap:=by obtain ⟨ad,cap,e,_⟩:=hs;rw [hSn] at e;exact ⟨ad,cap,e⟩
 rw [hN] at hm
 clear ha hs hlen hslen hN hSn
 go_enter Try.func150,Try.ntmps150
 go_wp2_with (at_make;refine wpList_make_full _ rfl _ _ 76 rfl w.heap.size 73 i1 (.slice none 0 0) 1 Try.underlying76 hi1 hy0 hy1 .i64 .i64 _ _ N rfl rfl ?e1 ?e2 ?c1 ?c2 ?c3 ?_)
 case e1=>first | rfl | omega | simp
 case e2=>first | rfl | omega | simp
 case c1=>rw [hy2];omega
 case c2=>unfold maxLen;omega
 case c3=>first | omega | simp
 ·intro w1 hown hgrow
  have hG1:Grows w w1:=(Below.refl _ _).grown hgrow (Nat.le_refl _) (by intro k hk;cases hk)
  have HL0:Hid (ListTo P w1 w.heap.size N []):=ListTo.made hown
  have HG1:=hide hG1
  clear hown hgrow hG1
  go_wp2_with fail
  go_loopg [6] N (fun k iv wr=>∃ (i:Nat),iv=.int .i64 i∧i+k=N∧Hid (ListTo P wr w.heap.size N ((ls.take i).map fun a=>turnedP a St n)∧Grows w wr))
  case atStart=>exact ⟨0,rfl,by omega,by simpa using uh HL0,uh HG1⟩
  case round =>
   rename Nat=>go
   rename World=>wo
   obtain ⟨i,rfl,hik,HR⟩:=hrel
   have HGo:Hid (Grows w wo):=(uh HR).2
   by_cases hlt:i<N
   ·have hil:i<ls.length:=by rw [uh HN];exact hlt
    obtain ⟨gr,orr,cr,u,er,k0,hur,hmem⟩:=rows_cell ((uh HRA).below (uh HR).2) hil
    rw [uh HN] at er
    cases er
    have HMi:=hide hmem
    have hlr:=uh HLEN _ hmem
    obtain ⟨ga,oa,ca,zx,za,zm,zc,rfl,p0,p1,hzv⟩:=row_cell hur (i:=0) (by omega)
    rw [hlr] at k0 hur
    have HLi:Hid (RowAt P wo (.slice (some ⟨ga,oa,none⟩) (n+1) ca) (ls.getD i [])):=hur
    have HZV:=hide hzv
    simp only [Nat.zero_mul,Nat.add_zero] at p0 p1
    obtain ⟨ul,kul⟩:=(uh HR).1.cell hlt
    have hgl:=(uh HR).1.lt
    clear hur hmem hlr hzv
    go_wp2_with (at_make;refine wpList_make_full _ rfl _ _ 73 rfl wo.heap.size 82 i0 (.agg #[.int .i64 0,.slice none 0 0]) 2 Try.underlying73 hi0 hz0 hz1 .i64 .i64 _ _ (n+1) rfl rfl ?e1 ?e2 ?c1 ?c2 ?c3 ?_)
    case e1=>first | rfl | omega | simp
    case e2=>first | rfl | omega | simp
    case c1=>rw [hz2];omega
    case c2=>unfold maxLen;omega
    case c3=>first | omega | simp
    ·intro w2 hown hgrow
     have hG2:Grows wo w2:=(Below.refl _ _).grown hgrow (Nat.le_refl _) (by intro k hk;cases hk)
     have hR0:RowIn P w2 wo.heap.size (n+1) (fun _=>0):=RowIn.made hown
     obtain ⟨ox,oy,om,oc,q0,q1,_⟩:=hR0.get (i:=0) (by omega)
     simp only [Nat.zero_mul,Nat.zero_add] at q0 q1
     have f0:=hR0.free 0
     have f1:=hR0.free 1
     have p0':=hG2.cell p0
     have p1':=hG2.cell p1
     have k0':=hG2.cell k0
     have HRI:Hid (RowIn P ((w2.setCell ⟨wo.heap.size,0,none⟩ (.int .i64 zx)).setCell ⟨wo.heap.size,1,none⟩ (.slice za zm zc)) wo.heap.size (n+1) (fun k=>if k<0+1 then turnedF (ls.getD i []) St n k else 0)):=by
      unfold Hid
      have h1:=(hR0.set (i:=0) (by omega) ((uh HZV).below hG2)).congr (f':=fun k=>if k<0+1 then turnedF (ls.getD i []) St n k else 0) (fun k _=>by
       unfold updF turnedF
       by_cases h:k=0
       ·subst h;simp
       ·rw [if_neg h,if_neg (by omega)])
      simpa using h1
     have HG2:Hid (Grows wo ((w2.setCell ⟨wo.heap.size,0,none⟩ (.int .i64 zx)).setCell ⟨wo.heap.size,1,none⟩ (.slice za zm zc))):=(Below.setCell (p:=⟨wo.heap.size,0,none⟩) hG2 (Nat.le_refl _) _).setCell (p:=⟨wo.heap.size,1,none⟩) (Nat.le_refl _) _
     clear hown hgrow hG2 hR0
     go_wp2_with fail
     clear q0 q1 f0 f1 p0' p1' k0'
     generalize hg2:wo.heap.size=g2 at HRI HG2 ⊢
     have hwg2:wo.heap.size≤g2:=by rw [hg2];exact Nat.le_refl _
     have hg2l:w.heap.size<g2:=by omega
     go_loopg [8] n (fun k jv wr=>∃ (j:Nat),jv=.int .i64 j∧j+k=n∧Hid (RowIn P wr g2 (n+1) (fun k=>if k<j+1 then turnedF (ls.getD i []) St n k else 0)∧Grows wo wr∧True))
     case atStart=>exact ⟨0,rfl,by omega,uh HRI,uh HG2,trivial⟩
     case round =>
      obtain ⟨j,rfl,hjk,HI⟩:=hrel
      by_cases hjn:j<n
      ·have hGw:Grows w wr:=(uh HGo).trans (uh HI).2.1
       obtain ⟨gst,ost,cst,us,es,t0,hus,hmj⟩:=rows_cell ((uh HRS).below hGw) (i:=j) (by rw [uh HSN];exact hjn)
       rw [uh HSN] at es
       cases es
       obtain ⟨tb,tm,tc,rfl⟩:=hus.shapeS
       have HSj:=hide hus
       have HMj:=hide hmj
       have k0r:=(uh HI).2.1.cell k0
       obtain ⟨ox,oy,om,oc,r00,r01,_⟩:=(uh HI).1.get (i:=j+1) (by omega)
       have y1:=cell_regrown t0
       have y2:=cell_regrown k0r
       have hI:(j:Int)+1<(n:Int)+1:=by omega
       have hI0:(0:Int)≤(j:Int)+1:=by omega
       have hwi:IntKind.i64.wrap ((j:Int)+1)=(j:Int)+1:=by rw [IntKind.wrap_i64];omega
       have htn:((j:Int)+1).toNat=j+1:=by omega
       clear hus hmj hGw
       go_wp2_with fail
       clear t0 k0r
       refine wp_region_grown (phiL [(47,fun v w=>WhAt P w v (alongP (ls.getD i []) (St.getD j []) n))]) (gL [(47,ShapeI)]) 54 13 (by kernel_rfl) (by rfl) (by kernel_rfl) (phi_c (fun _ _ _=>WhAt.below) phi_n) ?_
       iterate 11 (refine lex_s fun K hK=>?_;go_simp;refine hK _ ?_;clear hK K)
       refine lex_call ShapeI 110 #[.slice (some ⟨ga,oa,none⟩) (n+1) ca,.slice tb tm tc] (by rfl) (by rfl) ShapeI.some (fun w=>by go_simp) (fun w1 hg hf=>(along_any P K n (ls.getD i []) (St.getD j []) _ _ w1 (fun b' hb'=>hP b' (by have:=(Grows.trans (uh HI).2.1 hg).size;have:=(uh HGo).size;omega)) ((uh HLi).below (Grows.trans (uh HI).2.1 hg)) ((uh HSj).below hg) (uh HLEN _ (uh HMi)) (uh HSL _ (uh HMj)) hn (hal _) (hsl _) hK).mono (by rintro e w' ⟨v',rfl,hv,hb⟩;exact ⟨_,rfl,hb,hv.shapeI,fun t ht=>by cases ht;exact hv⟩)) ?_
       rintro _ ⟨cx,ca,cm,cc,rfl⟩
       (refine lex_s fun K hK=>?_;go_simp;refine hK _ ?_;clear hK K)
       refine lex_last ?_
       intro w2 hg2 hphi
       have q47:WhAt P w2 (.agg #[.int .i64 cx,.slice ca cm cc]) (alongP (ls.getD i []) (St.getD j []) n):=hphi 11 _ 47 (by decide) rfl rfl
       clear hphi y1 y2
       have hR2:=(uh HI).1.grow hg2
       have s0:=Grows.cell hg2 r00
       have s1:=Grows.cell hg2 r01
       have s2:=hR2.free ((j+1)*2)
       have s3:=hR2.free ((j+1)*2+1)
       have HRI2:Hid (RowIn P ((w2.setCell ⟨g2,(j+1)*2,none⟩ (.int .i64 cx)).setCell ⟨g2,(j+1)*2+1,none⟩ (.slice ca cm cc)) g2 (n+1) (fun k=>if k<j+1+1 then turnedF (ls.getD i []) St n k else 0)):=(hR2.set (i:=j+1) (by omega) q47).congr (fun k _=>upd_next (f:=turnedF (ls.getD i []) St n) (z:=fun _=>0) k)
       have HG2:Hid (Grows wo ((w2.setCell ⟨g2,(j+1)*2,none⟩ (.int .i64 cx)).setCell ⟨g2,(j+1)*2+1,none⟩ (.slice ca cm cc))):=(Below.setCell (p:=⟨g2,(j+1)*2,none⟩) (Grows.trans (uh HI).2.1 hg2) hwg2 _).setCell (p:=⟨g2,(j+1)*2+1,none⟩) hwg2 _
       clear q47 hR2 hg2 r00 r01
       go_wp2
       go_roundg (gk - 1)
       case measure=>omega
       case rel=>exact ⟨j+1,by simp,by omega,uh HRI2,uh HG2,trivial⟩
      ·have hjn2:j=n:=by omega
       subst hjn2
       have hlt2:((ls.take i).map fun a=>turnedP a St j).length=i:=by simp;omega
       have hL2:=(uh HR).1.grow (uh HI).2.1
       have kul2:=(uh HI).2.1.cell kul
       have ff:=hL2.free i
       have hrow:RowAt P wr (.slice (some ⟨g2,0,none⟩) (j+1) (j+1)) (turnedP (ls.getD i []) St j):=((uh HI).1.congr (f':=turnedF (ls.getD i []) St j) (fun k hk=>by rw [if_pos hk])).row (hP _ (by omega))
       have HL3:Hid (ListTo P (wr.setCell ⟨w.heap.size,i,none⟩ (.slice (some ⟨g2,0,none⟩) (j+1) (j+1))) w.heap.size N ((ls.take (i+1)).map fun a=>turnedP a St j)):=by
        unfold Hid
        rw [take_snoc_map (fun a=>turnedP a St j) ls hil]
        have h1:=hL2.add (by rw [hlt2];exact hlt) hrow
        rw [hlt2] at h1
        exact h1
       have HG3:Hid (Grows w (wr.setCell ⟨w.heap.size,i,none⟩ (.slice (some ⟨g2,0,none⟩) (j+1) (j+1)))):=Below.setCell (p:=⟨w.heap.size,i,none⟩) ((uh HGo).trans (uh HI).2.1) (Nat.le_refl _) _
       clear hL2 hrow hlt2
       go_wp2
       go_roundg (go - 1)
       case measure=>omega
       case rel=>exact ⟨i+1,by simp,by omega,uh HL3,uh HG3⟩
   ·have hin:i=N:=by omega
    have HF:Hid (RowsAt P wo (.slice (some ⟨w.heap.size,0,none⟩) N N) (ls.map fun a=>turnedP a St n)∧Grows w wo):=by
     refine ⟨?_,(uh HR).2⟩
     have h1:=(uh HR).1
     rw [hin,←uh HN,List.take_length] at h1
     rw [←uh HN]
     exact h1.rows (by simp) (hP _ (Nat.le_refl _))
    clear HR
    go_wp2
    go_ret
    exact ⟨_,rfl,(uh HF).1,(uh HF).2⟩
end Go.Proofs.Ytfaljekgpnbmiaa
