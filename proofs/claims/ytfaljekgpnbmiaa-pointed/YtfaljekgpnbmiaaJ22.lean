/- Joined: XSol7 XSol8 XMat. -/
import Derived.Test.YtfaljekgpnbmiaaJ21
set_option linter.unusedVariables false
set_option linter.unusedSimpArgs false
set_option maxRecDepth 100000
namespace Go.Proofs.Ytfaljekgpnbmiaa
open Go.RowKit Go.Sort
structure RowX (P:Nat→Prop) (w:World) (xs:List Value) (l:List Int):Prop where
 len:xs.length=l.length*2
 at_:∀ i,(hi:i<l.length)→∃ x a m c,xs[i*2]?=some (.int .i64 x)∧xs[i*2+1]?=some (.slice a m c)∧WhAt P w (.agg #[.int .i64 x,.slice a m c]) l[i]
theorem RowX.grow {P:Nat→Prop} {w w':World} {xs:List Value} {l:List Int} (h:RowX P w xs l) (hg:Grows w w'):RowX P w' xs l :=
 ⟨h.len,fun i hi=>by obtain ⟨x,a,m,c,h1,h2,h3⟩:=h.at_ i hi;exact ⟨x,a,m,c,h1,h2,h3.below hg⟩⟩
theorem RowX.nil (P:Nat→Prop) (w:World):RowX P w [] []:=⟨rfl,fun i hi=>by simp at hi⟩
theorem RowX.snoc {P:Nat→Prop} {w:World} {xs:List Value} {l:List Int} (h:RowX P w xs l) {x:Int} {a:Option Addr} {m c:Nat} {v:Int} (hv:WhAt P w (.agg #[.int .i64 x,.slice a m c]) v):RowX P w (xs++[.int .i64 x,.slice a m c]) (l++[v]):=by
 refine ⟨by simp [h.len];omega,fun i hi=>?_⟩
 by_cases hl:i<l.length
 ·obtain ⟨x',a',m',c',h1,h2,h3⟩:=h.at_ i hl
  refine ⟨x',a',m',c',?_,?_,?_⟩
  ·rw [List.getElem?_append_left (by rw [h.len];omega)];exact h1
  ·rw [List.getElem?_append_left (by rw [h.len];omega)];exact h2
  ·rw [List.getElem_append_left hl];exact h3
 ·have e:i=l.length:=by simp at hi;omega
  subst e
  refine ⟨x,a,m,c,?_,?_,?_⟩
  ·rw [List.getElem?_append_right (by rw [h.len];omega),h.len];simp
  ·rw [List.getElem?_append_right (by rw [h.len];omega),h.len];simp
  ·simpa using hv
theorem RowX.row {P:Nat→Prop} {w:World} {B:Nat} {v:Value} {xs:List Value} {l:List Int} (h:RowX P w xs l) (ho:w.ownsRow B 82 2 v l.length xs) (hP:∀ g,B≤g→P g):RowAt P w v l:=by
 rcases ho.2 with ⟨rfl,h0⟩|⟨g,cap,cur,rfl,hb,hcur,hle,hmx,hsz,htk⟩
 ·exact ⟨none,0,by rw [h0],by omega,fun i hi=>by omega⟩
 ·refine ⟨some ⟨g,0,none⟩,cap,rfl,hle,fun i hi=>?_⟩
  obtain ⟨x,a,m,c,h1,h2,h3⟩:=h.at_ i hi
  refine ⟨g,0,x,a,m,c,rfl,?_,?_,h3,hP g hb,cur,hcur⟩
  ·rw [cellsOf hcur,Nat.zero_add]
   rw [←htk,List.getElem?_take_of_lt (by omega)] at h1
   simpa using h1
  ·rw [cellsOf hcur,Nat.zero_add]
   rw [←htk,List.getElem?_take_of_lt (by omega)] at h2
   simpa using h2
def fixedP (a:List Int) (t:Nat) (x:Int):List Int:=raisedP (a.eraseIdx (t+1)) (a.getD (t+1) 0*x)
theorem erase_lt {K:Nat} {a:List Int} (h:∀ k,Pl.Lt K (a.getD k 0)) (t k:Nat):Pl.Lt K ((a.eraseIdx t).getD k 0):=by
 rw [List.getD_eq_getElem?_getD,List.getElem?_eraseIdx]
 split
 ·have:=h k;rwa [List.getD_eq_getElem?_getD] at this
 ·have:=h (k+1);rwa [List.getD_eq_getElem?_getD] at this
def keptTo (a:List Int) (t j:Nat):List Int:=(a.take j).eraseIdx t
theorem kept_zero (a:List Int) (t:Nat):keptTo a t 0=[]:=by simp [keptTo]
theorem kept_at (a:List Int) (t:Nat):keptTo a t (t+1)=keptTo a t t:=by
 unfold keptTo
 rw [List.eraseIdx_of_length_le (l:=a.take t) (by rw [List.length_take];omega)]
 by_cases h:t<a.length
 ·rw [List.take_succ_eq_append_getElem h,List.eraseIdx_append_of_length_le (by rw [List.length_take];omega)]
  have:t - (a.take t).length=0:=by rw [List.length_take];omega
  rw [this];simp
 ·rw [List.take_of_length_le (by omega),List.take_of_length_le (by omega),List.eraseIdx_of_length_le (by omega)]
theorem kept_next (a:List Int) (t:Nat) {j:Nat} (hj:j<a.length) (hne:j≠t):keptTo a t (j+1)=keptTo a t j++[a.getD j 0]:=by
 unfold keptTo
 have e:a.getD j 0=a[j]:=by rw [List.getD_eq_getElem?_getD,List.getElem?_eq_getElem hj];rfl
 rw [List.take_succ_eq_append_getElem hj,e]
 by_cases h:t<j
 ·rw [List.eraseIdx_append_of_lt_length (by rw [List.length_take];omega)]
 ·rw [List.eraseIdx_of_length_le (l:=a.take j) (by rw [List.length_take];omega),List.eraseIdx_of_length_le (by rw [List.length_append,List.length_take];simp;omega)]
theorem kept_all (a:List Int) (t:Nat):keptTo a t a.length=a.eraseIdx t:=by unfold keptTo;rw [List.take_length]
theorem kept_len (a:List Int) (t j:Nat):(keptTo a t j).length≤j:=by
 unfold keptTo
 have h1:=List.length_eraseIdx_le (a.take j) t
 rw [List.length_take] at h1
 omega
section
section
attribute [local go_sem] valUpon
set_option maxHeartbeats 20000000 in
theorem fixedSums_any (P:Nat→Prop) (K n at_:Nat) (ls:List (List Int)) (x:Int) (va vx:Value) (w:World) (hP:∀ b,w.heap.size≤b→P b) (ha:RowsAt P w va ls) (hx:WhAt P w vx x) (hn0:0<n) (hn:n≤100) (hat:at_<n) (hm:ls.length≤1000) (hlen:∀ l∈ls,l.length=n+1) (hal:∀ i k,Pl.Lt K ((ls.getD i []).getD k 0)) (hxl:Pl.Lt K x) (hK:2*K≤1500000000000) :
  Calls Try.prog 151 #[va,.int .i64 at_,vx] w fun e w'=>∃ v',e=.returned v'∧RowsAt P w' v' (ls.map fun a=>fixedP a at_ x)∧Below w.heap.size w w':=by
 obtain ⟨i0,hi0,hz0,hz1,hz2⟩:=info_parts Try.infoWhole
 obtain ⟨i1,hi1,hy0,hy1,hy2⟩:=info_parts Try.infoRow
 have HRA:=hide ha
 have HLEN:=hide hlen
 obtain ⟨N,hN⟩:∃ N,ls.length=N:=⟨_,rfl⟩
 have HN:=hide hN
 obtain ⟨aa,ac,rfl⟩:∃ ad cap,va=.slice ad N cap:=by obtain ⟨ad,cap,e,_⟩:=ha;rw [hN] at e;exact ⟨ad,cap,e⟩
 obtain ⟨bx,ba,bm,bc,rfl⟩:=hx.shape
 have HD:=hide (var_new hx)
 have HGa:Hid (Grows w (w.alloc (.cells #[.int .i64 bx,.slice ba bm bc] 82))):=Grows.alloc _ _
 rw [hN] at hm
 have hwa:IntKind.i64.wrap ((at_:Int)+1)=(at_:Int)+1:=by rw [IntKind.wrap_i64];omega
 have hta:((at_:Int)+1).toNat=at_+1:=by omega
 have hIa:(at_:Int)+1<(n:Int)+1:=by omega
 have hIa0:(0:Int)≤(at_:Int)+1:=by omega
 clear ha hx hlen hN
 go_enter Try.func151,Try.ntmps151
 go_wp2_with (at_make;refine wpList_make_full _ rfl _ _ 76 rfl (w.heap.size+1) 73 i1 (.slice none 0 0) 1 Try.underlying76 hi1 hy0 hy1 .i64 .i64 _ _ N rfl rfl ?e1 ?e2 ?c1 ?c2 ?c3 ?_)
 case e1=>first | rfl | omega | simp
 case e2=>first | rfl | omega | simp
 case c1=>rw [hy2];omega
 case c2=>unfold maxLen;omega
 case c3=>first | omega | simp
 ·intro w1 hown hgrow
  have hG1:Grows (w.alloc (.cells #[.int .i64 bx,.slice ba bm bc] 82)) w1:=(Below.refl _ _).grown hgrow (Nat.le_refl _) (by intro k hk;cases hk)
  have HL0:Hid (ListTo P w1 (w.heap.size+1) N []):=ListTo.made hown
  have HG1:Hid (Grows w w1):=(uh HGa).trans hG1
  have HV1:=hide ((uh HD).grow hG1)
  clear hown hgrow hG1
  go_wp2_with fail
  go_loopg [8] N (fun k iv wr=>∃ (i:Nat),iv=.int .i64 i∧i+k=N∧Hid (ListTo P wr (w.heap.size+1) N ((ls.take i).map fun a=>fixedP a at_ x)∧Grows w wr∧VarAt P wr w.heap.size bx ba bm bc x))
  case atStart=>exact ⟨0,rfl,by omega,by simpa using uh HL0,uh HG1,uh HV1⟩
  case round =>
   rename Nat=>go
   rename World=>wo
   obtain ⟨i,rfl,hik,HR⟩:=hrel
   have HGo:Hid (Grows w wo):=(uh HR).2.1
   by_cases hlt:i<N
   ·have hil:i<ls.length:=by rw [uh HN];exact hlt
    obtain ⟨gr,orr,cr,u,er,k0,hur,hmem⟩:=rows_cell ((uh HRA).below (uh HR).2.1) hil
    rw [uh HN] at er
    cases er
    have hlr:=uh HLEN _ hmem
    obtain ⟨ga,oa,ca,csa,rfl,hga,hcell⟩:=hur.get (by omega)
    rw [hlr] at k0
    have HLR:=hide hlr
    have HCELL:=hide hcell
    obtain ⟨ul,kul⟩:=(uh HR).1.cell hlt
    clear hur hmem hlr hcell
    go_wp2_with fail
    go_loopg [9,10] (n+1) (fun k fv jv wr=>∃ (j:Nat) (xs:List Value) (fa:Option Addr) (fn fc:Nat),jv=.int .i64 j∧fv=.slice fa fn fc∧j+k=n+1∧Hid (wr.ownsRow wo.heap.size 82 2 (.slice fa fn fc) (keptTo (ls.getD i []) (at_+1) j).length xs∧RowX P wr xs (keptTo (ls.getD i []) (at_+1) j)∧Grows wo wr))
    case atStart=>exact ⟨0,[],none,0,0,rfl,rfl,by omega,by rw [kept_zero];exact ⟨rfl,.inl ⟨rfl,rfl⟩⟩,by rw [kept_zero];exact RowX.nil P wo,Grows.refl _⟩
    case round =>
     obtain ⟨j,xs,fa,fn,fc,rfl,rfl,hjk,HI⟩:=hrel
     have k0r:=(uh HI).2.2.cell k0
     by_cases hjn:j<n+1
     ·obtain ⟨zx,za,zm,zc,z0,z1,hzv⟩:=uh HCELL j (by rw [uh HLR];exact hjn)
      have z0:=(uh HI).2.2.cell z0
      have z1:=(uh HI).2.2.cell z1
      have hjl:j<(ls.getD i []).length:=by rw [uh HLR];exact hjn
      by_cases hja:j=at_+1
      ·subst hja
       have HK2:=hide (kept_at (ls.getD i []) (at_+1))
       clear hzv hjl
       go_wp2
       go_roundg (gk - 1)
       case measure=>omega
       case rel=>exact ⟨at_+1+1,xs,fa,fn,fc,by simp,rfl,by omega,by rw [uh HK2];exact (uh HI).1,by rw [uh HK2];exact (uh HI).2.1,(uh HI).2.2⟩
      ·have HK2:=hide (kept_next (ls.getD i []) (at_+1) hjl hja)
       have hkl:(keptTo (ls.getD i []) (at_+1) j).length≤101:=by have:=kept_len (ls.getD i []) (at_+1) j;omega
       have HX2:Hid (RowX P wr (xs++[.int .i64 zx,.slice za zm zc]) (keptTo (ls.getD i []) (at_+1) j++[(ls.getD i []).getD j 0])):=(uh HI).2.1.snoc (by
        rw [List.getD_eq_getElem?_getD,List.getElem?_eq_getElem hjl];exact hzv.below (uh HI).2.2)
       obtain ⟨kk,hkk⟩:∃ kk,(keptTo (ls.getD i []) (at_+1) j).length=kk:=⟨_,rfl⟩
       have hal2:=(uh HI).1.alloc (.cells #[.int .i64 zx,.slice za zm zc] 82)
       rw [hkk] at hal2 hkl
       have HKK:=hide hkk
       have tne:((j:Int) != (at_:Int)+1)=true:=by simp;omega
       clear hzv hjl hkk hja
       go_wp2_with (at_builtin;refine wpList_append_lies _ rfl _ _ 73 rfl wo.heap.size 82 i0 (.agg #[.int .i64 0,.slice none 0 0]) 2 32 Try.underlying73 hi0 hz0 hz1 hz2 rfl (by decide) _ kk xs rfl hal2 ⟨_,0,none⟩ 1 1 [.int .i64 zx,.slice za zm zc] rfl rfl ?d1 (by simp [Value.oneCell']) (by decide) ?d2 ?d3 ?d4 _ rfl ?_)
       case d1=>exact fun j u hu=>World.news_of_block (heap_alloc_new _ _) j u hu
       case d2=>unfold maxLen;omega
       case d3=>omega
       case d4=>exact Nat.le_trans (uh HI).2.2.size (by simp)
       ·intro g cap w2 hown1 hgrow hat2 hlt2
        have hG2:Grows wo w2:=Below.grown (Grows.trans (uh HI).2.2 (Grows.alloc wr _)) hgrow (Nat.le_trans (uh HI).2.2.size (by simp)) (own_base hal2)
        have hkeep:KeepT 3 wr w2:=(KeepT.of_below (Grows.alloc wr (.cells #[.int .i64 zx,.slice za zm zc] 82))).trans (KeepT.grown hal2 hgrow (by decide))
        have HX3:Hid (RowX P w2 (xs++[.int .i64 zx,.slice za zm zc]) (keptTo (ls.getD i []) (at_+1) (j+1))):=by
         unfold Hid
         rw [uh HK2]
         exact ⟨(uh HX2).len,fun i hi=>by obtain ⟨x',a',m',c',h1,h2,h3⟩:=(uh HX2).at_ i hi;exact ⟨x',a',m',c',h1,h2,h3.keep hkeep⟩⟩
        have HO2:=hide hown1
        have HG2:=hide hG2
        have HKL:Hid ((keptTo (ls.getD i []) (at_+1) (j+1)).length=kk+1):=by unfold Hid;rw [uh HK2,List.length_append,uh HKK];rfl
        clear hown1 hgrow hat2 hlt2 hal2 hG2 hkeep
        go_wp2
        go_roundg (gk - 1)
        case measure=>omega
        case rel=>exact ⟨j+1,xs++[.int .i64 zx,.slice za zm zc],_,_,_,by simp,rfl,by omega,by rw [uh HKL];exact uh HO2,uh HX3,uh HG2⟩
     ·have hjn2:j=n+1:=by omega
      subst hjn2
      have hEL:((ls.getD i []).eraseIdx (at_+1)).length=n:=by rw [List.length_eraseIdx,if_pos (by rw [uh HLR];omega),uh HLR];rfl
      have hka:keptTo (ls.getD i []) (at_+1) (n+1)=(ls.getD i []).eraseIdx (at_+1):=by
       have:=kept_all (ls.getD i []) (at_+1)
       rwa [uh HLR] at this
      have HFX:Hid (RowAt P wr (.slice fa fn fc) ((ls.getD i []).eraseIdx (at_+1))):=by
       unfold Hid
       rw [←hka]
       exact (uh HI).2.1.row (uh HI).1 (fun g hg=>hP g (Nat.le_trans (uh HGo).size hg))
      have HEL:=hide hEL
      have HGi:Hid (Grows w wr):=(uh HGo).trans (uh HI).2.2
      have HVi:=hide ((uh HR).2.2.grow (uh HI).2.2)
      have HLi:=hide ((uh HR).1.grow (uh HI).2.2)
      have HLT2:Hid (((ls.take i).map fun a=>fixedP a at_ x).length=i):=by unfold Hid;simp;omega
      obtain ⟨zx,za,zm,zc,z0,z1,hzv⟩:=uh HCELL (at_+1) (by rw [uh HLR];omega)
      have HZV:Hid (WhAt P wr (.agg #[.int .i64 zx,.slice za zm zc]) ((ls.getD i []).getD (at_+1) 0)):=by
       unfold Hid
       rw [List.getD_eq_getElem?_getD,List.getElem?_eq_getElem (by rw [uh HLR];omega)];exact hzv.below (uh HI).2.2
      have z0:=(uh HI).2.2.cell z0
      have z1:=(uh HI).2.2.cell z1
      obtain ⟨v0,v1,_⟩:=(uh HVi).cells
      have kul:=(uh HI).2.2.cell kul
      have y1:=cell_regrown z0
      have y2:=cell_regrown z1
      have y3:=cell_regrown v0
      have y4:=cell_regrown v1
      have y5:=cell_regrown k0r
      clear hEL hka hzv HI
      go_wp2_with fail
      clear z0 z1 v0 v1 k0r
      refine wp_region_grown (phiL [(55,fun v w=>WhAt P w v ((ls.getD i []).getD (at_+1) 0*x)),(56,fun v w=>RowAt P w v (fixedP (ls.getD i []) at_ x))]) (gL [(55,ShapeI),(56,ShapeS)]) 59 15 (by kernel_rfl) (by rfl) (by kernel_rfl) (phi_c (fun _ _ _=>WhAt.below) (phi_c (fun _ _ _=>RowAt.below) phi_n)) ?_
      iterate 12 (refine lex_s fun K hK=>?_;go_simp;refine hK _ ?_;clear hK K)
      refine lex_call ShapeI 93 #[.agg #[.int .i64 zx,.slice za zm zc],.agg #[.int .i64 bx,.slice ba bm bc]] (by rfl) (by rfl) ShapeI.some (fun w=>by go_simp) (fun w1 hg hf=>(Mul_any P K ((ls.getD i []).getD (at_+1) 0) x _ _ w1 (fun b' hb'=>hP b' (by have:=(Grows.trans (uh HGi) hg).size;omega)) ((uh HZV).below hg) ((uh HVi).val.below hg) (by omega) (hal _ _) hxl).mono (by rintro e w' ⟨v',rfl,hv,hb⟩;exact ⟨_,rfl,hb,hv.shapeI,fun t ht=>by cases ht;exact hv⟩)) ?_
      rintro _ ⟨cx,ca,cm,cc,rfl⟩
      refine lex_call ShapeS 60 #[.slice fa fn fc,.agg #[.int .i64 cx,.slice ca cm cc]] (by rfl) (by rfl) ShapeS.some (fun w=>by go_simp) (fun w1 hg hf=>(raised_any P (2*K) n ((ls.getD i []).eraseIdx (at_+1)) ((ls.getD i []).getD (at_+1) 0*x) _ _ w1 (fun b' hb'=>hP b' (by have:=(Grows.trans (uh HGi) hg).size;omega)) ((uh HFX).below hg) (hf 12 (by kernel_rfl) _ 55 rfl rfl) (uh HEL) hn0 (by omega) (fun k=>Pl.Lt.mono (erase_lt (hal i) _ k) (by omega)) (by rw [Nat.two_mul];exact (hal _ _).mul hxl) (by omega)).mono (by rintro e w' ⟨v',rfl,hv,hb⟩;exact ⟨_,rfl,hb,hv.shapeS,fun t ht=>by cases ht;exact hv⟩)) ?_
      rintro _ ⟨ra,rm,rc,rfl⟩
      (refine lex_s fun K hK=>?_;go_simp;refine hK _ ?_;clear hK K)
      refine lex_last ?_
      intro w2 hg2 hphi
      have q56:RowAt P w2 (.slice ra rm rc) (fixedP (ls.getD i []) at_ x):=hphi 13 _ 56 (by decide) rfl rfl
      clear hphi y1 y2 y3 y4 y5
      have hL2:=(uh HLi).grow hg2
      have kul2:=Grows.cell hg2 kul
      have ff:=hL2.free i
      have HL3:Hid (ListTo P (w2.setCell ⟨w.heap.size+1,i,none⟩ (.slice ra rm rc)) (w.heap.size+1) N ((ls.take (i+1)).map fun a=>fixedP a at_ x)):=by
       unfold Hid
       rw [take_snoc_map (fun a=>fixedP a at_ x) ls hil]
       have h1:=hL2.add (by rw [uh HLT2];exact hlt) q56
       rw [uh HLT2] at h1
       exact h1
      have HG3:Hid (Grows w (w2.setCell ⟨w.heap.size+1,i,none⟩ (.slice ra rm rc))):=Below.setCell (p:=⟨w.heap.size+1,i,none⟩) (Grows.trans (uh HGi) hg2) (by show w.heap.size≤w.heap.size+1;omega) _
      have HV3:Hid (VarAt P (w2.setCell ⟨w.heap.size+1,i,none⟩ (.slice ra rm rc)) w.heap.size bx ba bm bc x):=by
       refine ⟨(Below.heap_setCell _ _ _ _ (show w.heap.size≠w.heap.size+1 by omega)).trans ((uh HVi).grow hg2).heap,((uh HVi).grow hg2).val.keep (KeepT.setCell hL2.block.choose_spec (by decide) _ _)⟩
      clear q56 hL2 hg2
      go_wp2
      go_roundg (go - 1)
      case measure=>omega
      case rel=>exact ⟨i+1,by simp,by omega,uh HL3,uh HG3,uh HV3⟩
   ·have hin:i=N:=by omega
    have HF:Hid (RowsAt P wo (.slice (some ⟨w.heap.size+1,0,none⟩) N N) (ls.map fun a=>fixedP a at_ x)∧Grows w wo):=by
     refine ⟨?_,(uh HR).2.1⟩
     have h1:=(uh HR).1
     rw [hin,←uh HN,List.take_length] at h1
     rw [←uh HN]
     exact h1.rows (by simp) (hP _ (by omega))
    clear HR
    go_wp2
    go_ret
    exact ⟨_,rfl,(uh HF).1,(uh HF).2⟩
end
def absI (n:Int):Int:=if n<0 then -n else n
theorem absI_nat (n:Int):absI n=n.natAbs:=by unfold absI;split <;> omega
attribute [local go_sem] valUpon
set_option maxHeartbeats 20000000 in
theorem leastRise_any (P:Nat→Prop) (K n:Nat) (l:List Int) (v:Value) (w:World) (hP:∀ b,w.heap.size≤b→P b) (h:RowAt P w v l) (hln:l.length=n) (hn:n≤1000) (hl:∀ k,Pl.Lt K (l.getD k 0)) (hK:K≤1500000000000) :
  Calls Try.prog 149 #[v] w fun e w'=>∃ c:Int,e=.returned (.int .i64 c)∧BestOf (fun k=>l.getD k 0≠0) (fun k=>absI (l.getD k 0)) n c∧Below w.heap.size w w':=by
 have HRA:=hide h
 have HLA:=hide hln
 obtain ⟨aa,ac,rfl⟩:∃ ad cap,v=.slice ad n cap:=by obtain ⟨ad,cap,e,_⟩:=h;rw [hln] at e;exact ⟨ad,cap,e⟩
 clear h hln
 go_enter Try.func149,Try.ntmps149
 go_wp2_with fail
 go_loopg [3,4] n (fun k bv jv wr=>∃ (j:Nat) (c:Int),jv=.int .i64 j∧bv=.int .i64 c∧j+k=n∧Hid (BestOf (fun k=>l.getD k 0≠0) (fun k=>absI (l.getD k 0)) j c∧Grows w wr))
 case atStart=>exact ⟨0,-1,rfl,rfl,by omega,.inl ⟨rfl,fun k hk=>by omega⟩,Grows.refl _⟩
 case round =>
  obtain ⟨j,c,rfl,rfl,hjk,HR⟩:=hrel
  by_cases hlt:j<n
  ·obtain ⟨ga,oa,ca,px,pa,pm,pc,ea,p0,p1,hpv⟩:=row_cell ((uh HRA).below (uh HR).2) (i:=j) (by rw [uh HLA];exact hlt)
   rw [uh HLA] at ea
   cases ea
   have HPV:=hide hpv
   have HSg:=hide (fun w1 (hg:Grows wr w1)=>Sign_any P _ (l.getD j 0) w1 (hpv.below hg))
   obtain ⟨sg,hsg⟩:∃ sg,Int.sign (l.getD j 0)=sg:=⟨_,rfl⟩
   rw [hsg] at HSg
   have y1:=cell_regrown p0
   have y2:=cell_regrown p1
   clear hpv
   by_cases hz:l.getD j 0=0
   ·have hs0:sg=0:=by rw [←hsg,hz];rfl
    subst hs0
    have HF:=hide ((uh HR).1.skip (fun h=>h hz))
    clear hsg hz
    go_wp2_with fail
    clear p0 p1
    refine wp_region_grown (phiL []) (gL [(15,(·=.int .i64 0))]) 37 23 (by kernel_rfl) (by rfl) (by kernel_rfl) (phiL_grows (by simp)) ?_
    iterate 4 (refine lex_s fun K hK=>?_;go_simp;refine hK _ ?_;clear hK K)
    refine lex_call (·=.int .i64 0) 81 #[.agg #[.int .i64 px,.slice pa pm pc]] (by rfl) (by rfl) ⟨_,rfl⟩ (fun w=>by go_simp) (fun w1 hg hf=>(uh HSg w1 hg).mono (by rintro e w' ⟨rfl,hb⟩;exact ⟨_,rfl,hb,rfl,fun t ht=>by cases ht;exact True.intro⟩)) ?_
    rintro _ rfl
    iterate 9 (refine lex_s fun K hK=>?_;go_simp;refine hK _ ?_;clear hK K)
    refine lex_not (by rfl) (fun _ _ _ t ht=>by cases ht;exact True.intro) ?_
    iterate 4 (refine lex_s fun K hK=>?_;go_simp;refine hK _ ?_;clear hK K)
    refine lex_not (by rfl) (fun _ _ _ t ht=>by cases ht;exact True.intro) ?_
    refine lex_not (by rfl) (fun _ _ _ t ht=>by cases ht;exact True.intro) ?_
    repeat (refine lex_s fun K hK=>?_;go_simp;refine hK _ ?_;clear hK K)
    refine lex_last ?_
    intro w5 hg5 _
    have HB5:Hid (Grows w w5):=(uh HR).2.trans hg5
    clear hg5
    go_wp2
    go_roundg (gk - 1)
    case measure=>omega
    case rel=>exact ⟨j+1,c,by simp,rfl,by omega,uh HF,uh HB5⟩
   ·have hs1:sg≠0:=by rw [←hsg];intro h;exact hz (Int.sign_eq_zero_iff_zero.1 h)
    have d1:(sg != 0)=true:=by simp [hs1]
    rcases (uh HR).1 with ⟨hc1,hno⟩|⟨k,hk1,hk2,hk3,hk4⟩
    ·have HF:=hide ((uh HR).1.take hz (fun k hk=>by omega))
     subst hc1
     clear hsg hz hno
     go_wp2_with fail
     clear p0 p1
     refine wp_region_grown (phiL []) (gL [(15,(·=.int .i64 sg))]) 37 23 (by kernel_rfl) (by rfl) (by kernel_rfl) (phiL_grows (by simp)) ?_
     iterate 4 (refine lex_s fun K hK=>?_;go_simp;refine hK _ ?_;clear hK K)
     refine lex_call (·=.int .i64 sg) 81 #[.agg #[.int .i64 px,.slice pa pm pc]] (by rfl) (by rfl) ⟨_,rfl⟩ (fun w=>by go_simp) (fun w1 hg hf=>(uh HSg w1 hg).mono (by rintro e w' ⟨rfl,hb⟩;exact ⟨_,rfl,hb,rfl,fun t ht=>by cases ht;exact True.intro⟩)) ?_
     rintro _ rfl
     repeat (refine lex_s fun K hK=>?_;go_simp;refine hK _ ?_;clear hK K)
     refine lex_last ?_
     intro w5 hg5 _
     have HB5:Hid (Grows w w5):=(uh HR).2.trans hg5
     clear hg5
     go_wp2
     go_roundg (gk - 1)
     case measure=>omega
     case rel=>exact ⟨j+1,j,by simp,rfl,by omega,uh HF,uh HB5⟩
    ·subst hk2
     have hkn:k<n:=by omega
     obtain ⟨gb,ob,cb,qx,qa,qm,qc,eb,q0,q1,hqv⟩:=row_cell ((uh HRA).below (uh HR).2) (i:=k) (by rw [uh HLA];exact hkn)
     rw [uh HLA] at eb
     cases eb
     have HQV:=hide hqv
     have y3:=cell_regrown q0
     have y4:=cell_regrown q1
     have hk0:¬ ((k:Int)<0):=by omega
     have HCM:=hide (fun w1 (hg:Grows wr w1) va vb (ha:WhAt P w1 va (absI (l.getD j 0))) (hb:WhAt P w1 vb (absI (l.getD k 0)))=>Compare_any P K _ _ va vb w1 (fun b' hb'=>hP b' (by have:=((uh HR).2.trans hg).size;omega)) ha hb hK (by have:=hl j;unfold Pl.Lt at this;rw [absI_nat];simpa using this) (by have:=hl k;unfold Pl.Lt at this;rw [absI_nat];simpa using this))
     obtain ⟨cm,hcm⟩:∃ cm,Int.sign (absI (l.getD j 0) - absI (l.getD k 0))=cm:=⟨_,rfl⟩
     rw [hcm] at HCM
     by_cases hless:absI (l.getD j 0)<absI (l.getD k 0)
     ·have d2:decide (cm<0)=true:=by rw [←hcm,Int.sign_eq_neg_one_of_neg (by omega)];decide
      have hle2:∀ k':Nat,(k:Int)=k'→absI (l.getD j 0)<absI (l.getD k' 0):=fun k' hk'=>by
       rw [show k'=k by omega];exact hless
      have HF:=hide ((uh HR).1.take hz hle2)
      clear hsg hz hk3 hk4 hle2 hless hcm hqv
      go_wp2_with fail
      clear p0 p1 q0 q1
      refine wp_region_grown (phiL [(25,fun v w=>WhAt P w v (absI (l.getD j 0))),(30,fun v w=>WhAt P w v (absI (l.getD k 0)))]) (gL [(15,(·=.int .i64 sg)),(25,ShapeI),(30,ShapeI),(31,(·=.int .i64 cm))]) 37 23 (by kernel_rfl) (by rfl) (by kernel_rfl) (phi_c (fun _ _ _=>WhAt.below) (phi_c (fun _ _ _=>WhAt.below) phi_n)) ?_
      iterate 4 (refine lex_s fun K hK=>?_;go_simp;refine hK _ ?_;clear hK K)
      refine lex_call (·=.int .i64 sg) 81 #[.agg #[.int .i64 px,.slice pa pm pc]] (by rfl) (by rfl) ⟨_,rfl⟩ (fun w=>by go_simp) (fun w1 hg hf=>(uh HSg w1 hg).mono (by rintro e w' ⟨rfl,hb⟩;exact ⟨_,rfl,hb,rfl,fun t ht=>by cases ht;exact True.intro⟩)) ?_
      rintro _ rfl
      iterate 9 (refine lex_s fun K hK=>?_;go_simp;refine hK _ ?_;clear hK K)
      refine lex_call ShapeI 152 #[.agg #[.int .i64 px,.slice pa pm pc]] (by rfl) (by rfl) ShapeI.some (fun w=>by go_simp) (fun w1 hg hf=>(Abs_any P _ _ w1 ((uh HPV).below hg)).mono (by rintro e w' ⟨v',rfl,hv,hb⟩;exact ⟨_,rfl,hb,hv.shapeI,fun t ht=>by cases ht;exact hv⟩)) ?_
      rintro _ ⟨ax,aa,am,ac,rfl⟩
      iterate 4 (refine lex_s fun K hK=>?_;go_simp;refine hK _ ?_;clear hK K)
      refine lex_call ShapeI 152 #[.agg #[.int .i64 qx,.slice qa qm qc]] (by rfl) (by rfl) ShapeI.some (fun w=>by go_simp) (fun w1 hg hf=>(Abs_any P _ _ w1 ((uh HQV).below hg)).mono (by rintro e w' ⟨v',rfl,hv,hb⟩;exact ⟨_,rfl,hb,hv.shapeI,fun t ht=>by cases ht;exact hv⟩)) ?_
      rintro _ ⟨bx,ba,bm,bc,rfl⟩
      refine lex_call (·=.int .i64 cm) 89 #[.agg #[.int .i64 ax,.slice aa am ac],.agg #[.int .i64 bx,.slice ba bm bc]] (by rfl) (by rfl) ⟨_,rfl⟩ (fun w=>by go_simp) (fun w1 hg hf=>(uh HCM w1 hg _ _ (hf 14 (by kernel_rfl) _ 25 rfl rfl) (hf 19 (by kernel_rfl) _ 30 rfl rfl)).mono (by rintro e w' ⟨rfl,hb⟩;exact ⟨_,rfl,hb,rfl,fun t ht=>by cases ht;exact True.intro⟩)) ?_
      rintro _ rfl
      repeat (refine lex_s fun K hK=>?_;go_simp;refine hK _ ?_;clear hK K)
      refine lex_last ?_
      intro w5 hg5 _
      have HB5:Hid (Grows w w5):=(uh HR).2.trans hg5
      clear hg5
      go_wp2
      go_roundg (gk - 1)
      case measure=>omega
      case rel=>exact ⟨j+1,j,by simp,rfl,by omega,uh HF,uh HB5⟩
     ·have d2:decide (cm<0)=false:=by
       rw [←hcm]
       rcases (show 0<absI (l.getD j 0) - absI (l.getD k 0)∨absI (l.getD j 0) - absI (l.getD k 0)=0 by omega) with h|h
       ·rw [Int.sign_eq_one_of_pos h];decide
       ·rw [h];decide
      have HF:=hide ((uh HR).1.stay (show absI (l.getD k 0)≤absI (l.getD j 0) by omega))
      clear hsg hz hk3 hk4 hless hcm hqv
      go_wp2_with fail
      clear p0 p1 q0 q1
      refine wp_region_grown (phiL [(25,fun v w=>WhAt P w v (absI (l.getD j 0))),(30,fun v w=>WhAt P w v (absI (l.getD k 0)))]) (gL [(15,(·=.int .i64 sg)),(25,ShapeI),(30,ShapeI),(31,(·=.int .i64 cm))]) 37 23 (by kernel_rfl) (by rfl) (by kernel_rfl) (phi_c (fun _ _ _=>WhAt.below) (phi_c (fun _ _ _=>WhAt.below) phi_n)) ?_
      iterate 4 (refine lex_s fun K hK=>?_;go_simp;refine hK _ ?_;clear hK K)
      refine lex_call (·=.int .i64 sg) 81 #[.agg #[.int .i64 px,.slice pa pm pc]] (by rfl) (by rfl) ⟨_,rfl⟩ (fun w=>by go_simp) (fun w1 hg hf=>(uh HSg w1 hg).mono (by rintro e w' ⟨rfl,hb⟩;exact ⟨_,rfl,hb,rfl,fun t ht=>by cases ht;exact True.intro⟩)) ?_
      rintro _ rfl
      iterate 9 (refine lex_s fun K hK=>?_;go_simp;refine hK _ ?_;clear hK K)
      refine lex_call ShapeI 152 #[.agg #[.int .i64 px,.slice pa pm pc]] (by rfl) (by rfl) ShapeI.some (fun w=>by go_simp) (fun w1 hg hf=>(Abs_any P _ _ w1 ((uh HPV).below hg)).mono (by rintro e w' ⟨v',rfl,hv,hb⟩;exact ⟨_,rfl,hb,hv.shapeI,fun t ht=>by cases ht;exact hv⟩)) ?_
      rintro _ ⟨ax,aa,am,ac,rfl⟩
      iterate 4 (refine lex_s fun K hK=>?_;go_simp;refine hK _ ?_;clear hK K)
      refine lex_call ShapeI 152 #[.agg #[.int .i64 qx,.slice qa qm qc]] (by rfl) (by rfl) ShapeI.some (fun w=>by go_simp) (fun w1 hg hf=>(Abs_any P _ _ w1 ((uh HQV).below hg)).mono (by rintro e w' ⟨v',rfl,hv,hb⟩;exact ⟨_,rfl,hb,hv.shapeI,fun t ht=>by cases ht;exact hv⟩)) ?_
      rintro _ ⟨bx,ba,bm,bc,rfl⟩
      refine lex_call (·=.int .i64 cm) 89 #[.agg #[.int .i64 ax,.slice aa am ac],.agg #[.int .i64 bx,.slice ba bm bc]] (by rfl) (by rfl) ⟨_,rfl⟩ (fun w=>by go_simp) (fun w1 hg hf=>(uh HCM w1 hg _ _ (hf 14 (by kernel_rfl) _ 25 rfl rfl) (hf 19 (by kernel_rfl) _ 30 rfl rfl)).mono (by rintro e w' ⟨rfl,hb⟩;exact ⟨_,rfl,hb,rfl,fun t ht=>by cases ht;exact True.intro⟩)) ?_
      rintro _ rfl
      repeat (refine lex_s fun K hK=>?_;go_simp;refine hK _ ?_;clear hK K)
      refine lex_last ?_
      intro w5 hg5 _
      have HB5:Hid (Grows w w5):=(uh HR).2.trans hg5
      clear hg5
      go_wp2
      go_roundg (gk - 1)
      case measure=>omega
      case rel=>exact ⟨j+1,k,by simp,rfl,by omega,uh HF,uh HB5⟩
  ·have hjn:j=n:=by omega
   subst hjn
   have HF:=hide (uh HR)
   clear HR
   go_wp2
   go_ret
   exact ⟨_,rfl,(uh HF).1,(uh HF).2⟩
end
structure Fam (P:Nat→Prop) (w:World) (N:Nat) (R len:Nat→Nat) (f:Nat→Nat→Int):Prop where
 rows:∀ r,r<N→RowIn P w (R r) (len r) (f r)
 inj:∀ r s,r<N→s<N→R r=R s→r=s
theorem Fam.grow {P:Nat→Prop} {w w':World} {N:Nat} {R len:Nat→Nat} {f:Nat→Nat→Int} (h:Fam P w N R len f) (hg:Grows w w'):Fam P w' N R len f:=⟨fun r hr=>(h.rows r hr).grow hg,h.inj⟩
theorem Fam.congr {P:Nat→Prop} {w:World} {N:Nat} {R len:Nat→Nat} {f f':Nat→Nat→Int} (h:Fam P w N R len f) (e:∀ r i,r<N→i<len r→f r i=f' r i):Fam P w N R len f':=⟨fun r hr=>(h.rows r hr).congr (fun i hi=>e r i hr hi),h.inj⟩
def upd2 (f:Nat→Nat→Int) (r i:Nat) (v:Int) (a b:Nat):Int:=if a=r∧b=i then v else f a b
theorem RowIn.far {P:Nat→Prop} {w:World} {g n:Nat} {f:Nat→Int} (h:RowIn P w g n f) {k:Nat} {cs:Array Value} {T:TypeId} (hk:w.heap[k]?=some (.cells cs T (0,0))) (hT:T≠3) (hne:g≠k) (o:Nat) (u:Value):RowIn P (w.setCell ⟨k,o,none⟩ u) g n f:=by
 obtain ⟨cs',h1,h2,h4⟩:=h
 refine ⟨cs',(Below.heap_setCell _ _ _ _ hne).trans h1,h2,fun i hi=>?_⟩
 obtain ⟨x,a,m,c,d1,d2,d3⟩:=h4 i hi
 exact ⟨x,a,m,c,d1,d2,d3.keep (KeepT.setCell hk hT o u)⟩
theorem Fam.set {P:Nat→Prop} {w:World} {N:Nat} {R len:Nat→Nat} {f:Nat→Nat→Int} (h:Fam P w N R len f) {r i:Nat} (hr:r<N) (hi:i<len r) {x:Int} {a:Option Addr} {m c:Nat} {v:Int} (hv:WhAt P w (.agg #[.int .i64 x,.slice a m c]) v) :
  Fam P ((w.setCell ⟨R r,i*2,none⟩ (.int .i64 x)).setCell ⟨R r,i*2+1,none⟩ (.slice a m c)) N R len (upd2 f r i v):=by
 refine ⟨fun s hs=>?_,h.inj⟩
 by_cases e:s=r
 ·subst e
  refine ((h.rows s hs).set hi hv).congr (fun k hk=>?_)
  unfold updF upd2
  by_cases e2:k=i
  ·rw [if_pos e2,if_pos ⟨rfl,e2⟩]
  ·rw [if_neg e2,if_neg (fun h=>e2 h.2)]
 ·have hne:R s≠R r:=fun he=>e (h.inj s r hs hr he)
  obtain ⟨cs,hcs⟩:=(h.rows r hr).block
  refine (((h.rows s hs).far hcs (by decide) hne _ _).far (heap_setCell_same w (R r) (i*2) _ _ (.int .i64 x) hcs) (by decide) hne _ _).congr (fun k _=>?_)
  unfold upd2
  rw [if_neg (fun h=>e h.1)]
theorem Fam.far {P:Nat→Prop} {w:World} {N:Nat} {R len:Nat→Nat} {f:Nat→Nat→Int} (h:Fam P w N R len f) {k:Nat} {cs:Array Value} {T:TypeId} (hk:w.heap[k]?=some (.cells cs T (0,0))) (hT:T≠3) (hne:∀ r,r<N→R r≠k) (o:Nat) (u:Value):Fam P (w.setCell ⟨k,o,none⟩ u) N R len f:=⟨fun r hr=>(h.rows r hr).far hk hT (hne r hr) o u,h.inj⟩
def HeadAt (w:World) (g n:Nat) (R:Nat→Nat) (off l:Nat):Prop:=∃ cs,w.heap[g]?=some (.cells cs 73 (0,0))∧∀ i,i<n→cs[i]?=some (.slice (some ⟨R (off+i),0,none⟩) l l)
theorem HeadAt.grow {w w':World} {g n:Nat} {R:Nat→Nat} {off l:Nat} (h:HeadAt w g n R off l) (hg:Grows w w'):HeadAt w' g n R off l:=by
 obtain ⟨cs,h1,h2⟩:=h
 exact ⟨cs,Below.same hg _ _ h1,h2⟩
theorem HeadAt.block {w:World} {g n:Nat} {R:Nat→Nat} {off l:Nat} (h:HeadAt w g n R off l):∃ cs,w.heap[g]?=some (.cells cs 73 (0,0)):=by
 obtain ⟨cs,h1,_⟩:=h
 exact ⟨cs,h1⟩
theorem HeadAt.cell {w:World} {g n:Nat} {R:Nat→Nat} {off l:Nat} (h:HeadAt w g n R off l) {i:Nat} (hi:i<n):w.cell? ⟨g,i,none⟩=some (.slice (some ⟨R (off+i),0,none⟩) l l):=by
 obtain ⟨cs,h1,h2⟩:=h
 rw [cellsOf h1];exact h2 i hi
theorem HeadAt.far {w:World} {g n:Nat} {R:Nat→Nat} {off l:Nat} (h:HeadAt w g n R off l) {k:Nat} (hne:g≠k) (o:Nat) (u:Value):HeadAt (w.setCell ⟨k,o,none⟩ u) g n R off l:=by
 obtain ⟨cs,h1,h2⟩:=h
 exact ⟨cs,(Below.heap_setCell _ _ _ _ hne).trans h1,h2⟩
theorem fam_head_ne {P:Nat→Prop} {w:World} {N:Nat} {R len:Nat→Nat} {f:Nat→Nat→Int} (h:Fam P w N R len f) {g n:Nat} {R':Nat→Nat} {off l:Nat} (hh:HeadAt w g n R' off l):∀ r,r<N→R r≠g:=fun r hr e=>by
 obtain ⟨cs,h1⟩:=(h.rows r hr).block
 obtain ⟨cs',h2,_⟩:=hh
 rw [e,h2] at h1;simp at h1
theorem head_rows {P:Nat→Prop} {w:World} {N:Nat} {R len:Nat→Nat} {f:Nat→Nat→Int} (h:Fam P w N R len f) {g n off l:Nat} (hh:HeadAt w g n R off l) (hoff:off+n≤N) (hl:∀ i,i<n→len (off+i)=l) (cap:Nat) (hcap:n≤cap) (hp:∀ k,k=g∨(∃ i,i<n∧k=R (off+i))→P k):RowsAt P w (.slice (some ⟨g,0,none⟩) n cap) ((List.range n).map fun i=>(List.range l).map (f (off+i))):=by
 obtain ⟨cs,h1,h2⟩:=hh
 refine ⟨some ⟨g,0,none⟩,cap,by simp,by simpa using hcap,fun i hi=>?_⟩
 have hi':i<n:=by simpa using hi
 refine ⟨g,0,_,rfl,by rw [cellsOf h1,Nat.zero_add];exact h2 i hi',?_,hp g (.inl rfl),cs,h1⟩
 have h3:=h.rows (off+i) (by omega)
 rw [hl i hi'] at h3
 simpa using h3.row (hp _ (.inr ⟨i,hi',rfl⟩))
set_option maxHeartbeats 20000000 in
theorem units_any (P:Nat→Prop) (n:Nat) (w:World) (hP:∀ b,w.heap.size≤b→P b) (hn:n≤100) :
  Calls Try.prog 148 #[.int .i64 n] w fun e w'=>∃ (g:Nat) (R:Nat→Nat),e=.returned (.slice (some ⟨g,0,none⟩) n n)∧w.heap.size≤g∧(∀ r,r<n→w.heap.size≤R r)∧Fam P w' n R (fun _=>n) Pl.unit∧HeadAt w' g n R 0 n∧Below w.heap.size w w':=by
 obtain ⟨i0,hi0,hz0,hz1,hz2⟩:=info_parts Try.infoWhole
 obtain ⟨i1,hi1,hy0,hy1,hy2⟩:=info_parts Try.infoRow
 go_enter Try.func148,Try.ntmps148
 go_wp2_with (at_make;refine wpList_make_full _ rfl _ _ 76 rfl w.heap.size 73 i1 (.slice none 0 0) 1 Try.underlying76 hi1 hy0 hy1 .i64 .i64 _ _ n rfl rfl ?e1 ?e2 ?c1 ?c2 ?c3 ?_)
 case e1=>first | rfl | omega | simp
 case e2=>first | rfl | omega | simp
 case c1=>rw [hy2];omega
 case c2=>unfold maxLen;omega
 case c3=>first | omega | simp
 ·intro w1 hown hgrow
  have hG1:Grows w w1:=(Below.refl _ _).grown hgrow (Nat.le_refl _) (by intro k hk;cases hk)
  have HL0:Hid (∃ cs,w1.heap[w.heap.size]?=some (.cells cs 73 (0,0))∧cs.size=n):=by
   obtain ⟨cs,h1,h2,_⟩:=ListTo.made (P:=P) hown
   exact ⟨cs,h1,h2⟩
  have HG1:=hide hG1
  clear hown hgrow hG1
  go_wp2_with fail
  go_loopg [4] n (fun k iv wr=>∃ (i:Nat) (R:Nat→Nat),iv=.int .i64 i∧i+k=n∧Hid ((∀ r,r<i→w.heap.size<R r∧R r<wr.heap.size)∧Fam P wr i R (fun _=>n) Pl.unit∧(∃ cs,wr.heap[w.heap.size]?=some (.cells cs 73 (0,0))∧cs.size=n∧∀ j,j<i→cs[j]?=some (.slice (some ⟨R j,0,none⟩) n n))∧Grows w wr))
  case atStart =>
   obtain ⟨cs,h1,h2⟩:=uh HL0
   exact ⟨0,fun _=>0,rfl,by omega,fun r hr=>by omega,⟨fun r hr=>by omega,fun r s hr=>by omega⟩,⟨cs,h1,h2,fun j hj=>by omega⟩,uh HG1⟩
  case round =>
   obtain ⟨i,R,rfl,hik,HR⟩:=hrel
   by_cases hlt:i<n
   ·go_wp2_with (at_make;refine wpList_make_full _ rfl _ _ 73 rfl wr.heap.size 82 i0 (.agg #[.int .i64 0,.slice none 0 0]) 2 Try.underlying73 hi0 hz0 hz1 .i64 .i64 _ _ n rfl rfl ?e1 ?e2 ?c1 ?c2 ?c3 ?_)
    case e1=>first | rfl | omega | simp
    case e2=>first | rfl | omega | simp
    case c1=>rw [hz2];omega
    case c2=>unfold maxLen;omega
    case c3=>first | omega | simp
    ·intro w2 hown hgrow
     have hG2:Grows wr w2:=(Below.refl _ _).grown hgrow (Nat.le_refl _) (by intro k hk;cases hk)
     have HR0:Hid (RowIn P w2 wr.heap.size n (fun _=>0)):=RowIn.made hown
     have HG2:=hide hG2
     clear hown hgrow hG2
     go_wp2_with fail
     refine (Of_any P 1 w2 (fun b' hb'=>hP b' (by have:=((uh HR).2.2.2.trans (uh HG2)).size;omega)) (by decide) (by decide)).mono ?_
     rintro e w3 ⟨v3,rfl,hv3,hw3⟩
     obtain ⟨ox,oa,om,oc,rfl⟩:=hv3.shape
     have hR3:=(uh HR0).grow hw3
     obtain ⟨qx,qa,qm,qc,r0,r1,_,f0,f1⟩:=hR3.get hlt
     have HR4:=hide ((hR3.set hlt hv3).congr (f':=Pl.unit i) (fun k _=>by
      unfold updF Pl.unit
      by_cases h:k=i
      ·rw [if_pos h,if_pos h.symm]
      ·rw [if_neg h,if_neg (fun e=>h e.symm)]))
     have HG4:Hid (Grows wr ((w3.setCell ⟨wr.heap.size,i*2,none⟩ (.int .i64 ox)).setCell ⟨wr.heap.size,i*2+1,none⟩ (.slice oa om oc))):=(Below.setCell (p:=⟨wr.heap.size,i*2,none⟩) (Grows.trans (uh HG2) hw3) (Nat.le_refl _) _).setCell (p:=⟨wr.heap.size,i*2+1,none⟩) (Nat.le_refl _) _
     have HL4:Hid (∃ cs,((w3.setCell ⟨wr.heap.size,i*2,none⟩ (.int .i64 ox)).setCell ⟨wr.heap.size,i*2+1,none⟩ (.slice oa om oc)).heap[w.heap.size]?=some (.cells cs 73 (0,0))∧cs.size=n∧∀ j,j<i→cs[j]?=some (.slice (some ⟨R j,0,none⟩) n n)):=by
      obtain ⟨cs,h1,h2,h3⟩:=(uh HR).2.2.1
      exact ⟨cs,Below.same (uh HG4) _ _ h1,h2,h3⟩
     clear hv3 hw3 hR3 HR0 HG2
     obtain ⟨W4,hW4⟩:∃ W4,(w3.setCell ⟨wr.heap.size,i*2,none⟩ (.int .i64 ox)).setCell ⟨wr.heap.size,i*2+1,none⟩ (.slice oa om oc)=W4:=⟨_,rfl⟩
     rw [hW4] at HR4 HG4 HL4
     obtain ⟨cs,hcs,hcz,hcj⟩:=uh HL4
     obtain ⟨u0,l0⟩:∃ u0,W4.cell? ⟨w.heap.size,i,none⟩=some u0:=⟨cs[i],by rw [cellsOf hcs];exact Array.getElem?_eq_getElem (by omega)⟩
     have l1:W4.frozen? ⟨w.heap.size,i,none⟩=false:=freeOf hcs i
     rw [←hW4] at l0 l1
     have HF:Hid (∃ R':Nat→Nat,(∀ r,r<i+1→w.heap.size<R' r∧R' r<(W4.setCell ⟨w.heap.size,i,none⟩ (.slice (some ⟨wr.heap.size,0,none⟩) n n)).heap.size)∧Fam P (W4.setCell ⟨w.heap.size,i,none⟩ (.slice (some ⟨wr.heap.size,0,none⟩) n n)) (i+1) R' (fun _=>n) Pl.unit∧(∃ cs,(W4.setCell ⟨w.heap.size,i,none⟩ (.slice (some ⟨wr.heap.size,0,none⟩) n n)).heap[w.heap.size]?=some (.cells cs 73 (0,0))∧cs.size=n∧∀ j,j<i+1→cs[j]?=some (.slice (some ⟨R' j,0,none⟩) n n))∧Grows w (W4.setCell ⟨w.heap.size,i,none⟩ (.slice (some ⟨wr.heap.size,0,none⟩) n n))):=by
      have hold:=uh HR
      have hlw:w.heap.size<wr.heap.size:=by obtain ⟨cs0,h0,_⟩:=hold.2.2.1;exact lt_of_block h0
      have hws:wr.heap.size<W4.heap.size:=(uh HR4).lt
      refine ⟨fun r=>if r=i then wr.heap.size else R r,fun r hr=>?_,⟨fun r hr=>?_,fun r s hr hs e=>?_⟩,⟨_,heap_setCell_same W4 w.heap.size i _ _ _ hcs,by simp [hcz],fun j hj=>?_⟩,Below.setCell (p:=⟨w.heap.size,i,none⟩) (hold.2.2.2.trans (uh HG4)) (Nat.le_refl _) _⟩
      ·by_cases e:r=i
       ·simp [e];omega
       ·have:=hold.1 r (by omega)
        simp [e];omega
      ·by_cases e:r=i
       ·subst e
        simp only [if_pos]
        exact (uh HR4).far hcs (by decide) (by omega) _ _
       ·have h1:=hold.1 r (by omega)
        simp only [if_neg e]
        exact ((hold.2.1.rows r (by omega)).grow (uh HG4)).far hcs (by decide) (by omega) _ _
      ·by_cases e1:r=i <;> by_cases e2:s=i
       ·omega
       ·have:=hold.1 s (by omega);simp [e1,e2] at e;omega
       ·have:=hold.1 r (by omega);simp [e1,e2] at e;omega
       ·simp [e1,e2] at e;exact hold.2.1.inj r s (by omega) (by omega) e
      ·by_cases e:j=i
       ·subst e
        rw [Array.getElem?_setIfInBounds_self_of_lt (by omega)];simp
       ·rw [Array.getElem?_setIfInBounds_ne (by omega),hcj j (by omega)];simp [e]
     rw [←hW4] at HF
     clear hcs hcz hcj HL4 HG4 HR4 hW4
     go_wp2
     go_roundg (gk - 1)
     case measure=>omega
     case rel =>
      obtain ⟨R',a1,a2,a3,a4⟩:=uh HF
      exact ⟨i+1,R',by simp,by omega,a1,a2,a3,a4⟩
   ·have hin:i=n:=by omega
    subst hin
    have HF:Hid (HeadAt wr w.heap.size i R 0 i):=by
     obtain ⟨cs,h1,_,h3⟩:=(uh HR).2.2.1
     exact ⟨cs,h1,fun j hj=>by rw [Nat.zero_add];exact h3 j hj⟩
    go_wp2
    go_ret
    exact ⟨w.heap.size,R,rfl,Nat.le_refl _,fun r hr=>Nat.le_of_lt ((uh HR).1 r hr).1,(uh HR).2.1,uh HF,(uh HR).2.2.2⟩
end Go.Proofs.Ytfaljekgpnbmiaa
