/- Joined: XSim5 XSim6 XTab11. -/
import Derived.Test.YtfaljekgpnbmiaaJ17
set_option linter.unusedVariables false
set_option linter.unusedSimpArgs false
set_option maxRecDepth 100000
namespace Go.Proofs.Ytfaljekgpnbmiaa
open Go.RowKit Go.Sort
def takes (t:Pl.Tab) (s:List Int) (r:Nat):Int:=if 0 < -t.name r∧-t.name r<s.length then s.getD (-t.name r).toNat 0 else 0
def exprP (t:Pl.Tab) (s:List Int) (R j:Nat):Int:=(if j=0 then s.getD 0 0*t.scale else 0)+Pl.sm R (fun r=>takes t s r*t.cell r j)
theorem expr_next (t:Pl.Tab) (s:List Int) (r j:Nat) {v:Int} (h:takes t s r=v):exprP t s (r+1) j=exprP t s r j+v*t.cell r j:=by
 unfold exprP
 show _+(Pl.sm r _+takes t s r*t.cell r j)=_
 rw [h];omega
theorem expr_skip (t:Pl.Tab) (s:List Int) (r j:Nat) (h:takes t s r=0):exprP t s (r+1) j=exprP t s r j:=by
 rw [expr_next t s r j h,Int.zero_mul,Int.add_zero]
theorem expr_lt {K:Nat} {t:Pl.Tab} {s:List Int} (hl:TabLt K t) (hs:∀ k,Pl.Lt K (s.getD k 0)) {R j:Nat} (hR:R≤t.lines.length) (hR2:R≤1000) (hj:j<t.cols.length+1):Pl.Lt (2*K+1) (exprP t s R j):=by
 have h1:∀ r,r<R+1→Pl.Lt (2*K) ((fun r=>if r=0 then (if j=0 then s.getD 0 0*t.scale else 0) else takes t s (r - 1)*t.cell (r - 1) j) r):=by
  intro r hr
  simp only
  by_cases h0:r=0
  ·rw [if_pos h0]
   by_cases hj0:j=0
   ·rw [if_pos hj0,Nat.two_mul];exact (hs 0).mul hl.scale
   ·rw [if_neg hj0,Pl.lt_nat];exact Nat.pow_pos (by omega)
  ·rw [if_neg h0,Nat.two_mul]
   refine Pl.Lt.mul ?_ (hl.cell _ _ (by omega) hj)
   unfold takes
   split
   ·exact hs _
   ·rw [Pl.lt_nat];exact Nat.pow_pos (by omega)
 have h2:=Pl.Lt.sum h1 (by omega)
 have h3:∀ R,Pl.sm (R+1) (fun r=>if r=0 then (if j=0 then s.getD 0 0*t.scale else 0) else takes t s (r - 1)*t.cell (r - 1) j)=exprP t s R j:=by
  intro R
  induction R with
  | zero=>simp [Pl.sm,exprP]
  | succ R ih =>
   show Pl.sm (R+1) _+_=_
   rw [ih,expr_next t s R j rfl]
   simp
 rw [h3 R] at h2
 exact h2
section
section
attribute [local go_sem] valUpon
set_option maxHeartbeats 20000000 in
theorem express_any (P:Nat→Prop) (K b:Nat) (t:Pl.Tab) (s:List Int) (vs:Value) (w:World) (hP:∀ b,w.heap.size≤b→P b) (h:TabAt P w b t) (hs:RowAt P w vs s) (hfit:TabFit t) (hlt:TabLt K t) (hsl:∀ k,Pl.Lt K (s.getD k 0)) (hK:2*K+1≤1500000000000) (hlen:s.length=t.cols.length+1) (hnm:∀ r,r<t.lines.length→-1073741824≤t.name r∧t.name r≤1073741824) :
  Calls Try.prog 156 #[.pointer (some ⟨b,0,none⟩),vs] w fun e w'=>∃ v',e=.returned v'∧RowAt P w' v' ((List.range (t.cols.length+1)).map (exprP t s t.lines.length))∧Below w.heap.size w w':=by
 obtain ⟨i0,hi0,hz0,hz1,hz2⟩:=info_parts Try.infoWhole
 obtain ⟨gs,os,scap,scs,rfl,hscs,hsc⟩:=hs.get (by omega)
 have HSC0:=hide hsc
 have HT:=hide h
 have HFT:=hide hfit
 have HLT:=hide hlt
 have hn1:=hfit.lines
 have hn2:=hfit.cols
 have HNM:=hide hnm
 have HLEN:=hide hlen
 rw [hlen]
 obtain ⟨vc,kc,adc,capc,rfl,hci⟩:=h.cols
 clear hci h hs hfit hlt hsc hnm hlen
 go_enter Try.func156,Try.ntmps156
 go_wp2_with (at_make;refine wpList_make_full _ rfl _ _ 73 rfl w.heap.size 82 i0 (.agg #[.int .i64 0,.slice none 0 0]) 2 Try.underlying73 hi0 hz0 hz1 .i64 .i64 _ _ (t.cols.length+1) rfl rfl ?e1 ?e2 ?c1 ?c2 ?c3 ?_)
 case e1=>first | rfl | omega | simp
 case e2=>first | rfl | omega | simp
 case c1=>rw [hz2];omega
 case c2=>unfold maxLen;omega
 case c3=>omega
 ·intro w1 hown hgrow
  have hb1:Grows w w1:=(Below.refl _ _).grown hgrow (Nat.le_refl _) (by intro k hk;cases hk)
  have HRI:Hid (RowIn P w1 w.heap.size (t.cols.length+1) (fun _=>0)):=RowIn.made hown
  have HG1:Hid (Grows w w1):=hb1
  obtain ⟨zx,za,zm,zc,z0,z1,hz⟩:=uh HSC0 0 (by rw [uh HLEN];omega)
  have HZ:Hid (WhAt P w (.agg #[.int .i64 zx,.slice za zm zc]) (s.getD 0 0)):=by
   unfold Hid
   rw [List.getD_eq_getElem?_getD,List.getElem?_eq_getElem (by rw [uh HLEN];omega)];exact hz
  obtain ⟨sx,sa,sm,sc,k2,k3,hsc⟩:=((uh HT).below hb1).scale
  have HSC:=hide hsc
  obtain ⟨rx,ra,rm,rc,r0,r1,_⟩:=(uh HRI).get (i:=0) (by omega)
  have z0:=hb1.cell z0
  have z1:=hb1.cell z1
  clear hown hgrow hb1 hz hsc kc
  generalize hg:w.heap.size=g at *
  have hwg:w.heap.size≤g:=by rw [hg];exact Nat.le_refl _
  generalize hn:t.cols.length+1=n at *
  simp only [Nat.zero_mul,Nat.add_zero,Nat.zero_add] at r0 r1 z0 z1
  have y1:=cell_regrown z0
  have y2:=cell_regrown z1
  have y3:=cell_regrown k2
  have y4:=cell_regrown k3
  go_wp2_with fail
  clear z0 z1 k2 k3
  refine wp_region_grown (phiL [(27,fun v w=>WhAt P w v (s.getD 0 0*t.scale))]) (gL [(27,ShapeI)]) 79 10 (by kernel_rfl) (by rfl) (by kernel_rfl) (phi_c (fun _ _ _=>WhAt.below) phi_n) ?_
  iterate 8 (refine lex_s fun K hK=>?_;go_simp;refine hK _ ?_;clear hK K)
  refine lex_call ShapeI 93 #[.agg #[.int .i64 zx,.slice za zm zc],.agg #[.int .i64 sx,.slice sa sm sc]] (by rfl) (by rfl) ShapeI.some (fun w=>by go_simp) (fun w1 hg hf=>(Mul_any P K (s.getD 0 0) t.scale _ _ w1 (fun b' hb'=>hP b' (by have:=(Grows.trans (uh HG1) hg).size;omega)) ((uh HZ).below (Grows.trans (uh HG1) hg)) ((uh HSC).below hg) (by omega) (hsl 0) (uh HLT).scale).mono (by rintro e w' ⟨v',rfl,hv,hb⟩;exact ⟨_,rfl,hb,hv.shapeI,fun t ht=>by cases ht;exact hv⟩)) ?_
  rintro _ ⟨px,pa,pm,pc,rfl⟩
  (refine lex_s fun K hK=>?_;go_simp;refine hK _ ?_;clear hK K)
  refine lex_last ?_
  intro w2 hg2 hphi
  have q27:WhAt P w2 (.agg #[.int .i64 px,.slice pa pm pc]) (s.getD 0 0*t.scale):=hphi 8 _ 27 (by decide) rfl rfl
  clear hphi y1 y2 y3 y4
  have s0:=Grows.cell hg2 r0
  have s1:=Grows.cell hg2 r1
  have hR2:=(uh HRI).grow hg2
  have s2:=(hR2.get (i:=0) (by omega)).choose_spec.choose_spec.choose_spec.choose_spec.2.2.2.1
  have s3:=(hR2.get (i:=0) (by omega)).choose_spec.choose_spec.choose_spec.choose_spec.2.2.2.2
  have HRI2:Hid (RowIn P ((w2.setCell ⟨g,0,none⟩ (.int .i64 px)).setCell ⟨g,1,none⟩ (.slice pa pm pc)) g n (exprP t s 0)):=(hR2.set (i:=0) (by omega) q27).congr (fun i _=>by unfold updF exprP;by_cases h:i=0 <;> simp [h,Pl.sm])
  have HG2:Hid (Grows w ((w2.setCell ⟨g,0,none⟩ (.int .i64 px)).setCell ⟨g,1,none⟩ (.slice pa pm pc))):=(Below.setCell (p:=⟨g,0,none⟩) (Grows.trans (uh HG1) hg2) hwg _).setCell (p:=⟨g,1,none⟩) hwg _
  clear q27 hR2 hg2 r0 r1
  go_wp2_with fail
  generalize hW2:(w2.setCell ⟨g,0,none⟩ (.int .i64 px)).setCell ⟨g,1,none⟩ (.slice pa pm pc)=W2 at *
  clear hW2 s0 s1 s2 s3 w2 HRI HG1 HSC HZ
  go_loopg [6] t.lines.length (fun k rv wr=>∃ (r:Nat),rv=.int .i64 r∧r+k=t.lines.length∧Hid (RowIn P wr g n (exprP t s r)∧Grows w wr))
  case atStart=>exact ⟨0,rfl,by omega,uh HRI2,uh HG2⟩
  case round =>
   rename Nat=>go
   rename World=>wo
   obtain ⟨r,rfl,hrk,HR⟩:=hrel
   obtain ⟨vl,kl,adl,capl,rfl,hli⟩:=((uh HT).below (uh HR).2).lines
   by_cases hrl:r<t.lines.length
   ·obtain ⟨gl,ol,ur,rfl,kr,_⟩:=hli r hrl
    rw [name_get t hrl] at kr
    have hb:=uh HNM r hrl
    obtain ⟨nm,hnm⟩:∃ nm,t.name r=nm:=⟨_,rfl⟩
    have HNR:Hid (t.name r=nm):=hnm
    rw [hnm] at kr hb
    clear hnm hli
    by_cases hin:nm<0∧-nm<(n:Int)
    ·obtain ⟨q,hq⟩:∃ q:Nat,nm=-(q:Int):=⟨(-nm).toNat,by omega⟩
     subst hq
     have hq0:0<q:=by omega
     have hqn:q<n:=by omega
     have HCF:Hid (takes t s r=s.getD q 0):=by
      unfold Hid takes
      rw [uh HNR,uh HLEN,if_pos (by omega)]
      congr 1
      omega
     obtain ⟨zx,za,zm,zc,z0,z1,hz⟩:=uh HSC0 q (by rw [uh HLEN];omega)
     have HZ:Hid (WhAt P w (.agg #[.int .i64 zx,.slice za zm zc]) (s.getD q 0)):=by
      unfold Hid
      rw [List.getD_eq_getElem?_getD,List.getElem?_eq_getElem (by rw [uh HLEN];omega)];exact hz
     have HCr:=hide (fun w1 (h:Grows w w1) (j:Nat) (hj:j<n)=>cell_in P b t w1 ((uh HT).below h) hn1 (uh HFT).le hrl (j:=j) (by rw [(uh HFT).row hrl];omega))
     have hb1:=hb.1
     clear hz hb hin
     go_wp2_with fail
     clear kl kr
     go_loopg [8] n (fun k jv wr=>∃ (j:Nat),jv=.int .i64 j∧j+k=n∧Hid (RowIn P wr g n (fun k=>if k<j then exprP t s (r+1) k else exprP t s r k)∧Grows w wr))
     case atStart=>exact ⟨0,rfl,by omega,(uh HR).1.congr (fun i _=>by rw [if_neg (by omega)]),(uh HR).2⟩
     case round =>
      obtain ⟨j,rfl,hjk,HI⟩:=hrel
      by_cases hjn:j<n
      ·obtain ⟨ox,oa,om,oc,r0,r1,ho,_⟩:=(uh HI).1.get hjn
       have HO:Hid (WhAt P wr (.agg #[.int .i64 ox,.slice oa om oc]) (exprP t s r j)):=by
        unfold Hid
        rw [if_neg (by omega)] at ho;exact ho
       have z0':=(uh HI).2.cell z0
       have z1':=(uh HI).2.cell z1
       have y1:=cell_regrown z0'
       have y2:=cell_regrown z1'
       have y3:=cell_regrown r0
       have y4:=cell_regrown r1
       clear ho z0' z1'
       go_wp2_with fail
       refine wp_region_grown (phiL [(74,fun v w=>WhAt P w v (t.cell r j)),(75,fun v w=>WhAt P w v (s.getD q 0*t.cell r j)),(76,fun v w=>WhAt P w v (exprP t s r j+s.getD q 0*t.cell r j))]) (gL [(74,ShapeI),(75,ShapeI),(76,ShapeI)]) 79 17 (by kernel_rfl) (by rfl) (by kernel_rfl) (phi_c (fun _ _ _=>WhAt.below) (phi_c (fun _ _ _=>WhAt.below) (phi_c (fun _ _ _=>WhAt.below) phi_n))) ?_
       iterate 13 (refine lex_s fun K hK=>?_;go_simp;refine hK _ ?_;clear hK K)
       refine lex_call ShapeI 153 #[.pointer (some ⟨b,0,none⟩),.int .i64 r,.int .i64 j] (by rfl) (by rfl) ShapeI.some (fun w=>by go_simp) (fun w1 hg hf=>(uh HCr w1 (Grows.trans (uh HI).2 hg) j hjn).mono (by rintro e w' ⟨v',rfl,hv,hb⟩;exact ⟨_,rfl,hb,hv.shapeI,fun t ht=>by cases ht;exact hv⟩)) ?_
       rintro _ ⟨cx,ca,cm,cc,rfl⟩
       refine lex_call ShapeI 93 #[.agg #[.int .i64 zx,.slice za zm zc],.agg #[.int .i64 cx,.slice ca cm cc]] (by rfl) (by rfl) ShapeI.some (fun w=>by go_simp) (fun w1 hg hf=>(Mul_any P K (s.getD q 0) (t.cell r j) _ _ w1 (fun b' hb'=>hP b' (by have:=(Grows.trans (uh HI).2 hg).size;omega)) ((uh HZ).below (Grows.trans (uh HI).2 hg)) (hf 13 (by kernel_rfl) _ 74 rfl rfl) (by omega) (hsl q) ((uh HLT).cell r j hrl (by omega))).mono (by rintro e w' ⟨v',rfl,hv,hb⟩;exact ⟨_,rfl,hb,hv.shapeI,fun t ht=>by cases ht;exact hv⟩)) ?_
       rintro _ ⟨dx,da,dm,dc,rfl⟩
       refine lex_call ShapeI 90 #[.agg #[.int .i64 ox,.slice oa om oc],.agg #[.int .i64 dx,.slice da dm dc]] (by rfl) (by rfl) ShapeI.some (fun w=>by go_simp) (fun w1 hg hf=>(Add_any P (2*K+1) (exprP t s r j) (s.getD q 0*t.cell r j) _ _ w1 (fun b' hb'=>hP b' (by have:=(Grows.trans (uh HI).2 hg).size;omega)) ((uh HO).below hg) (hf 14 (by kernel_rfl) _ 75 rfl rfl) hK (expr_lt (uh HLT) hsl (by omega) (by omega) (by omega)) (Pl.Lt.mono (Pl.Lt.mul (hsl q) ((uh HLT).cell r j hrl (by omega))) (by omega))).mono (by rintro e w' ⟨v',rfl,hv,hb⟩;exact ⟨_,rfl,hb,hv.shapeI,fun t ht=>by cases ht;exact hv⟩)) ?_
       rintro _ ⟨ex,ea,em,ec,rfl⟩
       (refine lex_s fun K hK=>?_;go_simp;refine hK _ ?_;clear hK K)
       refine lex_last ?_
       intro w2 hg2 hphi
       have q76:WhAt P w2 (.agg #[.int .i64 ex,.slice ea em ec]) (exprP t s r j+s.getD q 0*t.cell r j):=hphi 15 _ 76 (by decide) rfl rfl
       clear hphi y1 y2 y3 y4
       have s0:=Grows.cell hg2 r0
       have s1:=Grows.cell hg2 r1
       have hR2:=(uh HI).1.grow hg2
       have s2:=(hR2.get hjn).choose_spec.choose_spec.choose_spec.choose_spec.2.2.2.1
       have s3:=(hR2.get hjn).choose_spec.choose_spec.choose_spec.choose_spec.2.2.2.2
       have HRI2:Hid (RowIn P ((w2.setCell ⟨g,j*2,none⟩ (.int .i64 ex)).setCell ⟨g,j*2+1,none⟩ (.slice ea em ec)) g n (fun k=>if k<j+1 then exprP t s (r+1) k else exprP t s r k)):=(hR2.set hjn q76).congr (fun i _=>by
        unfold updF
        by_cases h:i=j
        ·subst h
         rw [if_pos rfl,if_pos (by omega)]
         exact (expr_next t s r i (uh HCF)).symm
        ·rw [if_neg h]
         dsimp only
         by_cases h2:i<j
         ·rw [if_pos h2,if_pos (by omega)]
         ·rw [if_neg h2,if_neg (by omega)])
       have HG2:Hid (Grows w ((w2.setCell ⟨g,j*2,none⟩ (.int .i64 ex)).setCell ⟨g,j*2+1,none⟩ (.slice ea em ec))):=(Below.setCell (p:=⟨g,j*2,none⟩) (Grows.trans (uh HI).2 hg2) hwg _).setCell (p:=⟨g,j*2+1,none⟩) hwg _
       clear q76 hR2 hg2 r0 r1 HO
       go_wp2
       go_roundg (gk - 1)
       case measure=>omega
       case rel=>exact ⟨j+1,by simp,by omega,uh HRI2,uh HG2⟩
      ·have hjn2:j=n:=by omega
       have HR2:Hid (RowIn P wr g n (exprP t s (r+1))∧Grows w wr):=⟨(uh HI).1.congr (fun i hi=>by rw [if_pos (by omega)]),(uh HI).2⟩
       clear HI
       go_wp2
       go_roundg (go - 1)
       case measure=>omega
       case rel=>exact ⟨r+1,by simp,by omega,(uh HR2).1,(uh HR2).2⟩
    ·have HCF:takes t s r=0:=by
      unfold takes
      rw [uh HNR,uh HLEN,if_neg (by omega)]
     have HR2:Hid (RowIn P wo g n (exprP t s (r+1))∧Grows w wo):=⟨(uh HR).1.congr (fun i hi=>(expr_skip t s r i HCF).symm),(uh HR).2⟩
     clear HCF
     by_cases hneg:nm<0
     ·have d0:decide (0 < -nm)=true:=by simp;omega
      have d1:decide (-nm<(n:Int))=false:=by simp;omega
      have d2:¬ (-nm<(n:Int)):=by omega
      have d3:¬ (0≤nm):=by omega
      have hbb:=hb.1
      clear hin
      go_wp2
      go_roundg (go - 1)
      case measure=>omega
      case rel=>exact ⟨r+1,by simp,by omega,(uh HR2).1,(uh HR2).2⟩
     ·have d0:decide (0 < -nm)=false:=by simp;omega
      have hbb:=hb.2
      clear hin
      go_wp2
      go_roundg (go - 1)
      case measure=>omega
      case rel=>exact ⟨r+1,by simp,by omega,(uh HR2).1,(uh HR2).2⟩
   ·have hrn:r=t.lines.length:=by omega
    have HR2:Hid (RowAt P wo (.slice (some ⟨g,0,none⟩) n n) ((List.range n).map (exprP t s t.lines.length))∧Grows w wo):=⟨by rw [←hrn];exact (uh HR).1.row (hP g (by omega)),(uh HR).2⟩
    clear hli HR
    go_wp2
    go_ret
    exact ⟨_,rfl,by rw [hn];exact (uh HR2).1,(uh HR2).2⟩
end
def formW (F:Int→Nat→Int) (s:List Int) (x:Int) (k:Nat):Int:=if x=-1073741824 then s.getD k 0 else F x k
theorem formW_other {F:Int→Nat→Int} {s:List Int} {x:Int} (h:x≠-1073741824):formW F s x=F x:=by
 funext k;unfold formW;rw [if_neg h]
theorem formW_own (F:Int→Nat→Int) (s:List Int) (k:Nat):formW F s (-1073741824) k=s.getD k 0:=if_pos rfl
structure FormOk (F:Int→Nat→Int) (n:Nat) (U:List Int):Prop where
 unit:∀ k,1≤k→k<n+1→F (-(k:Int))=Pl.unit k
 small:∀ x∈U,-1000≤x∧x≤1000
 coord:∀ k:Nat,1≤k→k<n+1→-(k:Int)∈U
theorem Good.name_in {F:Int→Nat→Int} {n:Nat} {U:List Int} {L:Nat} {t:Pl.Tab} (h:Good F n U L t) {r:Nat} (hr:r<L):t.name r∈U:=h.stat.lines _ ⟨r,by rw [h.len];exact hr,rfl⟩
theorem Good.col_in {F:Int→Nat→Int} {n:Nat} {U:List Int} {L:Nat} {t:Pl.Tab} (h:Good F n U L t) {c:Nat} (hc:c<n):t.col c∈U:=h.stat.cols _ ⟨c,hc,rfl⟩
theorem add_name (t:Pl.Tab) (x:Int) (cs:List Int) {r:Nat} (hr:r<t.lines.length):(t.add x cs).name r=t.name r:=by
 unfold Pl.Tab.name
 rw [Pl.add_line t x cs hr]
theorem add_name_last (t:Pl.Tab) (x:Int) (cs:List Int):(t.add x cs).name t.lines.length=x:=by
 unfold Pl.Tab.name
 rw [Pl.add_last t x cs]
theorem add_good {F:Int→Nat→Int} {n:Nat} {U:List Int} {L:Nat} {t:Pl.Tab} (h:Good F n U L t) (hF:FormOk F n U) (hn:n≤100) {s:List Int} (hs:s.length=n+1) :
  Good (formW F s) n (-1073741824::U) (L+1) (t.add (-1073741824) ((List.range (n+1)).map (exprP t s L))):=by
 have hne:∀ x∈U,x≠-1073741824:=fun x hx e=>by have:=hF.small x hx;omega
 have h1:Pl.TabOk (formW F s) n t:=h.ok.congr (fun c hc=>formW_other (hne _ (h.col_in hc))) (fun r hr=>formW_other (hne _ (h.name_in (by rw [←h.len];exact hr))))
 refine ⟨?_,⟨?_,h.names.cols,?_⟩,⟨?_,?_,?_⟩,h.cols,by rw [Pl.add_len,h.len]⟩
 ·refine h1.add (by simp) fun k hk=>?_
  have hl:∀ k:Nat,1≤k→k<n+1→Pl.IsLine t (-(k:Int)):=fun k h1 h2=>by
   rcases h.stat.all _ (hF.coord k h1 h2) with ⟨c,hc,e⟩|h3
   ·have:=h.cols c hc
    rw [e] at this;omega
   ·exact h3
  have hu:∀ k,1≤k→k<n+1→formW F s (-(k:Int))=Pl.unit k:=fun k h1 h2=>by
   rw [formW_other (by omega)];exact hF.unit k h1 h2
  have e1:=h1.express (fun k=>s.getD k 0) _ (Pl.coord_sum h.names hu hl (fun k=>s.getD k 0)) k hk
  rw [formW_own,e1]
  refine Pl.sm_congr fun j hj=>?_
  rw [Pl.getD_map_range _ _ _ hj]
  congr 1
  unfold Pl.Tab.expr exprP
  rw [h.len]
  congr 1
  refine Pl.sm_congr fun r hr=>?_
  congr 1
  unfold takes
  rw [hs]
  dsimp only
  by_cases hc:t.name r<0∧-t.name r<((n:Nat):Int)+1
  ·rw [if_pos hc,if_pos ⟨by omega,by omega⟩]
  ·rw [if_neg hc,if_neg (by omega)]
 ·intro i j hi hj e
  rw [Pl.add_len] at hi hj
  rcases (show i<t.lines.length∨i=t.lines.length by omega) with h2|h2 <;> rcases (show j<t.lines.length∨j=t.lines.length by omega) with h3|h3
  ·rw [add_name t _ _ h2,add_name t _ _ h3] at e
   exact h.names.lines i j h2 h3 e
  ·rw [add_name t _ _ h2,h3,add_name_last] at e
   exact absurd e (hne _ (h.name_in (by rw [←h.len];exact h2)))
  ·rw [add_name t _ _ h3,h2,add_name_last] at e
   exact absurd e.symm (hne _ (h.name_in (by rw [←h.len];exact h3)))
  ·omega
 ·intro i j hi hj e
  rw [Pl.add_len] at hi
  rcases (show i<t.lines.length∨i=t.lines.length by omega) with h2|h2
  ·rw [add_name t _ _ h2] at e
   exact h.names.apart i j h2 hj e
  ·rw [h2,add_name_last] at e
   exact hne _ (h.col_in hj) e.symm
 ·intro x ⟨c,hc,e⟩
  exact List.mem_cons_of_mem _ (h.stat.cols x ⟨c,hc,e⟩)
 ·intro x ⟨r,hr,e⟩
  rw [Pl.add_len] at hr
  rcases (show r<t.lines.length∨r=t.lines.length by omega) with h2|h2
  ·rw [add_name t _ _ h2] at e
   exact List.mem_cons_of_mem _ (h.stat.lines x ⟨r,h2,e⟩)
  ·rw [h2,add_name_last] at e
   rw [←e];exact List.mem_cons_self
 ·intro x hx
  rcases List.mem_cons.1 hx with rfl|hx
  ·exact .inr ⟨t.lines.length,by rw [Pl.add_len];omega,add_name_last t _ _⟩
  ·rcases h.stat.all x hx with h3 | ⟨r,hr,e⟩
   ·exact .inl h3
   ·exact .inr ⟨r,by rw [Pl.add_len];omega,by rw [add_name t _ _ hr];exact e⟩
theorem cut_name (t:Pl.Tab) {r:Nat} (hr:r<t.lines.length - 1):t.cut.name r=t.name r:=by
 unfold Pl.Tab.name
 rw [Pl.cut_line t hr]
theorem cut_cell (t:Pl.Tab) {r:Nat} (hr:r<t.lines.length - 1) (j:Nat):t.cut.cell r j=t.cell r j:=by
 unfold Pl.Tab.cell
 rw [Pl.cut_line t hr]
theorem cut_col (t:Pl.Tab) (c:Nat):t.cut.col c=t.col c:=rfl
theorem cut_good {F:Int→Nat→Int} {n:Nat} {U:List Int} {L:Nat} {t:Pl.Tab} {s:List Int} (h:Good (formW F s) n (-1073741824::U) (L+1) t) (hF:FormOk F n U) (hw:t.name L=-1073741824):Good F n U L t.cut:=by
 have hne:∀ x∈U,x≠-1073741824:=fun x hx e=>by have:=hF.small x hx;omega
 have hL:=h.len
 have hnl:∀ r,r<L→t.name r≠-1073741824:=fun r hr e=>by
  have:=h.names.lines r L (by omega) (by omega) (e.trans hw.symm);omega
 have hnc:∀ c,c<n→t.col c≠-1073741824:=fun c hc e=>h.names.apart L c (by omega) hc (hw.trans e.symm)
 have hcl:t.cut.lines.length=L:=by rw [Pl.cut_len,hL];rfl
 refine ⟨?_,⟨?_,h.names.cols,?_⟩,⟨?_,?_,?_⟩,h.cols,hcl⟩
 ·refine h.ok.cut.congr (fun c hc=>?_) (fun r hr=>?_)
  ·rw [cut_col,formW_other (hnc c hc)]
  ·rw [hcl] at hr
   rw [cut_name t (by omega),formW_other (hnl r hr)]
 ·intro i j hi hj e
  rw [hcl] at hi hj
  rw [cut_name t (by omega),cut_name t (by omega)] at e
  exact h.names.lines i j (by omega) (by omega) e
 ·intro i j hi hj e
  rw [hcl] at hi
  rw [cut_name t (by omega)] at e
  exact h.names.apart i j (by omega) hj e
 ·intro x ⟨c,hc,e⟩
  rcases List.mem_cons.1 (h.stat.cols x ⟨c,hc,e⟩) with h2|h2
  ·rw [cut_col] at e;exact absurd (e.trans h2) (hnc c hc)
  ·exact h2
 ·intro x ⟨r,hr,e⟩
  rw [hcl] at hr
  rw [cut_name t (by omega)] at e
  rcases List.mem_cons.1 (h.stat.lines x ⟨r,by omega,e⟩) with h2|h2
  ·exact absurd (e.trans h2) (hnl r hr)
  ·exact h2
 ·intro x hx
  rcases h.stat.all x (List.mem_cons_of_mem _ hx) with h3|⟨r,hr,e⟩
  ·exact .inl h3
  ·have hrL:r≠L:=fun e2=>by rw [e2,hw] at e;exact hne x hx e.symm
   exact .inr ⟨r,by rw [hcl];omega,by rw [cut_name t (by omega)];exact e⟩
theorem TabOwn.owns {P:Nat→Prop} {w:World} {b gl gc:Nat} {t:Pl.Tab} (h:TabOwn P w b gl gc t):∃ lcap xs,w.cell? ⟨b,0,none⟩=some (.slice (some ⟨gl,0,none⟩) t.lines.length lcap)∧w.ownsRow 0 149 2 (.slice (some ⟨gl,0,none⟩) t.lines.length lcap) t.lines.length xs∧t.lines.length≤lcap ∧
  ∀ i,(hi:i<t.lines.length)→∃ u,xs[i*2]?=some (.int .i64 t.lines[i].1)∧xs[i*2+1]?=some u∧RowAt P w u t.lines[i].2:=by
 obtain ⟨⟨lcap,ccap,sx,sa,sm,sc,h1,h2,cs,h3,h4,h5,h6,h7⟩,_,_⟩:=h
 refine ⟨lcap,cs.toList.take (t.lines.length*2),by rw [cellsOf h1];rfl,⟨by rw [List.length_take,Array.length_toList];omega,.inr ⟨gl,lcap,cs,rfl,Nat.zero_le _,h3,h5,h6,h4,rfl⟩⟩,h5,fun i hi=>?_⟩
 obtain ⟨u,e1,e2,e3⟩:=h7 i hi
 exact ⟨u,by rw [List.getElem?_take_of_lt (by omega)];simpa using e1,by rw [List.getElem?_take_of_lt (by omega)];simpa using e2,e3⟩
theorem grown_holds {P:Nat→Prop} {w w2:World} {gl:Nat} {cs:Array Value} (hl:w.heap[gl]?=some (.cells cs 149 (0,0))) (hg:w.grownBy w2 (some gl)):Holds P w w2:=by
 refine fun k cur T hT _ hk=>hg.block k (lt_of_block hk) (fun e=>?_)
 cases e
 rw [hl] at hk;cases hk
 rcases hT with e|e|e <;> exact absurd e (by decide)
theorem own_add {P:Nat→Prop} {w w0 w2:World} {b gl gc:Nat} {t:Pl.Tab} (h:TabOwn P w b gl gc t) (hw0:Grows w w0) {xs:List Value} (hxs:∀ i,(hi:i<t.lines.length)→∃ u,xs[i*2]?=some (.int .i64 t.lines[i].1)∧xs[i*2+1]?=some u∧RowAt P w u t.lines[i].2) (hlx:xs.length=t.lines.length*2) {g cap:Nat} {x:Int} {ua:Option Addr} {un uc:Nat} {row:List Int} (hu:RowAt P w (.slice ua un uc) row)
  (hown:w2.ownsRow 0 149 2 (.slice (some ⟨g,0,none⟩) (t.lines.length+1) cap) (t.lines.length+1) (xs++[.int .i64 x,.slice ua un uc])) (hgrow:w0.grownBy w2 (some gl)) (hat:some gl=some g∨g=w0.heap.size) :
  (TabOwn P (w2.setCell ⟨b,0,none⟩ (.slice (some ⟨g,0,none⟩) (t.lines.length+1) cap)) b g gc (t.add x row)∧Turns (Own3 b gl gc) w (w2.setCell ⟨b,0,none⟩ (.slice (some ⟨g,0,none⟩) (t.lines.length+1) cap))∧(g=gl∨w.heap.size≤g))∧(∃ u,w2.cell? ⟨b,0,none⟩=some u)∧w2.frozen? ⟨b,0,none⟩=false:=by
 have hlt:=h.lt
 have hh1:Holds P w w0:=.of_below hw0
 obtain ⟨lcs0,hl0⟩:=own_lines (h.grow hw0)
 have hh2:Holds P w0 w2:=grown_holds hl0 hgrow
 have hfar:∀ k,k<w.heap.size→k≠gl→w2.heap[k]?=w.heap[k]?:=fun k hk hne=>(hgrow.block k (by have:=hw0.size;omega) (fun e=>hne (by cases e;rfl))).trans (Below.block hw0 k hk)
 have hg:g=gl∨w.heap.size≤g:=by
  rcases hat with e|e
  ·left;cases e;rfl
  ·right;rw [e];exact hw0.size
 have hgne:g≠b∧g≠gc:=by
  rcases hg with e|e
  ·subst e;exact ⟨Ne.symm hlt.2.2.2.1,hlt.2.2.2.2.2⟩
  ·exact ⟨by omega,by omega⟩
 obtain ⟨⟨lcap,ccap,sx,sa,sm,sc,h1,h2,cs,h3,h4,h5,h6,h7⟩,⟨cc,h8,h9⟩,h10⟩:=h
 have b2:=(hfar b hlt.1 hlt.2.2.2.1).trans h1
 have e2:=heap_setCell_same w2 b 0 _ _ (.slice (some ⟨g,0,none⟩) (t.lines.length+1) cap) b2
 have hh3:Holds P w2 (w2.setCell ⟨b,0,none⟩ (.slice (some ⟨g,0,none⟩) (t.lines.length+1) cap)):=holds_set b2 (by decide) (fun e=>absurd e (by decide)) _ _
 have hh:=(hh1.trans hh2).trans hh3
 rcases hown.2 with ⟨e,_⟩|⟨g',cap',cur,e,_,hcur,hle,hmx,hsz,htk⟩
 ·cases e
 cases e
 refine ⟨⟨⟨⟨cap,ccap,sx,sa,sm,sc,?_,h2.keepP hh.nums,cur,?_,hsz,by rw [Pl.add_len];exact hle,hmx,fun i hi=>?_⟩,⟨cc,?_,h9⟩,h10⟩,?_,hg⟩,⟨_,by rw [cellsOf b2];rfl⟩,freeOf b2 0⟩
 ·rw [e2,Pl.add_len];rfl
 ·rw [Below.heap_setCell _ _ _ _ hgne.1];exact hcur
 ·rw [Pl.add_len] at hi
  have hcell:∀ k,k<(t.lines.length+1)*2→cur[k]?=(xs++[Value.int .i64 x,.slice ua un uc])[k]?:=fun k hk=>by
   rw [←htk,List.getElem?_take_of_lt hk];simp
  rw [hcell _ (by omega),hcell _ (by omega)]
  by_cases hil:i<t.lines.length
  ·obtain ⟨u,d1,d2,d3⟩:=hxs i hil
   have e3:(t.add x row).lines[i]'(by rw [Pl.add_len];exact hi)=t.lines[i]:=by simp [Pl.Tab.add,List.getElem_append_left hil]
   refine ⟨u,?_,?_,?_⟩
   ·rw [List.getElem?_append_left (by omega),e3];exact d1
   ·rw [List.getElem?_append_left (by omega)];exact d2
   ·rw [e3];exact d3.holds hh
  ·have ei:i=t.lines.length:=by omega
   subst ei
   have e3:(t.add x row).lines[t.lines.length]'(by rw [Pl.add_len];exact hi)=(x,row):=by simp [Pl.Tab.add]
   refine ⟨.slice ua un uc,?_,?_,?_⟩
   ·rw [List.getElem?_append_right (by omega),hlx,e3];simp
   ·rw [List.getElem?_append_right (by omega),hlx];simp
   ·rw [e3];exact hu.holds hh
 ·rw [Below.heap_setCell _ _ _ _ (Ne.symm hlt.2.2.2.2.1),hfar gc hlt.2.2.1 (Ne.symm hlt.2.2.2.2.2)];exact h8
 ·exact Turns.setCell ⟨hgrow.os.trans hw0.os,hgrow.tape.trans hw0.tape,hgrow.output.trans hw0.output,Nat.le_trans hw0.size hgrow.size,fun k hk hne=>hfar k hk (fun e=>hne (.inr (.inl e)))⟩ (.inl rfl) _ _
theorem own_cut {P:Nat→Prop} {w:World} {b gl gc:Nat} {t:Pl.Tab} (h:TabOwn P w b gl gc t) {L lcap:Nat} (hL:t.lines.length=L+1) (hc:w.cell? ⟨b,0,none⟩=some (.slice (some ⟨gl,0,none⟩) t.lines.length lcap)):TabOwn P (w.setCell ⟨b,0,none⟩ (.slice (some ⟨gl,0,none⟩) L lcap)) b gl gc t.cut:=by
 have hlt:=h.lt
 obtain ⟨⟨lcap',ccap,sx,sa,sm,sc,h1,h2,cs,h3,h4,h5,h6,h7⟩,⟨cc,h8,h9⟩,h10⟩:=h
 have e0:lcap'=lcap:=by
  rw [cellsOf h1] at hc
  simpa using hc
 subst e0
 have e2:=heap_setCell_same w b 0 _ _ (.slice (some ⟨gl,0,none⟩) L lcap') h1
 have hh:Holds P w (w.setCell ⟨b,0,none⟩ (.slice (some ⟨gl,0,none⟩) L lcap')):=holds_set h1 (by decide) (fun e=>absurd e (by decide)) _ _
 have hcl:t.cut.lines.length=L:=by rw [Pl.cut_len,hL];rfl
 refine ⟨⟨lcap',ccap,sx,sa,sm,sc,?_,h2.keepP hh.nums,cs,?_,h4,by rw [hcl];omega,h6,fun i hi=>?_⟩,⟨cc,?_,h9⟩,h10⟩
 ·rw [e2,hcl];rfl
 ·rw [Below.heap_setCell _ _ _ _ (Ne.symm hlt.2.2.2.1),h3]
 ·have hi':i<t.lines.length:=by rw [hcl] at hi;omega
  obtain ⟨u,d1,d2,d3⟩:=h7 i hi'
  have e3:t.cut.lines[i]=t.lines[i]:=by simp [Pl.Tab.cut]
  exact ⟨u,by rw [e3];exact d1,d2,by rw [e3];exact d3.holds hh⟩
 ·rw [Below.heap_setCell _ _ _ _ (Ne.symm hlt.2.2.2.2.1),h8]
end
end Go.Proofs.Ytfaljekgpnbmiaa

namespace Go.Proofs.Ytfaljekgpnbmiaa.Pl
section
variable {F:Int→Nat→Int} {n:Nat} {t:Tab}
def TiedU (F:Int→Nat→Int) (n:Nat) (U:List Int):Prop:=∀ D:Nat→Int,D 0=0→(∀ x∈U,0≤x→0≤ev n (F x) D)→∀ k,k<n+1→D k=0
theorem way_nonnegU {U:List Int} (h:TabOk F n t) {c:Nat} (hc:c<n) (hst:∀ x∈U,0≤x→IsCol n t x∨IsLine t x) (hl:∀ k,k<t.lines.length→0≤t.name k→0≤t.cell k (c+1)) (hT:TiedU F n U):False:=by
 obtain ⟨D,d1,d2⟩:=h.point (c+1) (by omega)
 have d0:D 0=0:=by
  have:=d1 0 (by omega)
  rw [base_zero,ev_unit n D 0 (by omega),if_neg (by omega)] at this;exact this
 have hs:=h.pos
 have hz:=hT D d0 (fun x hx h0=>by
  rcases hst x hx h0 with ⟨c2,hc2,e⟩|⟨r,hr,e⟩
  ·have:=d1 (c2+1) (by omega)
   rw [base_succ,e] at this
   rw [this];split <;> omega
  ·have:=d2 r hr
   rw [e] at this
   rw [this];exact hl r hr (by rw [e];omega))
 have h1:=d1 (c+1) (by omega)
 rw [if_pos rfl,ev_zero hz] at h1
 omega
end
end Go.Proofs.Ytfaljekgpnbmiaa.Pl
