/- Joined: XKeep4 XKeep5. -/
import Derived.Test.YtfaljekgpnbmiaaJ45
set_option linter.unusedVariables false
set_option linter.unusedSimpArgs false
set_option maxRecDepth 100000
namespace Go.Proofs.Ytfaljekgpnbmiaa
open Go.RowKit Go.Sort
theorem mul_le_of {c x A B:Int} (hA:0≤A) (hB:0≤B) (hc:-A≤c∧c≤A) (hx:-B≤x∧x≤B):-(A*B)≤c*x∧c*x≤A*B:=by
 have h:(c*x).natAbs≤(A*B).natAbs:=by
  rw [Int.natAbs_mul,Int.natAbs_mul]
  exact Nat.mul_le_mul (by omega) (by omega)
 have:=Int.mul_nonneg hA hB
 omega
def sumTo (q:RowP) (x:List Int) (k:Nat):Int:=q.2.1+Pl.sm k (fun j=>q.1.getD j 0*x.getD j 0)
theorem sumTo_succ (q:RowP) (x:List Int) (k:Nat):sumTo q x (k+1)=sumTo q x k+q.1.getD k 0*x.getD k 0:=by
 unfold sumTo;rw [Pl.sm];omega
theorem sumTo_all (q:RowP) (x:List Int):sumTo q x x.length=rowAt q x:=rfl
theorem getD_bound {l:List Int} {m:Int} (hm:0≤m) (h:∀ x∈l,-m≤x∧x≤m) (k:Nat):-m≤l.getD k 0∧l.getD k 0≤m:=by
 rw [List.getD_eq_getElem?_getD]
 rcases hk:l[k]? with _|x
 ·show -m≤0∧0≤m;omega
 ·exact h x (List.mem_of_getElem? hk)
theorem sumTo_le {n:Nat} {rs:List RowP} (hr:RowsOk n rs) {q:RowP} (hq:q∈rs) {x:List Int} (hx:∀ k,-1000000000≤x.getD k 0∧x.getD k 0≤1000000000):∀ k,-(1000000000000*(k+1))≤sumTo q x k∧sumTo q x k≤1000000000000*(k+1)
 | 0=>by
  have:=hr.k q hq
  unfold sumTo;rw [Pl.sm];omega
 | k+1=>by
  have h1:=sumTo_le hr hq hx k
  have h2:=mul_le_of (A:=1000) (B:=1000000000) (by decide) (by decide) (getD_bound (by decide) (hr.c q hq) k) (hx k)
  rw [sumTo_succ]
  push_cast at *
  omega
def PointPost (vs:List (Int × Int)) (rs:List RowP) (x:List Int) (w:World) (e:Ending) (w':World):Prop:=∃ b:Bool,e=.returned (.bool b)∧(b=true↔PointP vs rs x)∧Below w.heap.size w w'
section
attribute [local go_sem] valUpon
set_option maxHeartbeats 1000000 in
theorem point_any (vs:List (Int × Int)) (rs:List RowP) (x:List Int) (va vb vx:Value) (w:World) (ha:RngAt w va vs) (hb:RwsAt w vb rs) (hx:IntsAt w vx x) (hv:RangesOk vs) (hr:RowsOk vs.length rs) (hlx:x.length≤maxLen) :
  Calls Try.prog 20 #[va,vb,vx] w (PointPost vs rs x w):=by
 obtain ⟨aa,ac,rfl⟩:=ha.shapeS
 obtain ⟨ba,bc,rfl⟩:=hb.shapeS
 obtain ⟨xa,xc,rfl⟩:=ints_shape0 hx
 have HA:=hide ha
 have HB:=hide hb
 have HX:=hide hx
 have HV:=hide hv
 have HRO:=hide hr
 obtain ⟨n,hn⟩:∃ n,vs.length=n:=⟨_,rfl⟩
 obtain ⟨m,hm⟩:∃ m,rs.length=m:=⟨_,rfl⟩
 obtain ⟨t,ht⟩:∃ t,x.length=t:=⟨_,rfl⟩
 have HN:=hide hn
 have HM:=hide hm
 have HT:=hide ht
 have hn4:n≤4:=by rw [←hn];exact hv.four
 have hm8:m≤8:=by rw [←hm];exact hr.few
 rw [hn] at HA HRO ⊢
 rw [hm] at HB ⊢
 rw [ht] at HX hlx ⊢
 unfold maxLen at hlx
 clear ha hb hx hv hr hn hm ht
 by_cases htn:t=n
 ·have HTN:=hide htn
  subst htn
  go_enter Try.func20,Try.ntmps20
  go_wp2_with fail
  go_loopg [7] t (fun k iv wr=>∃ (i:Nat),iv=.int .i64 i∧i+k=t∧Hid ((∀ j,j<i→(vs.getD j (0,0)).1≤x.getD j 0∧x.getD j 0≤(vs.getD j (0,0)).2)∧Grows w wr))
  case atStart=>exact ⟨0,rfl,by omega,fun j hj=>absurd hj (Nat.not_lt_zero j),Below.refl _ _⟩
  case round =>
   obtain ⟨i,rfl,hik,HR⟩:=hrel
   by_cases hlt:i<t
   ·obtain ⟨gx,ox,ex,x0⟩:=ints_get ((uh HX).below (uh HR).2) i (by rw [uh HT];exact hlt)
    cases ex
    obtain ⟨gv,ov,ev,c0,c1⟩:=((uh HA).below (uh HR).2).get (i:=i) (by rw [uh HN];exact hlt)
    cases ev
    obtain ⟨lo,hlo⟩:∃ lo,(vs.getD i (0,0)).1=lo:=⟨_,rfl⟩
    obtain ⟨hi,hhi⟩:∃ hi,(vs.getD i (0,0)).2=hi:=⟨_,rfl⟩
    obtain ⟨xv,hxv⟩:∃ xv,x[i]'(by rw [uh HT];exact hlt)=xv:=⟨_,rfl⟩
    rw [hlo] at c0
    rw [hhi] at c1
    rw [hxv] at x0
    have HXV:Hid (x.getD i 0=xv):=by unfold Hid;rw [←hxv,List.getD_eq_getElem?_getD,List.getElem?_eq_getElem (by rw [uh HT];exact hlt)];rfl
    have HLH:=hide (And.intro hlo hhi)
    clear hlo hhi hxv
    by_cases h1:xv<lo
    ·have HNO:Hid (¬ PointP vs rs x):=fun h=>by
      have:=(h.range i (by rw [uh HN];exact hlt)).1
      rw [(uh HLH).1,uh HXV] at this;omega
     go_wp2_with fail
     have y0:=cell_regrown x0
     have y1:=cell_regrown c0
     have y2:=cell_regrown c1
     clear x0 c0 c1
     refine wp_region_grown (phiL []) (gL []) 89 21 (by kernel_rfl) (by rfl) (by kernel_rfl) (phiL_grows (by simp)) ?_
     iterate 21 (refine lex_s fun K hK=>?_;go_simp;refine hK _ ?_;clear hK K)
     refine lex_last ?_
     intro w5 hg5 _
     clear y0 y1 y2
     have HG5:Hid (Grows w w5):=(uh HR).2.trans hg5
     clear hg5
     go_wp2
     exact bodyPost_ret (v:=.bool false) (by simp [results,Try.results20,go_sem]) rfl ⟨false,rfl,⟨fun h=>(by cases h),fun h=>absurd h (uh HNO)⟩,uh HG5⟩
    ·by_cases h2:hi<xv
     ·have HNO:Hid (¬ PointP vs rs x):=fun h=>by
       have:=(h.range i (by rw [uh HN];exact hlt)).2
       rw [(uh HLH).2,uh HXV] at this;omega
      go_wp2_with fail
      have y0:=cell_regrown x0
      have y1:=cell_regrown c0
      have y2:=cell_regrown c1
      clear x0 c0 c1
      refine wp_region_grown (phiL []) (gL []) 89 21 (by kernel_rfl) (by rfl) (by kernel_rfl) (phiL_grows (by simp)) ?_
      iterate 21 (refine lex_s fun K hK=>?_;go_simp;refine hK _ ?_;clear hK K)
      refine lex_last ?_
      intro w5 hg5 _
      clear y0 y1 y2
      have HG5:Hid (Grows w w5):=(uh HR).2.trans hg5
      clear hg5
      go_wp2
      exact bodyPost_ret (v:=.bool false) (by simp [results,Try.results20,go_sem]) rfl ⟨false,rfl,⟨fun h=>(by cases h),fun h=>absurd h (uh HNO)⟩,uh HG5⟩
     ·have HNX:Hid (∀ j,j<i+1→(vs.getD j (0,0)).1≤x.getD j 0∧x.getD j 0≤(vs.getD j (0,0)).2):=fun j hj=>by
       by_cases e:j=i
       ·rw [e,(uh HLH).1,(uh HLH).2,uh HXV];omega
       ·exact (uh HR).1 j (by omega)
      go_wp2_with fail
      have y0:=cell_regrown x0
      have y1:=cell_regrown c0
      have y2:=cell_regrown c1
      clear x0 c0 c1
      refine wp_region_grown (phiL []) (gL []) 89 21 (by kernel_rfl) (by rfl) (by kernel_rfl) (phiL_grows (by simp)) ?_
      iterate 21 (refine lex_s fun K hK=>?_;go_simp;refine hK _ ?_;clear hK K)
      refine lex_last ?_
      intro w5 hg5 _
      clear y0 y1 y2
      have HG5:Hid (Grows w w5):=(uh HR).2.trans hg5
      clear hg5
      go_wp2
      go_roundg (gk - 1)
      case measure=>omega
      case rel=>exact ⟨i+1,by simp,by omega,uh HNX,uh HG5⟩
   ·have hit:i=t:=by omega
    have HRG:Hid (∀ j,j<vs.length→(vs.getD j (0,0)).1≤x.getD j 0∧x.getD j 0≤(vs.getD j (0,0)).2):=fun j hj=>(uh HR).1 j (by rw [uh HN] at hj;omega)
    have HXB:Hid (∀ k,-1000000000≤x.getD k 0∧x.getD k 0≤1000000000):=fun k=>by
     by_cases hk:k<vs.length
     ·have h1:=uh HRG k hk
      have h2:=(uh HV).lo _ (range_get hk)
      have h3:=(uh HV).hi _ (range_get hk)
      omega
     ·rw [List.getD_eq_getElem?_getD,List.getElem?_eq_none (by rw [uh HT];rw [uh HN] at hk;omega)];decide
    have HGA:=hide (uh HR).2
    clear hit
    go_wp2_with fail
    clear HR
    rename World=>wo0
    rename Nat=>go0
    go_loopg [8] m (fun k iv wr=>∃ (i:Nat),iv=.int .i64 i∧i+k=m∧Hid ((∀ q∈rs.take i,0≤rowAt q x∧(q.2.2=true→rowAt q x=0))∧Grows w wr))
    case atStart=>exact ⟨0,rfl,by omega,by simp,uh HGA⟩
    case round =>
     clear HGA hik hlt
     obtain ⟨i,rfl,hik,HR⟩:=hrel
     by_cases hlt:i<m
     ·obtain ⟨gr,or',ua,un,uc,er,r0,hints,r1,r2⟩:=((uh HB).below (uh HR).2).get (i:=i) (by rw [uh HM];exact hlt)
      obtain ⟨q,hq⟩:∃ q,rs.getD i ([],0,false)=q:=⟨_,rfl⟩
      have HQM:Hid (q∈rs):=by unfold Hid;rw [←hq,List.getD_eq_getElem?_getD,List.getElem?_eq_getElem (by rw [uh HM];exact hlt)];exact List.getElem_mem _
      have HTAKE:Hid (rs.take (i+1)=rs.take i++[q]):=by
       unfold Hid
       rw [←hq,List.take_succ_eq_append_getElem (by rw [uh HM];exact hlt),List.getD_eq_getElem?_getD,List.getElem?_eq_getElem (by rw [uh HM];exact hlt)];rfl
      rw [hq] at hints r1 r2
      obtain ⟨C,K,E⟩:=q
      simp only at hints r1 r2
      cases er
      have HRC:=hide (And.intro r0 (And.intro r1 r2))
      have HINT:=hide hints
      have HCL:Hid (C.length=t):=(uh HRO).len _ (uh HQM)
      clear hints hq r0 r2
      go_wp2_with fail
      obtain ⟨wo,rfl⟩:∃ wo,wo=wr:=⟨_,rfl⟩
      obtain ⟨go',rfl⟩:∃ go',go'=gk:=⟨_,rfl⟩
      have HOO:=HR
      clear HR r1
      go_loopg [9,10] t (fun q sv kv wr2=>∃ (k:Nat),sv=.int .i64 (sumTo (C,K,E) x k)∧kv=.int .i64 k∧k+q=t∧Hid (Grows wo wr2))
      case atStart=>exact ⟨0,by simp [sumTo,Pl.sm],rfl,by omega,Below.refl _ _⟩
      case round =>
       obtain ⟨k,rfl,rfl,hkq,HR⟩:=hrel
       obtain ⟨S,hS⟩:∃ S,sumTo (C,K,E) x k=S:=⟨_,rfl⟩
       rw [hS]
       have hSb:=sumTo_le (uh HRO) (uh HQM) (uh HXB) k
       rw [hS] at hSb
       by_cases hk:k<t
       ·have r0:=(uh HR).cell (uh HRC).1
        obtain ⟨ad,cap,ei,hcell⟩:=(uh HINT).below (uh HR)
        cases ei
        obtain ⟨gcc,occ,eg,c0⟩:=hcell k (by rw [uh HCL];exact hk)
        cases eg
        obtain ⟨c,hc⟩:∃ c,C.getD k 0=c:=⟨_,rfl⟩
        rw [hc] at c0
        obtain ⟨gx,ox,ex,x0⟩:=ints_get ((uh HX).below ((uh HOO).2.trans (uh HR))) k (by rw [uh HT];exact hk)
        cases ex
        obtain ⟨xv,hxv⟩:∃ xv,x[k]'(by rw [uh HT];exact hk)=xv:=⟨_,rfl⟩
        rw [hxv] at x0
        have hXV:x.getD k 0=xv:=by rw [←hxv,List.getD_eq_getElem?_getD,List.getElem?_eq_getElem (by rw [uh HT];exact hk)];rfl
        have hxb:=uh HXB k
        rw [hXV] at hxb
        have hcb:-1000≤c∧c≤1000:=by rw [←hc];exact getD_bound (m:=1000) (by decide) ((uh HRO).c _ (uh HQM)) k
        have HNX:Hid (sumTo (C,K,E) x (k+1)=S+c*xv):=by unfold Hid;rw [sumTo_succ,hS,hXV];show S+C.getD k 0*xv=_;rw [hc]
        have hm:=mul_le_of (A:=1000) (B:=1000000000) (by decide) (by decide) hcb hxb
        obtain ⟨p,hp⟩:∃ p,c*xv=p:=⟨_,rfl⟩
        have HP:=hide hp
        rw [hp] at hm HNX
        have w1:IntKind.i64.wrap (c*xv)=p:=by rw [hp,IntKind.wrap_i64];omega
        have w2:IntKind.i64.wrap (S+p)=S+p:=by rw [IntKind.wrap_i64];omega
        have hkC':(k:Int)<(C.length:Int):=by rw [uh HCL];omega
        clear hc hcell hxv hXV hp hS hxb hcb hm hSb
        go_wp2_with fail
        have y0:=cell_regrown r0
        have y1:=cell_regrown c0
        have y2:=cell_regrown x0
        clear r0 c0 x0
        refine wp_region_grown (phiL []) (gL []) 89 15 (by kernel_rfl) (by rfl) (by kernel_rfl) (phiL_grows (by simp)) ?_
        iterate 15 (refine lex_s fun K hK=>?_;go_simp;refine hK _ ?_;clear hK K)
        refine lex_last ?_
        intro w5 hg5 _
        clear y0 y1 y2
        have HG5:Hid (Grows wo w5):=(uh HR).trans hg5
        clear hg5
        go_wp2
        go_roundg (gk - 1)
        case measure=>omega
        case rel=>exact ⟨k+1,by rw [uh HNX],by simp,by omega,uh HG5⟩
       ·have hkt:k=t:=by omega
        have HSR:Hid (rowAt (C,K,E) x=S):=by unfold Hid;rw [←hS,←sumTo_all,uh HT,hkt]
        have r2:=(uh HR).cell (uh HRC).2.2
        have HGW:Hid (Grows w wr):=(uh HOO).2.trans (uh HR)
        have HG5:=HGW
        clear hkt hS hSb
        by_cases hs0:S<0
        ·have HNO:Hid (¬ PointP vs rs x):=fun h=>by
          have:=(h.rows _ (uh HQM)).1
          rw [uh HSR] at this;omega
         go_wp2
         exact bodyPost_ret (v:=.bool false) (by simp [results,Try.results20,go_sem]) rfl ⟨false,rfl,⟨fun h=>(by cases h),fun h=>absurd h (uh HNO)⟩,uh HG5⟩
        ·cases E with
         | false =>
          have HNX:Hid (∀ q∈rs.take (i+1),0≤rowAt q x∧(q.2.2=true→rowAt q x=0)):=fun q hq=>by
           rw [uh HTAKE] at hq
           rcases List.mem_append.1 hq with h|h
           ·exact (uh HOO).1 q h
           ·rw [List.mem_singleton.1 h,uh HSR];exact ⟨by omega,fun h=>by cases h⟩
          go_wp2
          go_roundg (go' - 1)
          case measure=>omega
          case rel=>exact ⟨i+1,by simp,by omega,uh HNX,uh HG5⟩
         | true =>
          by_cases hz:S=0
          ·have HNX:Hid (∀ q∈rs.take (i+1),0≤rowAt q x∧(q.2.2=true→rowAt q x=0)):=fun q hq=>by
            rw [uh HTAKE] at hq
            rcases List.mem_append.1 hq with h|h
            ·exact (uh HOO).1 q h
            ·rw [List.mem_singleton.1 h,uh HSR];exact ⟨by omega,fun _=>hz⟩
           subst hz
           go_wp2
           go_roundg (go' - 1)
           case measure=>omega
           case rel=>exact ⟨i+1,by simp,by omega,uh HNX,uh HG5⟩
          ·have HNO:Hid (¬ PointP vs rs x):=fun h=>by
            have:=(h.rows _ (uh HQM)).2 rfl
            rw [uh HSR] at this;exact hz this
           go_wp2
           exact bodyPost_ret (v:=.bool false) (by simp [results,Try.results20,go_sem]) rfl ⟨false,rfl,⟨fun h=>(by cases h),fun h=>absurd h (uh HNO)⟩,uh HG5⟩
     ·have him:i=m:=by omega
      have HP:Hid (PointP vs rs x):=⟨by rw [uh HT,uh HN],uh HRG,fun q hq=>(uh HR).1 q (by rw [him,←uh HM,List.take_length];exact hq)⟩
      clear him
      go_wp2
      exact bodyPost_ret (v:=.bool true) (by simp [results,Try.results20,go_sem]) rfl ⟨true,rfl,⟨fun _=>uh HP,fun _=>rfl⟩,(uh HR).2⟩
 ·have htn':¬ ((t:Int)=(n:Int)):=by omega
  have HNO:Hid (¬ PointP vs rs x):=fun h=>by
   have:=h.len
   rw [uh HT,uh HN] at this;exact htn this
  clear htn
  go_enter Try.func20,Try.ntmps20
  go_wp2
  exact bodyPost_ret (v:=.bool false) (by simp [results,Try.results20,go_sem]) rfl ⟨false,rfl,⟨fun h=>(by cases h),fun h=>absurd h (uh HNO)⟩,Below.refl _ _⟩
end
attribute [local go_sem] valUpon
set_option maxHeartbeats 1000000 in
theorem Pointed_walk (l:List (Int × Int)) (rs:List RowP) (p:List Int) (va vb vp:Value) (w:World) (ha:RngAt w va l) (hb:RwsAt w vb rs) (hp:IntsAt w vp p) (hla:l.length≤maxLen) (hlb:rs.length≤maxLen) (hlp:p.length≤maxLen) :
  Calls Try.prog 6 #[va,vb,vp] w fun e w'=>e=.returned (.bool true)∧Below w.heap.size w w':=by
 have HRA:=hide (ranges_any l va w ha hla)
 have HB:=hide hb
 have HP:=hide hp
 have HLB:=hide hlb
 have HLP:=hide hlp
 obtain ⟨aa,ac,rfl⟩:=ha.shapeS
 obtain ⟨ba,bc,rfl⟩:=hb.shapeS
 obtain ⟨pa,pc,rfl⟩:=ints_shape0 hp
 obtain ⟨n0,hn0⟩:∃ n,l.length=n:=⟨_,rfl⟩
 obtain ⟨m0,hm0⟩:∃ m,rs.length=m:=⟨_,rfl⟩
 obtain ⟨t0',ht0⟩:∃ t,p.length=t:=⟨_,rfl⟩
 rw [hn0] at HRA ⊢
 rw [hm0] at HB ⊢
 rw [ht0] at HP ⊢
 clear ha hb hp hla hlb hlp hn0 hm0 ht0
 go_enter Try.func6,Try.ntmps6
 go_wp2_with fail
 refine (uh HRA).mono ?_
 rintro e w1 ⟨v1,rfl,hv1,hb1⟩
 have HV:=hide (rangesK_ok l)
 obtain ⟨vs,hvs⟩:∃ vs,rangesK l=vs:=⟨_,rfl⟩
 rw [hvs] at HV hv1
 obtain ⟨va',vc',rfl⟩:=hv1.shapeS
 obtain ⟨n,hn⟩:∃ n,vs.length=n:=⟨_,rfl⟩
 have HN:=hide hn
 have hn4:n≤4:=by rw [←hn];exact (uh HV).four
 have HV1:=hide hv1.at
 rw [hn] at HV1 ⊢
 have HG1:Hid (Grows w w1):=hb1
 have HFA:=hide (fair_any rs n (.slice ba m0 bc) w1 ((uh HB).below hb1) (uh HLB) hn4)
 clear hv1 hb1 hvs hn HRA
 go_wp2_with fail
 refine (uh HFA).mono ?_
 rintro e w2 ⟨v2,rfl,hv2,hb2⟩
 have HRO:=hide (fairK_ok n rs)
 obtain ⟨qs,hqs⟩:∃ qs,fairK n rs=qs:=⟨_,rfl⟩
 rw [hqs] at HRO hv2
 have HV2:=hide hv2.at
 obtain ⟨ra,rc,rfl⟩:=hv2.at.shapeS
 obtain ⟨m,hm⟩:∃ m,qs.length=m:=⟨_,rfl⟩
 have hm8:m≤8:=by rw [←hm];exact (uh HRO).few
 have HM:=hide hm
 rw [hm] at HV2 ⊢
 have HG2:Hid (Grows w w2):=(uh HG1).trans hb2
 have HV12:=hide ((uh HV1).below hb2)
 have HRO':Hid (RowsOk vs.length qs):=by unfold Hid;rw [uh HN];exact uh HRO
 have HSO:=hide (Solve_any vs qs (.slice va' n vc') (.slice ra m rc) w2 (uh HV12) (uh HV2) (by rw [uh HN];unfold maxLen;omega) (by rw [uh HM];unfold maxLen;omega))
 clear hv2 hb2 hqs hm HFA HV1 HG1
 go_wp2_with fail
 refine (uh HSO).mono ?_
 rintro e w3 ⟨xa,xn,xc,found,errno,rfl,hb3,hcase⟩
 have HG3:Hid (Grows w w3):=(uh HG2).trans hb3
 have HPA:=hide (point_any vs qs p (.slice va' n vc') (.slice ra m rc) (.slice pa t0' pc) w3 ((uh HV12).below hb3) ((uh HV2).below hb3) ((uh HP).below (uh HG3)) (uh HV) (uh HRO') (uh HLP))
 rcases hcase with ⟨hno,-⟩|⟨-,-,rfl,hf⟩
 ·exact absurd ⟨uh HV,uh HRO'⟩ hno
 ·have HF:=hide hf
  have HV3:=hide ((uh HV12).below hb3)
  have HQ3:=hide ((uh HV2).below hb3)
  have hw2:w.heap.size≤w2.heap.size:=(uh HG2).size
  clear hb3 HSO hf
  go_wp2_with fail
  refine (uh HPA).mono ?_
  rintro e w4 ⟨is,rfl,hiff,hb4⟩
  have HIS:=hide hiff
  have HG4:Hid (Grows w w4):=(uh HG3).trans hb4
  have HV4:=hide ((uh HV3).below hb4)
  have HQ4:=hide ((uh HQ3).below hb4)
  have HB4:Hid (Grows w3 w4):=hb4
  clear hiff hb4 HPA
  rcases uh HF with ⟨rfl,A,hA,hle⟩|⟨rfl,rfl,rfl,rfl,hnone⟩
  ·have hA4:IntsAt w4 (.slice xa xn xc) A:=(ints_own hA).below (uh HB4)
   have HA4:=hide hA4
   have HLE:=hide hle
   have HAL:Hid (A.length≤maxLen):=by
    unfold Hid
    rw [hle.1.len,uh HN];unfold maxLen;omega
   have HPL:=hide (point_any vs qs A (.slice va' n vc') (.slice ra m rc) (.slice xa xn xc) w4 (uh HV4) (uh HQ4) hA4 (uh HV) (uh HRO') (uh HAL))
   clear hA hA4 hle HF
   go_wp2_with fail
   refine (uh HPL).mono ?_
   rintro e w5 ⟨ok,rfl,hiff5,hb5⟩
   have hok:ok=true:=hiff5.2 (uh HLE).1
   subst hok
   have HG5:Hid (Grows w w5):=(uh HG4).trans hb5
   have HLS:=hide (kless_any p A (.slice pa t0' pc) (.slice xa xn xc) w5 ((uh HP).below (uh HG5)) ((uh HA4).below hb5) (uh HLP) (uh HAL))
   clear hiff5 hb5 HPL
   go_wp2_with fail
   refine (uh HLS).mono ?_
   rintro e w6 ⟨bf,rfl,himp,hb6⟩
   have HG6:Hid (Grows w w6):=(uh HG5).trans hb6
   have HNOT:Hid (is=false∨bf=false):=by
    unfold Hid
    cases is with
    | false=>exact .inl rfl
    | true =>
     cases bf with
     | false=>exact .inr rfl
     | true=>exact absurd (himp rfl) ((uh HLE).2 p ((uh HIS).1 rfl))
   clear himp hb6 HLS
   rcases uh HNOT with rfl|rfl
   ·cases bf <;>
    ·go_wp2
     exact bodyPost_ret (v:=.bool true) (by simp [results,Try.results6,go_sem]) rfl ⟨rfl,uh HG6⟩
   ·cases is <;>
    ·go_wp2
     exact bodyPost_ret (v:=.bool true) (by simp [results,Try.results6,go_sem]) rfl ⟨rfl,uh HG6⟩
  ·have his:is=false:=by
    cases is with
    | false=>rfl
    | true=>exact absurd ((uh HIS).1 rfl) (hnone p)
   subst his
   clear HF hnone
   go_wp2
   exact bodyPost_ret (v:=.bool true) (by simp [results,Try.results6,go_sem]) rfl ⟨rfl,uh HG4⟩
end Go.Proofs.Ytfaljekgpnbmiaa
