/- Joined: XOf5 XOf6 XOf7. -/
import Derived.Test.YtfaljekgpnbmiaaJ43
set_option linter.unusedVariables false
set_option linter.unusedSimpArgs false
set_option maxRecDepth 100000
namespace Go.Proofs.Ytfaljekgpnbmiaa
open Go.RowKit Go.Sort
def withinB (a l:Int):Bool:=decide (-l≤a∧a≤l)
theorem within_any (a l:Int) (w:World) (hl:0≤l) (hl2:l≤1000000000000):Calls Try.prog 56 #[.int .i64 a,.int .i64 l] w fun e w'=>e=.returned (.bool (withinB a l))∧w'=w:=by
 have hw:IntKind.i64.wrap (-l)=-l:=by rw [IntKind.wrap_i64];omega
 by_cases h1:-l≤a
 ·by_cases h2:a≤l
  ·have e:withinB a l=true:=decide_eq_true ⟨h1,h2⟩
   rw [e]
   go_enter Try.func56,Try.ntmps56
   go_wp2
   go_ret
   exact ⟨rfl,rfl⟩
  ·have e:withinB a l=false:=decide_eq_false (fun h=>h2 h.2)
   rw [e]
   go_enter Try.func56,Try.ntmps56
   go_wp2
   go_ret
   exact ⟨rfl,rfl⟩
 ·have e:withinB a l=false:=decide_eq_false (fun h=>h1 h.1)
  rw [e]
  go_enter Try.func56,Try.ntmps56
  go_wp2
  go_ret
  exact ⟨rfl,rfl⟩
def rangesB (vs:List (Int × Int)):Bool:=decide (1≤vs.length∧vs.length≤4)&&vs.all fun v=>withinB v.1 1000000000&&withinB v.2 1000000000&&decide (v.1≤v.2)
def rowsB (n:Nat) (rs:List RowP):Bool:=decide (rs.length≤8)&&rs.all fun q=>decide (q.1.length=n)&&withinB q.2.1 1000000000000&&q.1.all fun x=>withinB x 1000
theorem withinB_iff {a l:Int}:withinB a l=true↔-l≤a∧a≤l:=by unfold withinB;exact decide_eq_true_iff
theorem rangesB_iff {vs:List (Int × Int)}:rangesB vs=true↔RangesOk vs:=by
 unfold rangesB
 rw [Bool.and_eq_true,decide_eq_true_iff,List.all_eq_true]
 constructor
 ·rintro ⟨⟨h1,h2⟩,h3⟩
  have key:∀ v∈vs,(-1000000000≤v.1∧v.1≤1000000000)∧(-1000000000≤v.2∧v.2≤1000000000)∧v.1≤v.2:=fun v hv=>by
   have:=h3 v hv
   rw [Bool.and_eq_true,Bool.and_eq_true,withinB_iff,withinB_iff,decide_eq_true_iff] at this
   exact ⟨this.1.1,this.1.2,this.2⟩
  exact ⟨h1,h2,fun v hv=>(key v hv).1,fun v hv=>(key v hv).2.1,fun v hv=>(key v hv).2.2⟩
 ·intro h
  refine ⟨⟨h.one,h.four⟩,fun v hv=>?_⟩
  rw [Bool.and_eq_true,Bool.and_eq_true,withinB_iff,withinB_iff,decide_eq_true_iff]
  exact ⟨⟨h.lo v hv,h.hi v hv⟩,h.le v hv⟩
theorem rowsB_iff {n:Nat} {rs:List RowP}:rowsB n rs=true↔RowsOk n rs:=by
 unfold rowsB
 rw [Bool.and_eq_true,decide_eq_true_iff,List.all_eq_true]
 constructor
 ·rintro ⟨h1,h3⟩
  have key:∀ q∈rs,q.1.length=n∧(-1000000000000≤q.2.1∧q.2.1≤1000000000000)∧∀ x∈q.1,-1000≤x∧x≤1000:=fun q hq=>by
   have:=h3 q hq
   rw [Bool.and_eq_true,Bool.and_eq_true,withinB_iff,decide_eq_true_iff,List.all_eq_true] at this
   exact ⟨this.1.1,this.1.2,fun x hx=>withinB_iff.1 (this.2 x hx)⟩
  exact ⟨h1,fun q hq=>(key q hq).1,fun q hq=>(key q hq).2.2,fun q hq=>(key q hq).2.1⟩
 ·intro h
  refine ⟨h.few,fun q hq=>?_⟩
  rw [Bool.and_eq_true,Bool.and_eq_true,withinB_iff,decide_eq_true_iff,List.all_eq_true]
  exact ⟨⟨h.len q hq,h.k q hq⟩,fun x hx=>withinB_iff.2 (h.c q hq x hx)⟩
def rangeB (v:Int × Int):Bool:=withinB v.1 1000000000&&withinB v.2 1000000000&&decide (v.1≤v.2)
section
section
attribute [local go_sem] valUpon
set_option maxHeartbeats 1000000 in
theorem areRanges_any (vs:List (Int × Int)) (va:Value) (w:World) (ha:RngAt w va vs) (hm:vs.length≤maxLen):Calls Try.prog 40 #[va] w fun e w'=>e=.returned (.bool (rangesB vs))∧Below w.heap.size w w':=by
 obtain ⟨aa,ac,rfl⟩:=ha.shapeS
 have HA:=hide ha
 obtain ⟨n,hn⟩:∃ n,vs.length=n:=⟨_,rfl⟩
 have HN:=hide hn
 rw [hn]
 rw [hn] at HA hm
 unfold maxLen at hm
 clear ha hn
 by_cases h4:1≤n∧n≤4
 ·have hR:Hid (rangesB vs=vs.all rangeB):=by
   unfold Hid rangesB
   rw [uh HN,decide_eq_true h4];rfl
  go_enter Try.func40,Try.ntmps40
  go_wp2_with fail
  go_loopg [3] n (fun k iv wr=>∃ (i:Nat),iv=.int .i64 i∧i+k=n∧Hid ((vs.take i).all rangeB=true∧Grows w wr))
  case atStart=>exact ⟨0,rfl,by omega,by simp,Below.refl _ _⟩
  case round =>
   obtain ⟨i,rfl,hik,HR⟩:=hrel
   by_cases hlt:i<n
   ·obtain ⟨gv,ov,ev,c0,c1⟩:=((uh HA).below (uh HR).2).get (i:=i) (by rw [uh HN];exact hlt)
    cases ev
    obtain ⟨lo,hlo⟩:∃ lo,(vs.getD i (0,0)).1=lo:=⟨_,rfl⟩
    obtain ⟨hi,hhi⟩:∃ hi,(vs.getD i (0,0)).2=hi:=⟨_,rfl⟩
    rw [hlo] at c0
    rw [hhi] at c1
    have HTK:Hid (vs.take (i+1)=vs.take i++[(lo,hi)]):=by
     unfold Hid
     rw [←hlo,←hhi,List.take_succ_eq_append_getElem (by rw [uh HN];exact hlt),List.getD_eq_getElem?_getD,List.getElem?_eq_getElem (by rw [uh HN];exact hlt)];rfl
    have HMEM:Hid ((lo,hi)∈vs):=by
     unfold Hid
     rw [←hlo,←hhi];exact range_get (by rw [uh HN];exact hlt)
    have HW1:=hide (fun wq=>within_any lo 1000000000 wq (by decide) (by decide))
    have HW2:=hide (fun wq=>within_any hi 1000000000 wq (by decide) (by decide))
    clear hlo hhi
    by_cases b1:withinB lo 1000000000=true
    ·rw [b1] at HW1
     by_cases b2:withinB hi 1000000000=true
     ·rw [b2] at HW2
      by_cases b3:lo≤hi
      ·have b3':¬ (hi<lo):=by omega
       have HX:Hid ((vs.take (i+1)).all rangeB=true):=by
        unfold Hid
        rw [uh HTK,List.all_append,(uh HR).1]
        simp [rangeB,b1,b2,b3]
       clear b1 b2 b3
       go_wp2_with fail
       have y0:=cell_regrown c0
       have y1:=cell_regrown c1
       clear c0 c1
       refine wp_region_grown (phiL []) (gL [(23,(·=.bool true)),(31,(·=.bool true))]) 47 28 (by kernel_rfl) (by rfl) (by kernel_rfl) (phiL_grows (by simp)) ?_
       iterate 5 (refine lex_s fun K hK=>?_;go_simp;refine hK _ ?_;clear hK K)
       refine lex_call (·=.bool true) 56 #[.int .i64 lo,.int .i64 1000000000] (by rfl) (by rfl) ⟨_,rfl⟩ (fun w=>by go_simp) (fun wq hg hf=>(uh HW1 wq).mono (by rintro e w' ⟨rfl,rfl⟩;exact ⟨_,rfl,Below.refl _ _,rfl,fun t ht=>by cases ht;exact True.intro⟩)) ?_
       rintro _ rfl
       simp only [Act.put,List.setIfInBounds_toArray,List.set_cons_succ,List.set_cons_zero]
       iterate 7 (refine lex_s fun K hK=>?_;go_simp;refine hK _ ?_;clear hK K)
       refine lex_call (·=.bool true) 56 #[.int .i64 hi,.int .i64 1000000000] (by rfl) (by rfl) ⟨_,rfl⟩ (fun w=>by go_simp) (fun wq hg hf=>(uh HW2 wq).mono (by rintro e w' ⟨rfl,rfl⟩;exact ⟨_,rfl,Below.refl _ _,rfl,fun t ht=>by cases ht;exact True.intro⟩)) ?_
       rintro _ rfl
       simp only [Act.put,List.setIfInBounds_toArray,List.set_cons_succ,List.set_cons_zero]
       iterate 14 (refine lex_s fun K hK=>?_;go_simp;refine hK _ ?_;clear hK K)
       refine lex_last ?_
       intro w5 hg5 _
       have HB5:Hid (Grows w w5):=(uh HR).2.trans hg5
       clear hg5 y0 y1
       go_wp2
       go_roundg (gk - 1)
       case measure=>omega
       case rel=>exact ⟨i+1,by simp,by omega,uh HX,uh HB5⟩
      ·have b3':hi<lo:=by omega
       have HX:Hid (vs.all rangeB=false):=by
        unfold Hid
        rw [←Bool.not_eq_true,List.all_eq_true]
        intro h
        have:=h _ (uh HMEM)
        simp [rangeB,b1,b2,b3] at this
       clear b1 b2 b3
       go_wp2_with fail
       have y0:=cell_regrown c0
       have y1:=cell_regrown c1
       clear c0 c1
       refine wp_region_grown (phiL []) (gL [(23,(·=.bool true)),(31,(·=.bool true))]) 47 28 (by kernel_rfl) (by rfl) (by kernel_rfl) (phiL_grows (by simp)) ?_
       iterate 5 (refine lex_s fun K hK=>?_;go_simp;refine hK _ ?_;clear hK K)
       refine lex_call (·=.bool true) 56 #[.int .i64 lo,.int .i64 1000000000] (by rfl) (by rfl) ⟨_,rfl⟩ (fun w=>by go_simp) (fun wq hg hf=>(uh HW1 wq).mono (by rintro e w' ⟨rfl,rfl⟩;exact ⟨_,rfl,Below.refl _ _,rfl,fun t ht=>by cases ht;exact True.intro⟩)) ?_
       rintro _ rfl
       simp only [Act.put,List.setIfInBounds_toArray,List.set_cons_succ,List.set_cons_zero]
       iterate 7 (refine lex_s fun K hK=>?_;go_simp;refine hK _ ?_;clear hK K)
       refine lex_call (·=.bool true) 56 #[.int .i64 hi,.int .i64 1000000000] (by rfl) (by rfl) ⟨_,rfl⟩ (fun w=>by go_simp) (fun wq hg hf=>(uh HW2 wq).mono (by rintro e w' ⟨rfl,rfl⟩;exact ⟨_,rfl,Below.refl _ _,rfl,fun t ht=>by cases ht;exact True.intro⟩)) ?_
       rintro _ rfl
       simp only [Act.put,List.setIfInBounds_toArray,List.set_cons_succ,List.set_cons_zero]
       iterate 14 (refine lex_s fun K hK=>?_;go_simp;refine hK _ ?_;clear hK K)
       refine lex_last ?_
       intro w5 hg5 _
       have HB5:Hid (Grows w w5):=(uh HR).2.trans hg5
       clear hg5 y0 y1
       go_wp2
       go_ret
       exact ⟨by rw [uh hR];exact congrArg (fun b=>Ending.returned (.bool b)) (uh HX).symm,uh HB5⟩
     ·have b2':withinB hi 1000000000=false:=Bool.eq_false_iff.2 b2
      rw [b2'] at HW2
      have HX:Hid (vs.all rangeB=false):=by
       unfold Hid
       rw [←Bool.not_eq_true,List.all_eq_true]
       intro h
       have:=h _ (uh HMEM)
       simp [rangeB,b1,b2'] at this
      clear b1 b2 b2'
      go_wp2_with fail
      have y0:=cell_regrown c0
      have y1:=cell_regrown c1
      clear c0 c1
      refine wp_region_grown (phiL []) (gL [(23,(·=.bool true)),(31,(·=.bool false))]) 47 28 (by kernel_rfl) (by rfl) (by kernel_rfl) (phiL_grows (by simp)) ?_
      iterate 5 (refine lex_s fun K hK=>?_;go_simp;refine hK _ ?_;clear hK K)
      refine lex_call (·=.bool true) 56 #[.int .i64 lo,.int .i64 1000000000] (by rfl) (by rfl) ⟨_,rfl⟩ (fun w=>by go_simp) (fun wq hg hf=>(uh HW1 wq).mono (by rintro e w' ⟨rfl,rfl⟩;exact ⟨_,rfl,Below.refl _ _,rfl,fun t ht=>by cases ht;exact True.intro⟩)) ?_
      rintro _ rfl
      simp only [Act.put,List.setIfInBounds_toArray,List.set_cons_succ,List.set_cons_zero]
      iterate 7 (refine lex_s fun K hK=>?_;go_simp;refine hK _ ?_;clear hK K)
      refine lex_call (·=.bool false) 56 #[.int .i64 hi,.int .i64 1000000000] (by rfl) (by rfl) ⟨_,rfl⟩ (fun w=>by go_simp) (fun wq hg hf=>(uh HW2 wq).mono (by rintro e w' ⟨rfl,rfl⟩;exact ⟨_,rfl,Below.refl _ _,rfl,fun t ht=>by cases ht;exact True.intro⟩)) ?_
      rintro _ rfl
      simp only [Act.put,List.setIfInBounds_toArray,List.set_cons_succ,List.set_cons_zero]
      iterate 14 (refine lex_s fun K hK=>?_;go_simp;refine hK _ ?_;clear hK K)
      refine lex_last ?_
      intro w5 hg5 _
      have HB5:Hid (Grows w w5):=(uh HR).2.trans hg5
      clear hg5 y0 y1
      go_wp2
      go_ret
      exact ⟨by rw [uh hR];exact congrArg (fun b=>Ending.returned (.bool b)) (uh HX).symm,uh HB5⟩
    ·have b1':withinB lo 1000000000=false:=Bool.eq_false_iff.2 b1
     rw [b1'] at HW1
     have HX:Hid (vs.all rangeB=false):=by
      unfold Hid
      rw [←Bool.not_eq_true,List.all_eq_true]
      intro h
      have:=h _ (uh HMEM)
      simp [rangeB,b1'] at this
     clear b1 b1'
     go_wp2_with fail
     have y0:=cell_regrown c0
     have y1:=cell_regrown c1
     clear c0 c1
     refine wp_region_grown (phiL []) (gL [(23,(·=.bool false)),(31,(·=.bool false))]) 47 28 (by kernel_rfl) (by rfl) (by kernel_rfl) (phiL_grows (by simp)) ?_
     iterate 5 (refine lex_s fun K hK=>?_;go_simp;refine hK _ ?_;clear hK K)
     refine lex_call (·=.bool false) 56 #[.int .i64 lo,.int .i64 1000000000] (by rfl) (by rfl) ⟨_,rfl⟩ (fun w=>by go_simp) (fun wq hg hf=>(uh HW1 wq).mono (by rintro e w' ⟨rfl,rfl⟩;exact ⟨_,rfl,Below.refl _ _,rfl,fun t ht=>by cases ht;exact True.intro⟩)) ?_
     rintro _ rfl
     simp only [Act.put,List.setIfInBounds_toArray,List.set_cons_succ,List.set_cons_zero]
     iterate 7 (refine lex_s fun K hK=>?_;go_simp;refine hK _ ?_;clear hK K)
     refine lex_not (by rfl) (fun _ _ _ t ht=>by cases ht;exact True.intro) ?_
     simp only [Act.put,List.setIfInBounds_toArray,List.set_cons_succ,List.set_cons_zero]
     iterate 14 (refine lex_s fun K hK=>?_;go_simp;refine hK _ ?_;clear hK K)
     refine lex_last ?_
     intro w5 hg5 _
     have HB5:Hid (Grows w w5):=(uh HR).2.trans hg5
     clear hg5 y0 y1
     go_wp2
     go_ret
     exact ⟨by rw [uh hR];exact congrArg (fun b=>Ending.returned (.bool b)) (uh HX).symm,uh HB5⟩
   ·have hin:i=n:=by omega
    have HX:Hid (vs.all rangeB=true):=by
     have h1:=(uh HR).1
     unfold Hid
     rwa [hin,←uh HN,List.take_length] at h1
    clear hin
    go_wp2
    go_ret
    exact ⟨by rw [uh hR];exact congrArg (fun b=>Ending.returned (.bool b)) (uh HX).symm,(uh HR).2⟩
 ·have hR:Hid (rangesB vs=false):=by
   unfold Hid rangesB
   rw [uh HN,decide_eq_false h4];rfl
  by_cases h0:n<1
  ·clear h4
   go_enter Try.func40,Try.ntmps40
   go_wp2
   go_ret
   exact ⟨by rw [uh hR];rfl,Below.refl _ _⟩
  ·have h5:(4:Int)<(n:Int):=by omega
   have h6:¬ ((n:Int)<1):=by omega
   clear h4
   go_enter Try.func40,Try.ntmps40
   go_wp2
   go_ret
   exact ⟨by rw [uh hR];rfl,Below.refl _ _⟩
end
def rowB (n:Nat) (q:RowP):Bool:=decide (q.1.length=n)&&withinB q.2.1 1000000000000&&q.1.all fun x=>withinB x 1000
theorem rowsB_all {n:Nat} {rs:List RowP} (h:rs.length≤8):rowsB n rs=rs.all (rowB n):=by
 unfold rowsB
 rw [decide_eq_true h];rfl
theorem row_bad {n:Nat} {rs:List RowP} {q:RowP} (hm:q∈rs) (h:rowB n q=false):rs.all (rowB n)=false:=by
 rw [←Bool.not_eq_true,List.all_eq_true]
 intro ha
 rw [ha q hm] at h;cases h
attribute [local go_sem] valUpon
set_option maxHeartbeats 1000000 in
theorem areRows_any (rs:List RowP) (n:Nat) (vb:Value) (w:World) (hb:RwsAt w vb rs) (hm:rs.length≤maxLen) (hn4:n≤4):Calls Try.prog 41 #[vb,.int .i64 n] w fun e w'=>e=.returned (.bool (rowsB n rs))∧Below w.heap.size w w':=by
 obtain ⟨ba,bc,rfl⟩:=hb.shapeS
 have HB:=hide hb
 obtain ⟨m,hmm⟩:∃ m,rs.length=m:=⟨_,rfl⟩
 have HM:=hide hmm
 rw [hmm]
 rw [hmm] at HB hm
 unfold maxLen at hm
 clear hb hmm
 by_cases h8:m≤8
 ·have h8':¬ ((8:Int)<(m:Int)):=by omega
  have hR:Hid (rowsB n rs=rs.all (rowB n)):=rowsB_all (by rw [uh HM];exact h8)
  go_enter Try.func41,Try.ntmps41
  go_wp2_with fail
  go_loopg [5] m (fun k iv wr=>∃ (i:Nat),iv=.int .i64 i∧i+k=m∧Hid ((rs.take i).all (rowB n)=true∧Grows w wr))
  case atStart=>exact ⟨0,rfl,by omega,by simp,Below.refl _ _⟩
  case round =>
   obtain ⟨i,rfl,hik,HR⟩:=hrel
   by_cases hlt:i<m
   ·obtain ⟨gr,or',ua,un,uc,er,r0,hints,r1,r2⟩:=((uh HB).below (uh HR).2).get (i:=i) (by rw [uh HM];exact hlt)
    obtain ⟨q,hq⟩:∃ q,rs.getD i ([],0,false)=q:=⟨_,rfl⟩
    have HQM:Hid (q∈rs):=by unfold Hid;rw [←hq,List.getD_eq_getElem?_getD,List.getElem?_eq_getElem (by rw [uh HM];exact hlt)];exact List.getElem_mem _
    have HTAKE:Hid (rs.take (i+1)=rs.take i++[q]):=by
     unfold Hid
     rw [←hq,List.take_succ_eq_append_getElem (by rw [uh HM];exact hlt),List.getD_eq_getElem?_getD,List.getElem?_eq_getElem (by rw [uh HM];exact hlt)];rfl
    rw [hq] at hints r1 r2
    obtain ⟨C,K,E⟩:=q
    simp only at hints r1 r2
    cases er
    have HRC:=hide (And.intro r0 (And.intro r1 r2))
    have HINT:=hide hints
    have HUN:Hid (un=C.length):=by
     obtain ⟨ad,cap,e,_⟩:=hints
     cases e;rfl
    clear hints hq r2
    by_cases hl:un=n
    ·have hl':(un:Int)=(n:Int):=by omega
     have HCL:Hid (C.length=n):=by unfold Hid;rw [←uh HUN];exact hl
     have HW:=hide (within_any K 1000000000000 wr (by decide) (by decide))
     clear hl
     obtain ⟨bk,hbk⟩:∃ bk,withinB K 1000000000000=bk:=⟨_,rfl⟩
     rw [hbk] at HW
     have HBK:=hide hbk
     clear hbk
     go_wp2_with fail
     refine (uh HW).mono ?_
     rintro e w1 ⟨rfl,hw1⟩
     rw [hw1]
     clear hw1 w1
     cases bk with
     | false =>
      have HX:Hid (rs.all (rowB n)=false):=row_bad (uh HQM) (by simp [rowB,uh HBK])
      go_wp2
      go_ret
      exact ⟨by rw [uh hR,uh HX];rfl,(uh HR).2⟩
     | true =>
      go_wp2_with fail
      obtain ⟨wo,rfl⟩:∃ wo,wo=wr:=⟨_,rfl⟩
      obtain ⟨go',rfl⟩:∃ go',go'=gk:=⟨_,rfl⟩
      have HOO:=HR
      clear HR r0 r1
      go_loopg [6] n (fun k jv wr2=>∃ (j:Nat),jv=.int .i64 j∧j+k=n∧Hid ((C.take j).all (fun x=>withinB x 1000)=true∧Grows wo wr2))
      case atStart=>exact ⟨0,rfl,by omega,by simp,Below.refl _ _⟩
      case round =>
       obtain ⟨j,rfl,hjk,HR⟩:=hrel
       by_cases hj:j<n
       ·have r0:=(uh HR).2.cell (uh HRC).1
        obtain ⟨ad,cap,ei,hcell⟩:=(uh HINT).below (uh HR).2
        cases ei
        obtain ⟨gc,oc,eg,c0⟩:=hcell j (by rw [uh HCL];exact hj)
        cases eg
        obtain ⟨c,hc⟩:∃ c,C.getD j 0=c:=⟨_,rfl⟩
        rw [hc] at c0
        have HCM:Hid (c∈C):=by
         unfold Hid
         rw [←hc,List.getD_eq_getElem?_getD,List.getElem?_eq_getElem (by rw [uh HCL];exact hj)];exact List.getElem_mem _
        have HCT:Hid (C.take (j+1)=C.take j++[c]):=by
         unfold Hid
         rw [←hc,List.take_succ_eq_append_getElem (by rw [uh HCL];exact hj),List.getD_eq_getElem?_getD,List.getElem?_eq_getElem (by rw [uh HCL];exact hj)];rfl
        have hCn:(j:Int)<(C.length:Int):=by rw [uh HCL];omega
        have HW2:=hide (within_any c 1000 wr (by decide) (by decide))
        obtain ⟨bc',hbc⟩:∃ bk,withinB c 1000=bk:=⟨_,rfl⟩
        rw [hbc] at HW2
        have HBC:=hide hbc
        clear hc hcell hbc
        go_wp2_with fail
        refine (uh HW2).mono ?_
        rintro e w1 ⟨rfl,hw1⟩
        rw [hw1]
        clear hw1 w1
        cases bc' with
        | false =>
         have HX:Hid (rs.all (rowB n)=false):=row_bad (uh HQM) (by
          have h1:(C.all fun x=>withinB x 1000)=false:=by
           rw [←Bool.not_eq_true,List.all_eq_true]
           intro ha
           have:=ha c (uh HCM)
           rw [uh HBC] at this;cases this
          simp only [rowB,h1,Bool.and_false])
         go_wp2
         go_ret
         exact ⟨by rw [uh hR,uh HX];rfl,(uh HOO).2.trans (uh HR).2⟩
        | true =>
         have HX:Hid ((C.take (j+1)).all (fun x=>withinB x 1000)=true):=by
          unfold Hid
          rw [uh HCT,List.all_append,(uh HR).1]
          simp [uh HBC]
         go_wp2
         go_roundg (gk - 1)
         case measure=>omega
         case rel=>exact ⟨j+1,by simp,by omega,uh HX,(uh HR).2⟩
       ·have hjn:j=n:=by omega
        have HX:Hid ((rs.take (i+1)).all (rowB n)=true):=by
         have h1:=(uh HR).1
         rw [hjn,←uh HCL,List.take_length] at h1
         unfold Hid
         rw [uh HTAKE,List.all_append,(uh HOO).1]
         simp only [rowB,List.all_cons,List.all_nil,h1,uh HCL,uh HBK]
         simp
        clear hjn
        go_wp2
        go_roundg (go' - 1)
        case measure=>omega
        case rel=>exact ⟨i+1,by simp,by omega,uh HX,(uh HOO).2.trans (uh HR).2⟩
    ·have hl':¬ ((un:Int)=(n:Int)):=by omega
     have HX:Hid (rs.all (rowB n)=false):=row_bad (uh HQM) (by
      have h1:¬ (C.length=n):=by rw [←uh HUN];exact hl
      simp [rowB,h1])
     clear hl
     go_wp2
     go_ret
     exact ⟨by rw [uh hR,uh HX];rfl,(uh HR).2⟩
   ·have hin:i=m:=by omega
    have HX:Hid (rs.all (rowB n)=true):=by
     have h1:=(uh HR).1
     unfold Hid
     rwa [hin,←uh HM,List.take_length] at h1
    clear hin
    go_wp2
    go_ret
    exact ⟨by rw [uh hR,uh HX];rfl,(uh HR).2⟩
 ·have h8':(8:Int)<(m:Int):=by omega
  have hR:Hid (rowsB n rs=false):=by
   unfold Hid rowsB
   rw [uh HM,decide_eq_false h8];rfl
  clear h8
  go_enter Try.func41,Try.ntmps41
  go_wp2
  go_ret
  exact ⟨by rw [uh hR];rfl,Below.refl _ _⟩
end
def LeastP (vs:List (Int × Int)) (rs:List RowP) (A:List Int):Prop:=PointP vs rs A∧∀ B,PointP vs rs B→¬ lexLt B A
def SolvePost (vs:List (Int × Int)) (rs:List RowP) (w:World) (e:Ending) (w':World):Prop :=
 ∃ (va:Option Addr) (vn vc:Nat) (found:Bool) (errno:Int),e=.returned (.tuple #[.slice va vn vc,.bool found,.int .i64 errno])∧Below w.heap.size w w' ∧
  ((¬ (RangesOk vs∧RowsOk vs.length rs)∧va=none∧vn=0∧vc=0∧found=false∧errno=6) ∨
   (RangesOk vs∧RowsOk vs.length rs∧errno=0∧((found=true∧∃ A,IntsOwn w.heap.size w' (.slice va vn vc) A∧LeastP vs rs A)∨(found=false∧va=none∧vn=0∧vc=0∧∀ A,¬ PointP vs rs A))))
attribute [local go_sem] valUpon
set_option maxHeartbeats 1000000 in
theorem Least_any (vs:List (Int × Int)) (rs:List RowP) (va vb:Value) (w:World) (ha:RngAt w va vs) (hb:RwsAt w vb rs) (hmv:vs.length≤maxLen) (hmr:rs.length≤maxLen) :
  Calls Try.prog 31 #[va,vb] w (SolvePost vs rs w):=by
 obtain ⟨i0,hi0,hz0,hz1,hz2⟩:=info_parts Try.infoInt
 obtain ⟨aa,ac,rfl⟩:=ha.shapeS
 obtain ⟨ba,bc,rfl⟩:=hb.shapeS
 have HA:=hide ha
 have HB:=hide hb
 obtain ⟨n,hn⟩:∃ n,vs.length=n:=⟨_,rfl⟩
 obtain ⟨m,hm⟩:∃ m,rs.length=m:=⟨_,rfl⟩
 have HN:=hide hn
 have HM:=hide hm
 have HAR:=hide (areRanges_any vs _ w ha hmv)
 have HMR:=hide hmr
 rw [hn] at HAR HA ⊢
 rw [hm] at HB ⊢
 obtain ⟨b1,hb1⟩:∃ b1,rangesB vs=b1:=⟨_,rfl⟩
 rw [hb1] at HAR
 have HB1:=hide hb1
 clear ha hb hmv hmr hn hm hb1
 go_enter Try.func31,Try.ntmps31
 go_wp2_with fail
 refine (uh HAR).mono ?_
 rintro e w1 ⟨rfl,hw1⟩
 have HG1:Hid (Grows w w1):=hw1
 clear hw1 HAR
 cases b1 with
 | false =>
  have HNO:Hid (¬ (RangesOk vs∧RowsOk vs.length rs)):=fun h=>by
   have:=rangesB_iff.2 h.1
   rw [uh HB1] at this;cases this
  go_wp2
  exact bodyPost_ret (v:=.tuple #[.slice none 0 0,.bool false,.int .i64 6]) (by simp [results,Try.results31,go_sem]) rfl ⟨_,_,_,false,6,rfl,uh HG1,.inl ⟨uh HNO,rfl,rfl,rfl,rfl,rfl⟩⟩
 | true =>
  have HV:Hid (RangesOk vs):=rangesB_iff.1 (uh HB1)
  have hn4:n≤4:=by have:=(uh HV).four;rw [uh HN] at this;exact this
  have HAW:=hide (areRows_any rs n (.slice ba m bc) w1 ((uh HB).below (uh HG1)) (uh HMR) hn4)
  obtain ⟨b2,hb2⟩:∃ b2,rowsB n rs=b2:=⟨_,rfl⟩
  rw [hb2] at HAW
  have HB2:=hide hb2
  clear hb2
  go_wp2_with fail
  refine (uh HAW).mono ?_
  rintro e w2 ⟨rfl,hw2⟩
  have HG2:Hid (Grows w w2):=(uh HG1).trans hw2
  clear hw2 HAW HG1
  cases b2 with
  | false =>
   have HNO:Hid (¬ (RangesOk vs∧RowsOk vs.length rs)):=fun h=>by
    have h2:=h.2
    rw [uh HN] at h2
    have:=rowsB_iff.2 h2
    rw [uh HB2] at this;cases this
   go_wp2
   exact bodyPost_ret (v:=.tuple #[.slice none 0 0,.bool false,.int .i64 6]) (by simp [results,Try.results31,go_sem]) rfl ⟨_,_,_,false,6,rfl,uh HG2,.inl ⟨uh HNO,rfl,rfl,rfl,rfl,rfl⟩⟩
  | true =>
   have HRW:Hid (RowsOk vs.length rs):=by unfold Hid;rw [uh HN];exact rowsB_iff.1 (uh HB2)
   have HRO:=hide (regionOf_any vs rs (.slice aa n ac) (.slice ba m bc) w2 ((uh HA).below (uh HG2)) ((uh HB).below (uh HG2)) (uh HV) (uh HRW))
   go_wp2_with fail
   refine (uh HRO).mono ?_
   rintro e w3 ⟨v3,rfl,hv3,hb3⟩
   have HLP:=hide (leastOf_any (uh HV) (uh HRW) v3 w3 hv3)
   have HG3:Hid (Grows w w3):=(uh HG2).trans hb3
   obtain ⟨vz,vl,vt,rfl,g1,g2,g3⟩:=hv3
   obtain ⟨ya,yn,yc,rfl⟩:=g1.shapeS
   obtain ⟨ua,un,uc,rfl⟩:=g2.shapeS
   obtain ⟨ra,rn,rc,rfl⟩:=g3.shapeS
   clear g1 g2 g3 hb3 HRO HG2
   go_wp2_with fail
   refine (uh HLP).mono ?_
   rintro e w4 ⟨vs4,ok,rfl,⟨sa,sn,sc,rfl⟩,hb4,ht,hfl⟩
   have HG4:Hid (Grows w w4):=(uh HG3).trans hb4
   clear hb4 HLP HG3
   cases ok with
   | false =>
    have HNO:Hid (∀ A,¬ PointP vs rs A):=fun A hA=>hfl rfl A ((of_ans A).2 hA)
    clear ht hfl
    go_wp2
    exact bodyPost_ret (v:=.tuple #[.slice none 0 0,.bool false,.int .i64 0]) (by simp [results,Try.results31,go_sem]) rfl ⟨_,_,_,false,0,rfl,uh HG4,.inr ⟨uh HV,uh HRW,rfl,.inr ⟨rfl,rfl,rfl,rfl,uh HNO⟩⟩⟩
   | true =>
    obtain ⟨A,hA1,hA2,hA3⟩:=ht rfl
    have HPT:Hid (PointP vs rs A):=(of_ans A).1 hA2
    have HLE:Hid (LeastP vs rs A):=⟨uh HPT,fun B hB=>hA3 B ((of_ans B).2 hB)⟩
    have hsn:sn=A.length:=by
     obtain ⟨ad,cap,e,_⟩:=hA1
     cases e;rfl
    have hAn:A.length=n:=by rw [(uh HPT).len];exact uh HN
    rw [hAn] at hsn
    have HAN:=hide hAn
    have HA1:=hide (hA1.mono (P':=(·<w4.heap.size)) (fun k hk _=>hk))
    subst hsn
    clear ht hfl hA1 hA2 hA3 hAn
    go_wp2_with (at_make;refine wpList_make_full _ rfl _ _ 24 rfl w4.heap.size 3 i0 (.int .i64 0) 1 Try.underlying24 hi0 hz0 hz1 .i64 .i64 _ _ sn rfl rfl ?e1 ?e2 ?c1 ?c2 ?c3 ?_)
    case e1=>first | rfl | omega | simp
    case e2=>first | rfl | omega | simp
    case c1=>rw [hz2];omega
    case c2=>unfold maxLen;omega
    case c3=>first | omega | simp
    ·intro w5 hown hgrow
     have hG5:Grows w4 w5:=(Below.refl _ _).grown hgrow (Nat.le_refl _) (by intro k hk;cases hk)
     have HBK:Hid (w5.heap[w4.heap.size]?=some (.cells (rowOf (A.take 0) sn).toArray 3 (0,0))):=by
      have h1:=hown
      try simp only [Value.cells,Nat.mul_one] at h1
      have h2:=block_of_own h1
      rw [made_int] at h2
      exact h2
     have HG5:Hid (Grows w w5):=(uh HG4).trans hG5
     have HA5:=hide ((uh HA1).below hG5)
     have hw4:w.heap.size≤w4.heap.size:=(uh HG4).size
     clear hown hgrow hG5
     go_wp2_with fail
     generalize hgl:w4.heap.size=gl at *
     go_loopg [10] sn (fun k iv wr=>∃ (i:Nat),iv=.int .i64 i∧i+k=sn∧Hid (wr.heap[gl]?=some (.cells (rowOf (A.take i) sn).toArray 3 (0,0))∧Grows w wr∧RowAt (·<gl) wr (.slice sa sn sc) A))
     case atStart=>exact ⟨0,rfl,by omega,uh HBK,uh HG5,uh HA5⟩
     case round =>
      clear HBK HG5 HA5
      obtain ⟨i,rfl,hik,HR⟩:=hrel
      by_cases hlt:i<sn
      ·obtain ⟨gp,op,cp,px,pa,pm,pc,ep,p0,p1,hpv⟩:=row_cell (uh HR).2.2 (i:=i) (by rw [uh HAN];exact hlt)
       rw [uh HAN] at ep
       cases ep
       obtain ⟨x,hx⟩:∃ x,A.getD i 0=x:=⟨_,rfl⟩
       rw [hx] at hpv
       have hxb:=(point_lt (uh HV) (uh HPT) i).2
       rw [hx] at hxb
       have HSM:=hide (Small_any (·<gl) _ x wr hpv)
       rw [if_pos ⟨by omega,by omega⟩] at HSM
       have HTK:Hid (A.take (i+1)=A.take i++[x]):=by
        unfold Hid
        rw [←hx,List.take_succ_eq_append_getElem (by rw [uh HAN];exact hlt),List.getD_eq_getElem?_getD,List.getElem?_eq_getElem (by rw [uh HAN];exact hlt)];rfl
       have HTL:Hid ((A.take i).length=i):=by unfold Hid;rw [List.length_take,uh HAN];omega
       clear hpv hx
       go_wp2_with fail
       refine (uh HSM).mono ?_
       rintro e w6 ⟨rfl,hb6⟩
       have hbk6:=Below.same hb6 _ _ (uh HR).1
       have HBK6:=hide hbk6
       obtain ⟨u,hu⟩:=cell_row hbk6 (k:=i) (by rw [uh HTL];omega) hlt
       have hf:=freeOf hbk6 i
       have HNX:Hid ((w6.setCell ⟨gl,i,none⟩ (.int .i64 x)).heap[gl]?=some (.cells (rowOf (A.take (i+1)) sn).toArray 3 (0,0))):=by
        unfold Hid
        have h1:=heap_setCell_same w6 gl i _ _ (.int .i64 x) hbk6
        have h2:=rowOf_set (A.take i) sn x (by rw [uh HTL];exact hlt)
        rw [uh HTL] at h2
        rw [h1,uh HTK,←h2];rfl
       have HG6:Hid (Grows w (w6.setCell ⟨gl,i,none⟩ (.int .i64 x))):=Below.setCell (p:=⟨gl,i,none⟩) ((uh HR).2.1.trans hb6) hw4 _
       have HA6:Hid (RowAt (·<gl) (w6.setCell ⟨gl,i,none⟩ (.int .i64 x)) (.slice (some ⟨gp,op,none⟩) sn sc) A):=((uh HR).2.2.below hb6).holds (holds_out (P:=(·<gl)) (Nat.lt_irrefl gl) _ _)
       clear hb6 hbk6 HSM p0 p1
       go_wp2
       go_roundg (gk - 1)
       case measure=>omega
       case rel=>exact ⟨i+1,by simp,by omega,uh HNX,uh HG6,uh HA6⟩
      ·have hin:i=sn:=by omega
       have HOW:Hid (IntsOwn w.heap.size wr (.slice (some ⟨gl,0,none⟩) sn sn) A):=by
        have h1:=(uh HR).1
        rw [hin,←uh HAN,List.take_length] at h1
        unfold Hid
        rw [←uh HAN]
        exact own_of_block h1 rfl hw4 (by rw [uh HAN];omega)
       have HG6:=hide (uh HR).2.1
       clear hin
       go_wp2
       exact bodyPost_ret (v:=.tuple #[.slice (some ⟨gl,0,none⟩) sn sn,.bool true,.int .i64 0]) (by simp [results,Try.results31,go_sem]) rfl ⟨_,_,_,true,0,rfl,uh HG6,.inr ⟨uh HV,uh HRW,rfl,.inl ⟨rfl,A,uh HOW,uh HLE⟩⟩⟩
theorem Solve_any (vs:List (Int × Int)) (rs:List RowP) (va vb:Value) (w:World) (ha:RngAt w va vs) (hb:RwsAt w vb rs) (hmv:vs.length≤maxLen) (hmr:rs.length≤maxLen) :
  Calls Try.prog 19 #[va,vb] w (SolvePost vs rs w):=by
 have HL:=hide (Least_any vs rs va vb w ha hb hmv hmr)
 obtain ⟨aa,ac,rfl⟩:=ha.shapeS
 obtain ⟨ba,bc,rfl⟩:=hb.shapeS
 obtain ⟨n,hn⟩:∃ n,vs.length=n:=⟨_,rfl⟩
 obtain ⟨m,hm⟩:∃ m,rs.length=m:=⟨_,rfl⟩
 rw [hn,hm] at HL ⊢
 clear ha hb hmv hmr hn hm
 go_enter Try.func19,Try.ntmps19
 go_wp2_with fail
 refine (uh HL).mono ?_
 rintro e w1 hp
 have HP:=hide hp
 obtain ⟨xa,xn,xc,found,errno,rfl,-⟩:=hp
 go_wp2
 exact bodyPost_ret (v:=.tuple #[.slice xa xn xc,.bool found,.int .i64 errno]) (by simp [results,Try.results19,go_sem]) rfl (uh HP)
end Go.Proofs.Ytfaljekgpnbmiaa
