/- Joined: XInt6 XInt7 XInt8. -/
import Derived.Test.YtfaljekgpnbmiaaJ05
set_option linter.unusedVariables false
set_option linter.unusedSimpArgs false
set_option maxRecDepth 100000
namespace Go.Proofs.Ytfaljekgpnbmiaa
open Go.RowKit
def Past (w:World) (o1 o2 o3:Obj) (w1:World):Prop:=Below (((w.alloc o1).alloc o2).alloc o3).heap.size (((w.alloc o1).alloc o2).alloc o3) w1
theorem Past.drew {w:World} {o1 o2 o3:Obj} {w1:World} (h:Past w o1 o2 o3 w1):Past w o1 o2 o3 w1.drew:=Below.drew h
theorem Past.refl (w:World) (o1 o2 o3:Obj):Past w o1 o2 o3 (((w.alloc o1).alloc o2).alloc o3):=Below.refl _ _
theorem Past.step {w:World} {o1 o2 o3:Obj} {w1 w2:World} (h:Past w o1 o2 o3 w1) (h2:Below w1.heap.size w1 w2):Past w o1 o2 o3 w2:=Below.trans h (h2.mono (Below.size h))
theorem Past.below {w:World} {o1 o2 o3:Obj} {w1:World} (h:Past w o1 o2 o3 w1):Below w.heap.size w w1:=(below_three w o1 o2 o3).trans (Below.mono h (below_three w o1 o2 o3).size)
set_option maxHeartbeats 2000000 in
theorem Sub_small (P:Nat→Prop) (a b:Int) (w:World) (hP:∀ b,w.heap.size≤b→P b) (ha:-4611686018427387904<a∧a<4611686018427387904) (hb:-4611686018427387904<b∧b<4611686018427387904) :
  Calls Try.prog 92 #[.agg #[.int .i64 a,.slice none 0 0],.agg #[.int .i64 b,.slice none 0 0]] w fun e w'=>∃ v',e=.returned v'∧WhAt P w' v' (a - b)∧Below w.heap.size w w':=by
 have HO:=hide (fun o1 o2 o3=>Of_any P (a - b) (((w.alloc o1).alloc o2).alloc o3) (fun b hb=>hP b (by simp at hb;omega)) (by omega) (by omega))
 obtain ⟨a1,a2⟩:=ha
 obtain ⟨b1,b2⟩:=hb
 go_enter Try.func92,Try.ntmps92
 go_wp2_with fail
 refine (uh HO _ _ _).mono ?_
 rintro e w1 ⟨v',rfl,hv,hw1⟩
 obtain ⟨x,ad,m,cap,rfl,c0,c1,f0,f1,HF⟩:=result_slot (below_three w _ _ _) hw1 (slot_three w _ _ _) (by omega) hv
 clear hv hw1 HO
 go_wp2
 exact bodyPost_ret (v:=.agg #[.int .i64 x,.slice ad m cap]) (by simp [results,Try.results92,go_sem,(uh HF).2.2.1,(uh HF).2.2.2]) rfl ⟨_,rfl,(uh HF).1,(uh HF).2.1⟩
set_option maxHeartbeats 4000000 in
theorem Sub_big (P:Nat→Prop) (K:Nat) (a b:Int) (va vb:Value) (w:World) (hP:∀ b,w.heap.size≤b→P b) (ha:WhAt P w va a) (hb:WhAt P w vb b) (hK:K≤1500000000000) (hA:(a.natAbs:Int)<1073741824^K) (hB:(b.natAbs:Int)<1073741824^K) (hbig:¬ ((-4611686018427387904<a∧a<4611686018427387904)∧(-4611686018427387904<b∧b<4611686018427387904))) :
  Calls Try.prog 92 #[va,vb] w fun e w'=>∃ v',e=.returned v'∧WhAt P w' v' (a - b)∧Below w.heap.size w w':=by
 have HN:=hide (fun w1 (h:Below w.heap.size w w1)=>Neg_any P vb b w1 (hb.below h))
 obtain ⟨x,ad,m,cap,rfl,hx1,hx2,hx3,hx4,hx5⟩:=ha.head2
 obtain ⟨y,ad2,m2,cap2,rfl,hy1,hy2,hy3,hy4,hy5⟩:=hb.head2
 have hmm:¬ (m=0∧m2=0):=by
  rintro ⟨h1,h2⟩
  have:=(hx5 h1).1
  have:=(hy5 h2).1
  omega
 have key:∀ w1 v2,Past w (.cells #[.int .i64 x,.slice ad m cap] 82) (.cells #[.int .i64 y,.slice ad2 m2 cap2] 82) (.cells #[.int .i64 0,.slice none 0 0] 82) w1→WhAt P w1 v2 (-b)→Calls Try.prog 90 #[.agg #[.int .i64 x,.slice ad m cap],v2] w1 fun e w'=>∃ v',e=.returned v'∧WhAt P w' v' (a - b)∧Below w1.heap.size w1 w':=by
  intro w1 v2 hw1 hv2
  have h3:=below_three w (.cells #[.int .i64 x,.slice ad m cap] 82) (.cells #[.int .i64 y,.slice ad2 m2 cap2] 82) (.cells #[.int .i64 0,.slice none 0 0] 82)
  have:=Add_any P K a (-b) _ v2 w1 (fun b hb=>hP b (by have:=hw1.size;have:=h3.size;omega)) ((ha.below h3).below hw1) hv2 hK hA (by rw [Int.natAbs_neg];exact hB)
  rw [show a - b=a+-b by omega]
  exact this
 have HKey:=hide key
 clear key
 by_cases hm:m=0
 ·have hm1:((m:Int) == 0)=true:=by simp [hm]
  have hm2:((m2:Int) == 0)=false:=by simp;omega
  clear hm hmm hx5 hy5 hbig
  go_enter Try.func92,Try.ntmps92
  go_wp2_with fail
  go_region_with (first
   | (go_at_call 61;refine (uh HN _ (Past.below (o1:=.cells #[.int .i64 x,.slice ad m cap] 82) (o2:=.cells #[.int .i64 y,.slice ad2 m2 cap2] 82) (o3:=.cells #[.int .i64 0,.slice none 0 0] 82) (by repeat (first | exact Past.refl _ _ _ _ | refine Past.drew ?_)))).mono ?_;rintro e w1 ⟨v2,rfl,hv2,hw1⟩;have HV2:=hide hv2;have HW1:Hid (Past w (.cells #[.int .i64 x,.slice ad m cap] 82) (.cells #[.int .i64 y,.slice ad2 m2 cap2] 82) (.cells #[.int .i64 0,.slice none 0 0] 82) w1):=Past.step (by repeat (first | exact Past.refl _ _ _ _ | refine Past.drew ?_)) hw1;obtain ⟨k1,k2⟩:=par_cells (uh HW1) (par_one w _ _ _);obtain ⟨y3,ad3,m3,cap3,rfl,_⟩:=hv2.head;clear hv2 hw1)
   | (go_at_call 90;refine (uh HKey _ _ (by repeat (first | exact uh HW1 | refine Past.drew ?_)) (WhAt.below (uh HV2) (by repeat (first | exact Below.refl _ _ | refine Below.drew ?_)))).mono ?_;rintro e w2 ⟨v',rfl,hv,hw2⟩;obtain ⟨x4,ad4,m4,cap4,rfl,c0,c1,f0,f1,HF⟩:=result_slot (below_three w (.cells #[.int .i64 x,.slice ad m cap] 82) (.cells #[.int .i64 y,.slice ad2 m2 cap2] 82) (.cells #[.int .i64 0,.slice none 0 0] 82)) (Past.step (by repeat (first | exact uh HW1 | refine Past.drew ?_)) hw2) (slot_three w _ _ _) (by omega) hv;clear hv hw2))
  all_goals
   go_wp2
   exact bodyPost_ret (v:=.agg #[.int .i64 x4,.slice ad4 m4 cap4]) (by simp [results,Try.results92,go_sem,(uh HF).2.2.1,(uh HF).2.2.2]) rfl ⟨_,rfl,(uh HF).1,(uh HF).2.1⟩
 ·have hm1:((m:Int) == 0)=false:=by simp;omega
  clear hm hmm hx5 hy5 hbig
  go_enter Try.func92,Try.ntmps92
  go_wp2_with fail
  go_region_with (first
   | (go_at_call 61;refine (uh HN _ (Past.below (o1:=.cells #[.int .i64 x,.slice ad m cap] 82) (o2:=.cells #[.int .i64 y,.slice ad2 m2 cap2] 82) (o3:=.cells #[.int .i64 0,.slice none 0 0] 82) (by repeat (first | exact Past.refl _ _ _ _ | refine Past.drew ?_)))).mono ?_;rintro e w1 ⟨v2,rfl,hv2,hw1⟩;have HV2:=hide hv2;have HW1:Hid (Past w (.cells #[.int .i64 x,.slice ad m cap] 82) (.cells #[.int .i64 y,.slice ad2 m2 cap2] 82) (.cells #[.int .i64 0,.slice none 0 0] 82) w1):=Past.step (by repeat (first | exact Past.refl _ _ _ _ | refine Past.drew ?_)) hw1;obtain ⟨k1,k2⟩:=par_cells (uh HW1) (par_one w _ _ _);obtain ⟨y3,ad3,m3,cap3,rfl,_⟩:=hv2.head;clear hv2 hw1)
   | (go_at_call 90;refine (uh HKey _ _ (by repeat (first | exact uh HW1 | refine Past.drew ?_)) (WhAt.below (uh HV2) (by repeat (first | exact Below.refl _ _ | refine Below.drew ?_)))).mono ?_;rintro e w2 ⟨v',rfl,hv,hw2⟩;obtain ⟨x4,ad4,m4,cap4,rfl,c0,c1,f0,f1,HF⟩:=result_slot (below_three w (.cells #[.int .i64 x,.slice ad m cap] 82) (.cells #[.int .i64 y,.slice ad2 m2 cap2] 82) (.cells #[.int .i64 0,.slice none 0 0] 82)) (Past.step (by repeat (first | exact uh HW1 | refine Past.drew ?_)) hw2) (slot_three w _ _ _) (by omega) hv;clear hv hw2))
  all_goals
   go_wp2
   exact bodyPost_ret (v:=.agg #[.int .i64 x4,.slice ad4 m4 cap4]) (by simp [results,Try.results92,go_sem,(uh HF).2.2.1,(uh HF).2.2.2]) rfl ⟨_,rfl,(uh HF).1,(uh HF).2.1⟩
theorem Sub_any (P:Nat→Prop) (K:Nat) (a b:Int) (va vb:Value) (w:World) (hP:∀ b,w.heap.size≤b→P b) (ha:WhAt P w va a) (hb:WhAt P w vb b) (hK:K≤1500000000000) (hA:(a.natAbs:Int)<1073741824^K) (hB:(b.natAbs:Int)<1073741824^K) :
  Calls Try.prog 92 #[va,vb] w fun e w'=>∃ v',e=.returned v'∧WhAt P w' v' (a - b)∧Below w.heap.size w w':=by
 by_cases h:(-4611686018427387904<a∧a<4611686018427387904)∧(-4611686018427387904<b∧b<4611686018427387904)
 ·rw [ha.fits h.1,hb.fits h.2];exact Sub_small P a b w hP h.1 h.2
 ·exact Sub_big P K a b va vb w hP ha hb hK hA hB h
set_option maxHeartbeats 2000000 in
theorem Compare_any (P:Nat→Prop) (K:Nat) (a b:Int) (va vb:Value) (w:World) (hP:∀ b,w.heap.size≤b→P b) (ha:WhAt P w va a) (hb:WhAt P w vb b) (hK:K≤1500000000000) (hA:(a.natAbs:Int)<1073741824^K) (hB:(b.natAbs:Int)<1073741824^K) :
  Calls Try.prog 89 #[va,vb] w fun e w'=>e=.returned (.int .i64 (Int.sign (a - b)))∧Below w.heap.size w w':=by
 have HS:=hide (fun w1 (h:Below w.heap.size w w1)=>Sub_any P K a b va vb w1 (fun b hb=>hP b (by have:=h.size;omega)) (ha.below h) (hb.below h) hK hA hB)
 obtain ⟨x,ad,m,cap,rfl,hx1,hx2,hx3,hx4,hx5⟩:=ha.head2
 obtain ⟨y,ad2,m2,cap2,rfl,hy1,hy2,hy3,hy4,hy5⟩:=hb.head2
 clear ha hb hx1 hx2 hy1 hy2
 by_cases hm:m=0
 ·by_cases hm0:m2=0
  ·have hm1:((m:Int) == 0)=true:=by simp [hm]
   have hm2:((m2:Int) == 0)=true:=by simp [hm0]
   have HXY:Hid (x=a∧y=b):=⟨(hx5 hm).1,(hy5 hm0).1⟩
   have HB:=hide (((Below.refl w.heap.size w).alloc (Nat.le_refl _) (.cells #[.int .i64 x,.slice ad m cap] 82)).alloc (by simp) (.cells #[.int .i64 y,.slice ad2 m2 cap2] 82))
   clear hm hm0 hx5 hy5 HS
   rcases (show x<y∨x=y∨y<x by omega) with hlt|hlt|hlt
   ·have hd1:decide (x<y)=true:=by simp;omega
    have hR:Hid (Int.sign (a - b)=-1):=by rw [←(uh HXY).1,←(uh HXY).2];exact Int.sign_eq_neg_one_of_neg (by omega)
    clear hlt HXY
    go_enter Try.func89,Try.ntmps89
    go_wp2
    go_ret
    exact ⟨by rw [uh hR];rfl,by repeat (first | exact uh HB | refine Below.drew ?_)⟩
   ·have hd1:decide (x<y)=false:=by simp;omega
    have hd2:decide (y<x)=false:=by simp;omega
    have hR:Hid (Int.sign (a - b)=0):=by rw [←(uh HXY).1,←(uh HXY).2,hlt,Int.sub_self];rfl
    clear hlt HXY
    go_enter Try.func89,Try.ntmps89
    go_wp2
    go_ret
    exact ⟨by rw [uh hR];rfl,by repeat (first | exact uh HB | refine Below.drew ?_)⟩
   ·have hd1:decide (x<y)=false:=by simp;omega
    have hd2:decide (y<x)=true:=by simp;omega
    have hR:Hid (Int.sign (a - b)=1):=by rw [←(uh HXY).1,←(uh HXY).2];exact Int.sign_eq_one_of_pos (by omega)
    clear hlt HXY
    go_enter Try.func89,Try.ntmps89
    go_wp2
    go_ret
    exact ⟨by rw [uh hR];rfl,by repeat (first | exact uh HB | refine Below.drew ?_)⟩
  ·have hm1:((m:Int) == 0)=true:=by simp [hm]
   have hm2:((m2:Int) == 0)=false:=by simp;omega
   clear hm hm0 hx5 hy5
   go_enter Try.func89,Try.ntmps89
   go_wp2_with fail
   refine (uh HS _ (((Below.refl _ w).alloc (Nat.le_refl _) _).alloc (by simp) _)).mono ?_
   rintro e w1 ⟨v',rfl,hv,hw1⟩
   have HW:=hide ((((Below.refl w.heap.size w).alloc (Nat.le_refl _) (.cells #[.int .i64 x,.slice ad m cap] 82)).alloc (by simp) (.cells #[.int .i64 y,.slice ad2 m2 cap2] 82)).trans (hw1.mono (by simp;omega)))
   have HV:=hide hv
   obtain ⟨x4,ad4,m4,cap4,rfl,_⟩:=hv.head
   clear hv hw1 HS
   go_wp2_with fail
   have hB1:Below w1.heap.size w1 (w1.alloc (.cells #[.int .i64 x4,.slice ad4 m4 cap4] 82)):=(Below.refl _ _).alloc (Nat.le_refl _) _
   refine (Sign_any P _ (a - b) _ ((uh HV).below hB1)).mono ?_
   rintro e w2 ⟨rfl,hw2⟩
   have HW2:=hide (((uh HW).trans (hB1.mono (uh HW).size)).trans (hw2.mono (Nat.le_trans (uh HW).size hB1.size)))
   clear hw2 hB1 HW HV
   go_wp2
   go_ret
   exact ⟨rfl,uh HW2⟩
 ·have hm1:((m:Int) == 0)=false:=by simp;omega
  clear hm hx5 hy5
  go_enter Try.func89,Try.ntmps89
  go_wp2_with fail
  refine (uh HS _ (((Below.refl _ w).alloc (Nat.le_refl _) _).alloc (by simp) _)).mono ?_
  rintro e w1 ⟨v',rfl,hv,hw1⟩
  have HW:=hide ((((Below.refl w.heap.size w).alloc (Nat.le_refl _) (.cells #[.int .i64 x,.slice ad m cap] 82)).alloc (by simp) (.cells #[.int .i64 y,.slice ad2 m2 cap2] 82)).trans (hw1.mono (by simp;omega)))
  have HV:=hide hv
  obtain ⟨x4,ad4,m4,cap4,rfl,_⟩:=hv.head
  clear hv hw1 HS
  go_wp2_with fail
  have hB1:Below w1.heap.size w1 (w1.alloc (.cells #[.int .i64 x4,.slice ad4 m4 cap4] 82)):=(Below.refl _ _).alloc (Nat.le_refl _) _
  refine (Sign_any P _ (a - b) _ ((uh HV).below hB1)).mono ?_
  rintro e w2 ⟨rfl,hw2⟩
  have HW2:=hide (((uh HW).trans (hB1.mono (uh HW).size)).trans (hw2.mono (Nat.le_trans (uh HW).size hB1.size)))
  clear hw2 hB1 HW HV
  go_wp2
  go_ret
  exact ⟨rfl,uh HW2⟩
theorem Pl.fits_low {A B:Int} (a0:0≤A) (b0:0≤B) (ha:A<1073741824) (hb:B<1073741824):0≤A*B∧A*B<4611686018427387904:=by
 have h1:=Int.mul_nonneg a0 b0
 have h2:A*B≤1073741823*1073741823:=Int.mul_le_mul (by omega) (by omega) b0 (by omega)
 omega
theorem Pl.fits_quo {A B:Int} (a0:0≤A) (b0:0<B) (h:A≤4611686018427387903/B):0≤A*B∧A*B<4611686018427387904:=by
 have h1:=Int.mul_nonneg a0 (Int.le_of_lt b0)
 have h2:A*B≤4611686018427387903/B*B:=Int.mul_le_mul_of_nonneg_right h (Int.le_of_lt b0)
 have h3:=Int.mul_ediv_add_emod 4611686018427387903 B
 have h4:=Int.emod_nonneg 4611686018427387903 (show B≠0 by omega)
 rw [Int.mul_comm] at h3
 omega
def FitsRet (a b:Int) (e:Ending):Prop:=∃ f,e=.returned (.bool f)∧(f=true→-4611686018427387904<a*b∧a*b<4611686018427387904)
set_option maxHeartbeats 4000000 in
theorem fits_any (a b:Int) (w:World) (ha:-4611686018427387904<a∧a<4611686018427387904) (hb:-4611686018427387904<b∧b<4611686018427387904) :
  Calls Try.prog 130 #[.int .i64 a,.int .i64 b] w fun e w'=>FitsRet a b e∧w'=w:=by
 obtain ⟨a1,a2⟩:=ha
 obtain ⟨b1,b2⟩:=hb
 by_cases ha:a<0
 ·by_cases hb:b<0
  ·obtain ⟨A,hA⟩:∃ A,-a=A:=⟨_,rfl⟩
   obtain ⟨B,hB⟩:∃ B,-b=B:=⟨_,rfl⟩
   have heq:a*b=(A*B):=by rw [←hA,←hB,Int.neg_mul_neg]
   by_cases t1:A<1073741824∧B<1073741824
   ·have hf:=Pl.fits_low (A:=A) (B:=B) (by omega) (by omega) t1.1 t1.2
    have HG:Hid (-4611686018427387904<a*b∧a*b<4611686018427387904):=⟨by omega,by omega⟩
    obtain ⟨t2,t3⟩:=t1
    clear hf heq
    go_enter Try.func130,Try.ntmps130
    go_wp2
    go_ret
    exact ⟨⟨true,rfl,fun _=>uh HG⟩,rfl⟩
   ·by_cases t4:b=0
    ·have HG:Hid (-4611686018427387904<a*b∧a*b<4611686018427387904):=by rw [t4,Int.mul_zero];exact ⟨by omega,by omega⟩
     clear heq
     subst t4
     exact absurd hb (by omega)
    ·have hf:=fun h=>Pl.fits_quo (A:=A) (B:=B) (by omega) (by omega) h
     have HG:Hid (A≤4611686018427387903/(B)→-4611686018427387904<a*b∧a*b<4611686018427387904):=fun h=>by have:=hf h;exact ⟨by omega,by omega⟩
     have t5:((B) == 0)=false:=by simp;omega
     have hq0:0≤4611686018427387903/(B):=Int.ediv_nonneg (by omega) (by omega)
     have hq1:4611686018427387903/(B)≤4611686018427387903:=Int.ediv_le_self _ (by omega)
     clear hf heq
     by_cases t6:A<1073741824
     ·have t7:¬ B<1073741824:=fun h=>t1 ⟨t6,h⟩
      clear t1
      go_enter Try.func130,Try.ntmps130
      go_wp2
      go_ret
      exact ⟨⟨_,rfl,fun h=>uh HG (by simpa using h)⟩,rfl⟩
     ·clear t1
      go_enter Try.func130,Try.ntmps130
      go_wp2
      go_ret
      exact ⟨⟨_,rfl,fun h=>uh HG (by simpa using h)⟩,rfl⟩
  ·obtain ⟨A,hA⟩:∃ A,-a=A:=⟨_,rfl⟩
   have heq:a*b=-(A*b):=by rw [←hA,Int.neg_mul,Int.neg_neg]
   by_cases t1:A<1073741824∧b<1073741824
   ·have hf:=Pl.fits_low (A:=A) (B:=b) (by omega) (by omega) t1.1 t1.2
    have HG:Hid (-4611686018427387904<a*b∧a*b<4611686018427387904):=⟨by omega,by omega⟩
    obtain ⟨t2,t3⟩:=t1
    clear hf heq
    go_enter Try.func130,Try.ntmps130
    go_wp2
    go_ret
    exact ⟨⟨true,rfl,fun _=>uh HG⟩,rfl⟩
   ·by_cases t4:b=0
    ·have HG:Hid (-4611686018427387904<a*b∧a*b<4611686018427387904):=by rw [t4,Int.mul_zero];exact ⟨by omega,by omega⟩
     clear heq
     subst t4
     go_enter Try.func130,Try.ntmps130
     go_wp2
     go_ret
     exact ⟨⟨_,rfl,fun _=>uh HG⟩,rfl⟩
    ·have hf:=fun h=>Pl.fits_quo (A:=A) (B:=b) (by omega) (by omega) h
     have HG:Hid (A≤4611686018427387903/(b)→-4611686018427387904<a*b∧a*b<4611686018427387904):=fun h=>by have:=hf h;exact ⟨by omega,by omega⟩
     have t5:((b) == 0)=false:=by simp;omega
     have hq0:0≤4611686018427387903/(b):=Int.ediv_nonneg (by omega) (by omega)
     have hq1:4611686018427387903/(b)≤4611686018427387903:=Int.ediv_le_self _ (by omega)
     clear hf heq
     by_cases t6:A<1073741824
     ·have t7:¬ b<1073741824:=fun h=>t1 ⟨t6,h⟩
      clear t1
      go_enter Try.func130,Try.ntmps130
      go_wp2
      go_ret
      exact ⟨⟨_,rfl,fun h=>uh HG (by simpa using h)⟩,rfl⟩
     ·clear t1
      go_enter Try.func130,Try.ntmps130
      go_wp2
      go_ret
      exact ⟨⟨_,rfl,fun h=>uh HG (by simpa using h)⟩,rfl⟩
 ·by_cases hb:b<0
  ·obtain ⟨B,hB⟩:∃ B,-b=B:=⟨_,rfl⟩
   have heq:a*b=-(a*B):=by rw [←hB,Int.mul_neg,Int.neg_neg]
   by_cases t1:a<1073741824∧B<1073741824
   ·have hf:=Pl.fits_low (A:=a) (B:=B) (by omega) (by omega) t1.1 t1.2
    have HG:Hid (-4611686018427387904<a*b∧a*b<4611686018427387904):=⟨by omega,by omega⟩
    obtain ⟨t2,t3⟩:=t1
    clear hf heq
    go_enter Try.func130,Try.ntmps130
    go_wp2
    go_ret
    exact ⟨⟨true,rfl,fun _=>uh HG⟩,rfl⟩
   ·by_cases t4:b=0
    ·have HG:Hid (-4611686018427387904<a*b∧a*b<4611686018427387904):=by rw [t4,Int.mul_zero];exact ⟨by omega,by omega⟩
     clear heq
     subst t4
     exact absurd hb (by omega)
    ·have hf:=fun h=>Pl.fits_quo (A:=a) (B:=B) (by omega) (by omega) h
     have HG:Hid (a≤4611686018427387903/(B)→-4611686018427387904<a*b∧a*b<4611686018427387904):=fun h=>by have:=hf h;exact ⟨by omega,by omega⟩
     have t5:((B) == 0)=false:=by simp;omega
     have hq0:0≤4611686018427387903/(B):=Int.ediv_nonneg (by omega) (by omega)
     have hq1:4611686018427387903/(B)≤4611686018427387903:=Int.ediv_le_self _ (by omega)
     clear hf heq
     by_cases t6:a<1073741824
     ·have t7:¬ B<1073741824:=fun h=>t1 ⟨t6,h⟩
      clear t1
      go_enter Try.func130,Try.ntmps130
      go_wp2
      go_ret
      exact ⟨⟨_,rfl,fun h=>uh HG (by simpa using h)⟩,rfl⟩
     ·clear t1
      go_enter Try.func130,Try.ntmps130
      go_wp2
      go_ret
      exact ⟨⟨_,rfl,fun h=>uh HG (by simpa using h)⟩,rfl⟩
  ·have heq:a*b=(a*b):=by rfl
   by_cases t1:a<1073741824∧b<1073741824
   ·have hf:=Pl.fits_low (A:=a) (B:=b) (by omega) (by omega) t1.1 t1.2
    have HG:Hid (-4611686018427387904<a*b∧a*b<4611686018427387904):=⟨by omega,by omega⟩
    obtain ⟨t2,t3⟩:=t1
    clear hf heq
    go_enter Try.func130,Try.ntmps130
    go_wp2
    go_ret
    exact ⟨⟨true,rfl,fun _=>uh HG⟩,rfl⟩
   ·by_cases t4:b=0
    ·have HG:Hid (-4611686018427387904<a*b∧a*b<4611686018427387904):=by rw [t4,Int.mul_zero];exact ⟨by omega,by omega⟩
     clear heq
     subst t4
     go_enter Try.func130,Try.ntmps130
     go_wp2
     go_ret
     exact ⟨⟨_,rfl,fun _=>uh HG⟩,rfl⟩
    ·have hf:=fun h=>Pl.fits_quo (A:=a) (B:=b) (by omega) (by omega) h
     have HG:Hid (a≤4611686018427387903/(b)→-4611686018427387904<a*b∧a*b<4611686018427387904):=fun h=>by have:=hf h;exact ⟨by omega,by omega⟩
     have t5:((b) == 0)=false:=by simp;omega
     have hq0:0≤4611686018427387903/(b):=Int.ediv_nonneg (by omega) (by omega)
     have hq1:4611686018427387903/(b)≤4611686018427387903:=Int.ediv_le_self _ (by omega)
     clear hf heq
     by_cases t6:a<1073741824
     ·have t7:¬ b<1073741824:=fun h=>t1 ⟨t6,h⟩
      clear t1
      go_enter Try.func130,Try.ntmps130
      go_wp2
      go_ret
      exact ⟨⟨_,rfl,fun h=>uh HG (by simpa using h)⟩,rfl⟩
     ·clear t1
      go_enter Try.func130,Try.ntmps130
      go_wp2
      go_ret
      exact ⟨⟨_,rfl,fun h=>uh HG (by simpa using h)⟩,rfl⟩
theorem Pl.sign_abs (a b:Int):Int.sign a*Int.sign b*((a.natAbs:Int)*b.natAbs)=a*b:=by
 have e1:=Int.sign_mul_natAbs a
 have e2:=Int.sign_mul_natAbs b
 calc Int.sign a*Int.sign b*((a.natAbs:Int)*b.natAbs)=(Int.sign a*a.natAbs)*(Int.sign b*b.natAbs):=by rw [Int.mul_assoc,Int.mul_assoc,Int.mul_left_comm (Int.sign b)]
  _=a*b:=by rw [e1,e2]
theorem Pl.sign_prod (a b:Int):(Int.sign a*Int.sign b=1∨Int.sign a*Int.sign b=-1)∨(Int.sign a*Int.sign b=0∧(a.natAbs:Int)*b.natAbs=0):=by
 rcases (show a<0∨a=0∨0<a by omega) with h|h|h
 ·rcases (show b<0∨b=0∨0<b by omega) with k | k | k
  ·rw [Int.sign_eq_neg_one_of_neg h,Int.sign_eq_neg_one_of_neg k];exact .inl (.inl rfl)
  ·subst k;exact .inr ⟨by simp,by simp⟩
  ·rw [Int.sign_eq_neg_one_of_neg h,Int.sign_eq_one_of_pos k];exact .inl (.inr rfl)
 ·subst h;exact .inr ⟨by simp,by simp⟩
 ·rcases (show b<0∨b=0∨0<b by omega) with k | k | k
  ·rw [Int.sign_eq_one_of_pos h,Int.sign_eq_neg_one_of_neg k];exact .inl (.inr rfl)
  ·subst k;exact .inr ⟨by simp,by simp⟩
  ·rw [Int.sign_eq_one_of_pos h,Int.sign_eq_one_of_pos k];exact .inl (.inl rfl)
theorem Past.held {w:World} {u v u2 v2:Value} {o3:Obj} {w1:World} (h:Past w (.cells #[u,v] 82) (.cells #[u2,v2] 82) o3 w1) :
  w1.cell? ⟨w.heap.size,0,none⟩=some u∧w1.cell? ⟨w.heap.size,1,none⟩=some v∧w1.cell? ⟨w.heap.size+1,0,none⟩=some u2∧w1.cell? ⟨w.heap.size+1,1,none⟩=some v2:=by
 obtain ⟨k1,k2⟩:=par_cells h (par_one w _ _ _)
 obtain ⟨k3,k4⟩:=par_cells h (par_two w _ _ _)
 exact ⟨k1,k2,k3,k4⟩
theorem Past.held_store {w:World} {u v u2 v2:Value} {o3:Obj} {w1:World} (h:Past w (.cells #[u,v] 82) (.cells #[u2,v2] 82) o3 w1) (p q:Value) :
  ((w1.setCell ⟨w.heap.size+1+1,0,none⟩ p).setCell ⟨w.heap.size+1+1,1,none⟩ q).cell? ⟨w.heap.size,0,none⟩=some u∧((w1.setCell ⟨w.heap.size+1+1,0,none⟩ p).setCell ⟨w.heap.size+1+1,1,none⟩ q).cell? ⟨w.heap.size,1,none⟩=some v∧((w1.setCell ⟨w.heap.size+1+1,0,none⟩ p).setCell ⟨w.heap.size+1+1,1,none⟩ q).cell? ⟨w.heap.size+1,0,none⟩=some u2∧((w1.setCell ⟨w.heap.size+1+1,0,none⟩ p).setCell ⟨w.heap.size+1+1,1,none⟩ q).cell? ⟨w.heap.size+1,1,none⟩=some v2:=by
 obtain ⟨k1,k2,k3,k4⟩:=Past.held h
 refine ⟨?_,?_,?_,?_⟩
 all_goals
  rw [World.cell?_setCell_far _ _ _ _ (by simp <;> omega),World.cell?_setCell_far _ _ _ _ (by simp <;> omega)]
  assumption
set_option maxHeartbeats 16000000 in
theorem Mul_any (P:Nat→Prop) (K:Nat) (a b:Int) (va vb:Value) (w:World) (hP:∀ b,w.heap.size≤b→P b) (ha:WhAt P w va a) (hb:WhAt P w vb b) (hK:K≤1500000000000) (hA:(a.natAbs:Int)<1073741824^K) (hB:(b.natAbs:Int)<1073741824^K) :
  Calls Try.prog 93 #[va,vb] w fun e w'=>∃ v',e=.returned v'∧WhAt P w' v' (a*b)∧Below w.heap.size w w':=by
 have HPa:=hide (fun o1 o2 o3=>parts_any P va a (((w.alloc o1).alloc o2).alloc o3) (ha.below (below_three w o1 o2 o3)))
 have HSa:=hide (fun w1 (h:Below w.heap.size w w1)=>Sign_any P va a w1 (ha.below h))
 have HSb:=hide (fun w1 (h:Below w.heap.size w w1)=>Sign_any P vb b w1 (hb.below h))
 have HV0:=hide (Pl.sign_abs a b)
 have HQ0:Hid (∀ t:Int,t=(a.natAbs:Int)*b.natAbs→(Int.sign a*Int.sign b=1∨Int.sign a*Int.sign b=-1)∨(Int.sign a*Int.sign b=0∧t=0)):=fun t ht=>by rw [ht];exact Pl.sign_prod a b
 have hsab:-1≤Int.sign a*Int.sign b∧Int.sign a*Int.sign b≤1:=by rcases Pl.sign_prod a b with (h | h) | ⟨h,_⟩ <;> omega
 obtain ⟨sa,hsa⟩:∃ sa,Int.sign a=sa:=⟨_,rfl⟩
 obtain ⟨sb,hsb⟩:∃ sb,Int.sign b=sb:=⟨_,rfl⟩
 rw [hsa] at HSa
 rw [hsb] at HSb
 rw [hsa,hsb] at HV0 HQ0 hsab
 obtain ⟨sab,hab⟩:∃ sab,sa*sb=sab:=⟨_,rfl⟩
 rw [hab] at hsab
 have HV:Hid (sab*((a.natAbs:Int)*b.natAbs)=a*b):=by rw [←hab];exact uh HV0
 have HQ:Hid (∀ t:Int,t=(a.natAbs:Int)*b.natAbs→(sab=1∨sab=-1)∨(sab=0∧t=0)):=by rw [←hab];exact uh HQ0
 have hwp:wrap64 (sa*sb)=sab:=by rw [hab];unfold wrap64;omega
 have hws:IntKind.i64.wrap sab=sab:=by rcases (show sab=-1∨sab=0∨sab=1 by omega) with h | h | h <;> rw [h] <;> decide
 clear hsa hsb HV0 HQ0
 obtain ⟨x,ad,m,cap,rfl,hx1,hx2,hx3,hx4,hx5⟩:=ha.head2
 obtain ⟨y,ad2,m2,cap2,rfl,hy1,hy2,hy3,hy4,hy5⟩:=hb.head2
 by_cases hm:m=0
 ·by_cases hm0:m2=0
  ·have hm1:((m:Int) == 0)=true:=by simp [hm]
   have hm2:((m2:Int) == 0)=true:=by simp [hm0]
   have HXY:Hid (x=a∧y=b):=⟨(hx5 hm).1,(hy5 hm0).1⟩
   have hft:=hide (fun w1=>fits_any x y w1 ⟨hx3,hx4⟩ ⟨hy3,hy4⟩)
   clear hm hm0 hx5 hy5
   go_enter Try.func93,Try.ntmps93
   go_wp2_with fail
   refine (uh hft _).mono ?_
   rintro e w1 ⟨⟨f,rfl,hf⟩,hw1⟩
   rw [hw1]
   clear hw1 w1 hft
   have HPt:=hide hf
   clear hf
   cases f with
   | true =>
    have hxy1:=(uh HPt rfl).1
    have hxy2:=(uh HPt rfl).2
    clear HPt
    go_wp2
    exact bodyPost_ret (v:=.agg #[.int .i64 (x*y),.slice none 0 0]) (by simp [results,Try.results93,go_sem]) rfl ⟨_,rfl,.inl ⟨by rw [(uh HXY).1,(uh HXY).2],by rw [←(uh HXY).1,←(uh HXY).2];exact hxy1,by rw [←(uh HXY).1,←(uh HXY).2];exact hxy2⟩,below_three w _ _ _⟩
   | false =>
    clear HPt HXY
    go_wp2_with fail
    refine (uh HPa _ _ _).mono ?_
    rintro e w1 ⟨sl1,l1,rfl,hi1,o1,v1,z1,hw1⟩
    have hPb:=hide (parts_any P _ b w1 ((hb.below (below_three w _ _ _)).below hw1))
    have hlen1:=Pl.parts_len o1 v1 z1 hA
    have HO1:=hide (And.intro o1 v1)
    obtain ⟨ad1,cap1,rfl⟩:=ints_shape0 hi1
    have HI1:=hide hi1
    have HW1:=hide hw1
    obtain ⟨k1,k2⟩:=par_cells hw1 (par_two w _ _ _)
    clear hi1 o1 v1 z1 hw1 HPa
    go_wp2_with fail
    refine (uh hPb).mono ?_
    rintro e w2 ⟨sl2,l2,rfl,hi2,o2,v2,z2,hw2⟩
    have hlen2:=Pl.parts_len o2 v2 z2 hB
    have HO2:=hide (And.intro o2 v2)
    obtain ⟨ad2',cap2',rfl⟩:=ints_shape0 hi2
    have HL1:=hide ((uh HI1).below hw2)
    have HL2:=hide hi2
    have HW2:Hid (Past w (.cells #[.int .i64 x,.slice ad m cap] 82) (.cells #[.int .i64 y,.slice ad2 m2 cap2] 82) (.cells #[.int .i64 0,.slice none 0 0] 82) w2):=Past.step (w1:=w1) (uh HW1) hw2
    obtain ⟨k3,k4⟩:=par_cells (uh HW2) (par_one w _ _ _)
    obtain ⟨k5,k6⟩:=par_cells (uh HW2) (par_two w _ _ _)
    clear k1 k2
    clear hi2 o2 v2 z2 hw2 HI1 HW1 hPb
    go_wp2_with fail
    go_region_held (fun w'=>w'.cell? ⟨w.heap.size,0,none⟩=some (.int .i64 x)∧w'.cell? ⟨w.heap.size,1,none⟩=some (.slice ad m cap)∧w'.cell? ⟨w.heap.size+1,0,none⟩=some (.int .i64 y)∧w'.cell? ⟨w.heap.size+1,1,none⟩=some (.slice ad2 m2 cap2)) (first | exact Past.held_store (uh HW6) _ _ | exact Past.held (uh HW6) | exact Past.held (uh HW5) | exact Past.held (uh HW4) | exact Past.held (uh HW3) | exact Past.held (Past.drew (uh HW2)) | go_keep) (first
     | (go_at_call_of 81 (Value.agg #[Value.int .i64 x,Value.slice ad m cap]);refine (uh HSa _ (Past.below (Past.drew (uh HW2)))).mono ?_;rintro e w3 ⟨rfl,hw3⟩;have HW3:Hid (Past w (.cells #[.int .i64 x,.slice ad m cap] 82) (.cells #[.int .i64 y,.slice ad2 m2 cap2] 82) (.cells #[.int .i64 0,.slice none 0 0] 82) w3):=Past.step (Past.drew (uh HW2)) hw3;have HB3:Hid (Below w2.heap.size w2 w3):=Below.trans (Below.drew (Below.refl _ _)) hw3;clear hw3)
     | (go_at_call_of 81 (Value.agg #[Value.int .i64 y,Value.slice ad2 m2 cap2]);refine (uh HSb _ (Past.below (uh HW3))).mono ?_;rintro e w4 ⟨rfl,hw4⟩;have HW4:Hid (Past w (.cells #[.int .i64 x,.slice ad m cap] 82) (.cells #[.int .i64 y,.slice ad2 m2 cap2] 82) (.cells #[.int .i64 0,.slice none 0 0] 82) w4):=Past.step (uh HW3) hw4;have HB4:Hid (Below w2.heap.size w2 w4):=(uh HB3).trans (Below.mono hw4 (uh HB3).size);clear hw4)
     | (go_at_call 131;refine (mulLimbs_any l1 l2 _ _ _ ((uh HL1).below (uh HB4)) ((uh HL2).below (uh HB4)) (by omega) (by omega) (uh HO1).1 (uh HO2).1).mono ?_;rintro e w5 ⟨v3,s,rfl,ho3,os,ls,hs,hw5⟩;have HW5:Hid (Past w (.cells #[.int .i64 x,.slice ad m cap] 82) (.cells #[.int .i64 y,.slice ad2 m2 cap2] 82) (.cells #[.int .i64 0,.slice none 0 0] 82) w5):=Past.step (uh HW4) hw5;have HM:=hide (And.intro ho3 (And.intro os (And.intro ls hs)));obtain ⟨ad3,cap3,rfl⟩:=ints_shape0 (ints_own ho3);clear ho3 os ls hs hw5)
     | (go_at_call 125;(try rw [hws]);refine (made_any P sab s _ w4.heap.size _ (uh HM).1 (fun b hb=>hP b (by have:=(Past.below (uh HW4)).size;omega)) (uh HM).2.1 (by have:=(uh HM).2.2.1;omega) (uh HQ _ (by rw [(uh HM).2.2.2,(uh HO1).2,(uh HO2).2]))).mono ?_;rintro e w6 ⟨v',rfl,hv,hw6⟩;rw [show sab*Pl.lv s=a*b by rw [(uh HM).2.2.2,(uh HO1).2,(uh HO2).2];exact uh HV] at hv;have HW6:Hid (Past w (.cells #[.int .i64 x,.slice ad m cap] 82) (.cells #[.int .i64 y,.slice ad2 m2 cap2] 82) (.cells #[.int .i64 0,.slice none 0 0] 82) w6):=Past.step (uh HW5) hw6;obtain ⟨x4,ad4,m4,cap4,rfl,c0,c1,f0,f1,HF⟩:=result_slot (below_three w (.cells #[.int .i64 x,.slice ad m cap] 82) (.cells #[.int .i64 y,.slice ad2 m2 cap2] 82) (.cells #[.int .i64 0,.slice none 0 0] 82)) (Past.step (uh HW5) hw6) (slot_three w _ _ _) (by omega) hv;clear hv hw6))
    all_goals
     go_wp2
     exact bodyPost_ret (v:=.agg #[.int .i64 x4,.slice ad4 m4 cap4]) (by simp [results,Try.results93,go_sem,(uh HF).2.2.1,(uh HF).2.2.2]) rfl ⟨_,rfl,(uh HF).1,(uh HF).2.1⟩
  ·have hm1:((m:Int) == 0)=true:=by simp [hm]
   have hm2:((m2:Int) == 0)=false:=by simp;omega
   clear hm hm0 hx5 hy5
   go_enter Try.func93,Try.ntmps93
   go_wp2_with fail
   refine (uh HPa _ _ _).mono ?_
   rintro e w1 ⟨sl1,l1,rfl,hi1,o1,v1,z1,hw1⟩
   have hPb:=hide (parts_any P _ b w1 ((hb.below (below_three w _ _ _)).below hw1))
   have hlen1:=Pl.parts_len o1 v1 z1 hA
   have HO1:=hide (And.intro o1 v1)
   obtain ⟨ad1,cap1,rfl⟩:=ints_shape0 hi1
   have HI1:=hide hi1
   have HW1:=hide hw1
   obtain ⟨k1,k2⟩:=par_cells hw1 (par_two w _ _ _)
   clear hi1 o1 v1 z1 hw1 HPa
   go_wp2_with fail
   refine (uh hPb).mono ?_
   rintro e w2 ⟨sl2,l2,rfl,hi2,o2,v2,z2,hw2⟩
   have hlen2:=Pl.parts_len o2 v2 z2 hB
   have HO2:=hide (And.intro o2 v2)
   obtain ⟨ad2',cap2',rfl⟩:=ints_shape0 hi2
   have HL1:=hide ((uh HI1).below hw2)
   have HL2:=hide hi2
   have HW2:Hid (Past w (.cells #[.int .i64 x,.slice ad m cap] 82) (.cells #[.int .i64 y,.slice ad2 m2 cap2] 82) (.cells #[.int .i64 0,.slice none 0 0] 82) w2):=Past.step (w1:=w1) (uh HW1) hw2
   obtain ⟨k3,k4⟩:=par_cells (uh HW2) (par_one w _ _ _)
   obtain ⟨k5,k6⟩:=par_cells (uh HW2) (par_two w _ _ _)
   clear k1 k2
   clear hi2 o2 v2 z2 hw2 HI1 HW1 hPb
   go_wp2_with fail
   go_region_held (fun w'=>w'.cell? ⟨w.heap.size,0,none⟩=some (.int .i64 x)∧w'.cell? ⟨w.heap.size,1,none⟩=some (.slice ad m cap)∧w'.cell? ⟨w.heap.size+1,0,none⟩=some (.int .i64 y)∧w'.cell? ⟨w.heap.size+1,1,none⟩=some (.slice ad2 m2 cap2)) (first | exact Past.held_store (uh HW6) _ _ | exact Past.held (uh HW6) | exact Past.held (uh HW5) | exact Past.held (uh HW4) | exact Past.held (uh HW3) | exact Past.held (Past.drew (uh HW2)) | go_keep) (first
    | (go_at_call_of 81 (Value.agg #[Value.int .i64 x,Value.slice ad m cap]);refine (uh HSa _ (Past.below (Past.drew (uh HW2)))).mono ?_;rintro e w3 ⟨rfl,hw3⟩;have HW3:Hid (Past w (.cells #[.int .i64 x,.slice ad m cap] 82) (.cells #[.int .i64 y,.slice ad2 m2 cap2] 82) (.cells #[.int .i64 0,.slice none 0 0] 82) w3):=Past.step (Past.drew (uh HW2)) hw3;have HB3:Hid (Below w2.heap.size w2 w3):=Below.trans (Below.drew (Below.refl _ _)) hw3;clear hw3)
    | (go_at_call_of 81 (Value.agg #[Value.int .i64 y,Value.slice ad2 m2 cap2]);refine (uh HSb _ (Past.below (uh HW3))).mono ?_;rintro e w4 ⟨rfl,hw4⟩;have HW4:Hid (Past w (.cells #[.int .i64 x,.slice ad m cap] 82) (.cells #[.int .i64 y,.slice ad2 m2 cap2] 82) (.cells #[.int .i64 0,.slice none 0 0] 82) w4):=Past.step (uh HW3) hw4;have HB4:Hid (Below w2.heap.size w2 w4):=(uh HB3).trans (Below.mono hw4 (uh HB3).size);clear hw4)
    | (go_at_call 131;refine (mulLimbs_any l1 l2 _ _ _ ((uh HL1).below (uh HB4)) ((uh HL2).below (uh HB4)) (by omega) (by omega) (uh HO1).1 (uh HO2).1).mono ?_;rintro e w5 ⟨v3,s,rfl,ho3,os,ls,hs,hw5⟩;have HW5:Hid (Past w (.cells #[.int .i64 x,.slice ad m cap] 82) (.cells #[.int .i64 y,.slice ad2 m2 cap2] 82) (.cells #[.int .i64 0,.slice none 0 0] 82) w5):=Past.step (uh HW4) hw5;have HM:=hide (And.intro ho3 (And.intro os (And.intro ls hs)));obtain ⟨ad3,cap3,rfl⟩:=ints_shape0 (ints_own ho3);clear ho3 os ls hs hw5)
    | (go_at_call 125;(try rw [hws]);refine (made_any P sab s _ w4.heap.size _ (uh HM).1 (fun b hb=>hP b (by have:=(Past.below (uh HW4)).size;omega)) (uh HM).2.1 (by have:=(uh HM).2.2.1;omega) (uh HQ _ (by rw [(uh HM).2.2.2,(uh HO1).2,(uh HO2).2]))).mono ?_;rintro e w6 ⟨v',rfl,hv,hw6⟩;rw [show sab*Pl.lv s=a*b by rw [(uh HM).2.2.2,(uh HO1).2,(uh HO2).2];exact uh HV] at hv;have HW6:Hid (Past w (.cells #[.int .i64 x,.slice ad m cap] 82) (.cells #[.int .i64 y,.slice ad2 m2 cap2] 82) (.cells #[.int .i64 0,.slice none 0 0] 82) w6):=Past.step (uh HW5) hw6;obtain ⟨x4,ad4,m4,cap4,rfl,c0,c1,f0,f1,HF⟩:=result_slot (below_three w (.cells #[.int .i64 x,.slice ad m cap] 82) (.cells #[.int .i64 y,.slice ad2 m2 cap2] 82) (.cells #[.int .i64 0,.slice none 0 0] 82)) (Past.step (uh HW5) hw6) (slot_three w _ _ _) (by omega) hv;clear hv hw6))
   all_goals
    go_wp2
    exact bodyPost_ret (v:=.agg #[.int .i64 x4,.slice ad4 m4 cap4]) (by simp [results,Try.results93,go_sem,(uh HF).2.2.1,(uh HF).2.2.2]) rfl ⟨_,rfl,(uh HF).1,(uh HF).2.1⟩
 ·have hm1:((m:Int) == 0)=false:=by simp;omega
  clear hm hx5 hy5
  go_enter Try.func93,Try.ntmps93
  go_wp2_with fail
  refine (uh HPa _ _ _).mono ?_
  rintro e w1 ⟨sl1,l1,rfl,hi1,o1,v1,z1,hw1⟩
  have hPb:=hide (parts_any P _ b w1 ((hb.below (below_three w _ _ _)).below hw1))
  have hlen1:=Pl.parts_len o1 v1 z1 hA
  have HO1:=hide (And.intro o1 v1)
  obtain ⟨ad1,cap1,rfl⟩:=ints_shape0 hi1
  have HI1:=hide hi1
  have HW1:=hide hw1
  obtain ⟨k1,k2⟩:=par_cells hw1 (par_two w _ _ _)
  clear hi1 o1 v1 z1 hw1 HPa
  go_wp2_with fail
  refine (uh hPb).mono ?_
  rintro e w2 ⟨sl2,l2,rfl,hi2,o2,v2,z2,hw2⟩
  have hlen2:=Pl.parts_len o2 v2 z2 hB
  have HO2:=hide (And.intro o2 v2)
  obtain ⟨ad2',cap2',rfl⟩:=ints_shape0 hi2
  have HL1:=hide ((uh HI1).below hw2)
  have HL2:=hide hi2
  have HW2:Hid (Past w (.cells #[.int .i64 x,.slice ad m cap] 82) (.cells #[.int .i64 y,.slice ad2 m2 cap2] 82) (.cells #[.int .i64 0,.slice none 0 0] 82) w2):=Past.step (w1:=w1) (uh HW1) hw2
  obtain ⟨k3,k4⟩:=par_cells (uh HW2) (par_one w _ _ _)
  obtain ⟨k5,k6⟩:=par_cells (uh HW2) (par_two w _ _ _)
  clear k1 k2
  clear hi2 o2 v2 z2 hw2 HI1 HW1 hPb
  go_wp2_with fail
  go_region_held (fun w'=>w'.cell? ⟨w.heap.size,0,none⟩=some (.int .i64 x)∧w'.cell? ⟨w.heap.size,1,none⟩=some (.slice ad m cap)∧w'.cell? ⟨w.heap.size+1,0,none⟩=some (.int .i64 y)∧w'.cell? ⟨w.heap.size+1,1,none⟩=some (.slice ad2 m2 cap2)) (first | exact Past.held_store (uh HW6) _ _ | exact Past.held (uh HW6) | exact Past.held (uh HW5) | exact Past.held (uh HW4) | exact Past.held (uh HW3) | exact Past.held (Past.drew (uh HW2)) | go_keep) (first
   | (go_at_call_of 81 (Value.agg #[Value.int .i64 x,Value.slice ad m cap]);refine (uh HSa _ (Past.below (Past.drew (uh HW2)))).mono ?_;rintro e w3 ⟨rfl,hw3⟩;have HW3:Hid (Past w (.cells #[.int .i64 x,.slice ad m cap] 82) (.cells #[.int .i64 y,.slice ad2 m2 cap2] 82) (.cells #[.int .i64 0,.slice none 0 0] 82) w3):=Past.step (Past.drew (uh HW2)) hw3;have HB3:Hid (Below w2.heap.size w2 w3):=Below.trans (Below.drew (Below.refl _ _)) hw3;clear hw3)
   | (go_at_call_of 81 (Value.agg #[Value.int .i64 y,Value.slice ad2 m2 cap2]);refine (uh HSb _ (Past.below (uh HW3))).mono ?_;rintro e w4 ⟨rfl,hw4⟩;have HW4:Hid (Past w (.cells #[.int .i64 x,.slice ad m cap] 82) (.cells #[.int .i64 y,.slice ad2 m2 cap2] 82) (.cells #[.int .i64 0,.slice none 0 0] 82) w4):=Past.step (uh HW3) hw4;have HB4:Hid (Below w2.heap.size w2 w4):=(uh HB3).trans (Below.mono hw4 (uh HB3).size);clear hw4)
   | (go_at_call 131;refine (mulLimbs_any l1 l2 _ _ _ ((uh HL1).below (uh HB4)) ((uh HL2).below (uh HB4)) (by omega) (by omega) (uh HO1).1 (uh HO2).1).mono ?_;rintro e w5 ⟨v3,s,rfl,ho3,os,ls,hs,hw5⟩;have HW5:Hid (Past w (.cells #[.int .i64 x,.slice ad m cap] 82) (.cells #[.int .i64 y,.slice ad2 m2 cap2] 82) (.cells #[.int .i64 0,.slice none 0 0] 82) w5):=Past.step (uh HW4) hw5;have HM:=hide (And.intro ho3 (And.intro os (And.intro ls hs)));obtain ⟨ad3,cap3,rfl⟩:=ints_shape0 (ints_own ho3);clear ho3 os ls hs hw5)
   | (go_at_call 125;(try rw [hws]);refine (made_any P sab s _ w4.heap.size _ (uh HM).1 (fun b hb=>hP b (by have:=(Past.below (uh HW4)).size;omega)) (uh HM).2.1 (by have:=(uh HM).2.2.1;omega) (uh HQ _ (by rw [(uh HM).2.2.2,(uh HO1).2,(uh HO2).2]))).mono ?_;rintro e w6 ⟨v',rfl,hv,hw6⟩;rw [show sab*Pl.lv s=a*b by rw [(uh HM).2.2.2,(uh HO1).2,(uh HO2).2];exact uh HV] at hv;have HW6:Hid (Past w (.cells #[.int .i64 x,.slice ad m cap] 82) (.cells #[.int .i64 y,.slice ad2 m2 cap2] 82) (.cells #[.int .i64 0,.slice none 0 0] 82) w6):=Past.step (uh HW5) hw6;obtain ⟨x4,ad4,m4,cap4,rfl,c0,c1,f0,f1,HF⟩:=result_slot (below_three w (.cells #[.int .i64 x,.slice ad m cap] 82) (.cells #[.int .i64 y,.slice ad2 m2 cap2] 82) (.cells #[.int .i64 0,.slice none 0 0] 82)) (Past.step (uh HW5) hw6) (slot_three w _ _ _) (by omega) hv;clear hv hw6))
  all_goals
   go_wp2
   exact bodyPost_ret (v:=.agg #[.int .i64 x4,.slice ad4 m4 cap4]) (by simp [results,Try.results93,go_sem,(uh HF).2.2.1,(uh HF).2.2.2]) rfl ⟨_,rfl,(uh HF).1,(uh HF).2.1⟩
end Go.Proofs.Ytfaljekgpnbmiaa
