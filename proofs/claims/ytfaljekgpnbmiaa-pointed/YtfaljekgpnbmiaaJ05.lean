/- Joined: XInt5. -/
import Derived.Test.YtfaljekgpnbmiaaJ04
set_option linter.unusedVariables false
set_option linter.unusedSimpArgs false
set_option maxRecDepth 100000
namespace Go.Proofs.Ytfaljekgpnbmiaa
open Go.RowKit
theorem WhAt.head2 {P:Nat→Prop} {w:World} {v:Value} {n:Int} (h:WhAt P w v n):∃ x ad m cap,v=.agg #[.int .i64 x,.slice ad m cap]∧(x<0↔n<0)∧(0<x↔0<n)∧-4611686018427387904<x∧x<4611686018427387904∧(m=0→x=n∧ad=none∧cap=0):=by
 rcases h with ⟨rfl,h1,h2⟩|⟨l,b,off,cap,cs,sg,rfl,hP,hb,hc,h3,h4,h5,h6,h7,h8⟩
 ·exact ⟨n,none,0,0,rfl,Iff.rfl,Iff.rfl,h1,h2,fun _=>⟨rfl,rfl,rfl⟩⟩
 ·refine ⟨sg,_,_,cap,rfl,?_,?_,by omega,by omega,fun h=>by omega⟩
  ·rcases h6 with rfl | rfl <;> omega
  ·rcases h6 with rfl | rfl <;> omega
theorem result_slot {P:Nat→Prop} {w W0 w1:World} {g:Nat} {v':Value} {n:Int} (hbW:Below w.heap.size w W0) (h1:Below W0.heap.size W0 w1) (hslot:W0.heap[g]?=some (.cells #[.int .i64 0,.slice none 0 0] 82 (0,0))) (hg:w.heap.size≤g) (hv:WhAt P w1 v' n) :
  ∃ x ad m cap,v'=.agg #[.int .i64 x,.slice ad m cap]∧w1.cell? ⟨g,0,none⟩=some (.int .i64 0)∧w1.cell? ⟨g,1,none⟩=some (.slice none 0 0)∧w1.frozen? ⟨g,0,none⟩=false∧w1.frozen? ⟨g,1,none⟩=false∧Hid (WhAt P ((w1.setCell ⟨g,0,none⟩ (.int .i64 x)).setCell ⟨g,1,none⟩ (.slice ad m cap)) (.agg #[.int .i64 x,.slice ad m cap]) n∧Below w.heap.size w ((w1.setCell ⟨g,0,none⟩ (.int .i64 x)).setCell ⟨g,1,none⟩ (.slice ad m cap))∧((w1.setCell ⟨g,0,none⟩ (.int .i64 x)).setCell ⟨g,1,none⟩ (.slice ad m cap)).cell? ⟨g,0,none⟩=some (.int .i64 x)∧((w1.setCell ⟨g,0,none⟩ (.int .i64 x)).setCell ⟨g,1,none⟩ (.slice ad m cap)).cell? ⟨g,1,none⟩=some (.slice ad m cap)):=by
 obtain ⟨x,ad,m,cap,rfl,_⟩:=hv.head
 have hblk:w1.heap[g]?=some (.cells #[.int .i64 0,.slice none 0 0] 82 (0,0)):=by
  rw [h1.block _ (lt_of_block hslot)];exact hslot
 obtain ⟨c0,c1,f0,f1⟩:=slot_of hblk
 obtain ⟨s0,s1⟩:=slot_set hblk (.int .i64 x) (.slice ad m cap)
 exact ⟨x,ad,m,cap,rfl,c0,c1,f0,f1,hv.keep (keep_slot hblk _ _),((hbW.trans (h1.mono hbW.size)).setCell (p:=⟨g,0,none⟩) hg _).setCell (p:=⟨g,1,none⟩) hg _,s0,s1⟩
theorem slot_three (w:World) (o1 o2 o3:Obj):(((w.alloc o1).alloc o2).alloc o3).heap[w.heap.size+1+1]?=some o3:=by
 have:=slot_one ((w.alloc o1).alloc o2) o3
 rwa [World.size_alloc,World.size_alloc] at this
theorem par_one (w:World) (o1 o2 o3:Obj):(((w.alloc o1).alloc o2).alloc o3).heap[w.heap.size]?=some o1:=by
 rw [Below.heap_alloc _ _ _ (by simp;omega),Below.heap_alloc _ _ _ (by simp)];exact slot_one _ _
theorem par_two (w:World) (o1 o2 o3:Obj):(((w.alloc o1).alloc o2).alloc o3).heap[w.heap.size+1]?=some o2:=by
 rw [Below.heap_alloc _ _ _ (by simp)];exact slot_two _ _ _
theorem par_cells {W0 w1:World} {g:Nat} {u v:Value} (h:Below W0.heap.size W0 w1) (hg:W0.heap[g]?=some (.cells #[u,v] 82 (0,0))):w1.cell? ⟨g,0,none⟩=some u∧w1.cell? ⟨g,1,none⟩=some v:=by
 have h1:w1.heap[g]?=some (.cells #[u,v] 82 (0,0)):=by rw [h.block _ (lt_of_block hg)];exact hg
 exact ⟨by rw [cellsOf h1];rfl,by rw [cellsOf h1];rfl⟩
theorem below_three (w:World) (o1 o2 o3:Obj):Below w.heap.size w (((w.alloc o1).alloc o2).alloc o3) :=
 (((Below.refl _ w).alloc (Nat.le_refl _) o1).alloc (by simp) o2).alloc (by simp;omega) o3
set_option maxHeartbeats 2000000 in
theorem Add_small (P:Nat→Prop) (a b:Int) (w:World) (hP:∀ b,w.heap.size≤b→P b) (ha:-4611686018427387904<a∧a<4611686018427387904) (hb:-4611686018427387904<b∧b<4611686018427387904) :
  Calls Try.prog 90 #[.agg #[.int .i64 a,.slice none 0 0],.agg #[.int .i64 b,.slice none 0 0]] w fun e w'=>∃ v',e=.returned v'∧WhAt P w' v' (a+b)∧Below w.heap.size w w':=by
 have HO:=hide (fun o1 o2 o3=>Of_any P (a+b) (((w.alloc o1).alloc o2).alloc o3) (fun b hb=>hP b (by simp at hb;omega)) (by omega) (by omega))
 obtain ⟨a1,a2⟩:=ha
 obtain ⟨b1,b2⟩:=hb
 go_enter Try.func90,Try.ntmps90
 go_wp2_with fail
 refine (uh HO _ _ _).mono ?_
 rintro e w1 ⟨v',rfl,hv,hw1⟩
 obtain ⟨x,ad,m,cap,rfl,c0,c1,f0,f1,HF⟩:=result_slot (below_three w _ _ _) hw1 (slot_three w _ _ _) (by omega) hv
 clear hv hw1 HO
 go_wp2
 exact bodyPost_ret (v:=.agg #[.int .i64 x,.slice ad m cap]) (by simp [results,Try.results90,go_sem,(uh HF).2.2.1,(uh HF).2.2.2]) rfl ⟨_,rfl,(uh HF).1,(uh HF).2.1⟩
theorem Pl.parts_len {l:List Int} {n:Int} {K:Nat} (o:Pl.LimbsOk l) (h:Pl.lv l=n.natAbs) (hl:0<l.length→Pl.dig l (l.length - 1)≠0) (hK:(n.natAbs:Int)<1073741824^K):l.length≤K:=by
 rcases Nat.eq_zero_or_pos l.length with h0|h0
 ·omega
 ·exact Pl.len_bound o h0 (hl h0) (by omega)
-- ADD_BIG
set_option maxHeartbeats 16000000 in
theorem Add_big (P:Nat→Prop) (K:Nat) (a b:Int) (va vb:Value) (w:World) (hP:∀ b,w.heap.size≤b→P b) (ha:WhAt P w va a) (hb:WhAt P w vb b) (hK:K≤1500000000000) (hA:(a.natAbs:Int)<1073741824^K) (hB:(b.natAbs:Int)<1073741824^K) (hbig:¬ ((-4611686018427387904<a∧a<4611686018427387904)∧(-4611686018427387904<b∧b<4611686018427387904))) :
  Calls Try.prog 90 #[va,vb] w fun e w'=>∃ v',e=.returned v'∧WhAt P w' v' (a+b)∧Below w.heap.size w w':=by
 have HPa:=hide (fun o1 o2 o3=>parts_any P va a (((w.alloc o1).alloc o2).alloc o3) (ha.below (below_three w o1 o2 o3)))
 obtain ⟨x,ad,m,cap,rfl,hx1,hx2,hx3,hx4,hx5⟩:=ha.head2
 obtain ⟨y,ad2,m2,cap2,rfl,hy1,hy2,hy3,hy4,hy5⟩:=hb.head2
 have hmm:¬ (m=0∧m2=0):=by
  rintro ⟨h1,h2⟩
  have:=(hx5 h1).1
  have:=(hy5 h2).1
  omega
 by_cases hm:m=0
 ·have hm1:((m:Int) == 0)=true:=by simp [hm]
  have hm2:((m2:Int) == 0)=false:=by simp;omega
  clear hm hmm hx5 hy5 hbig
  go_enter Try.func90,Try.ntmps90
  go_wp2_with fail
  refine (uh HPa _ _ _).mono ?_
  rintro e w1 ⟨sl1,l1,rfl,hi1,o1,v1,z1,hw1⟩
  have hPb:=hide (parts_any P _ b w1 ((hb.below (below_three w _ _ _)).below hw1))
  have hlen1:=Pl.parts_len o1 v1 z1 hA
  have HO1:=hide (And.intro o1 v1)
  obtain ⟨ad1,cap1,rfl⟩:=ints_shape0 hi1
  have HI1:=hide hi1
  have HW1:=hide hw1
  obtain ⟨k1,k2⟩:=par_cells hw1 (par_two w _ _ _)
  clear hi1 o1 v1 z1 hw1 HPa
  go_wp2_with fail
  refine (uh hPb).mono ?_
  rintro e w2 ⟨sl2,l2,rfl,hi2,o2,v2,z2,hw2⟩
  have hlen2:=Pl.parts_len o2 v2 z2 hB
  have HO2:=hide (And.intro o2 v2)
  obtain ⟨ad2',cap2',rfl⟩:=ints_shape0 hi2
  have HL1:=hide ((uh HI1).below hw2)
  have HL2:=hide hi2
  have HW2:=hide ((uh HW1).trans (hw2.mono (uh HW1).size))
  have HP2:Hid (∀ b,w2.heap.size≤b→P b):=fun b hb=>hP b (by have:=(uh HW2).size;have:=(below_three w (.cells #[.int .i64 x,.slice ad m cap] 82) (.cells #[.int .i64 y,.slice ad2 m2 cap2] 82) (.cells #[.int .i64 0,.slice none 0 0] 82)).size;omega)
  obtain ⟨k3,k4⟩:=par_cells (uh HW2) (par_one w _ _ _)
  obtain ⟨k5,k6⟩:=par_cells (uh HW2) (par_two w _ _ _)
  clear k1 k2
  clear hi2 o2 v2 z2 hw2 HI1 HW1 hPb
  by_cases hx:x<0
  ·have ha0:=hx1.1 hx
   by_cases hy:y<0
   ·have hb0:=hy1.1 hy
    go_wp2_with fail
    refine (addLimbs_any l1 l2 _ _ w2 (uh HL1) (uh HL2) (by omega) (by omega) (uh HO1).1 (uh HO2).1).mono ?_
    rintro e w3 ⟨v3,s,rfl,ho3,os,ls,hs,hw3⟩
    have hM:=hide (made_any P (-1) s v3 w2.heap.size w3 ho3 (fun b hb=>(uh HP2) b hb) os (by omega) (.inl (.inr rfl)))
    have hw13:=hide ((uh HW2).trans (hw3.mono (uh HW2).size))
    have HS:=hide hs
    obtain ⟨ad3,cap3,rfl⟩:=ints_shape0 (ints_own ho3)
    clear ho3 os ls hs hw3
    go_wp2_with fail
    refine (uh hM).mono ?_
    rintro e w9 ⟨v',rfl,hv,hw9⟩
    rw [show -1*Pl.lv s=a+b by rw [uh HS,(uh HO1).2,(uh HO2).2];omega] at hv
    obtain ⟨x4,ad4,m4,cap4,rfl,c0,c1,f0,f1,HF⟩:=result_slot (below_three w _ _ _) ((uh hw13).trans (hw9.mono (uh hw13).size)) (slot_three w _ _ _) (by omega) hv
    clear hv hw9 hM hw13
    go_wp2
    exact bodyPost_ret (v:=.agg #[.int .i64 x4,.slice ad4 m4 cap4]) (by simp [results,Try.results90,go_sem,(uh HF).2.2.1,(uh HF).2.2.2]) rfl ⟨_,rfl,(uh HF).1,(uh HF).2.1⟩
   ·have hb0:¬ b<0:=fun h=>hy (hy1.2 h)
    have hl1v:=(uh HO1).2
    have hl2v:=(uh HO2).2
    go_wp2_with fail
    refine (isLess_any l1 l2 _ _ w2 (uh HL1) (uh HL2) (by omega) (by omega) (uh HO1).1 (uh HO2).1).mono ?_
    rintro e w3 ⟨rfl,hw3⟩
    rw [hw3]
    clear hw3 w3
    by_cases hless:Pl.lv l1<Pl.lv l2
    ·rw [decide_eq_true hless]
     have hsgn:Int.sign b=1:=Int.sign_eq_one_of_pos (by omega)
     have hS:=hide (Sign_any P _ b w2 ((hb.below (below_three w _ _ _)).below (uh HW2)))
     rw [hsgn] at hS
     clear hsgn
     go_wp2_with fail
     refine (uh hS).mono ?_
     rintro e w3 ⟨rfl,hw3⟩
     have HW3:=hide ((uh HW2).trans (hw3.mono (uh HW2).size))
     have HL1:=hide ((uh HL1).below hw3)
     have HL2:=hide ((uh HL2).below hw3)
     have HP3:Hid (∀ b,w3.heap.size≤b→P b):=fun b hb=>uh HP2 b (by have:=hw3.size;omega)
     clear hw3 hS
     go_wp2_with fail
     refine (subLimbs_any l2 l1 _ _ w3 (uh HL2) (uh HL1) (by omega) (by omega) (uh HO2).1 (uh HO1).1 (by omega)).mono ?_
     rintro e w4 ⟨v3,s,rfl,ho3,os,ls,hs,hw3⟩
     have hM:=hide (made_any P (1) s v3 w3.heap.size w4 ho3 (fun b hb=>(uh HP3) b hb) os (by omega) (.inl (.inl rfl)))
     have hw13:=hide ((uh HW3).trans (hw3.mono (uh HW3).size))
     have HS:=hide hs
     obtain ⟨ad3,cap3,rfl⟩:=ints_shape0 (ints_own ho3)
     clear ho3 os ls hs hw3
     go_wp2_with fail
     refine (uh hM).mono ?_
     rintro e w9 ⟨v',rfl,hv,hw9⟩
     rw [show 1*Pl.lv s=a+b by rw [uh HS,(uh HO1).2,(uh HO2).2];omega] at hv
     obtain ⟨x4,ad4,m4,cap4,rfl,c0,c1,f0,f1,HF⟩:=result_slot (below_three w _ _ _) ((uh hw13).trans (hw9.mono (uh hw13).size)) (slot_three w _ _ _) (by omega) hv
     clear hv hw9 hM hw13
     go_wp2
     exact bodyPost_ret (v:=.agg #[.int .i64 x4,.slice ad4 m4 cap4]) (by simp [results,Try.results90,go_sem,(uh HF).2.2.1,(uh HF).2.2.2]) rfl ⟨_,rfl,(uh HF).1,(uh HF).2.1⟩
    ·rw [decide_eq_false hless]
     have hsgn:Int.sign a=-1:=Int.sign_eq_neg_one_of_neg (by omega)
     have hS:=hide (Sign_any P _ a w2 ((ha.below (below_three w _ _ _)).below (uh HW2)))
     rw [hsgn] at hS
     clear hsgn
     go_wp2_with fail
     refine (uh hS).mono ?_
     rintro e w3 ⟨rfl,hw3⟩
     have HW3:=hide ((uh HW2).trans (hw3.mono (uh HW2).size))
     have HL1:=hide ((uh HL1).below hw3)
     have HL2:=hide ((uh HL2).below hw3)
     have HP3:Hid (∀ b,w3.heap.size≤b→P b):=fun b hb=>uh HP2 b (by have:=hw3.size;omega)
     clear hw3 hS
     go_wp2_with fail
     refine (subLimbs_any l1 l2 _ _ w3 (uh HL1) (uh HL2) (by omega) (by omega) (uh HO1).1 (uh HO2).1 (by omega)).mono ?_
     rintro e w4 ⟨v3,s,rfl,ho3,os,ls,hs,hw3⟩
     have hM:=hide (made_any P (-1) s v3 w3.heap.size w4 ho3 (fun b hb=>(uh HP3) b hb) os (by omega) (.inl (.inr rfl)))
     have hw13:=hide ((uh HW3).trans (hw3.mono (uh HW3).size))
     have HS:=hide hs
     obtain ⟨ad3,cap3,rfl⟩:=ints_shape0 (ints_own ho3)
     clear ho3 os ls hs hw3
     go_wp2_with fail
     refine (uh hM).mono ?_
     rintro e w9 ⟨v',rfl,hv,hw9⟩
     rw [show -1*Pl.lv s=a+b by rw [uh HS,(uh HO1).2,(uh HO2).2];omega] at hv
     obtain ⟨x4,ad4,m4,cap4,rfl,c0,c1,f0,f1,HF⟩:=result_slot (below_three w _ _ _) ((uh hw13).trans (hw9.mono (uh hw13).size)) (slot_three w _ _ _) (by omega) hv
     clear hv hw9 hM hw13
     go_wp2
     exact bodyPost_ret (v:=.agg #[.int .i64 x4,.slice ad4 m4 cap4]) (by simp [results,Try.results90,go_sem,(uh HF).2.2.1,(uh HF).2.2.2]) rfl ⟨_,rfl,(uh HF).1,(uh HF).2.1⟩
  ·have ha0:¬ a<0:=fun h=>hx (hx1.2 h)
   by_cases hy:y<0
   ·have hb0:=hy1.1 hy
    have hl1v:=(uh HO1).2
    have hl2v:=(uh HO2).2
    go_wp2_with fail
    refine (isLess_any l1 l2 _ _ w2 (uh HL1) (uh HL2) (by omega) (by omega) (uh HO1).1 (uh HO2).1).mono ?_
    rintro e w3 ⟨rfl,hw3⟩
    rw [hw3]
    clear hw3 w3
    by_cases hless:Pl.lv l1<Pl.lv l2
    ·rw [decide_eq_true hless]
     have hsgn:Int.sign b=-1:=Int.sign_eq_neg_one_of_neg (by omega)
     have hS:=hide (Sign_any P _ b w2 ((hb.below (below_three w _ _ _)).below (uh HW2)))
     rw [hsgn] at hS
     clear hsgn
     go_wp2_with fail
     refine (uh hS).mono ?_
     rintro e w3 ⟨rfl,hw3⟩
     have HW3:=hide ((uh HW2).trans (hw3.mono (uh HW2).size))
     have HL1:=hide ((uh HL1).below hw3)
     have HL2:=hide ((uh HL2).below hw3)
     have HP3:Hid (∀ b,w3.heap.size≤b→P b):=fun b hb=>uh HP2 b (by have:=hw3.size;omega)
     clear hw3 hS
     go_wp2_with fail
     refine (subLimbs_any l2 l1 _ _ w3 (uh HL2) (uh HL1) (by omega) (by omega) (uh HO2).1 (uh HO1).1 (by omega)).mono ?_
     rintro e w4 ⟨v3,s,rfl,ho3,os,ls,hs,hw3⟩
     have hM:=hide (made_any P (-1) s v3 w3.heap.size w4 ho3 (fun b hb=>(uh HP3) b hb) os (by omega) (.inl (.inr rfl)))
     have hw13:=hide ((uh HW3).trans (hw3.mono (uh HW3).size))
     have HS:=hide hs
     obtain ⟨ad3,cap3,rfl⟩:=ints_shape0 (ints_own ho3)
     clear ho3 os ls hs hw3
     go_wp2_with fail
     refine (uh hM).mono ?_
     rintro e w9 ⟨v',rfl,hv,hw9⟩
     rw [show -1*Pl.lv s=a+b by rw [uh HS,(uh HO1).2,(uh HO2).2];omega] at hv
     obtain ⟨x4,ad4,m4,cap4,rfl,c0,c1,f0,f1,HF⟩:=result_slot (below_three w _ _ _) ((uh hw13).trans (hw9.mono (uh hw13).size)) (slot_three w _ _ _) (by omega) hv
     clear hv hw9 hM hw13
     go_wp2
     exact bodyPost_ret (v:=.agg #[.int .i64 x4,.slice ad4 m4 cap4]) (by simp [results,Try.results90,go_sem,(uh HF).2.2.1,(uh HF).2.2.2]) rfl ⟨_,rfl,(uh HF).1,(uh HF).2.1⟩
    ·rw [decide_eq_false hless]
     have hsgn:Int.sign a=1:=Int.sign_eq_one_of_pos (by omega)
     have hS:=hide (Sign_any P _ a w2 ((ha.below (below_three w _ _ _)).below (uh HW2)))
     rw [hsgn] at hS
     clear hsgn
     go_wp2_with fail
     refine (uh hS).mono ?_
     rintro e w3 ⟨rfl,hw3⟩
     have HW3:=hide ((uh HW2).trans (hw3.mono (uh HW2).size))
     have HL1:=hide ((uh HL1).below hw3)
     have HL2:=hide ((uh HL2).below hw3)
     have HP3:Hid (∀ b,w3.heap.size≤b→P b):=fun b hb=>uh HP2 b (by have:=hw3.size;omega)
     clear hw3 hS
     go_wp2_with fail
     refine (subLimbs_any l1 l2 _ _ w3 (uh HL1) (uh HL2) (by omega) (by omega) (uh HO1).1 (uh HO2).1 (by omega)).mono ?_
     rintro e w4 ⟨v3,s,rfl,ho3,os,ls,hs,hw3⟩
     have hM:=hide (made_any P (1) s v3 w3.heap.size w4 ho3 (fun b hb=>(uh HP3) b hb) os (by omega) (.inl (.inl rfl)))
     have hw13:=hide ((uh HW3).trans (hw3.mono (uh HW3).size))
     have HS:=hide hs
     obtain ⟨ad3,cap3,rfl⟩:=ints_shape0 (ints_own ho3)
     clear ho3 os ls hs hw3
     go_wp2_with fail
     refine (uh hM).mono ?_
     rintro e w9 ⟨v',rfl,hv,hw9⟩
     rw [show 1*Pl.lv s=a+b by rw [uh HS,(uh HO1).2,(uh HO2).2];omega] at hv
     obtain ⟨x4,ad4,m4,cap4,rfl,c0,c1,f0,f1,HF⟩:=result_slot (below_three w _ _ _) ((uh hw13).trans (hw9.mono (uh hw13).size)) (slot_three w _ _ _) (by omega) hv
     clear hv hw9 hM hw13
     go_wp2
     exact bodyPost_ret (v:=.agg #[.int .i64 x4,.slice ad4 m4 cap4]) (by simp [results,Try.results90,go_sem,(uh HF).2.2.1,(uh HF).2.2.2]) rfl ⟨_,rfl,(uh HF).1,(uh HF).2.1⟩
   ·have hb0:¬ b<0:=fun h=>hy (hy1.2 h)
    go_wp2_with fail
    refine (addLimbs_any l1 l2 _ _ w2 (uh HL1) (uh HL2) (by omega) (by omega) (uh HO1).1 (uh HO2).1).mono ?_
    rintro e w3 ⟨v3,s,rfl,ho3,os,ls,hs,hw3⟩
    have hM:=hide (made_any P (1) s v3 w2.heap.size w3 ho3 (fun b hb=>(uh HP2) b hb) os (by omega) (.inl (.inl rfl)))
    have hw13:=hide ((uh HW2).trans (hw3.mono (uh HW2).size))
    have HS:=hide hs
    obtain ⟨ad3,cap3,rfl⟩:=ints_shape0 (ints_own ho3)
    clear ho3 os ls hs hw3
    go_wp2_with fail
    refine (uh hM).mono ?_
    rintro e w9 ⟨v',rfl,hv,hw9⟩
    rw [show 1*Pl.lv s=a+b by rw [uh HS,(uh HO1).2,(uh HO2).2];omega] at hv
    obtain ⟨x4,ad4,m4,cap4,rfl,c0,c1,f0,f1,HF⟩:=result_slot (below_three w _ _ _) ((uh hw13).trans (hw9.mono (uh hw13).size)) (slot_three w _ _ _) (by omega) hv
    clear hv hw9 hM hw13
    go_wp2
    exact bodyPost_ret (v:=.agg #[.int .i64 x4,.slice ad4 m4 cap4]) (by simp [results,Try.results90,go_sem,(uh HF).2.2.1,(uh HF).2.2.2]) rfl ⟨_,rfl,(uh HF).1,(uh HF).2.1⟩
 ·have hm1:((m:Int) == 0)=false:=by simp;omega
  clear hm hmm hx5 hy5 hbig
  go_enter Try.func90,Try.ntmps90
  go_wp2_with fail
  refine (uh HPa _ _ _).mono ?_
  rintro e w1 ⟨sl1,l1,rfl,hi1,o1,v1,z1,hw1⟩
  have hPb:=hide (parts_any P _ b w1 ((hb.below (below_three w _ _ _)).below hw1))
  have hlen1:=Pl.parts_len o1 v1 z1 hA
  have HO1:=hide (And.intro o1 v1)
  obtain ⟨ad1,cap1,rfl⟩:=ints_shape0 hi1
  have HI1:=hide hi1
  have HW1:=hide hw1
  obtain ⟨k1,k2⟩:=par_cells hw1 (par_two w _ _ _)
  clear hi1 o1 v1 z1 hw1 HPa
  go_wp2_with fail
  refine (uh hPb).mono ?_
  rintro e w2 ⟨sl2,l2,rfl,hi2,o2,v2,z2,hw2⟩
  have hlen2:=Pl.parts_len o2 v2 z2 hB
  have HO2:=hide (And.intro o2 v2)
  obtain ⟨ad2',cap2',rfl⟩:=ints_shape0 hi2
  have HL1:=hide ((uh HI1).below hw2)
  have HL2:=hide hi2
  have HW2:=hide ((uh HW1).trans (hw2.mono (uh HW1).size))
  have HP2:Hid (∀ b,w2.heap.size≤b→P b):=fun b hb=>hP b (by have:=(uh HW2).size;have:=(below_three w (.cells #[.int .i64 x,.slice ad m cap] 82) (.cells #[.int .i64 y,.slice ad2 m2 cap2] 82) (.cells #[.int .i64 0,.slice none 0 0] 82)).size;omega)
  obtain ⟨k3,k4⟩:=par_cells (uh HW2) (par_one w _ _ _)
  obtain ⟨k5,k6⟩:=par_cells (uh HW2) (par_two w _ _ _)
  clear k1 k2
  clear hi2 o2 v2 z2 hw2 HI1 HW1 hPb
  by_cases hx:x<0
  ·have ha0:=hx1.1 hx
   by_cases hy:y<0
   ·have hb0:=hy1.1 hy
    go_wp2_with fail
    refine (addLimbs_any l1 l2 _ _ w2 (uh HL1) (uh HL2) (by omega) (by omega) (uh HO1).1 (uh HO2).1).mono ?_
    rintro e w3 ⟨v3,s,rfl,ho3,os,ls,hs,hw3⟩
    have hM:=hide (made_any P (-1) s v3 w2.heap.size w3 ho3 (fun b hb=>(uh HP2) b hb) os (by omega) (.inl (.inr rfl)))
    have hw13:=hide ((uh HW2).trans (hw3.mono (uh HW2).size))
    have HS:=hide hs
    obtain ⟨ad3,cap3,rfl⟩:=ints_shape0 (ints_own ho3)
    clear ho3 os ls hs hw3
    go_wp2_with fail
    refine (uh hM).mono ?_
    rintro e w9 ⟨v',rfl,hv,hw9⟩
    rw [show -1*Pl.lv s=a+b by rw [uh HS,(uh HO1).2,(uh HO2).2];omega] at hv
    obtain ⟨x4,ad4,m4,cap4,rfl,c0,c1,f0,f1,HF⟩:=result_slot (below_three w _ _ _) ((uh hw13).trans (hw9.mono (uh hw13).size)) (slot_three w _ _ _) (by omega) hv
    clear hv hw9 hM hw13
    go_wp2
    exact bodyPost_ret (v:=.agg #[.int .i64 x4,.slice ad4 m4 cap4]) (by simp [results,Try.results90,go_sem,(uh HF).2.2.1,(uh HF).2.2.2]) rfl ⟨_,rfl,(uh HF).1,(uh HF).2.1⟩
   ·have hb0:¬ b<0:=fun h=>hy (hy1.2 h)
    have hl1v:=(uh HO1).2
    have hl2v:=(uh HO2).2
    go_wp2_with fail
    refine (isLess_any l1 l2 _ _ w2 (uh HL1) (uh HL2) (by omega) (by omega) (uh HO1).1 (uh HO2).1).mono ?_
    rintro e w3 ⟨rfl,hw3⟩
    rw [hw3]
    clear hw3 w3
    by_cases hless:Pl.lv l1<Pl.lv l2
    ·rw [decide_eq_true hless]
     have hsgn:Int.sign b=1:=Int.sign_eq_one_of_pos (by omega)
     have hS:=hide (Sign_any P _ b w2 ((hb.below (below_three w _ _ _)).below (uh HW2)))
     rw [hsgn] at hS
     clear hsgn
     go_wp2_with fail
     refine (uh hS).mono ?_
     rintro e w3 ⟨rfl,hw3⟩
     have HW3:=hide ((uh HW2).trans (hw3.mono (uh HW2).size))
     have HL1:=hide ((uh HL1).below hw3)
     have HL2:=hide ((uh HL2).below hw3)
     have HP3:Hid (∀ b,w3.heap.size≤b→P b):=fun b hb=>uh HP2 b (by have:=hw3.size;omega)
     clear hw3 hS
     go_wp2_with fail
     refine (subLimbs_any l2 l1 _ _ w3 (uh HL2) (uh HL1) (by omega) (by omega) (uh HO2).1 (uh HO1).1 (by omega)).mono ?_
     rintro e w4 ⟨v3,s,rfl,ho3,os,ls,hs,hw3⟩
     have hM:=hide (made_any P (1) s v3 w3.heap.size w4 ho3 (fun b hb=>(uh HP3) b hb) os (by omega) (.inl (.inl rfl)))
     have hw13:=hide ((uh HW3).trans (hw3.mono (uh HW3).size))
     have HS:=hide hs
     obtain ⟨ad3,cap3,rfl⟩:=ints_shape0 (ints_own ho3)
     clear ho3 os ls hs hw3
     go_wp2_with fail
     refine (uh hM).mono ?_
     rintro e w9 ⟨v',rfl,hv,hw9⟩
     rw [show 1*Pl.lv s=a+b by rw [uh HS,(uh HO1).2,(uh HO2).2];omega] at hv
     obtain ⟨x4,ad4,m4,cap4,rfl,c0,c1,f0,f1,HF⟩:=result_slot (below_three w _ _ _) ((uh hw13).trans (hw9.mono (uh hw13).size)) (slot_three w _ _ _) (by omega) hv
     clear hv hw9 hM hw13
     go_wp2
     exact bodyPost_ret (v:=.agg #[.int .i64 x4,.slice ad4 m4 cap4]) (by simp [results,Try.results90,go_sem,(uh HF).2.2.1,(uh HF).2.2.2]) rfl ⟨_,rfl,(uh HF).1,(uh HF).2.1⟩
    ·rw [decide_eq_false hless]
     have hsgn:Int.sign a=-1:=Int.sign_eq_neg_one_of_neg (by omega)
     have hS:=hide (Sign_any P _ a w2 ((ha.below (below_three w _ _ _)).below (uh HW2)))
     rw [hsgn] at hS
     clear hsgn
     go_wp2_with fail
     refine (uh hS).mono ?_
     rintro e w3 ⟨rfl,hw3⟩
     have HW3:=hide ((uh HW2).trans (hw3.mono (uh HW2).size))
     have HL1:=hide ((uh HL1).below hw3)
     have HL2:=hide ((uh HL2).below hw3)
     have HP3:Hid (∀ b,w3.heap.size≤b→P b):=fun b hb=>uh HP2 b (by have:=hw3.size;omega)
     clear hw3 hS
     go_wp2_with fail
     refine (subLimbs_any l1 l2 _ _ w3 (uh HL1) (uh HL2) (by omega) (by omega) (uh HO1).1 (uh HO2).1 (by omega)).mono ?_
     rintro e w4 ⟨v3,s,rfl,ho3,os,ls,hs,hw3⟩
     have hM:=hide (made_any P (-1) s v3 w3.heap.size w4 ho3 (fun b hb=>(uh HP3) b hb) os (by omega) (.inl (.inr rfl)))
     have hw13:=hide ((uh HW3).trans (hw3.mono (uh HW3).size))
     have HS:=hide hs
     obtain ⟨ad3,cap3,rfl⟩:=ints_shape0 (ints_own ho3)
     clear ho3 os ls hs hw3
     go_wp2_with fail
     refine (uh hM).mono ?_
     rintro e w9 ⟨v',rfl,hv,hw9⟩
     rw [show -1*Pl.lv s=a+b by rw [uh HS,(uh HO1).2,(uh HO2).2];omega] at hv
     obtain ⟨x4,ad4,m4,cap4,rfl,c0,c1,f0,f1,HF⟩:=result_slot (below_three w _ _ _) ((uh hw13).trans (hw9.mono (uh hw13).size)) (slot_three w _ _ _) (by omega) hv
     clear hv hw9 hM hw13
     go_wp2
     exact bodyPost_ret (v:=.agg #[.int .i64 x4,.slice ad4 m4 cap4]) (by simp [results,Try.results90,go_sem,(uh HF).2.2.1,(uh HF).2.2.2]) rfl ⟨_,rfl,(uh HF).1,(uh HF).2.1⟩
  ·have ha0:¬ a<0:=fun h=>hx (hx1.2 h)
   by_cases hy:y<0
   ·have hb0:=hy1.1 hy
    have hl1v:=(uh HO1).2
    have hl2v:=(uh HO2).2
    go_wp2_with fail
    refine (isLess_any l1 l2 _ _ w2 (uh HL1) (uh HL2) (by omega) (by omega) (uh HO1).1 (uh HO2).1).mono ?_
    rintro e w3 ⟨rfl,hw3⟩
    rw [hw3]
    clear hw3 w3
    by_cases hless:Pl.lv l1<Pl.lv l2
    ·rw [decide_eq_true hless]
     have hsgn:Int.sign b=-1:=Int.sign_eq_neg_one_of_neg (by omega)
     have hS:=hide (Sign_any P _ b w2 ((hb.below (below_three w _ _ _)).below (uh HW2)))
     rw [hsgn] at hS
     clear hsgn
     go_wp2_with fail
     refine (uh hS).mono ?_
     rintro e w3 ⟨rfl,hw3⟩
     have HW3:=hide ((uh HW2).trans (hw3.mono (uh HW2).size))
     have HL1:=hide ((uh HL1).below hw3)
     have HL2:=hide ((uh HL2).below hw3)
     have HP3:Hid (∀ b,w3.heap.size≤b→P b):=fun b hb=>uh HP2 b (by have:=hw3.size;omega)
     clear hw3 hS
     go_wp2_with fail
     refine (subLimbs_any l2 l1 _ _ w3 (uh HL2) (uh HL1) (by omega) (by omega) (uh HO2).1 (uh HO1).1 (by omega)).mono ?_
     rintro e w4 ⟨v3,s,rfl,ho3,os,ls,hs,hw3⟩
     have hM:=hide (made_any P (-1) s v3 w3.heap.size w4 ho3 (fun b hb=>(uh HP3) b hb) os (by omega) (.inl (.inr rfl)))
     have hw13:=hide ((uh HW3).trans (hw3.mono (uh HW3).size))
     have HS:=hide hs
     obtain ⟨ad3,cap3,rfl⟩:=ints_shape0 (ints_own ho3)
     clear ho3 os ls hs hw3
     go_wp2_with fail
     refine (uh hM).mono ?_
     rintro e w9 ⟨v',rfl,hv,hw9⟩
     rw [show -1*Pl.lv s=a+b by rw [uh HS,(uh HO1).2,(uh HO2).2];omega] at hv
     obtain ⟨x4,ad4,m4,cap4,rfl,c0,c1,f0,f1,HF⟩:=result_slot (below_three w _ _ _) ((uh hw13).trans (hw9.mono (uh hw13).size)) (slot_three w _ _ _) (by omega) hv
     clear hv hw9 hM hw13
     go_wp2
     exact bodyPost_ret (v:=.agg #[.int .i64 x4,.slice ad4 m4 cap4]) (by simp [results,Try.results90,go_sem,(uh HF).2.2.1,(uh HF).2.2.2]) rfl ⟨_,rfl,(uh HF).1,(uh HF).2.1⟩
    ·rw [decide_eq_false hless]
     have hsgn:Int.sign a=1:=Int.sign_eq_one_of_pos (by omega)
     have hS:=hide (Sign_any P _ a w2 ((ha.below (below_three w _ _ _)).below (uh HW2)))
     rw [hsgn] at hS
     clear hsgn
     go_wp2_with fail
     refine (uh hS).mono ?_
     rintro e w3 ⟨rfl,hw3⟩
     have HW3:=hide ((uh HW2).trans (hw3.mono (uh HW2).size))
     have HL1:=hide ((uh HL1).below hw3)
     have HL2:=hide ((uh HL2).below hw3)
     have HP3:Hid (∀ b,w3.heap.size≤b→P b):=fun b hb=>uh HP2 b (by have:=hw3.size;omega)
     clear hw3 hS
     go_wp2_with fail
     refine (subLimbs_any l1 l2 _ _ w3 (uh HL1) (uh HL2) (by omega) (by omega) (uh HO1).1 (uh HO2).1 (by omega)).mono ?_
     rintro e w4 ⟨v3,s,rfl,ho3,os,ls,hs,hw3⟩
     have hM:=hide (made_any P (1) s v3 w3.heap.size w4 ho3 (fun b hb=>(uh HP3) b hb) os (by omega) (.inl (.inl rfl)))
     have hw13:=hide ((uh HW3).trans (hw3.mono (uh HW3).size))
     have HS:=hide hs
     obtain ⟨ad3,cap3,rfl⟩:=ints_shape0 (ints_own ho3)
     clear ho3 os ls hs hw3
     go_wp2_with fail
     refine (uh hM).mono ?_
     rintro e w9 ⟨v',rfl,hv,hw9⟩
     rw [show 1*Pl.lv s=a+b by rw [uh HS,(uh HO1).2,(uh HO2).2];omega] at hv
     obtain ⟨x4,ad4,m4,cap4,rfl,c0,c1,f0,f1,HF⟩:=result_slot (below_three w _ _ _) ((uh hw13).trans (hw9.mono (uh hw13).size)) (slot_three w _ _ _) (by omega) hv
     clear hv hw9 hM hw13
     go_wp2
     exact bodyPost_ret (v:=.agg #[.int .i64 x4,.slice ad4 m4 cap4]) (by simp [results,Try.results90,go_sem,(uh HF).2.2.1,(uh HF).2.2.2]) rfl ⟨_,rfl,(uh HF).1,(uh HF).2.1⟩
   ·have hb0:¬ b<0:=fun h=>hy (hy1.2 h)
    go_wp2_with fail
    refine (addLimbs_any l1 l2 _ _ w2 (uh HL1) (uh HL2) (by omega) (by omega) (uh HO1).1 (uh HO2).1).mono ?_
    rintro e w3 ⟨v3,s,rfl,ho3,os,ls,hs,hw3⟩
    have hM:=hide (made_any P (1) s v3 w2.heap.size w3 ho3 (fun b hb=>(uh HP2) b hb) os (by omega) (.inl (.inl rfl)))
    have hw13:=hide ((uh HW2).trans (hw3.mono (uh HW2).size))
    have HS:=hide hs
    obtain ⟨ad3,cap3,rfl⟩:=ints_shape0 (ints_own ho3)
    clear ho3 os ls hs hw3
    go_wp2_with fail
    refine (uh hM).mono ?_
    rintro e w9 ⟨v',rfl,hv,hw9⟩
    rw [show 1*Pl.lv s=a+b by rw [uh HS,(uh HO1).2,(uh HO2).2];omega] at hv
    obtain ⟨x4,ad4,m4,cap4,rfl,c0,c1,f0,f1,HF⟩:=result_slot (below_three w _ _ _) ((uh hw13).trans (hw9.mono (uh hw13).size)) (slot_three w _ _ _) (by omega) hv
    clear hv hw9 hM hw13
    go_wp2
    exact bodyPost_ret (v:=.agg #[.int .i64 x4,.slice ad4 m4 cap4]) (by simp [results,Try.results90,go_sem,(uh HF).2.2.1,(uh HF).2.2.2]) rfl ⟨_,rfl,(uh HF).1,(uh HF).2.1⟩
theorem WhAt.fits {P:Nat→Prop} {w:World} {v:Value} {n:Int} (h:WhAt P w v n) (h1:-4611686018427387904<n∧n<4611686018427387904):v=.agg #[.int .i64 n,.slice none 0 0]:=by
 rcases h with ⟨rfl,_⟩|⟨l,b,off,cap,cs,sg,rfl,hP,hb,hc,h3,h4,h5,h6,h7,h8⟩
 ·rfl
 ·rcases h6 with rfl | rfl <;> omega
theorem Add_any (P:Nat→Prop) (K:Nat) (a b:Int) (va vb:Value) (w:World) (hP:∀ b,w.heap.size≤b→P b) (ha:WhAt P w va a) (hb:WhAt P w vb b) (hK:K≤1500000000000) (hA:(a.natAbs:Int)<1073741824^K) (hB:(b.natAbs:Int)<1073741824^K) :
  Calls Try.prog 90 #[va,vb] w fun e w'=>∃ v',e=.returned v'∧WhAt P w' v' (a+b)∧Below w.heap.size w w':=by
 by_cases h:(-4611686018427387904<a∧a<4611686018427387904)∧(-4611686018427387904<b∧b<4611686018427387904)
 ·rw [ha.fits h.1,hb.fits h.2];exact Add_small P a b w hP h.1 h.2
 ·exact Add_big P K a b va vb w hP ha hb hK hA hB h
end Go.Proofs.Ytfaljekgpnbmiaa
