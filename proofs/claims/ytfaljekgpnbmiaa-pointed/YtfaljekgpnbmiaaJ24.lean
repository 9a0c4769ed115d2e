/- Joined: XLat10. -/
import Derived.Test.YtfaljekgpnbmiaaJ23
set_option linter.unusedVariables false
set_option linter.unusedSimpArgs false
set_option maxRecDepth 100000
namespace Go.Proofs.Ytfaljekgpnbmiaa
open Go.RowKit Go.Sort
theorem one_small {a:Int} {K:Nat} (h:a.natAbs<1073741824):Pl.Lt (K+1) a:=by
 rw [Pl.lt_nat,Nat.pow_succ]
 have:=Nat.pow_pos (n:=K) (show 0<1073741824 by decide)
 exact Nat.lt_of_lt_of_le (show a.natAbs<1*1073741824 by omega) (Nat.mul_le_mul_right _ this)
attribute [local go_sem] valUpon
set_option maxHeartbeats 2000000 in
theorem isOrdered_any (P:Nat→Prop) (B K n m b gs gp go cs cp co:Nat) (R:Nat→Nat) (St G Ov:Nat→Nat→Int) (V:Nat→Int) (w:World) (hP:∀ b,w.heap.size≤b→P b) (h:LatMem P B w n b gs gp go cs cp co R St G Ov V) (hm:m+1<n) (hn:n≤100) (lo:Pl.Lt K (Ov (m+1) m)) (lv:∀ l,l≤n→Pl.Lt K (V l)) (hK:2*K+10≤1500000000000) :
  Calls Try.prog 161 #[.pointer (some ⟨b,0,none⟩),.int .i64 ((m:Int)+1)] w fun e w'=>e=.returned (.bool (decide (99*(V (m+1)*V (m+1))≤100*(V (m+2)*V m+Ov (m+1) m*Ov (m+1) m))))∧Below w.heap.size w w':=by
 obtain ⟨_,_,k2,k3⟩:=h.cells
 obtain ⟨o0,px,pa,pm,pc,p0,p1,hov⟩:=h.getO (r:=m+1) (i:=m) hm (by omega)
 obtain ⟨qx,qa,qm,qc,q0,q1,hq⟩:=h.getV (i:=m+2) (by omega)
 obtain ⟨rx,ra,rm,rc,r0,r1,hr⟩:=h.getV (i:=m) (by omega)
 obtain ⟨tx,ta,tm,tc,t0,t1,ht⟩:=h.getV (i:=m+1) (by omega)
 have HOV:=hide hov
 have HQV:=hide hq
 have HRV:=hide hr
 have HTV:=hide ht
 have HQC:=hide (And.intro q0 (And.intro q1 (And.intro r0 (And.intro r1 (And.intro t0 (And.intro t1 k2))))))
 have HG0:Hid (Grows w w):=Grows.refl _
 have LMI:Hid (Pl.Lt (2*K+1) (V (m+2)*V m+Ov (m+1) m*Ov (m+1) m)):=(((lv _ (by omega)).mul (lv _ (by omega))).add (lo.mul lo)).mono (by omega)
 have LOT:Hid (Pl.Lt (2*K+1) (V (m+1)*V (m+1))):=((lv _ (by omega)).mul (lv _ (by omega))).mono (by omega)
 have LE1:Hid (Pl.Lt (2*K+2) (100*(V (m+2)*V m+Ov (m+1) m*Ov (m+1) m))):=((one_small (K:=0) (by decide)).mul (uh LMI)).mono (by omega)
 have LF1:Hid (Pl.Lt (2*K+2) (99*(V (m+1)*V (m+1)))):=((one_small (K:=0) (by decide)).mul (uh LOT)).mono (by omega)
 have w1':IntKind.i64.wrap ((m:Int)+1+1)=(m:Int)+2:=by rw [IntKind.wrap_i64];omega
 have w2':IntKind.i64.wrap (m:Int)=(m:Int):=by rw [IntKind.wrap_i64];omega
 have w3':(m:Int)+1 - 1=(m:Int):=by omega
 have t1':((m:Int)+1).toNat=m+1:=by omega
 have t2':((m:Int)+2).toNat=m+2:=by omega
 have l1:(m:Int)+1<(n:Int):=by omega
 have l2:(m:Int)+1<(n:Int)+1:=by omega
 have l3:(m:Int)+2<(n:Int)+1:=by omega
 have l4:(m:Int)<(n:Int):=by omega
 have l5:(m:Int)<(n:Int)+1:=by omega
 have l6:0≤(m:Int)+1:=by omega
 have l7:0≤(m:Int)+2:=by omega
 clear hov hq hr ht q0 q1 r0 r1 t0 t1 k2 h
 go_enter Try.func161,Try.ntmps161
 go_wp2_with fail
 have y0:=cell_regrown k3
 have y1:=cell_regrown o0
 have y2:=cell_regrown p0
 have y3:=cell_regrown p1
 clear k3 o0 p0 p1
 refine wp_region_grown (phiL [(31,fun v w=>WhAt P w v (Ov (m+1) m*Ov (m+1) m)),(5,FreshV w)]) (gL [(31,ShapeI),(5,ShapeP)]) 75 24 (by kernel_rfl) (by rfl) (by kernel_rfl) (phi_c (fun _ _ _=>WhAt.below) (phi_c (fun _ _ _=>FreshV.grow) phi_n)) ?_
 iterate 22 (refine lex_s fun K hK=>?_;go_simp;refine hK _ ?_;clear hK K)
 refine lex_call ShapeI 93 #[.agg #[.int .i64 px,.slice pa pm pc],.agg #[.int .i64 px,.slice pa pm pc]] (by rfl) (by rfl) ShapeI.some (fun w=>by go_simp) (fun wq hg hf=>(Mul_any P K (Ov (m+1) m) (Ov (m+1) m) _ _ wq (fun b' hb'=>hP b' (by have h2:=hg.size;omega)) ((uh HOV).below hg) ((uh HOV).below hg) (by omega) lo lo).mono (by rintro e w' ⟨v',rfl,hv,hb⟩;exact ⟨_,rfl,hb,hv.shapeI,fun t ht=>by cases ht;exact hv⟩)) ?_
 rintro _ ⟨ax,aa,am,ac,rfl⟩
 refine lex_grow ShapeP (by rfl) (by rfl) ShapeP.some (fun wq hg hf=>⟨.pointer (some ⟨wq.heap.size,0,none⟩),wq.alloc (.cells #[.int .i64 0,.slice none 0 0] 82),by go_simp,Grows.alloc _ _,⟨_,rfl⟩,fun t ht=>by cases ht;exact FreshV.new hg⟩) ?_
 rintro _ ⟨g5,rfl⟩
 refine lex_last ?_
 intro w1 hw1 hphi
 have hvw1:WhAt P w1 (.agg #[.int .i64 ax,.slice aa am ac]) (Ov (m+1) m*Ov (m+1) m):=hphi 22 _ 31 (by decide) rfl rfl
 obtain ⟨g5',e6,f6⟩:FreshV w (.pointer (some ⟨g5,0,none⟩)) w1:=hphi 23 _ 5 (by decide) rfl rfl
 cases e6
 clear hphi y0 y1 y2 y3
 obtain ⟨z0,z1,z2,z3⟩:=slot_of f6.2
 have hst:=store_new (P:=P) hw1 f6.1 f6.2 hvw1
 obtain ⟨W1,hW1⟩:∃ W,(w1.setCell ⟨g5,0,none⟩ (.int .i64 ax)).setCell ⟨g5,1,none⟩ (.slice aa am ac)=W:=⟨_,rfl⟩
 have HA1:Hid (VarAt P W1 g5 ax aa am ac (Ov (m+1) m*Ov (m+1) m)):=by unfold Hid;rw [←hW1];exact hst.1
 have HG1:Hid (Grows w W1):=by unfold Hid;rw [←hW1];exact Grows.trans (uh HG0) hst.2
 clear hst hvw1 f6 hw1
 go_wp2_with fail
 try rw [hW1]
 clear hW1 z0 z1 z2 z3
 have HQ:=hide ((uh HQV).below (uh HG1))
 have HRR:=hide ((uh HRV).below (uh HG1))
 have q0:=(uh HG1).cell (uh HQC).1
 have q1:=(uh HG1).cell (uh HQC).2.1
 have r0:=(uh HG1).cell (uh HQC).2.2.1
 have r1:=(uh HG1).cell (uh HQC).2.2.2.1
 have k2:=(uh HG1).cell (uh HQC).2.2.2.2.2.2
 have a0:=(uh HA1).cells.1
 have a1:=(uh HA1).cells.2.1
 go_wp2_with fail
 have y0:=cell_regrown k2
 have y1:=cell_regrown q0
 have y2:=cell_regrown q1
 have y3:=cell_regrown r0
 have y4:=cell_regrown r1
 have y5:=cell_regrown a0
 have y6:=cell_regrown a1
 clear k2 q0 q1 r0 r1 a0 a1
 refine wp_region_grown (phiL [(48,fun v w=>WhAt P w v (V (m+2)*V m)),(50,fun v w=>WhAt P w v (V (m+2)*V m+Ov (m+1) m*Ov (m+1) m)),(6,FreshV W1)]) (gL [(48,ShapeI),(50,ShapeI),(6,ShapeP)]) 75 20 (by kernel_rfl) (by rfl) (by kernel_rfl) (phi_c (fun _ _ _=>WhAt.below) (phi_c (fun _ _ _=>WhAt.below) (phi_c (fun _ _ _=>FreshV.grow) phi_n))) ?_
 iterate 16 (refine lex_s fun K hK=>?_;go_simp;refine hK _ ?_;clear hK K)
 refine lex_call ShapeI 93 #[.agg #[.int .i64 qx,.slice qa qm qc],.agg #[.int .i64 rx,.slice ra rm rc]] (by rfl) (by rfl) ShapeI.some (fun w=>by go_simp) (fun wq hg hf=>(Mul_any P K (V (m+2)) (V m) _ _ wq (fun b' hb'=>hP b' (by have h1:=(uh HG1).size;have h2:=hg.size;omega)) ((uh HQ).below hg) ((uh HRR).below hg) (by omega) (lv _ (by omega)) (lv _ (by omega))).mono (by rintro e w' ⟨v',rfl,hv,hb⟩;exact ⟨_,rfl,hb,hv.shapeI,fun t ht=>by cases ht;exact hv⟩)) ?_
 rintro _ ⟨sx,sa,sm,sc,rfl⟩
 (refine lex_s fun K hK=>?_;go_simp;refine hK _ ?_;clear hK K)
 refine lex_call ShapeI 90 #[.agg #[.int .i64 sx,.slice sa sm sc],.agg #[.int .i64 ax,.slice aa am ac]] (by rfl) (by rfl) ShapeI.some (fun w=>by go_simp) (fun wq hg hf=>(Add_any P (2*K) _ _ _ _ wq (fun b' hb'=>hP b' (by have h1:=(uh HG1).size;have h2:=hg.size;omega)) (hf 16 (by kernel_rfl) _ 48 rfl rfl) ((uh HA1).val.below hg) (by omega) (((lv _ (by omega)).mul (lv _ (by omega))).mono (by omega)) ((lo.mul lo).mono (by omega))).mono (by rintro e w' ⟨v',rfl,hv,hb⟩;exact ⟨_,rfl,hb,hv.shapeI,fun t ht=>by cases ht;exact hv⟩)) ?_
 rintro _ ⟨cx,ca,cm,cc,rfl⟩
 refine lex_grow ShapeP (by rfl) (by rfl) ShapeP.some (fun wq hg hf=>⟨.pointer (some ⟨wq.heap.size,0,none⟩),wq.alloc (.cells #[.int .i64 0,.slice none 0 0] 82),by go_simp,Grows.alloc _ _,⟨_,rfl⟩,fun t ht=>by cases ht;exact FreshV.new hg⟩) ?_
 rintro _ ⟨g6,rfl⟩
 refine lex_last ?_
 intro w2 hw2 hphi
 have hvw2:WhAt P w2 (.agg #[.int .i64 cx,.slice ca cm cc]) (V (m+2)*V m+Ov (m+1) m*Ov (m+1) m):=hphi 18 _ 50 (by decide) rfl rfl
 obtain ⟨g6',e6,f6⟩:FreshV W1 (.pointer (some ⟨g6,0,none⟩)) w2:=hphi 19 _ 6 (by decide) rfl rfl
 cases e6
 clear hphi y0 y1 y2 y3 y4 y5 y6
 obtain ⟨z0,z1,z2,z3⟩:=slot_of f6.2
 have hst:=store_new (P:=P) hw2 f6.1 f6.2 hvw2
 obtain ⟨W2,hW2⟩:∃ W,(w2.setCell ⟨g6,0,none⟩ (.int .i64 cx)).setCell ⟨g6,1,none⟩ (.slice ca cm cc)=W:=⟨_,rfl⟩
 have HC2:Hid (VarAt P W2 g6 cx ca cm cc (V (m+2)*V m+Ov (m+1) m*Ov (m+1) m)):=by unfold Hid;rw [←hW2];exact hst.1
 have HG2:Hid (Grows w W2):=by unfold Hid;rw [←hW2];exact Grows.trans (uh HG1) hst.2
 clear hst hvw2 f6 hw2
 go_wp2_with fail
 try rw [hW2]
 clear hW2 z0 z1 z2 z3
 have HT:=hide ((uh HTV).below (uh HG2))
 have t0:=(uh HG2).cell (uh HQC).2.2.2.2.1
 have t1:=(uh HG2).cell (uh HQC).2.2.2.2.2.1
 have k2:=(uh HG2).cell (uh HQC).2.2.2.2.2.2
 go_wp2_with fail
 have y0:=cell_regrown k2
 have y1:=cell_regrown t0
 have y2:=cell_regrown t1
 clear k2 t0 t1
 refine wp_region_grown (phiL [(65,fun v w=>WhAt P w v (V (m+1)*V (m+1))),(7,FreshV W2)]) (gL [(65,ShapeI),(7,ShapeP)]) 75 16 (by kernel_rfl) (by rfl) (by kernel_rfl) (phi_c (fun _ _ _=>WhAt.below) (phi_c (fun _ _ _=>FreshV.grow) phi_n)) ?_
 iterate 14 (refine lex_s fun K hK=>?_;go_simp;refine hK _ ?_;clear hK K)
 refine lex_call ShapeI 93 #[.agg #[.int .i64 tx,.slice ta tm tc],.agg #[.int .i64 tx,.slice ta tm tc]] (by rfl) (by rfl) ShapeI.some (fun w=>by go_simp) (fun wq hg hf=>(Mul_any P K (V (m+1)) (V (m+1)) _ _ wq (fun b' hb'=>hP b' (by have h1:=(uh HG2).size;have h2:=hg.size;omega)) ((uh HT).below hg) ((uh HT).below hg) (by omega) (lv _ (by omega)) (lv _ (by omega))).mono (by rintro e w' ⟨v',rfl,hv,hb⟩;exact ⟨_,rfl,hb,hv.shapeI,fun t ht=>by cases ht;exact hv⟩)) ?_
 rintro _ ⟨dx,da,dm,dc,rfl⟩
 refine lex_grow ShapeP (by rfl) (by rfl) ShapeP.some (fun wq hg hf=>⟨.pointer (some ⟨wq.heap.size,0,none⟩),wq.alloc (.cells #[.int .i64 0,.slice none 0 0] 82),by go_simp,Grows.alloc _ _,⟨_,rfl⟩,fun t ht=>by cases ht;exact FreshV.new hg⟩) ?_
 rintro _ ⟨g7,rfl⟩
 refine lex_last ?_
 intro w3 hw3 hphi
 have hvw3:WhAt P w3 (.agg #[.int .i64 dx,.slice da dm dc]) (V (m+1)*V (m+1)):=hphi 14 _ 65 (by decide) rfl rfl
 obtain ⟨g7',e6,f6⟩:FreshV W2 (.pointer (some ⟨g7,0,none⟩)) w3:=hphi 15 _ 7 (by decide) rfl rfl
 cases e6
 clear hphi y0 y1 y2
 obtain ⟨z0,z1,z2,z3⟩:=slot_of f6.2
 have hst:=store_new (P:=P) hw3 f6.1 f6.2 hvw3
 obtain ⟨W3,hW3⟩:∃ W,(w3.setCell ⟨g7,0,none⟩ (.int .i64 dx)).setCell ⟨g7,1,none⟩ (.slice da dm dc)=W:=⟨_,rfl⟩
 have HD3:Hid (VarAt P W3 g7 dx da dm dc (V (m+1)*V (m+1))):=by unfold Hid;rw [←hW3];exact hst.1
 have HG3:Hid (Grows w W3):=by unfold Hid;rw [←hW3];exact Grows.trans (uh HG2) hst.2
 have HC3:Hid (VarAt P W3 g6 cx ca cm cc (V (m+2)*V m+Ov (m+1) m*Ov (m+1) m)):=by unfold Hid;rw [←hW3];exact (uh HC2).grow hst.2
 clear hst hvw3 f6 hw3
 go_wp2_with fail
 try rw [hW3]
 clear hW3 z0 z1 z2 z3
 have c0:=(uh HC3).cells.1
 have c1:=(uh HC3).cells.2.1
 have d0:=(uh HD3).cells.1
 have d1:=(uh HD3).cells.2.1
 go_wp2_with fail
 have y0:=cell_regrown c0
 have y1:=cell_regrown c1
 have y2:=cell_regrown d0
 have y3:=cell_regrown d1
 clear c0 c1 d0 d1
 refine wp_region_grown (phiL [(66,fun v w=>WhAt P w v 100),(68,fun v w=>WhAt P w v (100*(V (m+2)*V m+Ov (m+1) m*Ov (m+1) m))),(69,fun v w=>WhAt P w v 99),(71,fun v w=>WhAt P w v (99*(V (m+1)*V (m+1))))]) (gL [(66,ShapeI),(68,ShapeI),(69,ShapeI),(71,ShapeI),(72,(·=.int .i64 (Int.sign (100*(V (m+2)*V m+Ov (m+1) m*Ov (m+1) m) - 99*(V (m+1)*V (m+1))))))]) 75 7 (by kernel_rfl) (by rfl) (by kernel_rfl) (phi_c (fun _ _ _=>WhAt.below) (phi_c (fun _ _ _=>WhAt.below) (phi_c (fun _ _ _=>WhAt.below) (phi_c (fun _ _ _=>WhAt.below) phi_n)))) ?_
 refine lex_call ShapeI 63 #[.int .i64 100] (by rfl) (by rfl) ShapeI.some (fun w=>by go_simp) (fun wq hg hf=>(Of_any P 100 wq (fun b' hb'=>hP b' (by have h1:=(uh HG3).size;have h2:=hg.size;omega)) (by decide) (by decide)).mono (by rintro e w' ⟨v',rfl,hv,hb⟩;exact ⟨_,rfl,hb,hv.shapeI,fun t ht=>by cases ht;exact hv⟩)) ?_
 rintro _ ⟨ix,ia,im,ic,rfl⟩
 (refine lex_s fun K hK=>?_;go_simp;refine hK _ ?_;clear hK K)
 refine lex_call ShapeI 93 #[.agg #[.int .i64 ix,.slice ia im ic],.agg #[.int .i64 cx,.slice ca cm cc]] (by rfl) (by rfl) ShapeI.some (fun w=>by go_simp) (fun wq hg hf=>(Mul_any P (2*K+1) 100 (V (m+2)*V m+Ov (m+1) m*Ov (m+1) m) _ _ wq (fun b' hb'=>hP b' (by have h1:=(uh HG3).size;have h2:=hg.size;omega)) (hf 0 (by kernel_rfl) _ 66 rfl rfl) ((uh HC3).val.below hg) (by omega) (one_small (by decide)) (uh LMI)).mono (by rintro e w' ⟨v',rfl,hv,hb⟩;exact ⟨_,rfl,hb,hv.shapeI,fun t ht=>by cases ht;exact hv⟩)) ?_
 rintro _ ⟨ex,ea,em,ec,rfl⟩
 refine lex_call ShapeI 63 #[.int .i64 99] (by rfl) (by rfl) ShapeI.some (fun w=>by go_simp) (fun wq hg hf=>(Of_any P 99 wq (fun b' hb'=>hP b' (by have h1:=(uh HG3).size;have h2:=hg.size;omega)) (by decide) (by decide)).mono (by rintro e w' ⟨v',rfl,hv,hb⟩;exact ⟨_,rfl,hb,hv.shapeI,fun t ht=>by cases ht;exact hv⟩)) ?_
 rintro _ ⟨jx,ja,jm,jc,rfl⟩
 (refine lex_s fun K hK=>?_;go_simp;refine hK _ ?_;clear hK K)
 refine lex_call ShapeI 93 #[.agg #[.int .i64 jx,.slice ja jm jc],.agg #[.int .i64 dx,.slice da dm dc]] (by rfl) (by rfl) ShapeI.some (fun w=>by go_simp) (fun wq hg hf=>(Mul_any P (2*K+1) 99 (V (m+1)*V (m+1)) _ _ wq (fun b' hb'=>hP b' (by have h1:=(uh HG3).size;have h2:=hg.size;omega)) (hf 3 (by kernel_rfl) _ 69 rfl rfl) ((uh HD3).val.below hg) (by omega) (one_small (by decide)) (uh LOT)).mono (by rintro e w' ⟨v',rfl,hv,hb⟩;exact ⟨_,rfl,hb,hv.shapeI,fun t ht=>by cases ht;exact hv⟩)) ?_
 rintro _ ⟨fx,fa,fm,fc,rfl⟩
 refine lex_call (·=.int .i64 (Int.sign (100*(V (m+2)*V m+Ov (m+1) m*Ov (m+1) m) - 99*(V (m+1)*V (m+1))))) 89 #[.agg #[.int .i64 ex,.slice ea em ec],.agg #[.int .i64 fx,.slice fa fm fc]] (by rfl) (by rfl) ⟨_,rfl⟩ (fun w=>by go_simp) (fun wq hg hf=>(Compare_any P (2*K+2) _ _ _ _ wq (fun b' hb'=>hP b' (by have h1:=(uh HG3).size;have h2:=hg.size;omega)) (hf 2 (by kernel_rfl) _ 68 rfl rfl) (hf 5 (by kernel_rfl) _ 71 rfl rfl) (by omega) (uh LE1) (uh LF1)).mono (by rintro e w' ⟨rfl,hb⟩;exact ⟨_,rfl,hb,rfl,fun t ht=>by cases ht;exact True.intro⟩)) ?_
 rintro _ rfl
 refine lex_last ?_
 intro w4 hw4 hphi
 clear hphi y0 y1 y2 y3
 have HG4:=hide (Grows.trans (uh HG3) hw4)
 clear hw4
 obtain ⟨sg,hsg⟩:∃ sg,Int.sign (100*(V (m+2)*V m+Ov (m+1) m*Ov (m+1) m) - 99*(V (m+1)*V (m+1)))=sg:=⟨_,rfl⟩
 have HIFF:Hid (decide (0≤sg)=decide (99*(V (m+1)*V (m+1))≤100*(V (m+2)*V m+Ov (m+1) m*Ov (m+1) m))):=by
  unfold Hid
  rw [←hsg]
  generalize 100*(V (m+2)*V m+Ov (m+1) m*Ov (m+1) m)=X
  generalize 99*(V (m+1)*V (m+1))=Y
  rcases (show X - Y<0∨X - Y=0∨0<X - Y by omega) with h|h|h
  ·rw [Int.sign_eq_neg_one_of_neg h,decide_eq_false (by omega:¬ Y≤X)];rfl
  ·rw [h,decide_eq_true (by omega:Y≤X)];rfl
  ·rw [Int.sign_eq_one_of_pos h,decide_eq_true (by omega:Y≤X)];rfl
 rw [hsg]
 clear hsg LMI LOT LE1 LF1
 go_wp2
 go_ret
 exact ⟨congrArg (fun x=>Ending.returned (.bool x)) (uh HIFF),uh HG4⟩
end Go.Proofs.Ytfaljekgpnbmiaa
