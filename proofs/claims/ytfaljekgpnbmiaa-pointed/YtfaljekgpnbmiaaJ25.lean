/- Joined: XLat11. -/
import Derived.Test.YtfaljekgpnbmiaaJ24
set_option linter.unusedVariables false
set_option linter.unusedSimpArgs false
set_option maxRecDepth 100000
namespace Go.Proofs.Ytfaljekgpnbmiaa
open Go.RowKit Go.Sort
theorem VarAt.put {P:Nat→Prop} {w:World} {g:Nat} {x:Int} {a:Option Addr} {m c:Nat} {n:Int} (h:VarAt P w g x a m c n) {k:Nat} (hk:∃ cs,w.heap[k]?=some (.cells cs 82 (0,0))) (hne:g≠k) (o1 o2:Nat) (u1 u2:Value):VarAt P ((w.setCell ⟨k,o1,none⟩ u1).setCell ⟨k,o2,none⟩ u2) g x a m c n:=by
 obtain ⟨cs,hcs⟩:=hk
 exact ⟨(Below.heap_setCell _ _ _ _ hne).trans ((Below.heap_setCell _ _ _ _ hne).trans h.heap),(h.val.keep (KeepT.setCell hcs (by decide) _ _)).keep (KeepT.setCell (heap_setCell_same w k o1 _ _ u1 hcs) (by decide) _ _)⟩
def partRow (F:Nat→Nat→Int) (k j:Nat) (t:Int) (i a b:Nat):Int:=if a=k∧b<i then F k b - t*F j b else F a b
def partCol (F:Nat→Nat→Int) (k j:Nat) (t:Int) (i a b:Nat):Int:=if b=k∧a<i then F a k - t*F a j else F a b
section
variable {F:Nat→Nat→Int} {k j i:Nat} {t:Int}
theorem partRow_zero (a b:Nat):partRow F k j t 0 a b=F a b:=if_neg (by omega)
theorem partRow_at {a b:Nat} (h:¬ (a=k∧b<i)):partRow F k j t i a b=F a b:=if_neg h
theorem partRow_set (a b:Nat):upd2 (partRow F k j t i) k i (F k i - t*F j i) a b=partRow F k j t (i+1) a b:=by
 unfold upd2 partRow
 by_cases h1:a=k∧b=i
 ·rw [if_pos h1,if_pos (by omega),h1.2]
 ·rw [if_neg h1]
  by_cases h2:a=k∧b<i
  ·rw [if_pos h2,if_pos (by omega)]
  ·rw [if_neg h2,if_neg (by omega)]
theorem partRow_all {n a b:Nat} (hb:b<n):partRow F k j t n a b=Pl.subRow F k j t a b:=by
 unfold partRow Pl.subRow
 by_cases h:a=k
 ·rw [if_pos ⟨h,hb⟩,if_pos h]
 ·rw [if_neg (fun e=>h e.1),if_neg h]
theorem partCol_zero (a b:Nat):partCol F k j t 0 a b=F a b:=if_neg (by omega)
theorem partCol_at {a b:Nat} (h:¬ (b=k∧a<i)):partCol F k j t i a b=F a b:=if_neg h
theorem partCol_set (a b:Nat):upd2 (partCol F k j t i) i k (F i k - t*F i j) a b=partCol F k j t (i+1) a b:=by
 unfold upd2 partCol
 by_cases h1:a=i∧b=k
 ·rw [if_pos h1,if_pos (by omega),h1.1]
 ·rw [if_neg h1]
  by_cases h2:b=k∧a<i
  ·rw [if_pos h2,if_pos (by omega)]
  ·rw [if_neg h2,if_neg (by omega)]
theorem partCol_all {n a b:Nat} (ha:a<n):partCol F k j t n a b=Pl.subCol F k j t a b:=by
 unfold partCol Pl.subCol
 by_cases h:b=k
 ·rw [if_pos ⟨h,ha⟩,if_pos h]
 ·rw [if_neg (fun e=>h e.1),if_neg h]
end
def shortO (Ov:Nat→Nat→Int) (k j:Nat) (t v:Int) (a b:Nat):Int:=upd2 (partRow Ov k j t j) k j (Ov k j - t*v) a b
attribute [local go_sem] valUpon
set_option maxHeartbeats 4000000 in
theorem shorten_any (P:Nat→Prop) (B L n k j b gs gp go cs cp co:Nat) (R:Nat→Nat) (St G Ov:Nat→Nat→Int) (V:Nat→Int) (t:Int) (w:World) (hP:∀ b,w.heap.size≤b→P b) (h:LatMem P B w n b gs gp go cs cp co R St G Ov V) (hjk:j<k) (hk:k<n) (hn:n≤100) (hte:Int.fdiv (Ov k j+Ov k j+V (j+1)) (V (j+1)+V (j+1))=t)
  (lo:Pl.Lt L (Ov k j)) (lv:Pl.Lt L (V (j+1))) (lt:Pl.Lt (L+1) t) (lst:∀ a b,a<n→b<n→Pl.Lt L (St a b)) (lg:∀ a b,a<n→b<n→Pl.Lt L (G a b)) (lov:∀ a b,b<a→a<n→Pl.Lt L (Ov a b)) (hK:3*L+6≤1500000000000) :
  Calls Try.prog 160 #[.pointer (some ⟨b,0,none⟩),.int .i64 k,.int .i64 j] w fun e w'=>e=.returned (.tuple #[])∧LatMem P B w' n b gs gp go cs cp co R (Pl.subRow St k j t) (Pl.shortG G k j t) (shortO Ov k j t (V (j+1))) V∧Below B w w':=by
 have hj:j<n:=by omega
 have hLB:Hid (B≤w.heap.size):=by have h1:=h.base.1;have h2:=lt_of_block h.own;unfold Hid;omega
 have HTE:=hide hte
 have HRL:Hid (∀ r,r<3*n+1→R r<w.heap.size):=fun r hr=>(h.fam.rows r hr).lt
 obtain ⟨_,_,k2,k3⟩:=h.cells
 obtain ⟨vx,va,vm,vc,v0,v1,hv⟩:=h.getV (i:=j+1) (by omega)
 have HV0:=hide (var_new hv)
 have HG0:=hide (Grows.alloc w (.cells #[.int .i64 vx,.slice va vm vc] 82))
 obtain ⟨o0,px,pa,pm,pc,p0,p1,hov⟩:=h.getO (r:=k) (i:=j) hk hj
 have HOV:=hide (hov.below (uh HG0))
 have HM0:=hide (h.grow (uh HG0))
 have HB0:Hid (w.heap.size≤(w.alloc (.cells #[.int .i64 vx,.slice va vm vc] 82)).heap.size):=(uh HG0).size
 have HPC:=hide (And.intro ((uh HG0).cell o0) (And.intro ((uh HG0).cell p0) (And.intro ((uh HG0).cell p1) ((uh HG0).cell k3))))
 have w1':IntKind.i64.wrap ((j:Int)+1)=(j:Int)+1:=by rw [IntKind.wrap_i64];omega
 have t1':((j:Int)+1).toNat=j+1:=by omega
 have l1':(j:Int)+1<(n:Int)+1:=by omega
 have l2':0≤(j:Int)+1:=by omega
 clear hv hov h hte
 go_enter Try.func160,Try.ntmps160
 go_wp2_with fail
 generalize hW0:w.alloc (.cells #[.int .i64 vx,.slice va vm vc] 82)=W0 at *
 clear hW0 v0 v1 k2 k3 o0 p0 p1
 have k3:=(uh HPC).2.2.2
 have o0:=(uh HPC).1
 have p0:=(uh HPC).2.1
 have p1:=(uh HPC).2.2.1
 have y0:=cell_regrown k3
 have y1:=cell_regrown o0
 have y2:=cell_regrown p0
 have y3:=cell_regrown p1
 clear k3 o0 p0 p1
 refine wp_region_grown (phiL [(40,fun v w=>WhAt P w v (Ov k j+Ov k j)),(7,FreshV W0)]) (gL [(40,ShapeI),(7,ShapeP)]) 220 22 (by kernel_rfl) (by rfl) (by kernel_rfl) (phi_c (fun _ _ _=>WhAt.below) (phi_c (fun _ _ _=>FreshV.grow) phi_n)) ?_
 iterate 20 (refine lex_s fun K hK=>?_;go_simp;refine hK _ ?_;clear hK K)
 refine lex_call ShapeI 90 #[.agg #[.int .i64 px,.slice pa pm pc],.agg #[.int .i64 px,.slice pa pm pc]] (by rfl) (by rfl) ShapeI.some (fun w=>by go_simp) (fun wq hg hf=>(Add_any P L (Ov k j) (Ov k j) _ _ wq (fun b' hb'=>hP b' (by have h1:=uh HB0;have h2:=hg.size;omega)) ((uh HOV).below hg) ((uh HOV).below hg) (by omega) lo lo).mono (by rintro e w' ⟨v',rfl,hv,hb⟩;exact ⟨_,rfl,hb,hv.shapeI,fun t ht=>by cases ht;exact hv⟩)) ?_
 rintro _ ⟨ax,aa,am,ac,rfl⟩
 refine lex_grow ShapeP (by rfl) (by rfl) ShapeP.some (fun wq hg hf=>⟨.pointer (some ⟨wq.heap.size,0,none⟩),wq.alloc (.cells #[.int .i64 0,.slice none 0 0] 82),by go_simp,Grows.alloc _ _,⟨_,rfl⟩,fun t ht=>by cases ht;exact FreshV.new hg⟩) ?_
 rintro _ ⟨g7,rfl⟩
 refine lex_last ?_
 intro w1 hw1 hphi
 have hv1:WhAt P w1 (.agg #[.int .i64 ax,.slice aa am ac]) (Ov k j+Ov k j):=hphi 20 _ 40 (by decide) rfl rfl
 obtain ⟨g7',e6,f6⟩:FreshV W0 (.pointer (some ⟨g7,0,none⟩)) w1:=hphi 21 _ 7 (by decide) rfl rfl
 cases e6
 clear hphi y0 y1 y2 y3
 obtain ⟨z0,z1,z2,z3⟩:=slot_of f6.2
 have hst:=store_new (P:=P) hw1 f6.1 f6.2 hv1
 obtain ⟨W1,hW1⟩:∃ W,(w1.setCell ⟨g7,0,none⟩ (.int .i64 ax)).setCell ⟨g7,1,none⟩ (.slice aa am ac)=W:=⟨_,rfl⟩
 have HA1:Hid (VarAt P W1 g7 ax aa am ac (Ov k j+Ov k j)):=by unfold Hid;rw [←hW1];exact hst.1
 have HG1:Hid (Grows W0 W1):=by unfold Hid;rw [←hW1];exact hst.2
 clear hst hv1 f6 hw1
 go_wp2_with fail
 try rw [hW1]
 clear hW1 z0 z1 z2 z3
 have HV1:=hide ((uh HV0).grow (uh HG1))
 have HB1:Hid (w.heap.size≤W1.heap.size):=Nat.le_trans (uh HB0) (uh HG1).size
 have v0:=(uh HV1).cells.1
 have v1:=(uh HV1).cells.2.1
 have a0:=(uh HA1).cells.1
 have a1:=(uh HA1).cells.2.1
 go_wp2_with fail
 have y0:=cell_regrown a0
 have y1:=cell_regrown a1
 have y2:=cell_regrown v0
 have y3:=cell_regrown v1
 clear a0 a1 v0 v1
 refine wp_region_grown (phiL [(43,fun v w=>WhAt P w v (Ov k j+Ov k j+V (j+1))),(46,fun v w=>WhAt P w v (V (j+1)+V (j+1))),(47,fun v w=>WhAt P w v t),(8,FreshV W1)]) (gL [(43,ShapeI),(46,ShapeI),(47,ShapeI),(8,ShapeP)]) 220 8 (by kernel_rfl) (by rfl) (by kernel_rfl) (phi_c (fun _ _ _=>WhAt.below) (phi_c (fun _ _ _=>WhAt.below) (phi_c (fun _ _ _=>WhAt.below) (phi_c (fun _ _ _=>FreshV.grow) phi_n)))) ?_
 iterate 2 (refine lex_s fun K hK=>?_;go_simp;refine hK _ ?_;clear hK K)
 refine lex_call ShapeI 90 #[.agg #[.int .i64 ax,.slice aa am ac],.agg #[.int .i64 vx,.slice va vm vc]] (by rfl) (by rfl) ShapeI.some (fun w=>by go_simp) (fun wq hg hf=>(Add_any P (L+1) _ _ _ _ wq (fun b' hb'=>hP b' (by have h1:=uh HB1;have h2:=hg.size;omega)) ((uh HA1).val.below hg) ((uh HV1).val.below hg) (by omega) ((lo.add lo).mono (by omega)) (lv.mono (by omega))).mono (by rintro e w' ⟨v',rfl,hv,hb⟩;exact ⟨_,rfl,hb,hv.shapeI,fun t ht=>by cases ht;exact hv⟩)) ?_
 rintro _ ⟨cx,ca,cm,cc,rfl⟩
 iterate 2 (refine lex_s fun K hK=>?_;go_simp;refine hK _ ?_;clear hK K)
 refine lex_call ShapeI 90 #[.agg #[.int .i64 vx,.slice va vm vc],.agg #[.int .i64 vx,.slice va vm vc]] (by rfl) (by rfl) ShapeI.some (fun w=>by go_simp) (fun wq hg hf=>(Add_any P (L+1) _ _ _ _ wq (fun b' hb'=>hP b' (by have h1:=uh HB1;have h2:=hg.size;omega)) ((uh HV1).val.below hg) ((uh HV1).val.below hg) (by omega) (lv.mono (by omega)) (lv.mono (by omega))).mono (by rintro e w' ⟨v',rfl,hv,hb⟩;exact ⟨_,rfl,hb,hv.shapeI,fun t ht=>by cases ht;exact hv⟩)) ?_
 rintro _ ⟨dx,da,dm,dc,rfl⟩
 refine lex_call ShapeI 91 #[.agg #[.int .i64 cx,.slice ca cm cc],.agg #[.int .i64 dx,.slice da dm dc]] (by rfl) (by rfl) ShapeI.some (fun w=>by go_simp) (fun wq hg hf=>(Div_any P (L+2) _ _ _ _ wq (fun b' hb'=>hP b' (by have h1:=uh HB1;have h2:=hg.size;omega)) (hf 2 (by kernel_rfl) _ 43 rfl rfl) (hf 5 (by kernel_rfl) _ 46 rfl rfl) (by omega) (((lo.add lo).add (lv.mono (by omega))).mono (by omega)) ((lv.add lv).mono (by omega))).mono (by rintro e w' ⟨v',rfl,hv,hb⟩;rw [uh HTE] at hv;exact ⟨_,rfl,hb,hv.shapeI,fun t ht=>by cases ht;exact hv⟩)) ?_
 rintro _ ⟨tx,ta,tm,tc,rfl⟩
 refine lex_grow ShapeP (by rfl) (by rfl) ShapeP.some (fun wq hg hf=>⟨.pointer (some ⟨wq.heap.size,0,none⟩),wq.alloc (.cells #[.int .i64 0,.slice none 0 0] 82),by go_simp,Grows.alloc _ _,⟨_,rfl⟩,fun t ht=>by cases ht;exact FreshV.new hg⟩) ?_
 rintro _ ⟨g8,rfl⟩
 refine lex_last ?_
 intro w2 hw2 hphi
 have hv2:WhAt P w2 (.agg #[.int .i64 tx,.slice ta tm tc]) t:=hphi 6 _ 47 (by decide) rfl rfl
 obtain ⟨g8',e6,f6⟩:FreshV W1 (.pointer (some ⟨g8,0,none⟩)) w2:=hphi 7 _ 8 (by decide) rfl rfl
 cases e6
 clear hphi y0 y1 y2 y3
 obtain ⟨z0,z1,z2,z3⟩:=slot_of f6.2
 have hst:=store_new (P:=P) hw2 f6.1 f6.2 hv2
 obtain ⟨W2,hW2⟩:∃ W,(w2.setCell ⟨g8,0,none⟩ (.int .i64 tx)).setCell ⟨g8,1,none⟩ (.slice ta tm tc)=W:=⟨_,rfl⟩
 have HT2:Hid (VarAt P W2 g8 tx ta tm tc t):=by unfold Hid;rw [←hW2];exact hst.1
 have HG2:Hid (Grows W1 W2):=by unfold Hid;rw [←hW2];exact hst.2
 have hg8:w.heap.size≤g8:=Nat.le_trans (uh HB1) f6.1
 have t0:=(uh HT2).cells.1
 have t1:=(uh HT2).cells.2.1
 clear hst hv2 f6 hw2
 go_wp2_with fail
 try rw [hW2]
 clear hW2 z0 z1 z2 z3
 have HV2:=hide ((uh HV1).grow (uh HG2))
 have HM2:=hide (((uh HM0).grow (uh HG1)).grow (uh HG2))
 have HBB2:Hid (Below B w W2):=Below.mono ((uh HG0).trans ((uh HG1).trans (uh HG2))) (uh hLB)
 clear HV1 HM0 HG0 HG1 HG2 HA1 HV0 HOV HPC HB0 HB1
 refine (Sign_any P _ _ _ (uh HT2).val).mono ?_
 rintro e w3 ⟨rfl,hw3⟩
 have HT3:=hide ((uh HT2).grow hw3)
 have HV3:=hide ((uh HV2).grow hw3)
 have HM3:=hide ((uh HM2).grow hw3)
 have HBB3:Hid (Below B w w3):=(uh HBB2).trans (Below.mono hw3 (Nat.le_trans (uh hLB) (uh HBB2).size))
 have hg6:w.heap.size≤w.heap.size:=Nat.le_refl _
 clear hw3 HT2 HV2 HM2 HBB2 t0 t1
 by_cases hz:t=0
 ·rw [hz]
  have HF:Hid (LatMem P B w3 n b gs gp go cs cp co R (Pl.subRow St k j t) (Pl.shortG G k j t) (shortO Ov k j t (V (j+1))) V):=by
   refine (uh HM3).congr (fun a b _ _=>?_) (fun a b _ _=>?_) (fun a b _ _=>?_) (fun _ _=>rfl)
   ·unfold Pl.subRow;rw [hz];split
    ·rename_i e;rw [e];omega
    ·rfl
   ·unfold Pl.shortG Pl.subCol Pl.subRow;rw [hz];try dsimp only
    split <;> split <;> (try split) <;> simp_all
   ·unfold shortO upd2 partRow;rw [hz];split
    ·rename_i e;rw [e.1,e.2];omega
    ·split
     ·rename_i e;rw [e.1];omega
     ·rfl
  go_wp2
  exact bodyPost_ret (v:=.tuple #[]) (by simp [results,Try.results160,go_sem]) rfl ⟨rfl,uh HF,uh HBB3⟩
 ·obtain ⟨sg,hsg⟩:∃ sg,Int.sign t=sg:=⟨_,rfl⟩
  have hs1:sg≠0:=by rw [←hsg];intro h;exact hz (Int.sign_eq_zero_iff_zero.1 h)
  have d2:(sg == 0)=false:=by simp [hs1]
  rw [hsg]
  obtain ⟨k0,_,_,_⟩:=(uh HM3).cells
  clear hsg hz
  go_wp2_with fail
  go_loopg [9] n (fun q iv wr=>∃ (i:Nat),iv=.int .i64 i∧i+q=n∧Hid (LatMem P B wr n b gs gp go cs cp co R (partRow St k j t i) (partRow G k j t i) Ov V∧VarAt P wr g8 tx ta tm tc t∧VarAt P wr w.heap.size vx va vm vc (V (j+1))∧Below B w wr))
  case atStart=>exact ⟨0,rfl,by omega,(uh HM3).congr (fun a b _ _=>(partRow_zero a b).symm) (fun a b _ _=>(partRow_zero a b).symm) (fun _ _ _ _=>rfl) (fun _ _=>rfl),uh HT3,uh HV3,uh HBB3⟩
  case round =>
   clear k0
   obtain ⟨i,rfl,hik,HR⟩:=hrel
   by_cases hin:i<n
   ·
    have HBB3:Hid (B≤wr.heap.size):=by have h1:=(uh HR).1.base.1;have h2:=lt_of_block (uh HR).1.own;unfold Hid;omega
    obtain ⟨k0,k1,k2,k3⟩:=(uh HR).1.cells
    obtain ⟨s0,px,pa,pm,pc,p0,p1,hp⟩:=(uh HR).1.getS (r:=k) (i:=i) hk hin
    rw [partRow_at (by omega)] at hp
    obtain ⟨s1,qx,qa,qm,qc,q0,q1,hq⟩:=(uh HR).1.getS (r:=j) (i:=i) hj hin
    rw [partRow_at (by omega)] at hq
    have HQ:=hide hq
    clear hq
    have t0:=(uh HR).2.1.cells.1
    have t1:=(uh HR).2.1.cells.2.1
    have HP:=hide hp
    have HPC:=hide (And.intro p0 p1)
    have HBR:Hid (w.heap.size≤wr.heap.size):=(uh HR).2.2.2.size
    clear hp
    go_wp2_with fail
    have y0:=cell_regrown k0
    have y1:=cell_regrown s0
    have y2:=cell_regrown p0
    have y3:=cell_regrown p1
    have y4:=cell_regrown s1
    have y5:=cell_regrown q0
    have y6:=cell_regrown q1
    have y7:=cell_regrown t0
    have y8:=cell_regrown t1
    clear k0 s0 p0 p1 s1 q0 q1 t0 t1
    refine wp_region_grown (phiL [(89,fun v w=>WhAt P w v (St k i - t*St j i))]) (gL [(89,ShapeI)]) 220 31 (by kernel_rfl) (by rfl) (by kernel_rfl) (phi_c (fun _ _ _=>WhAt.below) phi_n) ?_
    iterate 29 (refine lex_s fun K hK=>?_;go_simp;refine hK _ ?_;clear hK K)
    refine lex_call ShapeI 180 #[.agg #[.int .i64 px,.slice pa pm pc],.agg #[.int .i64 tx,.slice ta tm tc],.agg #[.int .i64 qx,.slice qa qm qc]] (by rfl) (by rfl) ShapeI.some (fun w=>by go_simp) (fun wq hg hf=>(less_any P (3*L+6) _ _ _ _ _ _ wq (fun b' hb'=>hP b' (by have h1:=uh HBR;have h2:=hg.size;omega)) ((uh HP).below hg) ((uh HR).2.1.val.below hg) ((uh HQ).below hg) (by omega) ((lst k i hk hin).mono (by omega)) (lt.mono (by omega)) ((lst j i hj hin).mono (by omega)) ((lt.mul (lst j i hj hin)).mono (by omega))).mono (by rintro e w' ⟨v',rfl,hv,hb⟩;exact ⟨_,rfl,hb,hv.shapeI,fun t ht=>by cases ht;exact hv⟩)) ?_
    rintro _ ⟨nx,na,nm,nc,rfl⟩
    (refine lex_s fun K hK=>?_;go_simp;refine hK _ ?_;clear hK K)
    refine lex_last ?_
    intro w3 hw3 hphi
    have hv3:WhAt P w3 (.agg #[.int .i64 nx,.slice na nm nc]) (St k i - t*St j i):=hphi 29 _ 89 (by decide) rfl rfl
    clear hphi y0 y1 y2 y3 y4 y5 y6 y7 y8
    have hM3:=(uh HR).1.grow hw3
    have p0:=Grows.cell hw3 (uh HPC).1
    have p1:=Grows.cell hw3 (uh HPC).2
    have f0:=hM3.free (r:=k) (by omega) (i*2)
    have f1:=hM3.free (r:=k) (by omega) (i*2+1)
    have hrow:=(hM3.fam.rows (k) (by omega)).block
    have HS:=hide (hM3.putS (r:=k) (i:=i) hk hin hv3)
    have HT3:=hide (((uh HR).2.1.grow hw3).put hrow (fun e=>by have:=uh HRL (k) (by omega);omega) (i*2) (i*2+1) (.int .i64 nx) (.slice na nm nc))
    have HV3:=hide (((uh HR).2.2.1.grow hw3).put hrow (fun e=>by have:=uh HRL (k) (by omega);omega) (i*2) (i*2+1) (.int .i64 nx) (.slice na nm nc))
    have HB3:=hide (((uh HR).2.2.2.trans (Below.mono hw3 (uh HBB3))).trans (uh HS).2)
    obtain ⟨W3,hW3⟩:∃ W,(w3.setCell ⟨R (k),i*2,none⟩ (.int .i64 nx)).setCell ⟨R (k),i*2+1,none⟩ (.slice na nm nc)=W:=⟨_,rfl⟩
    rw [hW3] at HS HT3 HV3 HB3
    have HR3:Hid (LatMem P B W3 n b gs gp go cs cp co R (partRow St k j t (i+1)) (partRow G k j t i) Ov V∧VarAt P W3 g8 tx ta tm tc t∧VarAt P W3 w.heap.size vx va vm vc (V (j+1))∧Below B w W3):=⟨(uh HS).1.congr (fun a b _ _=>partRow_set a b) (fun _ _ _ _=>rfl) (fun _ _ _ _=>rfl) (fun _ _=>rfl),uh HT3,uh HV3,uh HB3⟩
    clear hv3 hw3 hM3 hrow HS HT3 HV3 HB3 HP HQ HPC HBR HBB3
    go_wp2_with fail
    try rw [hW3]
    clear hW3 p0 p1 f0 f1
    have HBB3:Hid (B≤W3.heap.size):=by have h1:=(uh HR3).1.base.1;have h2:=lt_of_block (uh HR3).1.own;unfold Hid;omega
    obtain ⟨k0,k1,k2,k3⟩:=(uh HR3).1.cells
    obtain ⟨s0,px,pa,pm,pc,p0,p1,hp⟩:=(uh HR3).1.getP (r:=k) (i:=i) hk hin
    rw [partRow_at (by omega)] at hp
    obtain ⟨s1,qx,qa,qm,qc,q0,q1,hq⟩:=(uh HR3).1.getP (r:=j) (i:=i) hj hin
    rw [partRow_at (by omega)] at hq
    have HQ:=hide hq
    clear hq
    have t0:=(uh HR3).2.1.cells.1
    have t1:=(uh HR3).2.1.cells.2.1
    have HP:=hide hp
    have HPC:=hide (And.intro p0 p1)
    have HBR:Hid (w.heap.size≤W3.heap.size):=(uh HR3).2.2.2.size
    clear hp
    go_wp2_with fail
    have y0:=cell_regrown k1
    have y1:=cell_regrown s0
    have y2:=cell_regrown p0
    have y3:=cell_regrown p1
    have y4:=cell_regrown s1
    have y5:=cell_regrown q0
    have y6:=cell_regrown q1
    have y7:=cell_regrown t0
    have y8:=cell_regrown t1
    clear k1 s0 p0 p1 s1 q0 q1 t0 t1
    refine wp_region_grown (phiL [(120,fun v w=>WhAt P w v (G k i - t*G j i))]) (gL [(120,ShapeI)]) 220 31 (by kernel_rfl) (by rfl) (by kernel_rfl) (phi_c (fun _ _ _=>WhAt.below) phi_n) ?_
    iterate 29 (refine lex_s fun K hK=>?_;go_simp;refine hK _ ?_;clear hK K)
    refine lex_call ShapeI 180 #[.agg #[.int .i64 px,.slice pa pm pc],.agg #[.int .i64 tx,.slice ta tm tc],.agg #[.int .i64 qx,.slice qa qm qc]] (by rfl) (by rfl) ShapeI.some (fun w=>by go_simp) (fun wq hg hf=>(less_any P (3*L+6) _ _ _ _ _ _ wq (fun b' hb'=>hP b' (by have h1:=uh HBR;have h2:=hg.size;omega)) ((uh HP).below hg) ((uh HR3).2.1.val.below hg) ((uh HQ).below hg) (by omega) ((lg k i hk hin).mono (by omega)) (lt.mono (by omega)) ((lg j i hj hin).mono (by omega)) ((lt.mul (lg j i hj hin)).mono (by omega))).mono (by rintro e w' ⟨v',rfl,hv,hb⟩;exact ⟨_,rfl,hb,hv.shapeI,fun t ht=>by cases ht;exact hv⟩)) ?_
    rintro _ ⟨nx,na,nm,nc,rfl⟩
    (refine lex_s fun K hK=>?_;go_simp;refine hK _ ?_;clear hK K)
    refine lex_last ?_
    intro w3 hw3 hphi
    have hv3:WhAt P w3 (.agg #[.int .i64 nx,.slice na nm nc]) (G k i - t*G j i):=hphi 29 _ 120 (by decide) rfl rfl
    clear hphi y0 y1 y2 y3 y4 y5 y6 y7 y8
    have hM3:=(uh HR3).1.grow hw3
    have p0:=Grows.cell hw3 (uh HPC).1
    have p1:=Grows.cell hw3 (uh HPC).2
    have f0:=hM3.free (r:=n+k) (by omega) (i*2)
    have f1:=hM3.free (r:=n+k) (by omega) (i*2+1)
    have hrow:=(hM3.fam.rows (n+k) (by omega)).block
    have HS:=hide (hM3.putP (r:=k) (i:=i) hk hin hv3)
    have HT3:=hide (((uh HR3).2.1.grow hw3).put hrow (fun e=>by have:=uh HRL (n+k) (by omega);omega) (i*2) (i*2+1) (.int .i64 nx) (.slice na nm nc))
    have HV3:=hide (((uh HR3).2.2.1.grow hw3).put hrow (fun e=>by have:=uh HRL (n+k) (by omega);omega) (i*2) (i*2+1) (.int .i64 nx) (.slice na nm nc))
    have HB3:=hide (((uh HR3).2.2.2.trans (Below.mono hw3 (uh HBB3))).trans (uh HS).2)
    obtain ⟨W4,hW4⟩:∃ W,(w3.setCell ⟨R (n+k),i*2,none⟩ (.int .i64 nx)).setCell ⟨R (n+k),i*2+1,none⟩ (.slice na nm nc)=W:=⟨_,rfl⟩
    rw [hW4] at HS HT3 HV3 HB3
    have HR4:Hid (LatMem P B W4 n b gs gp go cs cp co R (partRow St k j t (i+1)) (partRow G k j t (i+1)) Ov V∧VarAt P W4 g8 tx ta tm tc t∧VarAt P W4 w.heap.size vx va vm vc (V (j+1))∧Below B w W4):=⟨(uh HS).1.congr (fun _ _ _ _=>rfl) (fun a b _ _=>partRow_set a b) (fun _ _ _ _=>rfl) (fun _ _=>rfl),uh HT3,uh HV3,uh HB3⟩
    clear hv3 hw3 hM3 hrow HS HT3 HV3 HB3 HP HQ HPC HBR HBB3
    go_wp2
    try rw [hW4]
    clear hW4 p0 p1 f0 f1
    go_roundg (gk - 1)
    case measure=>omega
    case rel=>exact ⟨i+1,by simp,by omega,uh HR4⟩
   ·have hin':i=n:=by omega
    have HR0:Hid (LatMem P B wr n b gs gp go cs cp co R (Pl.subRow St k j t) (partCol (Pl.subRow G k j t) k j t 0) Ov V∧VarAt P wr g8 tx ta tm tc t∧VarAt P wr w.heap.size vx va vm vc (V (j+1))∧Below B w wr):=by
     have h1:=uh HR
     rw [hin'] at h1
     exact ⟨h1.1.congr (fun a b _ hb=>partRow_all hb) (fun a b _ hb=>(partRow_all hb).trans (partCol_zero a b).symm) (fun _ _ _ _=>rfl) (fun _ _=>rfl),h1.2⟩
    clear HR hik hin'
    have lsub:∀ a b,a<n→b<n→Pl.Lt (2*L+2) (Pl.subRow G k j t a b):=fun a b ha hb=>by
     unfold Pl.subRow
     split
     ·exact ((lg k b hk hb).mono (show L≤2*L+1 by omega)).sub ((lt.mul (lg j b hj hb)).mono (by omega))
     ·exact (lg a b ha hb).mono (by omega)
    obtain ⟨WE,hWE⟩:∃ WE,WE=wr:=⟨_,rfl⟩
    subst hWE
    obtain ⟨k0,_,_,_⟩:=(uh HR0).1.cells
    go_wp2_with fail
    go_loopg [10] n (fun q iv wr=>∃ (i:Nat),iv=.int .i64 i∧i+q=n∧Hid (LatMem P B wr n b gs gp go cs cp co R (Pl.subRow St k j t) (partCol (Pl.subRow G k j t) k j t i) Ov V∧VarAt P wr g8 tx ta tm tc t∧VarAt P wr w.heap.size vx va vm vc (V (j+1))∧Below B w wr))
    case atStart=>exact ⟨0,rfl,by omega,uh HR0⟩
    case round =>
     clear k0 HR0
     obtain ⟨i,rfl,hik,HR⟩:=hrel
     by_cases hin:i<n
     ·
      have HBB3:Hid (B≤wr.heap.size):=by have h1:=(uh HR).1.base.1;have h2:=lt_of_block (uh HR).1.own;unfold Hid;omega
      obtain ⟨k0,k1,k2,k3⟩:=(uh HR).1.cells
      obtain ⟨s0,px,pa,pm,pc,p0,p1,hp⟩:=(uh HR).1.getP (r:=i) (i:=k) hin hk
      rw [partCol_at (by omega)] at hp
      obtain ⟨s1,qx,qa,qm,qc,q0,q1,hq⟩:=(uh HR).1.getP (r:=i) (i:=j) hin hj
      rw [partCol_at (by omega)] at hq
      have HQ:=hide hq
      clear hq
      have t0:=(uh HR).2.1.cells.1
      have t1:=(uh HR).2.1.cells.2.1
      have HP:=hide hp
      have HPC:=hide (And.intro p0 p1)
      have HBR:Hid (w.heap.size≤wr.heap.size):=(uh HR).2.2.2.size
      clear hp
      go_wp2_with fail
      have y0:=cell_regrown k1
      have y1:=cell_regrown s0
      have y2:=cell_regrown p0
      have y3:=cell_regrown p1
      have y4:=cell_regrown s1
      have y5:=cell_regrown q0
      have y6:=cell_regrown q1
      have y7:=cell_regrown t0
      have y8:=cell_regrown t1
      clear k1 s0 p0 p1 s1 q0 q1 t0 t1
      refine wp_region_grown (phiL [(160,fun v w=>WhAt P w v (Pl.subRow G k j t i k - t*Pl.subRow G k j t i j))]) (gL [(160,ShapeI)]) 220 31 (by kernel_rfl) (by rfl) (by kernel_rfl) (phi_c (fun _ _ _=>WhAt.below) phi_n) ?_
      iterate 29 (refine lex_s fun K hK=>?_;go_simp;refine hK _ ?_;clear hK K)
      refine lex_call ShapeI 180 #[.agg #[.int .i64 px,.slice pa pm pc],.agg #[.int .i64 tx,.slice ta tm tc],.agg #[.int .i64 qx,.slice qa qm qc]] (by rfl) (by rfl) ShapeI.some (fun w=>by go_simp) (fun wq hg hf=>(less_any P (3*L+6) _ _ _ _ _ _ wq (fun b' hb'=>hP b' (by have h1:=uh HBR;have h2:=hg.size;omega)) ((uh HP).below hg) ((uh HR).2.1.val.below hg) ((uh HQ).below hg) (by omega) ((lsub i k hin hk).mono (by omega)) (lt.mono (by omega)) ((lsub i j hin hj).mono (by omega)) ((lt.mul (lsub i j hin hj)).mono (by omega))).mono (by rintro e w' ⟨v',rfl,hv,hb⟩;exact ⟨_,rfl,hb,hv.shapeI,fun t ht=>by cases ht;exact hv⟩)) ?_
      rintro _ ⟨nx,na,nm,nc,rfl⟩
      (refine lex_s fun K hK=>?_;go_simp;refine hK _ ?_;clear hK K)
      refine lex_last ?_
      intro w3 hw3 hphi
      have hv3:WhAt P w3 (.agg #[.int .i64 nx,.slice na nm nc]) (Pl.subRow G k j t i k - t*Pl.subRow G k j t i j):=hphi 29 _ 160 (by decide) rfl rfl
      clear hphi y0 y1 y2 y3 y4 y5 y6 y7 y8
      have hM3:=(uh HR).1.grow hw3
      have p0:=Grows.cell hw3 (uh HPC).1
      have p1:=Grows.cell hw3 (uh HPC).2
      have f0:=hM3.free (r:=n+i) (by omega) (k*2)
      have f1:=hM3.free (r:=n+i) (by omega) (k*2+1)
      have hrow:=(hM3.fam.rows (n+i) (by omega)).block
      have HS:=hide (hM3.putP (r:=i) (i:=k) hin hk hv3)
      have HT3:=hide (((uh HR).2.1.grow hw3).put hrow (fun e=>by have:=uh HRL (n+i) (by omega);omega) (k*2) (k*2+1) (.int .i64 nx) (.slice na nm nc))
      have HV3:=hide (((uh HR).2.2.1.grow hw3).put hrow (fun e=>by have:=uh HRL (n+i) (by omega);omega) (k*2) (k*2+1) (.int .i64 nx) (.slice na nm nc))
      have HB3:=hide (((uh HR).2.2.2.trans (Below.mono hw3 (uh HBB3))).trans (uh HS).2)
      obtain ⟨W3,hW3⟩:∃ W,(w3.setCell ⟨R (n+i),k*2,none⟩ (.int .i64 nx)).setCell ⟨R (n+i),k*2+1,none⟩ (.slice na nm nc)=W:=⟨_,rfl⟩
      rw [hW3] at HS HT3 HV3 HB3
      have HR3:Hid (LatMem P B W3 n b gs gp go cs cp co R (Pl.subRow St k j t) (partCol (Pl.subRow G k j t) k j t (i+1)) Ov V∧VarAt P W3 g8 tx ta tm tc t∧VarAt P W3 w.heap.size vx va vm vc (V (j+1))∧Below B w W3):=⟨(uh HS).1.congr (fun _ _ _ _=>rfl) (fun a b _ _=>partCol_set a b) (fun _ _ _ _=>rfl) (fun _ _=>rfl),uh HT3,uh HV3,uh HB3⟩
      clear hv3 hw3 hM3 hrow HS HT3 HV3 HB3 HP HQ HPC HBR HBB3
      go_wp2
      try rw [hW3]
      clear hW3 p0 p1 f0 f1
      go_roundg (gk - 1)
      case measure=>omega
      case rel=>exact ⟨i+1,by simp,by omega,uh HR3⟩
     ·have hin':i=n:=by omega
      have HR0:Hid (LatMem P B wr n b gs gp go cs cp co R (Pl.subRow St k j t) (Pl.shortG G k j t) (partRow Ov k j t 0) V∧VarAt P wr g8 tx ta tm tc t∧VarAt P wr w.heap.size vx va vm vc (V (j+1))∧Below B w wr):=by
       have h1:=uh HR
       rw [hin'] at h1
       exact ⟨h1.1.congr (fun _ _ _ _=>rfl) (fun a b ha _=>partCol_all ha) (fun a b _ _=>(partRow_zero a b).symm) (fun _ _=>rfl),h1.2⟩
      clear HR hik hin'
      obtain ⟨WF,hWF⟩:∃ WF,WF=wr:=⟨_,rfl⟩
      subst hWF
      obtain ⟨k0,_,_,_⟩:=(uh HR0).1.cells
      go_wp2_with fail
      go_loopg [11] j (fun q lv wr=>∃ (l:Nat),lv=.int .i64 l∧l+q=j∧Hid (LatMem P B wr n b gs gp go cs cp co R (Pl.subRow St k j t) (Pl.shortG G k j t) (partRow Ov k j t l) V∧VarAt P wr g8 tx ta tm tc t∧VarAt P wr w.heap.size vx va vm vc (V (j+1))∧Below B w wr))
      case atStart=>exact ⟨0,rfl,by omega,uh HR0⟩
      case round =>
       clear k0 HR0
       obtain ⟨l,rfl,hlq,HR⟩:=hrel
       by_cases hlj:l<j
       ·have hln:l<n:=by omega
        have HBB3:Hid (B≤wr.heap.size):=by have h1:=(uh HR).1.base.1;have h2:=lt_of_block (uh HR).1.own;unfold Hid;omega
        obtain ⟨k0,k1,k2,k3⟩:=(uh HR).1.cells
        obtain ⟨s0,px,pa,pm,pc,p0,p1,hp⟩:=(uh HR).1.getO (r:=k) (i:=l) hk hln
        rw [partRow_at (by omega)] at hp
        obtain ⟨s1,qx,qa,qm,qc,q0,q1,hq⟩:=(uh HR).1.getO (r:=j) (i:=l) hj hln
        rw [partRow_at (by omega)] at hq
        have HQ:=hide hq
        clear hq
        have t0:=(uh HR).2.1.cells.1
        have t1:=(uh HR).2.1.cells.2.1
        have HP:=hide hp
        have HPC:=hide (And.intro p0 p1)
        have HBR:Hid (w.heap.size≤wr.heap.size):=(uh HR).2.2.2.size
        clear hp
        go_wp2_with fail
        have y0:=cell_regrown k3
        have y1:=cell_regrown s0
        have y2:=cell_regrown p0
        have y3:=cell_regrown p1
        have y4:=cell_regrown s1
        have y5:=cell_regrown q0
        have y6:=cell_regrown q1
        have y7:=cell_regrown t0
        have y8:=cell_regrown t1
        clear k3 s0 p0 p1 s1 q0 q1 t0 t1
        refine wp_region_grown (phiL [(196,fun v w=>WhAt P w v (Ov k l - t*Ov j l))]) (gL [(196,ShapeI)]) 220 31 (by kernel_rfl) (by rfl) (by kernel_rfl) (phi_c (fun _ _ _=>WhAt.below) phi_n) ?_
        iterate 29 (refine lex_s fun K hK=>?_;go_simp;refine hK _ ?_;clear hK K)
        refine lex_call ShapeI 180 #[.agg #[.int .i64 px,.slice pa pm pc],.agg #[.int .i64 tx,.slice ta tm tc],.agg #[.int .i64 qx,.slice qa qm qc]] (by rfl) (by rfl) ShapeI.some (fun w=>by go_simp) (fun wq hg hf=>(less_any P (3*L+6) _ _ _ _ _ _ wq (fun b' hb'=>hP b' (by have h1:=uh HBR;have h2:=hg.size;omega)) ((uh HP).below hg) ((uh HR).2.1.val.below hg) ((uh HQ).below hg) (by omega) ((lov k l (by omega) hk).mono (by omega)) (lt.mono (by omega)) ((lov j l hlj hj).mono (by omega)) ((lt.mul (lov j l hlj hj)).mono (by omega))).mono (by rintro e w' ⟨v',rfl,hv,hb⟩;exact ⟨_,rfl,hb,hv.shapeI,fun t ht=>by cases ht;exact hv⟩)) ?_
        rintro _ ⟨nx,na,nm,nc,rfl⟩
        (refine lex_s fun K hK=>?_;go_simp;refine hK _ ?_;clear hK K)
        refine lex_last ?_
        intro w3 hw3 hphi
        have hv3:WhAt P w3 (.agg #[.int .i64 nx,.slice na nm nc]) (Ov k l - t*Ov j l):=hphi 29 _ 196 (by decide) rfl rfl
        clear hphi y0 y1 y2 y3 y4 y5 y6 y7 y8
        have hM3:=(uh HR).1.grow hw3
        have p0:=Grows.cell hw3 (uh HPC).1
        have p1:=Grows.cell hw3 (uh HPC).2
        have f0:=hM3.free (r:=2*n+k) (by omega) (l*2)
        have f1:=hM3.free (r:=2*n+k) (by omega) (l*2+1)
        have hrow:=(hM3.fam.rows (2*n+k) (by omega)).block
        have HS:=hide (hM3.putO (r:=k) (i:=l) hk hln hv3)
        have HT3:=hide (((uh HR).2.1.grow hw3).put hrow (fun e=>by have:=uh HRL (2*n+k) (by omega);omega) (l*2) (l*2+1) (.int .i64 nx) (.slice na nm nc))
        have HV3:=hide (((uh HR).2.2.1.grow hw3).put hrow (fun e=>by have:=uh HRL (2*n+k) (by omega);omega) (l*2) (l*2+1) (.int .i64 nx) (.slice na nm nc))
        have HB3:=hide (((uh HR).2.2.2.trans (Below.mono hw3 (uh HBB3))).trans (uh HS).2)
        obtain ⟨W3,hW3⟩:∃ W,(w3.setCell ⟨R (2*n+k),l*2,none⟩ (.int .i64 nx)).setCell ⟨R (2*n+k),l*2+1,none⟩ (.slice na nm nc)=W:=⟨_,rfl⟩
        rw [hW3] at HS HT3 HV3 HB3
        have HR3:Hid (LatMem P B W3 n b gs gp go cs cp co R (Pl.subRow St k j t) (Pl.shortG G k j t) (partRow Ov k j t (l+1)) V∧VarAt P W3 g8 tx ta tm tc t∧VarAt P W3 w.heap.size vx va vm vc (V (j+1))∧Below B w W3):=⟨(uh HS).1.congr (fun _ _ _ _=>rfl) (fun _ _ _ _=>rfl) (fun a b _ _=>partRow_set a b) (fun _ _=>rfl),uh HT3,uh HV3,uh HB3⟩
        clear hv3 hw3 hM3 hrow HS HT3 HV3 HB3 HP HQ HPC HBR HBB3
        go_wp2
        try rw [hW3]
        clear hW3 p0 p1 f0 f1
        go_roundg (gk - 1)
        case measure=>omega
        case rel=>exact ⟨l+1,by simp,by omega,uh HR3⟩
       ·have hlj':l=j:=by omega
        subst hlj'
        have HBB3:Hid (B≤wr.heap.size):=by have h1:=(uh HR).1.base.1;have h2:=lt_of_block (uh HR).1.own;unfold Hid;omega
        obtain ⟨k0,k1,k2,k3⟩:=(uh HR).1.cells
        obtain ⟨s0,px,pa,pm,pc,p0,p1,hp⟩:=(uh HR).1.getO (r:=k) (i:=l) hk hj
        rw [partRow_at (by omega)] at hp
        have q0:=(uh HR).2.2.1.cells.1
        have q1:=(uh HR).2.2.1.cells.2.1
        have HQ:=hide (uh HR).2.2.1.val
        have t0:=(uh HR).2.1.cells.1
        have t1:=(uh HR).2.1.cells.2.1
        have HP:=hide hp
        have HPC:=hide (And.intro p0 p1)
        have HBR:Hid (w.heap.size≤wr.heap.size):=(uh HR).2.2.2.size
        clear hp
        go_wp2_with fail
        have y0:=cell_regrown k3
        have y1:=cell_regrown s0
        have y2:=cell_regrown p0
        have y3:=cell_regrown p1
        have y4:=cell_regrown q0
        have y5:=cell_regrown q1
        have y6:=cell_regrown t0
        have y7:=cell_regrown t1
        clear k3 s0 p0 p1 q0 q1 t0 t1
        refine wp_region_grown (phiL [(218,fun v w=>WhAt P w v (Ov k l - t*V (l+1)))]) (gL [(218,ShapeI)]) 220 22 (by kernel_rfl) (by rfl) (by kernel_rfl) (phi_c (fun _ _ _=>WhAt.below) phi_n) ?_
        iterate 20 (refine lex_s fun K hK=>?_;go_simp;refine hK _ ?_;clear hK K)
        refine lex_call ShapeI 180 #[.agg #[.int .i64 px,.slice pa pm pc],.agg #[.int .i64 tx,.slice ta tm tc],.agg #[.int .i64 vx,.slice va vm vc]] (by rfl) (by rfl) ShapeI.some (fun w=>by go_simp) (fun wq hg hf=>(less_any P (3*L+6) _ _ _ _ _ _ wq (fun b' hb'=>hP b' (by have h1:=uh HBR;have h2:=hg.size;omega)) ((uh HP).below hg) ((uh HR).2.1.val.below hg) ((uh HQ).below hg) (by omega) (lo.mono (by omega)) (lt.mono (by omega)) (lv.mono (by omega)) ((lt.mul lv).mono (by omega))).mono (by rintro e w' ⟨v',rfl,hv,hb⟩;exact ⟨_,rfl,hb,hv.shapeI,fun t ht=>by cases ht;exact hv⟩)) ?_
        rintro _ ⟨nx,na,nm,nc,rfl⟩
        (refine lex_s fun K hK=>?_;go_simp;refine hK _ ?_;clear hK K)
        refine lex_last ?_
        intro w3 hw3 hphi
        have hv3:WhAt P w3 (.agg #[.int .i64 nx,.slice na nm nc]) (Ov k l - t*V (l+1)):=hphi 20 _ 218 (by decide) rfl rfl
        clear hphi y0 y1 y2 y3 y4 y5 y6 y7
        have hM3:=(uh HR).1.grow hw3
        have p0:=Grows.cell hw3 (uh HPC).1
        have p1:=Grows.cell hw3 (uh HPC).2
        have f0:=hM3.free (r:=2*n+k) (by omega) (l*2)
        have f1:=hM3.free (r:=2*n+k) (by omega) (l*2+1)
        have hrow:=(hM3.fam.rows (2*n+k) (by omega)).block
        have HS:=hide (hM3.putO (r:=k) (i:=l) hk hj hv3)
        have HT3:=hide (((uh HR).2.1.grow hw3).put hrow (fun e=>by have:=uh HRL (2*n+k) (by omega);omega) (l*2) (l*2+1) (.int .i64 nx) (.slice na nm nc))
        have HV3:=hide (((uh HR).2.2.1.grow hw3).put hrow (fun e=>by have:=uh HRL (2*n+k) (by omega);omega) (l*2) (l*2+1) (.int .i64 nx) (.slice na nm nc))
        have HB3:=hide (((uh HR).2.2.2.trans (Below.mono hw3 (uh HBB3))).trans (uh HS).2)
        obtain ⟨W3,hW3⟩:∃ W,(w3.setCell ⟨R (2*n+k),l*2,none⟩ (.int .i64 nx)).setCell ⟨R (2*n+k),l*2+1,none⟩ (.slice na nm nc)=W:=⟨_,rfl⟩
        rw [hW3] at HS HT3 HV3 HB3
        have HR3:Hid (LatMem P B W3 n b gs gp go cs cp co R (Pl.subRow St k l t) (Pl.shortG G k l t) (shortO Ov k l t (V (l+1))) V∧VarAt P W3 g8 tx ta tm tc t∧VarAt P W3 w.heap.size vx va vm vc (V (l+1))∧Below B w W3):=⟨(uh HS).1.congr (fun _ _ _ _=>rfl) (fun _ _ _ _=>rfl) (fun _ _ _ _=>rfl) (fun _ _=>rfl),uh HT3,uh HV3,uh HB3⟩
        clear hv3 hw3 hM3 hrow HS HT3 HV3 HB3 HP HQ HPC HBR HBB3
        go_wp2
        try rw [hW3]
        clear hW3 p0 p1 f0 f1
        go_end0
        exact ⟨rfl,(uh HR3).1,(uh HR3).2.2.2⟩
end Go.Proofs.Ytfaljekgpnbmiaa
