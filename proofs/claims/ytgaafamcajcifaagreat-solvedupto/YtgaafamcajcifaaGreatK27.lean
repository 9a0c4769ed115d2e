/- Joined: XLat11. -/
import Derived.Test.YtgaafamcajcifaaGreatK26
set_option linter.unusedVariables false
set_option linter.unusedSimpArgs false
set_option maxRecDepth 100000
namespace Go.Proofs.YtgaafamcajcifaaGreat
open Go.RowKit Go.Sort
theorem bB.put {P:Nat->Prop} {w:World} {g:Nat} {x:Int} {a:Option Addr} {m c:Nat} {n:Int} (h:bB P w g x a m c n) {k:Nat} (hk:∃ cs,w.heap[k]?=some (.cells cs 78 (0,0))) (hne:g≠k) (o1 o2:Nat) (u1 u2:Value):bB P ((w.setCell ⟨k,o1,none⟩ u1).setCell ⟨k,o2,none⟩ u2) g x a m c n:=by
 obtain ⟨cs,hcs⟩:=hk;exact ⟨(l_ _ _ _ _ hne).trans ((l_ _ _ _ _ hne).trans h.heap),(h.val.bW (aA.setCell hcs (by decide) _ _)).bW (aA.setCell (j_ w k o1 _ _ u1 hcs) (by decide) _ _)⟩
def gK (F:Nat->Nat->Int) (k j:Nat) (t:Int) (i a b:Nat):Int:=if a=k∧b<i then F k b - t*F j b else F a b
def nP (F:Nat->Nat->Int) (k j:Nat) (t:Int) (i a b:Nat):Int:=if b=k∧a<i then F a k - t*F a j else F a b
section
variable {F:Nat->Nat->Int} {k j i:Nat} {t:Int}
theorem tH (a b:Nat):gK F k j t 0 a b=F a b:=g_ (by omega)
theorem lJ {a b:Nat} (h:¬ (a=k∧b<i)):gK F k j t i a b=F a b:=g_ h
theorem uU (a b:Nat):lK (gK F k j t i) k i (F k i - t*F j i) a b=gK F k j t (i+1) a b:=by
 unfold lK gK;by_cases h1:a=k∧b=i
 ·rw [h_ h1,h_ (by omega),h1.2]
 ·rw [g_ h1];by_cases h2:a=k∧b<i
  ·rw [h_ h2,h_ (by omega)]
  ·rw [g_ h2,g_ (by omega)]
theorem Al {n a b:Nat} (hb:b<n):gK F k j t n a b=Pl.bE F k j t a b:=by
 unfold gK Pl.bE;by_cases h:a=k
 ·rw [h_ ⟨h,hb⟩,h_ h]
 ·rw [g_ (λe=>h e.1),g_ h]
theorem FE (a b:Nat):nP F k j t 0 a b=F a b:=g_ (by omega)
theorem Cu {a b:Nat} (h:¬ (b=k∧a<i)):nP F k j t i a b=F a b:=g_ h
theorem GZ (a b:Nat):lK (nP F k j t i) i k (F i k - t*F i j) a b=nP F k j t (i+1) a b:=by
 unfold lK nP;by_cases h1:a=i∧b=k
 ·rw [h_ h1,h_ (by omega),h1.1]
 ·rw [g_ h1];by_cases h2:b=k∧a<i
  ·rw [h_ h2,h_ (by omega)]
  ·rw [g_ h2,g_ (by omega)]
theorem G5 {n a b:Nat} (ha:a<n):nP F k j t n a b=Pl.uV F k j t a b:=by
 unfold nP Pl.uV;by_cases h:b=k
 ·rw [h_ ⟨h,ha⟩,h_ h]
 ·rw [g_ (λe=>h e.1),g_ h]
end
def xD (Ov:Nat->Nat->Int) (k j:Nat) (t v:Int) (a b:Nat):Int:=lK (gK Ov k j t j) k j (Ov k j - t*v) a b
attribute [local go_sem] bD
set_option maxHeartbeats 4000000 in
theorem G6 (P:Nat->Prop) (B L n k j b gs gp go cs cp co:Nat) (R:Nat->Nat) (St G Ov:Nat->Nat->Int) (V:Nat->Int) (t:Int) (w:World) (hP:∀ b,w.heap.size<=b->P b) (h:bf P B w n b gs gp go cs cp co R St G Ov V) (hjk:j<k) (hk:k<n) (hn:n<=100) (hte:Int.fdiv (Ov k j+Ov k j+V (j+1)) (V (j+1)+V (j+1))=t)
  (lo:Pl.Lt L (Ov k j)) (lv:Pl.Lt L (V (j+1))) (lt:Pl.Lt (L+1) t) (Rn:∀ a b,a<n->b<n->Pl.Lt L (St a b)) (lg:∀ a b,a<n->b<n->Pl.Lt L (G a b)) (Yv:∀ a b,b<a->a<n->Pl.Lt L (Ov a b)) (hK:3*L+6<=1500000000000) :
  Calls Tryz.prog 94 #[.pointer (some ⟨b,0,none⟩),.int .i64 k,.int .i64 j] w λe w'=>e=.returned (.tuple #[])∧bf P B w' n b gs gp go cs cp co R (Pl.bE St k j t) (Pl.dK G k j t) (xD Ov k j t (V (j+1))) V∧Below B w w':=by
 have hj:j<n:=by omega
 have hLB:Hid (B<=w.heap.size):=by have h1:=h.base.1;have h2:=z_ h.own;unfold Hid;omega
 have HTE:=af hte;have FH:Hid (∀ r,r<3*n+1->R r<w.heap.size):=λr hr=>(h.oL.rows r hr).lt;obtain ⟨_,_,k2,k3⟩:=h.cells;obtain ⟨vx,va,vm,vc,v0,v1,hv⟩:=h.JO (i:=j+1) (by omega);have zO:=af (dC hv);have xV:=af (ae.alloc w (.cells #[.int .i64 vx,.slice va vm vc] 78));obtain ⟨o0,px,pa,pm,pc,p0,p1,hov⟩:=h.GY (r:=k) (i:=j) hk hj;have Xo:=af (hov.below (uh xV));have HM0:=af (h.grow (uh xV));have HB0:Hid (w.heap.size<=(w.alloc (.cells #[.int .i64 vx,.slice va vm vc] 78)).heap.size):=(uh xV).size;have xE:=af (x_ ((uh xV).cell o0) (x_ ((uh xV).cell p0) (x_ ((uh xV).cell p1) ((uh xV).cell k3))));have w1':IntKind.i64.wrap ((j:Int)+1)=(j:Int)+1:=by rw [aaA];omega
 have t1':((j:Int)+1).toNat=j+1:=by omega
 have l1':(j:Int)+1<(n:Int)+1:=by omega
 have l2':0<=(j:Int)+1:=by omega
 clear hv hov h hte;go_enter Tryz.func94,Tryz.ntmps94;go_wp2_with fail;generalize hW0:w.alloc (.cells #[.int .i64 vx,.slice va vm vc] 78)=W0 at *
 clear hW0 v0 v1 k2 k3 o0 p0 p1;have k3:=(uh xE).2.2.2;have o0:=(uh xE).1;have p0:=(uh xE).2.1;have p1:=(uh xE).2.2.1;have y0:=b_ k3;have y1:=b_ o0;have y2:=b_ p0;have y3:=b_ p1;clear k3 o0 p0 p1;refine ah (bZ [(40,λv w=>aj P w v (Ov k j+Ov k j)),(7,bg W0)]) (gL [(40,ag),(7,bL)]) 220 22 (by kernel_rfl) (by rfl) (by kernel_rfl) (aN (λ_ _ _=>aj.below) (aN (λ_ _ _=>bg.grow) cK)) ?_
 iterate 20 (refine aO λK hK=>?_;go_simp;refine hK _ ?_;clear hK K)
 refine ai ag 55 #[.agg #[.int .i64 px,.slice pa pm pc],.agg #[.int .i64 px,.slice pa pm pc]] (by rfl) (by rfl) ag.some (λw=>by go_simp) (λwq hg hf=>(gZ P L (Ov k j) (Ov k j) _ _ wq (λb' hb'=>hP b' (by have h1:=uh HB0;have h2:=hg.size;omega)) ((uh Xo).below hg) ((uh Xo).below hg) (by omega) lo lo).mono (by rintro e w' ⟨v',rfl,hv,hb⟩;exact ⟨_,rfl,hb,hv.aU,λt ht=>by cases ht;exact hv⟩)) ?_;rintro _ ⟨ax,aa,am,ac,rfl⟩;refine eO bL (by rfl) (by rfl) bL.some (λwq hg hf=>⟨.pointer (some ⟨wq.heap.size,0,none⟩),wq.alloc (.cells #[.int .i64 0,.slice none 0 0] 78),by go_simp,ae.alloc _ _,⟨_,rfl⟩,λt ht=>by cases ht;exact bg.new hg⟩) ?_;rintro _ ⟨g7,rfl⟩;refine aF ?_;intro w1 hw1 aK;have hv1:aj P w1 (.agg #[.int .i64 ax,.slice aa am ac]) (Ov k j+Ov k j):=aK 20 _ 40 (by decide) rfl rfl;obtain ⟨g7',e6,f6⟩:bg W0 (.pointer (some ⟨g7,0,none⟩)) w1:=aK 21 _ 7 (by decide) rfl rfl;cases e6;clear aK y0 y1 y2 y3;obtain ⟨z0,z1,z2,z3⟩:=fT f6.2;have hst:=bH (P:=P) hw1 f6.1 f6.2 hv1;obtain ⟨W1,hW1⟩:∃ W,(w1.setCell ⟨g7,0,none⟩ (.int .i64 ax)).setCell ⟨g7,1,none⟩ (.slice aa am ac)=W:=⟨_,rfl⟩;have HA1:Hid (bB P W1 g7 ax aa am ac (Ov k j+Ov k j)):=by unfold Hid;rw [<-hW1];exact hst.1
 have dN:Hid (ae W0 W1):=by unfold Hid;rw [<-hW1];exact hst.2
 clear hst hv1 f6 hw1;go_wp2_with fail
 try rw [hW1]
 clear hW1 z0 z1 z2 z3;have wP:=af ((uh zO).grow (uh dN));have HB1:Hid (w.heap.size<=W1.heap.size):=w_ (uh HB0) (uh dN).size;have v0:=(uh wP).cells.1;have v1:=(uh wP).cells.2.1;have a0:=(uh HA1).cells.1;have a1:=(uh HA1).cells.2.1;go_wp2_with fail;have y0:=b_ a0;have y1:=b_ a1;have y2:=b_ v0;have y3:=b_ v1;clear a0 a1 v0 v1;refine ah (bZ [(43,λv w=>aj P w v (Ov k j+Ov k j+V (j+1))),(46,λv w=>aj P w v (V (j+1)+V (j+1))),(47,λv w=>aj P w v t),(8,bg W1)]) (gL [(43,ag),(46,ag),(47,ag),(8,bL)]) 220 8 (by kernel_rfl) (by rfl) (by kernel_rfl) (aN (λ_ _ _=>aj.below) (aN (λ_ _ _=>aj.below) (aN (λ_ _ _=>aj.below) (aN (λ_ _ _=>bg.grow) cK)))) ?_
 iterate 2 (refine aO λK hK=>?_;go_simp;refine hK _ ?_;clear hK K)
 refine ai ag 55 #[.agg #[.int .i64 ax,.slice aa am ac],.agg #[.int .i64 vx,.slice va vm vc]] (by rfl) (by rfl) ag.some (λw=>by go_simp) (λwq hg hf=>(gZ P (L+1) _ _ _ _ wq (λb' hb'=>hP b' (by have h1:=uh HB1;have h2:=hg.size;omega)) ((uh HA1).val.below hg) ((uh wP).val.below hg) (by omega) ((lo.add lo).mono (by omega)) (lv.mono (by omega))).mono (by rintro e w' ⟨v',rfl,hv,hb⟩;exact ⟨_,rfl,hb,hv.aU,λt ht=>by cases ht;exact hv⟩)) ?_;rintro _ ⟨cx,ca,cm,cc,rfl⟩
 iterate 2 (refine aO λK hK=>?_;go_simp;refine hK _ ?_;clear hK K)
 refine ai ag 55 #[.agg #[.int .i64 vx,.slice va vm vc],.agg #[.int .i64 vx,.slice va vm vc]] (by rfl) (by rfl) ag.some (λw=>by go_simp) (λwq hg hf=>(gZ P (L+1) _ _ _ _ wq (λb' hb'=>hP b' (by have h1:=uh HB1;have h2:=hg.size;omega)) ((uh wP).val.below hg) ((uh wP).val.below hg) (by omega) (lv.mono (by omega)) (lv.mono (by omega))).mono (by rintro e w' ⟨v',rfl,hv,hb⟩;exact ⟨_,rfl,hb,hv.aU,λt ht=>by cases ht;exact hv⟩)) ?_;rintro _ ⟨dx,da,dm,dc,rfl⟩;refine ai ag 56 #[.agg #[.int .i64 cx,.slice ca cm cc],.agg #[.int .i64 dx,.slice da dm dc]] (by rfl) (by rfl) ag.some (λw=>by go_simp) (λwq hg hf=>(lu P (L+2) _ _ _ _ wq (λb' hb'=>hP b' (by have h1:=uh HB1;have h2:=hg.size;omega)) (hf 2 (by kernel_rfl) _ 43 rfl rfl) (hf 5 (by kernel_rfl) _ 46 rfl rfl) (by omega) (((lo.add lo).add (lv.mono (by omega))).mono (by omega)) ((lv.add lv).mono (by omega))).mono (by rintro e w' ⟨v',rfl,hv,hb⟩;rw [uh HTE] at hv;exact ⟨_,rfl,hb,hv.aU,λt ht=>by cases ht;exact hv⟩)) ?_;rintro _ ⟨tx,ta,tm,tc,rfl⟩;refine eO bL (by rfl) (by rfl) bL.some (λwq hg hf=>⟨.pointer (some ⟨wq.heap.size,0,none⟩),wq.alloc (.cells #[.int .i64 0,.slice none 0 0] 78),by go_simp,ae.alloc _ _,⟨_,rfl⟩,λt ht=>by cases ht;exact bg.new hg⟩) ?_;rintro _ ⟨g8,rfl⟩;refine aF ?_;intro w2 hw2 aK;have hv2:aj P w2 (.agg #[.int .i64 tx,.slice ta tm tc]) t:=aK 6 _ 47 (by decide) rfl rfl;obtain ⟨g8',e6,f6⟩:bg W1 (.pointer (some ⟨g8,0,none⟩)) w2:=aK 7 _ 8 (by decide) rfl rfl;cases e6;clear aK y0 y1 y2 y3;obtain ⟨z0,z1,z2,z3⟩:=fT f6.2;have hst:=bH (P:=P) hw2 f6.1 f6.2 hv2;obtain ⟨W2,hW2⟩:∃ W,(w2.setCell ⟨g8,0,none⟩ (.int .i64 tx)).setCell ⟨g8,1,none⟩ (.slice ta tm tc)=W:=⟨_,rfl⟩;have HT2:Hid (bB P W2 g8 tx ta tm tc t):=by unfold Hid;rw [<-hW2];exact hst.1
 have HG2:Hid (ae W1 W2):=by unfold Hid;rw [<-hW2];exact hst.2
 have Dt:w.heap.size<=g8:=w_ (uh HB1) f6.1;have t0:=(uh HT2).cells.1;have t1:=(uh HT2).cells.2.1;clear hst hv2 f6 hw2;go_wp2_with fail
 try rw [hW2]
 clear hW2 z0 z1 z2 z3;have GV:=af ((uh wP).grow (uh HG2));have Fb:=af (((uh HM0).grow (uh dN)).grow (uh HG2));have VB:Hid (Below B w W2):=aam ((uh xV).trans ((uh dN).trans (uh HG2))) (uh hLB);clear wP HM0 xV dN HG2 HA1 zO Xo xE HB0 HB1;refine (bY P _ _ _ (uh HT2).val).mono ?_;rintro e w3 ⟨rfl,hw3⟩;have HT3:=af ((uh HT2).grow hw3);have wS:=af ((uh GV).grow hw3);have I5:=af ((uh Fb).grow hw3);have uW:Hid (Below B w w3):=(uh VB).trans (aam hw3 (w_ (uh hLB) (uh VB).size));have rH:w.heap.size<=w.heap.size:=d_ _;clear hw3 HT2 GV Fb VB t0 t1;by_cases hz:t=0
 ·rw [hz];have HF:Hid (bf P B w3 n b gs gp go cs cp co R (Pl.bE St k j t) (Pl.dK G k j t) (xD Ov k j t (V (j+1))) V):=by
   refine (uh I5).congr (λa b _ _=>?_) (λa b _ _=>?_) (λa b _ _=>?_) (λ_ _=>rfl)
   ·unfold Pl.bE;rw [hz];split
    ·rename_i e;rw [e];omega
    ·rfl
   ·unfold Pl.dK Pl.uV Pl.bE;rw [hz];try dsimp only
    split <;> split <;> (try split) <;> simp_all
   ·unfold xD lK gK;rw [hz];split
    ·rename_i e;rw [e.1,e.2];omega
    ·split
     ·rename_i e;rw [e.1];omega
     ·rfl
  go_wp2;exact t_ (v:=.tuple #[]) (by simp [results,Tryz.results94,go_sem]) rfl ⟨rfl,uh HF,uh uW⟩
 ·obtain ⟨sg,hsg⟩:∃ sg,Int.sign t=sg:=⟨_,rfl⟩;have hs1:sg≠0:=by rw [<-hsg];intro h;exact hz (abe.1 h)
  have d2:(sg == 0)=false:=by simp [hs1]
  rw [hsg];obtain ⟨k0,_,_,_⟩:=(uh I5).cells;clear hsg hz;go_wp2_with fail;go_loopg [9] n (λq iv wr=>∃ (i:Nat),iv=.int .i64 i∧i+q=n∧Hid (bf P B wr n b gs gp go cs cp co R (gK St k j t i) (gK G k j t i) Ov V∧bB P wr g8 tx ta tm tc t∧bB P wr w.heap.size vx va vm vc (V (j+1))∧Below B w wr))
  case atStart=>exact ⟨0,rfl,by omega,(uh I5).congr (λa b _ _=>(tH a b).symm) (λa b _ _=>(tH a b).symm) (λ_ _ _ _=>rfl) (λ_ _=>rfl),uh HT3,uh wS,uh uW⟩
  case round =>
   clear k0;obtain ⟨i,rfl,hik,HR⟩:=hrel;by_cases hin:i<n
   ·
    have uW:Hid (B<=wr.heap.size):=by have h1:=(uh HR).1.base.1;have h2:=z_ (uh HR).1.own;unfold Hid;omega
    obtain ⟨k0,k1,k2,k3⟩:=(uh HR).1.cells;obtain ⟨s0,px,pa,pm,pc,p0,p1,hp⟩:=(uh HR).1.R9 (r:=k) (i:=i) hk hin;rw [lJ (by omega)] at hp;obtain ⟨s1,qx,qa,qm,qc,q0,q1,hq⟩:=(uh HR).1.R9 (r:=j) (i:=i) hj hin;rw [lJ (by omega)] at hq;have HQ:=af hq;clear hq;have t0:=(uh HR).2.1.cells.1;have t1:=(uh HR).2.1.cells.2.1;have HP:=af hp;have xE:=af (x_ p0 p1);have K3:Hid (w.heap.size<=wr.heap.size):=(uh HR).2.2.2.size;clear hp;go_wp2_with fail;have y0:=b_ k0;have y1:=b_ s0;have y2:=b_ p0;have y3:=b_ p1;have y4:=b_ s1;have y5:=b_ q0;have y6:=b_ q1;have y7:=b_ t0;have y8:=b_ t1;clear k0 s0 p0 p1 s1 q0 q1 t0 t1;refine ah (bZ [(89,λv w=>aj P w v (St k i - t*St j i))]) (gL [(89,ag)]) 220 31 (by kernel_rfl) (by rfl) (by kernel_rfl) (aN (λ_ _ _=>aj.below) cK) ?_
    iterate 29 (refine aO λK hK=>?_;go_simp;refine hK _ ?_;clear hK K)
    refine ai ag 107 #[.agg #[.int .i64 px,.slice pa pm pc],.agg #[.int .i64 tx,.slice ta tm tc],.agg #[.int .i64 qx,.slice qa qm qc]] (by rfl) (by rfl) ag.some (λw=>by go_simp) (λwq hg hf=>(uX P (3*L+6) _ _ _ _ _ _ wq (λb' hb'=>hP b' (by have h1:=uh K3;have h2:=hg.size;omega)) ((uh HP).below hg) ((uh HR).2.1.val.below hg) ((uh HQ).below hg) (by omega) ((Rn k i hk hin).mono (by omega)) (lt.mono (by omega)) ((Rn j i hj hin).mono (by omega)) ((lt.mul (Rn j i hj hin)).mono (by omega))).mono (by rintro e w' ⟨v',rfl,hv,hb⟩;exact ⟨_,rfl,hb,hv.aU,λt ht=>by cases ht;exact hv⟩)) ?_;rintro _ ⟨nx,na,nm,nc,rfl⟩
    (refine aO λK hK=>?_;go_simp;refine hK _ ?_;clear hK K)
    refine aF ?_;intro w3 hw3 aK;have hv3:aj P w3 (.agg #[.int .i64 nx,.slice na nm nc]) (St k i - t*St j i):=aK 29 _ 89 (by decide) rfl rfl;clear aK y0 y1 y2 y3 y4 y5 y6 y7 y8;have wT:=(uh HR).1.grow hw3;have p0:=ae.cell hw3 (uh xE).1;have p1:=ae.cell hw3 (uh xE).2;have f0:=wT.free (r:=k) (by omega) (i*2);have f1:=wT.free (r:=k) (by omega) (i*2+1);have hrow:=(wT.oL.rows (k) (by omega)).block;have HS:=af (wT.acA (r:=k) (i:=i) hk hin hv3);have HT3:=af (((uh HR).2.1.grow hw3).put hrow (λe=>by have:=uh FH (k) (by omega);omega) (i*2) (i*2+1) (.int .i64 nx) (.slice na nm nc));have wS:=af (((uh HR).2.2.1.grow hw3).put hrow (λe=>by have:=uh FH (k) (by omega);omega) (i*2) (i*2+1) (.int .i64 nx) (.slice na nm nc));have HB3:=af (((uh HR).2.2.2.trans (aam hw3 (uh uW))).trans (uh HS).2);obtain ⟨W3,hW3⟩:∃ W,(w3.setCell ⟨R (k),i*2,none⟩ (.int .i64 nx)).setCell ⟨R (k),i*2+1,none⟩ (.slice na nm nc)=W:=⟨_,rfl⟩;rw [hW3] at HS HT3 wS HB3;have HR3:Hid (bf P B W3 n b gs gp go cs cp co R (gK St k j t (i+1)) (gK G k j t i) Ov V∧bB P W3 g8 tx ta tm tc t∧bB P W3 w.heap.size vx va vm vc (V (j+1))∧Below B w W3):=⟨(uh HS).1.congr (λa b _ _=>uU a b) (λ_ _ _ _=>rfl) (λ_ _ _ _=>rfl) (λ_ _=>rfl),uh HT3,uh wS,uh HB3⟩;clear hv3 hw3 wT hrow HS HT3 wS HB3 HP HQ xE K3 uW;go_wp2_with fail
    try rw [hW3]
    clear hW3 p0 p1 f0 f1;have uW:Hid (B<=W3.heap.size):=by have h1:=(uh HR3).1.base.1;have h2:=z_ (uh HR3).1.own;unfold Hid;omega
    obtain ⟨k0,k1,k2,k3⟩:=(uh HR3).1.cells;obtain ⟨s0,px,pa,pm,pc,p0,p1,hp⟩:=(uh HR3).1.DV (r:=k) (i:=i) hk hin;rw [lJ (by omega)] at hp;obtain ⟨s1,qx,qa,qm,qc,q0,q1,hq⟩:=(uh HR3).1.DV (r:=j) (i:=i) hj hin;rw [lJ (by omega)] at hq;have HQ:=af hq;clear hq;have t0:=(uh HR3).2.1.cells.1;have t1:=(uh HR3).2.1.cells.2.1;have HP:=af hp;have xE:=af (x_ p0 p1);have K3:Hid (w.heap.size<=W3.heap.size):=(uh HR3).2.2.2.size;clear hp;go_wp2_with fail;have y0:=b_ k1;have y1:=b_ s0;have y2:=b_ p0;have y3:=b_ p1;have y4:=b_ s1;have y5:=b_ q0;have y6:=b_ q1;have y7:=b_ t0;have y8:=b_ t1;clear k1 s0 p0 p1 s1 q0 q1 t0 t1;refine ah (bZ [(120,λv w=>aj P w v (G k i - t*G j i))]) (gL [(120,ag)]) 220 31 (by kernel_rfl) (by rfl) (by kernel_rfl) (aN (λ_ _ _=>aj.below) cK) ?_
    iterate 29 (refine aO λK hK=>?_;go_simp;refine hK _ ?_;clear hK K)
    refine ai ag 107 #[.agg #[.int .i64 px,.slice pa pm pc],.agg #[.int .i64 tx,.slice ta tm tc],.agg #[.int .i64 qx,.slice qa qm qc]] (by rfl) (by rfl) ag.some (λw=>by go_simp) (λwq hg hf=>(uX P (3*L+6) _ _ _ _ _ _ wq (λb' hb'=>hP b' (by have h1:=uh K3;have h2:=hg.size;omega)) ((uh HP).below hg) ((uh HR3).2.1.val.below hg) ((uh HQ).below hg) (by omega) ((lg k i hk hin).mono (by omega)) (lt.mono (by omega)) ((lg j i hj hin).mono (by omega)) ((lt.mul (lg j i hj hin)).mono (by omega))).mono (by rintro e w' ⟨v',rfl,hv,hb⟩;exact ⟨_,rfl,hb,hv.aU,λt ht=>by cases ht;exact hv⟩)) ?_;rintro _ ⟨nx,na,nm,nc,rfl⟩
    (refine aO λK hK=>?_;go_simp;refine hK _ ?_;clear hK K)
    refine aF ?_;intro w3 hw3 aK;have hv3:aj P w3 (.agg #[.int .i64 nx,.slice na nm nc]) (G k i - t*G j i):=aK 29 _ 120 (by decide) rfl rfl;clear aK y0 y1 y2 y3 y4 y5 y6 y7 y8;have wT:=(uh HR3).1.grow hw3;have p0:=ae.cell hw3 (uh xE).1;have p1:=ae.cell hw3 (uh xE).2;have f0:=wT.free (r:=n+k) (by omega) (i*2);have f1:=wT.free (r:=n+k) (by omega) (i*2+1);have hrow:=(wT.oL.rows (n+k) (by omega)).block;have HS:=af (wT.Sa (r:=k) (i:=i) hk hin hv3);have HT3:=af (((uh HR3).2.1.grow hw3).put hrow (λe=>by have:=uh FH (n+k) (by omega);omega) (i*2) (i*2+1) (.int .i64 nx) (.slice na nm nc));have wS:=af (((uh HR3).2.2.1.grow hw3).put hrow (λe=>by have:=uh FH (n+k) (by omega);omega) (i*2) (i*2+1) (.int .i64 nx) (.slice na nm nc));have HB3:=af (((uh HR3).2.2.2.trans (aam hw3 (uh uW))).trans (uh HS).2);obtain ⟨W4,xX⟩:∃ W,(w3.setCell ⟨R (n+k),i*2,none⟩ (.int .i64 nx)).setCell ⟨R (n+k),i*2+1,none⟩ (.slice na nm nc)=W:=⟨_,rfl⟩;rw [xX] at HS HT3 wS HB3;have HR4:Hid (bf P B W4 n b gs gp go cs cp co R (gK St k j t (i+1)) (gK G k j t (i+1)) Ov V∧bB P W4 g8 tx ta tm tc t∧bB P W4 w.heap.size vx va vm vc (V (j+1))∧Below B w W4):=⟨(uh HS).1.congr (λ_ _ _ _=>rfl) (λa b _ _=>uU a b) (λ_ _ _ _=>rfl) (λ_ _=>rfl),uh HT3,uh wS,uh HB3⟩;clear hv3 hw3 wT hrow HS HT3 wS HB3 HP HQ xE K3 uW;go_wp2
    try rw [xX]
    clear xX p0 p1 f0 f1;go_roundg (gk - 1)
    case measure=>omega
    case rel=>exact ⟨i+1,by simp,by omega,uh HR4⟩
   ·have hin':i=n:=by omega
    have G7:Hid (bf P B wr n b gs gp go cs cp co R (Pl.bE St k j t) (nP (Pl.bE G k j t) k j t 0) Ov V∧bB P wr g8 tx ta tm tc t∧bB P wr w.heap.size vx va vm vc (V (j+1))∧Below B w wr):=by
     have h1:=uh HR;rw [hin'] at h1;exact ⟨h1.1.congr (λa b _ hb=>Al hb) (λa b _ hb=>(Al hb).trans (FE a b).symm) (λ_ _ _ _=>rfl) (λ_ _=>rfl),h1.2⟩
    clear HR hik hin';have JP:∀ a b,a<n->b<n->Pl.Lt (2*L+2) (Pl.bE G k j t a b):=λa b ha hb=>by
     unfold Pl.bE
     split
     ·exact ((lg k b hk hb).mono (show L<=2*L+1 by omega)).sub ((lt.mul (lg j b hj hb)).mono (by omega))
     ·exact (lg a b ha hb).mono (by omega)
    obtain ⟨WE,Yw⟩:∃ WE,WE=wr:=⟨_,rfl⟩;subst Yw;obtain ⟨k0,_,_,_⟩:=(uh G7).1.cells;go_wp2_with fail;go_loopg [10] n (λq iv wr=>∃ (i:Nat),iv=.int .i64 i∧i+q=n∧Hid (bf P B wr n b gs gp go cs cp co R (Pl.bE St k j t) (nP (Pl.bE G k j t) k j t i) Ov V∧bB P wr g8 tx ta tm tc t∧bB P wr w.heap.size vx va vm vc (V (j+1))∧Below B w wr))
    case atStart=>exact ⟨0,rfl,by omega,uh G7⟩
    case round =>
     clear k0 G7;obtain ⟨i,rfl,hik,HR⟩:=hrel;by_cases hin:i<n
     ·
      have uW:Hid (B<=wr.heap.size):=by have h1:=(uh HR).1.base.1;have h2:=z_ (uh HR).1.own;unfold Hid;omega
      obtain ⟨k0,k1,k2,k3⟩:=(uh HR).1.cells;obtain ⟨s0,px,pa,pm,pc,p0,p1,hp⟩:=(uh HR).1.DV (r:=i) (i:=k) hin hk;rw [Cu (by omega)] at hp;obtain ⟨s1,qx,qa,qm,qc,q0,q1,hq⟩:=(uh HR).1.DV (r:=i) (i:=j) hin hj;rw [Cu (by omega)] at hq;have HQ:=af hq;clear hq;have t0:=(uh HR).2.1.cells.1;have t1:=(uh HR).2.1.cells.2.1;have HP:=af hp;have xE:=af (x_ p0 p1);have K3:Hid (w.heap.size<=wr.heap.size):=(uh HR).2.2.2.size;clear hp;go_wp2_with fail;have y0:=b_ k1;have y1:=b_ s0;have y2:=b_ p0;have y3:=b_ p1;have y4:=b_ s1;have y5:=b_ q0;have y6:=b_ q1;have y7:=b_ t0;have y8:=b_ t1;clear k1 s0 p0 p1 s1 q0 q1 t0 t1;refine ah (bZ [(160,λv w=>aj P w v (Pl.bE G k j t i k - t*Pl.bE G k j t i j))]) (gL [(160,ag)]) 220 31 (by kernel_rfl) (by rfl) (by kernel_rfl) (aN (λ_ _ _=>aj.below) cK) ?_
      iterate 29 (refine aO λK hK=>?_;go_simp;refine hK _ ?_;clear hK K)
      refine ai ag 107 #[.agg #[.int .i64 px,.slice pa pm pc],.agg #[.int .i64 tx,.slice ta tm tc],.agg #[.int .i64 qx,.slice qa qm qc]] (by rfl) (by rfl) ag.some (λw=>by go_simp) (λwq hg hf=>(uX P (3*L+6) _ _ _ _ _ _ wq (λb' hb'=>hP b' (by have h1:=uh K3;have h2:=hg.size;omega)) ((uh HP).below hg) ((uh HR).2.1.val.below hg) ((uh HQ).below hg) (by omega) ((JP i k hin hk).mono (by omega)) (lt.mono (by omega)) ((JP i j hin hj).mono (by omega)) ((lt.mul (JP i j hin hj)).mono (by omega))).mono (by rintro e w' ⟨v',rfl,hv,hb⟩;exact ⟨_,rfl,hb,hv.aU,λt ht=>by cases ht;exact hv⟩)) ?_;rintro _ ⟨nx,na,nm,nc,rfl⟩
      (refine aO λK hK=>?_;go_simp;refine hK _ ?_;clear hK K)
      refine aF ?_;intro w3 hw3 aK;have hv3:aj P w3 (.agg #[.int .i64 nx,.slice na nm nc]) (Pl.bE G k j t i k - t*Pl.bE G k j t i j):=aK 29 _ 160 (by decide) rfl rfl;clear aK y0 y1 y2 y3 y4 y5 y6 y7 y8;have wT:=(uh HR).1.grow hw3;have p0:=ae.cell hw3 (uh xE).1;have p1:=ae.cell hw3 (uh xE).2;have f0:=wT.free (r:=n+i) (by omega) (k*2);have f1:=wT.free (r:=n+i) (by omega) (k*2+1);have hrow:=(wT.oL.rows (n+i) (by omega)).block;have HS:=af (wT.Sa (r:=i) (i:=k) hin hk hv3);have HT3:=af (((uh HR).2.1.grow hw3).put hrow (λe=>by have:=uh FH (n+i) (by omega);omega) (k*2) (k*2+1) (.int .i64 nx) (.slice na nm nc));have wS:=af (((uh HR).2.2.1.grow hw3).put hrow (λe=>by have:=uh FH (n+i) (by omega);omega) (k*2) (k*2+1) (.int .i64 nx) (.slice na nm nc));have HB3:=af (((uh HR).2.2.2.trans (aam hw3 (uh uW))).trans (uh HS).2);obtain ⟨W3,hW3⟩:∃ W,(w3.setCell ⟨R (n+i),k*2,none⟩ (.int .i64 nx)).setCell ⟨R (n+i),k*2+1,none⟩ (.slice na nm nc)=W:=⟨_,rfl⟩;rw [hW3] at HS HT3 wS HB3;have HR3:Hid (bf P B W3 n b gs gp go cs cp co R (Pl.bE St k j t) (nP (Pl.bE G k j t) k j t (i+1)) Ov V∧bB P W3 g8 tx ta tm tc t∧bB P W3 w.heap.size vx va vm vc (V (j+1))∧Below B w W3):=⟨(uh HS).1.congr (λ_ _ _ _=>rfl) (λa b _ _=>GZ a b) (λ_ _ _ _=>rfl) (λ_ _=>rfl),uh HT3,uh wS,uh HB3⟩;clear hv3 hw3 wT hrow HS HT3 wS HB3 HP HQ xE K3 uW;go_wp2
      try rw [hW3]
      clear hW3 p0 p1 f0 f1;go_roundg (gk - 1)
      case measure=>omega
      case rel=>exact ⟨i+1,by simp,by omega,uh HR3⟩
     ·have hin':i=n:=by omega
      have G7:Hid (bf P B wr n b gs gp go cs cp co R (Pl.bE St k j t) (Pl.dK G k j t) (gK Ov k j t 0) V∧bB P wr g8 tx ta tm tc t∧bB P wr w.heap.size vx va vm vc (V (j+1))∧Below B w wr):=by
       have h1:=uh HR;rw [hin'] at h1;exact ⟨h1.1.congr (λ_ _ _ _=>rfl) (λa b ha _=>G5 ha) (λa b _ _=>(tH a b).symm) (λ_ _=>rfl),h1.2⟩
      clear HR hik hin';obtain ⟨WF,VC⟩:∃ WF,WF=wr:=⟨_,rfl⟩;subst VC;obtain ⟨k0,_,_,_⟩:=(uh G7).1.cells;go_wp2_with fail;go_loopg [11] j (λq lv wr=>∃ (l:Nat),lv=.int .i64 l∧l+q=j∧Hid (bf P B wr n b gs gp go cs cp co R (Pl.bE St k j t) (Pl.dK G k j t) (gK Ov k j t l) V∧bB P wr g8 tx ta tm tc t∧bB P wr w.heap.size vx va vm vc (V (j+1))∧Below B w wr))
      case atStart=>exact ⟨0,rfl,by omega,uh G7⟩
      case round =>
       clear k0 G7;obtain ⟨l,rfl,hlq,HR⟩:=hrel;by_cases hlj:l<j
       ·have hln:l<n:=by omega
        have uW:Hid (B<=wr.heap.size):=by have h1:=(uh HR).1.base.1;have h2:=z_ (uh HR).1.own;unfold Hid;omega
        obtain ⟨k0,k1,k2,k3⟩:=(uh HR).1.cells;obtain ⟨s0,px,pa,pm,pc,p0,p1,hp⟩:=(uh HR).1.GY (r:=k) (i:=l) hk hln;rw [lJ (by omega)] at hp;obtain ⟨s1,qx,qa,qm,qc,q0,q1,hq⟩:=(uh HR).1.GY (r:=j) (i:=l) hj hln;rw [lJ (by omega)] at hq;have HQ:=af hq;clear hq;have t0:=(uh HR).2.1.cells.1;have t1:=(uh HR).2.1.cells.2.1;have HP:=af hp;have xE:=af (x_ p0 p1);have K3:Hid (w.heap.size<=wr.heap.size):=(uh HR).2.2.2.size;clear hp;go_wp2_with fail;have y0:=b_ k3;have y1:=b_ s0;have y2:=b_ p0;have y3:=b_ p1;have y4:=b_ s1;have y5:=b_ q0;have y6:=b_ q1;have y7:=b_ t0;have y8:=b_ t1;clear k3 s0 p0 p1 s1 q0 q1 t0 t1;refine ah (bZ [(196,λv w=>aj P w v (Ov k l - t*Ov j l))]) (gL [(196,ag)]) 220 31 (by kernel_rfl) (by rfl) (by kernel_rfl) (aN (λ_ _ _=>aj.below) cK) ?_
        iterate 29 (refine aO λK hK=>?_;go_simp;refine hK _ ?_;clear hK K)
        refine ai ag 107 #[.agg #[.int .i64 px,.slice pa pm pc],.agg #[.int .i64 tx,.slice ta tm tc],.agg #[.int .i64 qx,.slice qa qm qc]] (by rfl) (by rfl) ag.some (λw=>by go_simp) (λwq hg hf=>(uX P (3*L+6) _ _ _ _ _ _ wq (λb' hb'=>hP b' (by have h1:=uh K3;have h2:=hg.size;omega)) ((uh HP).below hg) ((uh HR).2.1.val.below hg) ((uh HQ).below hg) (by omega) ((Yv k l (by omega) hk).mono (by omega)) (lt.mono (by omega)) ((Yv j l hlj hj).mono (by omega)) ((lt.mul (Yv j l hlj hj)).mono (by omega))).mono (by rintro e w' ⟨v',rfl,hv,hb⟩;exact ⟨_,rfl,hb,hv.aU,λt ht=>by cases ht;exact hv⟩)) ?_;rintro _ ⟨nx,na,nm,nc,rfl⟩
        (refine aO λK hK=>?_;go_simp;refine hK _ ?_;clear hK K)
        refine aF ?_;intro w3 hw3 aK;have hv3:aj P w3 (.agg #[.int .i64 nx,.slice na nm nc]) (Ov k l - t*Ov j l):=aK 29 _ 196 (by decide) rfl rfl;clear aK y0 y1 y2 y3 y4 y5 y6 y7 y8;have wT:=(uh HR).1.grow hw3;have p0:=ae.cell hw3 (uh xE).1;have p1:=ae.cell hw3 (uh xE).2;have f0:=wT.free (r:=2*n+k) (by omega) (l*2);have f1:=wT.free (r:=2*n+k) (by omega) (l*2+1);have hrow:=(wT.oL.rows (2*n+k) (by omega)).block;have HS:=af (wT.VD (r:=k) (i:=l) hk hln hv3);have HT3:=af (((uh HR).2.1.grow hw3).put hrow (λe=>by have:=uh FH (2*n+k) (by omega);omega) (l*2) (l*2+1) (.int .i64 nx) (.slice na nm nc));have wS:=af (((uh HR).2.2.1.grow hw3).put hrow (λe=>by have:=uh FH (2*n+k) (by omega);omega) (l*2) (l*2+1) (.int .i64 nx) (.slice na nm nc));have HB3:=af (((uh HR).2.2.2.trans (aam hw3 (uh uW))).trans (uh HS).2);obtain ⟨W3,hW3⟩:∃ W,(w3.setCell ⟨R (2*n+k),l*2,none⟩ (.int .i64 nx)).setCell ⟨R (2*n+k),l*2+1,none⟩ (.slice na nm nc)=W:=⟨_,rfl⟩;rw [hW3] at HS HT3 wS HB3;have HR3:Hid (bf P B W3 n b gs gp go cs cp co R (Pl.bE St k j t) (Pl.dK G k j t) (gK Ov k j t (l+1)) V∧bB P W3 g8 tx ta tm tc t∧bB P W3 w.heap.size vx va vm vc (V (j+1))∧Below B w W3):=⟨(uh HS).1.congr (λ_ _ _ _=>rfl) (λ_ _ _ _=>rfl) (λa b _ _=>uU a b) (λ_ _=>rfl),uh HT3,uh wS,uh HB3⟩;clear hv3 hw3 wT hrow HS HT3 wS HB3 HP HQ xE K3 uW;go_wp2
        try rw [hW3]
        clear hW3 p0 p1 f0 f1;go_roundg (gk - 1)
        case measure=>omega
        case rel=>exact ⟨l+1,by simp,by omega,uh HR3⟩
       ·have VE:l=j:=by omega
        subst VE;have uW:Hid (B<=wr.heap.size):=by have h1:=(uh HR).1.base.1;have h2:=z_ (uh HR).1.own;unfold Hid;omega
        obtain ⟨k0,k1,k2,k3⟩:=(uh HR).1.cells;obtain ⟨s0,px,pa,pm,pc,p0,p1,hp⟩:=(uh HR).1.GY (r:=k) (i:=l) hk hj;rw [lJ (by omega)] at hp;have q0:=(uh HR).2.2.1.cells.1;have q1:=(uh HR).2.2.1.cells.2.1;have HQ:=af (uh HR).2.2.1.val;have t0:=(uh HR).2.1.cells.1;have t1:=(uh HR).2.1.cells.2.1;have HP:=af hp;have xE:=af (x_ p0 p1);have K3:Hid (w.heap.size<=wr.heap.size):=(uh HR).2.2.2.size;clear hp;go_wp2_with fail;have y0:=b_ k3;have y1:=b_ s0;have y2:=b_ p0;have y3:=b_ p1;have y4:=b_ q0;have y5:=b_ q1;have y6:=b_ t0;have y7:=b_ t1;clear k3 s0 p0 p1 q0 q1 t0 t1;refine ah (bZ [(218,λv w=>aj P w v (Ov k l - t*V (l+1)))]) (gL [(218,ag)]) 220 22 (by kernel_rfl) (by rfl) (by kernel_rfl) (aN (λ_ _ _=>aj.below) cK) ?_
        iterate 20 (refine aO λK hK=>?_;go_simp;refine hK _ ?_;clear hK K)
        refine ai ag 107 #[.agg #[.int .i64 px,.slice pa pm pc],.agg #[.int .i64 tx,.slice ta tm tc],.agg #[.int .i64 vx,.slice va vm vc]] (by rfl) (by rfl) ag.some (λw=>by go_simp) (λwq hg hf=>(uX P (3*L+6) _ _ _ _ _ _ wq (λb' hb'=>hP b' (by have h1:=uh K3;have h2:=hg.size;omega)) ((uh HP).below hg) ((uh HR).2.1.val.below hg) ((uh HQ).below hg) (by omega) (lo.mono (by omega)) (lt.mono (by omega)) (lv.mono (by omega)) ((lt.mul lv).mono (by omega))).mono (by rintro e w' ⟨v',rfl,hv,hb⟩;exact ⟨_,rfl,hb,hv.aU,λt ht=>by cases ht;exact hv⟩)) ?_;rintro _ ⟨nx,na,nm,nc,rfl⟩
        (refine aO λK hK=>?_;go_simp;refine hK _ ?_;clear hK K)
        refine aF ?_;intro w3 hw3 aK;have hv3:aj P w3 (.agg #[.int .i64 nx,.slice na nm nc]) (Ov k l - t*V (l+1)):=aK 20 _ 218 (by decide) rfl rfl;clear aK y0 y1 y2 y3 y4 y5 y6 y7;have wT:=(uh HR).1.grow hw3;have p0:=ae.cell hw3 (uh xE).1;have p1:=ae.cell hw3 (uh xE).2;have f0:=wT.free (r:=2*n+k) (by omega) (l*2);have f1:=wT.free (r:=2*n+k) (by omega) (l*2+1);have hrow:=(wT.oL.rows (2*n+k) (by omega)).block;have HS:=af (wT.VD (r:=k) (i:=l) hk hj hv3);have HT3:=af (((uh HR).2.1.grow hw3).put hrow (λe=>by have:=uh FH (2*n+k) (by omega);omega) (l*2) (l*2+1) (.int .i64 nx) (.slice na nm nc));have wS:=af (((uh HR).2.2.1.grow hw3).put hrow (λe=>by have:=uh FH (2*n+k) (by omega);omega) (l*2) (l*2+1) (.int .i64 nx) (.slice na nm nc));have HB3:=af (((uh HR).2.2.2.trans (aam hw3 (uh uW))).trans (uh HS).2);obtain ⟨W3,hW3⟩:∃ W,(w3.setCell ⟨R (2*n+k),l*2,none⟩ (.int .i64 nx)).setCell ⟨R (2*n+k),l*2+1,none⟩ (.slice na nm nc)=W:=⟨_,rfl⟩;rw [hW3] at HS HT3 wS HB3;have HR3:Hid (bf P B W3 n b gs gp go cs cp co R (Pl.bE St k l t) (Pl.dK G k l t) (xD Ov k l t (V (l+1))) V∧bB P W3 g8 tx ta tm tc t∧bB P W3 w.heap.size vx va vm vc (V (l+1))∧Below B w W3):=⟨(uh HS).1.congr (λ_ _ _ _=>rfl) (λ_ _ _ _=>rfl) (λ_ _ _ _=>rfl) (λ_ _=>rfl),uh HT3,uh wS,uh HB3⟩;clear hv3 hw3 wT hrow HS HT3 wS HB3 HP HQ xE K3 uW;go_wp2
        try rw [hW3]
        clear hW3 p0 p1 f0 f1;go_end0;exact ⟨rfl,(uh HR3).1,(uh HR3).2.2.2⟩
end Go.Proofs.YtgaafamcajcifaaGreat
