/- Joined: XLat11. -/
import Derived.Test.YtfaljekgpnbmiaaGreatJ26
set_option linter.unusedVariables false
set_option linter.unusedSimpArgs false
set_option maxRecDepth 100000
namespace Go.Proofs.YtfaljekgpnbmiaaGreat
open Go.RowKit Go.Sort
theorem bC.put {P:Nat->Prop} {w:World} {g:Nat} {x:Int} {a:Option Addr} {m c:Nat} {n:Int} (h:bC P w g x a m c n) {k:Nat} (hk:∃ cs,w.heap[k]?=some (.cells cs 168 (0,0))) (hne:g≠k) (o1 o2:Nat) (u1 u2:Value):bC P ((w.setCell ⟨k,o1,none⟩ u1).setCell ⟨k,o2,none⟩ u2) g x a m c n:=by
 obtain ⟨cs,hcs⟩:=hk;exact ⟨(l_ _ _ _ _ hne).trans ((l_ _ _ _ _ hne).trans h.heap),(h.val.bX (aA.setCell hcs (by decide) _ _)).bX (aA.setCell (j_ w k o1 _ _ u1 hcs) (by decide) _ _)⟩
def gN (F:Nat->Nat->Int) (k j:Nat) (t:Int) (i a b:Nat):Int:=if a=k∧b<i then F k b - t*F j b else F a b
def nS (F:Nat->Nat->Int) (k j:Nat) (t:Int) (i a b:Nat):Int:=if b=k∧a<i then F a k - t*F a j else F a b
section
variable {F:Nat->Nat->Int} {k j i:Nat} {t:Int}
theorem tK (a b:Nat):gN F k j t 0 a b=F a b:=g_ (by omega)
theorem lL {a b:Nat} (h:¬ (a=k∧b<i)):gN F k j t i a b=F a b:=g_ h
theorem uW (a b:Nat):lM (gN F k j t i) k i (F k i - t*F j i) a b=gN F k j t (i+1) a b:=by
 unfold lM gN;by_cases h1:a=k∧b=i
 ·rw [h_ h1,h_ (by omega),h1.2]
 ·rw [g_ h1];by_cases h2:a=k∧b<i
  ·rw [h_ h2,h_ (by omega)]
  ·rw [g_ h2,g_ (by omega)]
theorem Ao {n a b:Nat} (hb:b<n):gN F k j t n a b=Pl.bF F k j t a b:=by
 unfold gN Pl.bF;by_cases h:a=k
 ·rw [h_ ⟨h,hb⟩,h_ h]
 ·rw [g_ (λe=>h e.1),g_ h]
theorem FL (a b:Nat):nS F k j t 0 a b=F a b:=g_ (by omega)
theorem Cw {a b:Nat} (h:¬ (b=k∧a<i)):nS F k j t i a b=F a b:=g_ h
theorem G9 (a b:Nat):lM (nS F k j t i) i k (F i k - t*F i j) a b=nS F k j t (i+1) a b:=by
 unfold lM nS;by_cases h1:a=i∧b=k
 ·rw [h_ h1,h_ (by omega),h1.1]
 ·rw [g_ h1];by_cases h2:b=k∧a<i
  ·rw [h_ h2,h_ (by omega)]
  ·rw [g_ h2,g_ (by omega)]
theorem Ha {n a b:Nat} (ha:a<n):nS F k j t n a b=Pl.uX F k j t a b:=by
 unfold nS Pl.uX;by_cases h:b=k
 ·rw [h_ ⟨h,ha⟩,h_ h]
 ·rw [g_ (λe=>h e.1),g_ h]
end
def xG (Ov:Nat->Nat->Int) (k j:Nat) (t v:Int) (a b:Nat):Int:=lM (gN Ov k j t j) k j (Ov k j - t*v) a b
attribute [local go_sem] bE
set_option maxHeartbeats 4000000 in
theorem Hd (P:Nat->Prop) (B L n k j b gs gp go cs cp co:Nat) (R:Nat->Nat) (St G Ov:Nat->Nat->Int) (V:Nat->Int) (t:Int) (w:World) (hP:∀ b,w.heap.size<=b->P b) (h:bg P B w n b gs gp go cs cp co R St G Ov V) (hjk:j<k) (hk:k<n) (hn:n<=100) (hte:Int.fdiv (Ov k j+Ov k j+V (j+1)) (V (j+1)+V (j+1))=t)
  (lo:Pl.Lt L (Ov k j)) (lv:Pl.Lt L (V (j+1))) (lt:Pl.Lt (L+1) t) (Sd:∀ a b,a<n->b<n->Pl.Lt L (St a b)) (lg:∀ a b,a<n->b<n->Pl.Lt L (G a b)) (Y9:∀ a b,b<a->a<n->Pl.Lt L (Ov a b)) (hK:3*L+6<=1500000000000) :
  Calls Tryz.prog 347 #[.pointer (some ⟨b,0,none⟩),.int .i64 k,.int .i64 j] w λe w'=>e=.returned (.tuple #[])∧bg P B w' n b gs gp go cs cp co R (Pl.bF St k j t) (Pl.dL G k j t) (xG Ov k j t (V (j+1))) V∧Below B w w':=by
 have hj:j<n:=by omega
 have hLB:Hid (B<=w.heap.size):=by have h1:=h.base.1;have h2:=z_ h.own;unfold Hid;omega
 have HTE:=af hte;have FM:Hid (∀ r,r<3*n+1->R r<w.heap.size):=λr hr=>(h.oO.rows r hr).lt;obtain ⟨_,_,k2,k3⟩:=h.cells;obtain ⟨vx,va,vm,vc,v0,v1,hv⟩:=h.Kl (i:=j+1) (by omega);have zQ:=af (dD hv);have xX:=af (ae.alloc w (.cells #[.int .i64 vx,.slice va vm vc] 168));obtain ⟨o0,px,pa,pm,pc,p0,p1,hov⟩:=h.G8 (r:=k) (i:=j) hk hj;have X6:=af (hov.below (uh xX));have HM0:=af (h.grow (uh xX));have HB0:Hid (w.heap.size<=(w.alloc (.cells #[.int .i64 vx,.slice va vm vc] 168)).heap.size):=(uh xX).size;have xH:=af (x_ ((uh xX).cell o0) (x_ ((uh xX).cell p0) (x_ ((uh xX).cell p1) ((uh xX).cell k3))));have w1':IntKind.i64.wrap ((j:Int)+1)=(j:Int)+1:=by rw [aaE];omega
 have t1':((j:Int)+1).toNat=j+1:=by omega
 have l1':(j:Int)+1<(n:Int)+1:=by omega
 have l2':0<=(j:Int)+1:=by omega
 clear hv hov h hte;go_enter Tryz.func347,Tryz.ntmps347;go_wp2_with fail;generalize hW0:w.alloc (.cells #[.int .i64 vx,.slice va vm vc] 168)=W0 at *
 clear hW0 v0 v1 k2 k3 o0 p0 p1;have k3:=(uh xH).2.2.2;have o0:=(uh xH).1;have p0:=(uh xH).2.1;have p1:=(uh xH).2.2.1;have y0:=b_ k3;have y1:=b_ o0;have y2:=b_ p0;have y3:=b_ p1;clear k3 o0 p0 p1;refine ah (cK [(40,λv w=>aj P w v (Ov k j+Ov k j)),(7,bn W0)]) (gL [(40,ag),(7,bM)]) 220 22 (by kernel_rfl) (by rfl) (by kernel_rfl) (aN (λ_ _ _=>aj.below) (aN (λ_ _ _=>bn.grow) cO)) ?_
 iterate 20 (refine aO λK hK=>?_;go_simp;refine hK _ ?_;clear hK K)
 refine ai ag 223 #[.agg #[.int .i64 px,.slice pa pm pc],.agg #[.int .i64 px,.slice pa pm pc]] (by rfl) (by rfl) ag.some (λw=>by go_simp) (λwq hg hf=>(ig P L (Ov k j) (Ov k j) _ _ wq (λb' hb'=>hP b' (by have h1:=uh HB0;have h2:=hg.size;omega)) ((uh X6).below hg) ((uh X6).below hg) (by omega) lo lo).mono (by rintro e w' ⟨v',rfl,hv,hb⟩;exact ⟨_,rfl,hb,hv.aU,λt ht=>by cases ht;exact hv⟩)) ?_;rintro _ ⟨ax,aa,am,ac,rfl⟩;refine eT bM (by rfl) (by rfl) bM.some (λwq hg hf=>⟨.pointer (some ⟨wq.heap.size,0,none⟩),wq.alloc (.cells #[.int .i64 0,.slice none 0 0] 168),by go_simp,ae.alloc _ _,⟨_,rfl⟩,λt ht=>by cases ht;exact bn.new hg⟩) ?_;rintro _ ⟨g7,rfl⟩;refine aF ?_;intro w1 hw1 aK;have hv1:aj P w1 (.agg #[.int .i64 ax,.slice aa am ac]) (Ov k j+Ov k j):=aK 20 _ 40 (by decide) rfl rfl;obtain ⟨g7',e6,f6⟩:bn W0 (.pointer (some ⟨g7,0,none⟩)) w1:=aK 21 _ 7 (by decide) rfl rfl;cases e6;clear aK y0 y1 y2 y3;obtain ⟨z0,z1,z2,z3⟩:=fV f6.2;have hst:=bI (P:=P) hw1 f6.1 f6.2 hv1;obtain ⟨W1,hW1⟩:∃ W,(w1.setCell ⟨g7,0,none⟩ (.int .i64 ax)).setCell ⟨g7,1,none⟩ (.slice aa am ac)=W:=⟨_,rfl⟩;have HA1:Hid (bC P W1 g7 ax aa am ac (Ov k j+Ov k j)):=by unfold Hid;rw [<-hW1];exact hst.1
 have dP:Hid (ae W0 W1):=by unfold Hid;rw [<-hW1];exact hst.2
 clear hst hv1 f6 hw1;go_wp2_with fail
 try rw [hW1]
 clear hW1 z0 z1 z2 z3;have wR:=af ((uh zQ).grow (uh dP));have HB1:Hid (w.heap.size<=W1.heap.size):=w_ (uh HB0) (uh dP).size;have v0:=(uh wR).cells.1;have v1:=(uh wR).cells.2.1;have a0:=(uh HA1).cells.1;have a1:=(uh HA1).cells.2.1;go_wp2_with fail;have y0:=b_ a0;have y1:=b_ a1;have y2:=b_ v0;have y3:=b_ v1;clear a0 a1 v0 v1;refine ah (cK [(43,λv w=>aj P w v (Ov k j+Ov k j+V (j+1))),(46,λv w=>aj P w v (V (j+1)+V (j+1))),(47,λv w=>aj P w v t),(8,bn W1)]) (gL [(43,ag),(46,ag),(47,ag),(8,bM)]) 220 8 (by kernel_rfl) (by rfl) (by kernel_rfl) (aN (λ_ _ _=>aj.below) (aN (λ_ _ _=>aj.below) (aN (λ_ _ _=>aj.below) (aN (λ_ _ _=>bn.grow) cO)))) ?_
 iterate 2 (refine aO λK hK=>?_;go_simp;refine hK _ ?_;clear hK K)
 refine ai ag 223 #[.agg #[.int .i64 ax,.slice aa am ac],.agg #[.int .i64 vx,.slice va vm vc]] (by rfl) (by rfl) ag.some (λw=>by go_simp) (λwq hg hf=>(ig P (L+1) _ _ _ _ wq (λb' hb'=>hP b' (by have h1:=uh HB1;have h2:=hg.size;omega)) ((uh HA1).val.below hg) ((uh wR).val.below hg) (by omega) ((lo.add lo).mono (by omega)) (lv.mono (by omega))).mono (by rintro e w' ⟨v',rfl,hv,hb⟩;exact ⟨_,rfl,hb,hv.aU,λt ht=>by cases ht;exact hv⟩)) ?_;rintro _ ⟨cx,ca,cm,cc,rfl⟩
 iterate 2 (refine aO λK hK=>?_;go_simp;refine hK _ ?_;clear hK K)
 refine ai ag 223 #[.agg #[.int .i64 vx,.slice va vm vc],.agg #[.int .i64 vx,.slice va vm vc]] (by rfl) (by rfl) ag.some (λw=>by go_simp) (λwq hg hf=>(ig P (L+1) _ _ _ _ wq (λb' hb'=>hP b' (by have h1:=uh HB1;have h2:=hg.size;omega)) ((uh wR).val.below hg) ((uh wR).val.below hg) (by omega) (lv.mono (by omega)) (lv.mono (by omega))).mono (by rintro e w' ⟨v',rfl,hv,hb⟩;exact ⟨_,rfl,hb,hv.aU,λt ht=>by cases ht;exact hv⟩)) ?_;rintro _ ⟨dx,da,dm,dc,rfl⟩;refine ai ag 224 #[.agg #[.int .i64 cx,.slice ca cm cc],.agg #[.int .i64 dx,.slice da dm dc]] (by rfl) (by rfl) ag.some (λw=>by go_simp) (λwq hg hf=>(lD P (L+2) _ _ _ _ wq (λb' hb'=>hP b' (by have h1:=uh HB1;have h2:=hg.size;omega)) (hf 2 (by kernel_rfl) _ 43 rfl rfl) (hf 5 (by kernel_rfl) _ 46 rfl rfl) (by omega) (((lo.add lo).add (lv.mono (by omega))).mono (by omega)) ((lv.add lv).mono (by omega))).mono (by rintro e w' ⟨v',rfl,hv,hb⟩;rw [uh HTE] at hv;exact ⟨_,rfl,hb,hv.aU,λt ht=>by cases ht;exact hv⟩)) ?_;rintro _ ⟨tx,ta,tm,tc,rfl⟩;refine eT bM (by rfl) (by rfl) bM.some (λwq hg hf=>⟨.pointer (some ⟨wq.heap.size,0,none⟩),wq.alloc (.cells #[.int .i64 0,.slice none 0 0] 168),by go_simp,ae.alloc _ _,⟨_,rfl⟩,λt ht=>by cases ht;exact bn.new hg⟩) ?_;rintro _ ⟨g8,rfl⟩;refine aF ?_;intro w2 hw2 aK;have hv2:aj P w2 (.agg #[.int .i64 tx,.slice ta tm tc]) t:=aK 6 _ 47 (by decide) rfl rfl;obtain ⟨g8',e6,f6⟩:bn W1 (.pointer (some ⟨g8,0,none⟩)) w2:=aK 7 _ 8 (by decide) rfl rfl;cases e6;clear aK y0 y1 y2 y3;obtain ⟨z0,z1,z2,z3⟩:=fV f6.2;have hst:=bI (P:=P) hw2 f6.1 f6.2 hv2;obtain ⟨W2,hW2⟩:∃ W,(w2.setCell ⟨g8,0,none⟩ (.int .i64 tx)).setCell ⟨g8,1,none⟩ (.slice ta tm tc)=W:=⟨_,rfl⟩;have HT2:Hid (bC P W2 g8 tx ta tm tc t):=by unfold Hid;rw [<-hW2];exact hst.1
 have HG2:Hid (ae W1 W2):=by unfold Hid;rw [<-hW2];exact hst.2
 have Dv:w.heap.size<=g8:=w_ (uh HB1) f6.1;have t0:=(uh HT2).cells.1;have t1:=(uh HT2).cells.2.1;clear hst hv2 f6 hw2;go_wp2_with fail
 try rw [hW2]
 clear hW2 z0 z1 z2 z3;have G6:=af ((uh wR).grow (uh HG2));have Fh:=af (((uh HM0).grow (uh dP)).grow (uh HG2));have Wp:Hid (Below B w W2):=aaw ((uh xX).trans ((uh dP).trans (uh HG2))) (uh hLB);clear wR HM0 xX dP HG2 HA1 zQ X6 xH HB0 HB1;refine (bZ P _ _ _ (uh HT2).val).mono ?_;rintro e w3 ⟨rfl,hw3⟩;have HT3:=af ((uh HT2).grow hw3);have wU:=af ((uh G6).grow hw3);have Ja:=af ((uh Fh).grow hw3);have uY:Hid (Below B w w3):=(uh Wp).trans (aaw hw3 (w_ (uh hLB) (uh Wp).size));have rM:w.heap.size<=w.heap.size:=d_ _;clear hw3 HT2 G6 Fh Wp t0 t1;by_cases hz:t=0
 ·rw [hz];have HF:Hid (bg P B w3 n b gs gp go cs cp co R (Pl.bF St k j t) (Pl.dL G k j t) (xG Ov k j t (V (j+1))) V):=by
   refine (uh Ja).congr (λa b _ _=>?_) (λa b _ _=>?_) (λa b _ _=>?_) (λ_ _=>rfl)
   ·unfold Pl.bF;rw [hz];split
    ·rename_i e;rw [e];omega
    ·rfl
   ·unfold Pl.dL Pl.uX Pl.bF;rw [hz];try dsimp only
    split <;> split <;> (try split) <;> simp_all
   ·unfold xG lM gN;rw [hz];split
    ·rename_i e;rw [e.1,e.2];omega
    ·split
     ·rename_i e;rw [e.1];omega
     ·rfl
  go_wp2;exact t_ (v:=.tuple #[]) (by simp [results,Tryz.results347,go_sem]) rfl ⟨rfl,uh HF,uh uY⟩
 ·obtain ⟨sg,hsg⟩:∃ sg,Int.sign t=sg:=⟨_,rfl⟩;have hs1:sg≠0:=by rw [<-hsg];intro h;exact hz (abI.1 h)
  have d2:(sg == 0)=false:=by simp [hs1]
  rw [hsg];obtain ⟨k0,_,_,_⟩:=(uh Ja).cells;clear hsg hz;go_wp2_with fail;go_loopg [9] n (λq iv wr=>∃ (i:Nat),iv=.int .i64 i∧i+q=n∧Hid (bg P B wr n b gs gp go cs cp co R (gN St k j t i) (gN G k j t i) Ov V∧bC P wr g8 tx ta tm tc t∧bC P wr w.heap.size vx va vm vc (V (j+1))∧Below B w wr))
  case atStart=>exact ⟨0,rfl,by omega,(uh Ja).congr (λa b _ _=>(tK a b).symm) (λa b _ _=>(tK a b).symm) (λ_ _ _ _=>rfl) (λ_ _=>rfl),uh HT3,uh wU,uh uY⟩
  case round =>
   clear k0;obtain ⟨i,rfl,hik,HR⟩:=hrel;by_cases hin:i<n
   ·
    have uY:Hid (B<=wr.heap.size):=by have h1:=(uh HR).1.base.1;have h2:=z_ (uh HR).1.own;unfold Hid;omega
    obtain ⟨k0,k1,k2,k3⟩:=(uh HR).1.cells;obtain ⟨s0,px,pa,pm,pc,p0,p1,hp⟩:=(uh HR).1.Tf (r:=k) (i:=i) hk hin;rw [lL (by omega)] at hp;obtain ⟨s1,qx,qa,qm,qc,q0,q1,hq⟩:=(uh HR).1.Tf (r:=j) (i:=i) hj hin;rw [lL (by omega)] at hq;have HQ:=af hq;clear hq;have t0:=(uh HR).2.1.cells.1;have t1:=(uh HR).2.1.cells.2.1;have HP:=af hp;have xH:=af (x_ p0 p1);have LD:Hid (w.heap.size<=wr.heap.size):=(uh HR).2.2.2.size;clear hp;go_wp2_with fail;have y0:=b_ k0;have y1:=b_ s0;have y2:=b_ p0;have y3:=b_ p1;have y4:=b_ s1;have y5:=b_ q0;have y6:=b_ q1;have y7:=b_ t0;have y8:=b_ t1;clear k0 s0 p0 p1 s1 q0 q1 t0 t1;refine ah (cK [(89,λv w=>aj P w v (St k i - t*St j i))]) (gL [(89,ag)]) 220 31 (by kernel_rfl) (by rfl) (by kernel_rfl) (aN (λ_ _ _=>aj.below) cO) ?_
    iterate 29 (refine aO λK hK=>?_;go_simp;refine hK _ ?_;clear hK K)
    refine ai ag 399 #[.agg #[.int .i64 px,.slice pa pm pc],.agg #[.int .i64 tx,.slice ta tm tc],.agg #[.int .i64 qx,.slice qa qm qc]] (by rfl) (by rfl) ag.some (λw=>by go_simp) (λwq hg hf=>(uZ P (3*L+6) _ _ _ _ _ _ wq (λb' hb'=>hP b' (by have h1:=uh LD;have h2:=hg.size;omega)) ((uh HP).below hg) ((uh HR).2.1.val.below hg) ((uh HQ).below hg) (by omega) ((Sd k i hk hin).mono (by omega)) (lt.mono (by omega)) ((Sd j i hj hin).mono (by omega)) ((lt.mul (Sd j i hj hin)).mono (by omega))).mono (by rintro e w' ⟨v',rfl,hv,hb⟩;exact ⟨_,rfl,hb,hv.aU,λt ht=>by cases ht;exact hv⟩)) ?_;rintro _ ⟨nx,na,nm,nc,rfl⟩
    (refine aO λK hK=>?_;go_simp;refine hK _ ?_;clear hK K)
    refine aF ?_;intro w3 hw3 aK;have hv3:aj P w3 (.agg #[.int .i64 nx,.slice na nm nc]) (St k i - t*St j i):=aK 29 _ 89 (by decide) rfl rfl;clear aK y0 y1 y2 y3 y4 y5 y6 y7 y8;have wV:=(uh HR).1.grow hw3;have p0:=ae.cell hw3 (uh xH).1;have p1:=ae.cell hw3 (uh xH).2;have f0:=wV.free (r:=k) (by omega) (i*2);have f1:=wV.free (r:=k) (by omega) (i*2+1);have hrow:=(wV.oO.rows (k) (by omega)).block;have HS:=af (wV.adm (r:=k) (i:=i) hk hin hv3);have HT3:=af (((uh HR).2.1.grow hw3).put hrow (λe=>by have:=uh FM (k) (by omega);omega) (i*2) (i*2+1) (.int .i64 nx) (.slice na nm nc));have wU:=af (((uh HR).2.2.1.grow hw3).put hrow (λe=>by have:=uh FM (k) (by omega);omega) (i*2) (i*2+1) (.int .i64 nx) (.slice na nm nc));have HB3:=af (((uh HR).2.2.2.trans (aaw hw3 (uh uY))).trans (uh HS).2);obtain ⟨W3,hW3⟩:∃ W,(w3.setCell ⟨R (k),i*2,none⟩ (.int .i64 nx)).setCell ⟨R (k),i*2+1,none⟩ (.slice na nm nc)=W:=⟨_,rfl⟩;rw [hW3] at HS HT3 wU HB3;have HR3:Hid (bg P B W3 n b gs gp go cs cp co R (gN St k j t (i+1)) (gN G k j t i) Ov V∧bC P W3 g8 tx ta tm tc t∧bC P W3 w.heap.size vx va vm vc (V (j+1))∧Below B w W3):=⟨(uh HS).1.congr (λa b _ _=>uW a b) (λ_ _ _ _=>rfl) (λ_ _ _ _=>rfl) (λ_ _=>rfl),uh HT3,uh wU,uh HB3⟩;clear hv3 hw3 wV hrow HS HT3 wU HB3 HP HQ xH LD uY;go_wp2_with fail
    try rw [hW3]
    clear hW3 p0 p1 f0 f1;have uY:Hid (B<=W3.heap.size):=by have h1:=(uh HR3).1.base.1;have h2:=z_ (uh HR3).1.own;unfold Hid;omega
    obtain ⟨k0,k1,k2,k3⟩:=(uh HR3).1.cells;obtain ⟨s0,px,pa,pm,pc,p0,p1,hp⟩:=(uh HR3).1.DY (r:=k) (i:=i) hk hin;rw [lL (by omega)] at hp;obtain ⟨s1,qx,qa,qm,qc,q0,q1,hq⟩:=(uh HR3).1.DY (r:=j) (i:=i) hj hin;rw [lL (by omega)] at hq;have HQ:=af hq;clear hq;have t0:=(uh HR3).2.1.cells.1;have t1:=(uh HR3).2.1.cells.2.1;have HP:=af hp;have xH:=af (x_ p0 p1);have LD:Hid (w.heap.size<=W3.heap.size):=(uh HR3).2.2.2.size;clear hp;go_wp2_with fail;have y0:=b_ k1;have y1:=b_ s0;have y2:=b_ p0;have y3:=b_ p1;have y4:=b_ s1;have y5:=b_ q0;have y6:=b_ q1;have y7:=b_ t0;have y8:=b_ t1;clear k1 s0 p0 p1 s1 q0 q1 t0 t1;refine ah (cK [(120,λv w=>aj P w v (G k i - t*G j i))]) (gL [(120,ag)]) 220 31 (by kernel_rfl) (by rfl) (by kernel_rfl) (aN (λ_ _ _=>aj.below) cO) ?_
    iterate 29 (refine aO λK hK=>?_;go_simp;refine hK _ ?_;clear hK K)
    refine ai ag 399 #[.agg #[.int .i64 px,.slice pa pm pc],.agg #[.int .i64 tx,.slice ta tm tc],.agg #[.int .i64 qx,.slice qa qm qc]] (by rfl) (by rfl) ag.some (λw=>by go_simp) (λwq hg hf=>(uZ P (3*L+6) _ _ _ _ _ _ wq (λb' hb'=>hP b' (by have h1:=uh LD;have h2:=hg.size;omega)) ((uh HP).below hg) ((uh HR3).2.1.val.below hg) ((uh HQ).below hg) (by omega) ((lg k i hk hin).mono (by omega)) (lt.mono (by omega)) ((lg j i hj hin).mono (by omega)) ((lt.mul (lg j i hj hin)).mono (by omega))).mono (by rintro e w' ⟨v',rfl,hv,hb⟩;exact ⟨_,rfl,hb,hv.aU,λt ht=>by cases ht;exact hv⟩)) ?_;rintro _ ⟨nx,na,nm,nc,rfl⟩
    (refine aO λK hK=>?_;go_simp;refine hK _ ?_;clear hK K)
    refine aF ?_;intro w3 hw3 aK;have hv3:aj P w3 (.agg #[.int .i64 nx,.slice na nm nc]) (G k i - t*G j i):=aK 29 _ 120 (by decide) rfl rfl;clear aK y0 y1 y2 y3 y4 y5 y6 y7 y8;have wV:=(uh HR3).1.grow hw3;have p0:=ae.cell hw3 (uh xH).1;have p1:=ae.cell hw3 (uh xH).2;have f0:=wV.free (r:=n+k) (by omega) (i*2);have f1:=wV.free (r:=n+k) (by omega) (i*2+1);have hrow:=(wV.oO.rows (n+k) (by omega)).block;have HS:=af (wV.Tg (r:=k) (i:=i) hk hin hv3);have HT3:=af (((uh HR3).2.1.grow hw3).put hrow (λe=>by have:=uh FM (n+k) (by omega);omega) (i*2) (i*2+1) (.int .i64 nx) (.slice na nm nc));have wU:=af (((uh HR3).2.2.1.grow hw3).put hrow (λe=>by have:=uh FM (n+k) (by omega);omega) (i*2) (i*2+1) (.int .i64 nx) (.slice na nm nc));have HB3:=af (((uh HR3).2.2.2.trans (aaw hw3 (uh uY))).trans (uh HS).2);obtain ⟨W4,xZ⟩:∃ W,(w3.setCell ⟨R (n+k),i*2,none⟩ (.int .i64 nx)).setCell ⟨R (n+k),i*2+1,none⟩ (.slice na nm nc)=W:=⟨_,rfl⟩;rw [xZ] at HS HT3 wU HB3;have HR4:Hid (bg P B W4 n b gs gp go cs cp co R (gN St k j t (i+1)) (gN G k j t (i+1)) Ov V∧bC P W4 g8 tx ta tm tc t∧bC P W4 w.heap.size vx va vm vc (V (j+1))∧Below B w W4):=⟨(uh HS).1.congr (λ_ _ _ _=>rfl) (λa b _ _=>uW a b) (λ_ _ _ _=>rfl) (λ_ _=>rfl),uh HT3,uh wU,uh HB3⟩;clear hv3 hw3 wV hrow HS HT3 wU HB3 HP HQ xH LD uY;go_wp2
    try rw [xZ]
    clear xZ p0 p1 f0 f1;go_roundg (gk - 1)
    case measure=>omega
    case rel=>exact ⟨i+1,by simp,by omega,uh HR4⟩
   ·have hin':i=n:=by omega
    have He:Hid (bg P B wr n b gs gp go cs cp co R (Pl.bF St k j t) (nS (Pl.bF G k j t) k j t 0) Ov V∧bC P wr g8 tx ta tm tc t∧bC P wr w.heap.size vx va vm vc (V (j+1))∧Below B w wr):=by
     have h1:=uh HR;rw [hin'] at h1;exact ⟨h1.1.congr (λa b _ hb=>Ao hb) (λa b _ hb=>(Ao hb).trans (FL a b).symm) (λ_ _ _ _=>rfl) (λ_ _=>rfl),h1.2⟩
    clear HR hik hin';have Km:∀ a b,a<n->b<n->Pl.Lt (2*L+2) (Pl.bF G k j t a b):=λa b ha hb=>by
     unfold Pl.bF
     split
     ·exact ((lg k b hk hb).mono (show L<=2*L+1 by omega)).sub ((lt.mul (lg j b hj hb)).mono (by omega))
     ·exact (lg a b ha hb).mono (by omega)
    obtain ⟨WE,Za⟩:∃ WE,WE=wr:=⟨_,rfl⟩;subst Za;obtain ⟨k0,_,_,_⟩:=(uh He).1.cells;go_wp2_with fail;go_loopg [10] n (λq iv wr=>∃ (i:Nat),iv=.int .i64 i∧i+q=n∧Hid (bg P B wr n b gs gp go cs cp co R (Pl.bF St k j t) (nS (Pl.bF G k j t) k j t i) Ov V∧bC P wr g8 tx ta tm tc t∧bC P wr w.heap.size vx va vm vc (V (j+1))∧Below B w wr))
    case atStart=>exact ⟨0,rfl,by omega,uh He⟩
    case round =>
     clear k0 He;obtain ⟨i,rfl,hik,HR⟩:=hrel;by_cases hin:i<n
     ·
      have uY:Hid (B<=wr.heap.size):=by have h1:=(uh HR).1.base.1;have h2:=z_ (uh HR).1.own;unfold Hid;omega
      obtain ⟨k0,k1,k2,k3⟩:=(uh HR).1.cells;obtain ⟨s0,px,pa,pm,pc,p0,p1,hp⟩:=(uh HR).1.DY (r:=i) (i:=k) hin hk;rw [Cw (by omega)] at hp;obtain ⟨s1,qx,qa,qm,qc,q0,q1,hq⟩:=(uh HR).1.DY (r:=i) (i:=j) hin hj;rw [Cw (by omega)] at hq;have HQ:=af hq;clear hq;have t0:=(uh HR).2.1.cells.1;have t1:=(uh HR).2.1.cells.2.1;have HP:=af hp;have xH:=af (x_ p0 p1);have LD:Hid (w.heap.size<=wr.heap.size):=(uh HR).2.2.2.size;clear hp;go_wp2_with fail;have y0:=b_ k1;have y1:=b_ s0;have y2:=b_ p0;have y3:=b_ p1;have y4:=b_ s1;have y5:=b_ q0;have y6:=b_ q1;have y7:=b_ t0;have y8:=b_ t1;clear k1 s0 p0 p1 s1 q0 q1 t0 t1;refine ah (cK [(160,λv w=>aj P w v (Pl.bF G k j t i k - t*Pl.bF G k j t i j))]) (gL [(160,ag)]) 220 31 (by kernel_rfl) (by rfl) (by kernel_rfl) (aN (λ_ _ _=>aj.below) cO) ?_
      iterate 29 (refine aO λK hK=>?_;go_simp;refine hK _ ?_;clear hK K)
      refine ai ag 399 #[.agg #[.int .i64 px,.slice pa pm pc],.agg #[.int .i64 tx,.slice ta tm tc],.agg #[.int .i64 qx,.slice qa qm qc]] (by rfl) (by rfl) ag.some (λw=>by go_simp) (λwq hg hf=>(uZ P (3*L+6) _ _ _ _ _ _ wq (λb' hb'=>hP b' (by have h1:=uh LD;have h2:=hg.size;omega)) ((uh HP).below hg) ((uh HR).2.1.val.below hg) ((uh HQ).below hg) (by omega) ((Km i k hin hk).mono (by omega)) (lt.mono (by omega)) ((Km i j hin hj).mono (by omega)) ((lt.mul (Km i j hin hj)).mono (by omega))).mono (by rintro e w' ⟨v',rfl,hv,hb⟩;exact ⟨_,rfl,hb,hv.aU,λt ht=>by cases ht;exact hv⟩)) ?_;rintro _ ⟨nx,na,nm,nc,rfl⟩
      (refine aO λK hK=>?_;go_simp;refine hK _ ?_;clear hK K)
      refine aF ?_;intro w3 hw3 aK;have hv3:aj P w3 (.agg #[.int .i64 nx,.slice na nm nc]) (Pl.bF G k j t i k - t*Pl.bF G k j t i j):=aK 29 _ 160 (by decide) rfl rfl;clear aK y0 y1 y2 y3 y4 y5 y6 y7 y8;have wV:=(uh HR).1.grow hw3;have p0:=ae.cell hw3 (uh xH).1;have p1:=ae.cell hw3 (uh xH).2;have f0:=wV.free (r:=n+i) (by omega) (k*2);have f1:=wV.free (r:=n+i) (by omega) (k*2+1);have hrow:=(wV.oO.rows (n+i) (by omega)).block;have HS:=af (wV.Tg (r:=i) (i:=k) hin hk hv3);have HT3:=af (((uh HR).2.1.grow hw3).put hrow (λe=>by have:=uh FM (n+i) (by omega);omega) (k*2) (k*2+1) (.int .i64 nx) (.slice na nm nc));have wU:=af (((uh HR).2.2.1.grow hw3).put hrow (λe=>by have:=uh FM (n+i) (by omega);omega) (k*2) (k*2+1) (.int .i64 nx) (.slice na nm nc));have HB3:=af (((uh HR).2.2.2.trans (aaw hw3 (uh uY))).trans (uh HS).2);obtain ⟨W3,hW3⟩:∃ W,(w3.setCell ⟨R (n+i),k*2,none⟩ (.int .i64 nx)).setCell ⟨R (n+i),k*2+1,none⟩ (.slice na nm nc)=W:=⟨_,rfl⟩;rw [hW3] at HS HT3 wU HB3;have HR3:Hid (bg P B W3 n b gs gp go cs cp co R (Pl.bF St k j t) (nS (Pl.bF G k j t) k j t (i+1)) Ov V∧bC P W3 g8 tx ta tm tc t∧bC P W3 w.heap.size vx va vm vc (V (j+1))∧Below B w W3):=⟨(uh HS).1.congr (λ_ _ _ _=>rfl) (λa b _ _=>G9 a b) (λ_ _ _ _=>rfl) (λ_ _=>rfl),uh HT3,uh wU,uh HB3⟩;clear hv3 hw3 wV hrow HS HT3 wU HB3 HP HQ xH LD uY;go_wp2
      try rw [hW3]
      clear hW3 p0 p1 f0 f1;go_roundg (gk - 1)
      case measure=>omega
      case rel=>exact ⟨i+1,by simp,by omega,uh HR3⟩
     ·have hin':i=n:=by omega
      have He:Hid (bg P B wr n b gs gp go cs cp co R (Pl.bF St k j t) (Pl.dL G k j t) (gN Ov k j t 0) V∧bC P wr g8 tx ta tm tc t∧bC P wr w.heap.size vx va vm vc (V (j+1))∧Below B w wr):=by
       have h1:=uh HR;rw [hin'] at h1;exact ⟨h1.1.congr (λ_ _ _ _=>rfl) (λa b ha _=>Ha ha) (λa b _ _=>(tK a b).symm) (λ_ _=>rfl),h1.2⟩
      clear HR hik hin';obtain ⟨WF,Wq⟩:∃ WF,WF=wr:=⟨_,rfl⟩;subst Wq;obtain ⟨k0,_,_,_⟩:=(uh He).1.cells;go_wp2_with fail;go_loopg [11] j (λq lv wr=>∃ (l:Nat),lv=.int .i64 l∧l+q=j∧Hid (bg P B wr n b gs gp go cs cp co R (Pl.bF St k j t) (Pl.dL G k j t) (gN Ov k j t l) V∧bC P wr g8 tx ta tm tc t∧bC P wr w.heap.size vx va vm vc (V (j+1))∧Below B w wr))
      case atStart=>exact ⟨0,rfl,by omega,uh He⟩
      case round =>
       clear k0 He;obtain ⟨l,rfl,hlq,HR⟩:=hrel;by_cases hlj:l<j
       ·have hln:l<n:=by omega
        have uY:Hid (B<=wr.heap.size):=by have h1:=(uh HR).1.base.1;have h2:=z_ (uh HR).1.own;unfold Hid;omega
        obtain ⟨k0,k1,k2,k3⟩:=(uh HR).1.cells;obtain ⟨s0,px,pa,pm,pc,p0,p1,hp⟩:=(uh HR).1.G8 (r:=k) (i:=l) hk hln;rw [lL (by omega)] at hp;obtain ⟨s1,qx,qa,qm,qc,q0,q1,hq⟩:=(uh HR).1.G8 (r:=j) (i:=l) hj hln;rw [lL (by omega)] at hq;have HQ:=af hq;clear hq;have t0:=(uh HR).2.1.cells.1;have t1:=(uh HR).2.1.cells.2.1;have HP:=af hp;have xH:=af (x_ p0 p1);have LD:Hid (w.heap.size<=wr.heap.size):=(uh HR).2.2.2.size;clear hp;go_wp2_with fail;have y0:=b_ k3;have y1:=b_ s0;have y2:=b_ p0;have y3:=b_ p1;have y4:=b_ s1;have y5:=b_ q0;have y6:=b_ q1;have y7:=b_ t0;have y8:=b_ t1;clear k3 s0 p0 p1 s1 q0 q1 t0 t1;refine ah (cK [(196,λv w=>aj P w v (Ov k l - t*Ov j l))]) (gL [(196,ag)]) 220 31 (by kernel_rfl) (by rfl) (by kernel_rfl) (aN (λ_ _ _=>aj.below) cO) ?_
        iterate 29 (refine aO λK hK=>?_;go_simp;refine hK _ ?_;clear hK K)
        refine ai ag 399 #[.agg #[.int .i64 px,.slice pa pm pc],.agg #[.int .i64 tx,.slice ta tm tc],.agg #[.int .i64 qx,.slice qa qm qc]] (by rfl) (by rfl) ag.some (λw=>by go_simp) (λwq hg hf=>(uZ P (3*L+6) _ _ _ _ _ _ wq (λb' hb'=>hP b' (by have h1:=uh LD;have h2:=hg.size;omega)) ((uh HP).below hg) ((uh HR).2.1.val.below hg) ((uh HQ).below hg) (by omega) ((Y9 k l (by omega) hk).mono (by omega)) (lt.mono (by omega)) ((Y9 j l hlj hj).mono (by omega)) ((lt.mul (Y9 j l hlj hj)).mono (by omega))).mono (by rintro e w' ⟨v',rfl,hv,hb⟩;exact ⟨_,rfl,hb,hv.aU,λt ht=>by cases ht;exact hv⟩)) ?_;rintro _ ⟨nx,na,nm,nc,rfl⟩
        (refine aO λK hK=>?_;go_simp;refine hK _ ?_;clear hK K)
        refine aF ?_;intro w3 hw3 aK;have hv3:aj P w3 (.agg #[.int .i64 nx,.slice na nm nc]) (Ov k l - t*Ov j l):=aK 29 _ 196 (by decide) rfl rfl;clear aK y0 y1 y2 y3 y4 y5 y6 y7 y8;have wV:=(uh HR).1.grow hw3;have p0:=ae.cell hw3 (uh xH).1;have p1:=ae.cell hw3 (uh xH).2;have f0:=wV.free (r:=2*n+k) (by omega) (l*2);have f1:=wV.free (r:=2*n+k) (by omega) (l*2+1);have hrow:=(wV.oO.rows (2*n+k) (by omega)).block;have HS:=af (wV.Ws (r:=k) (i:=l) hk hln hv3);have HT3:=af (((uh HR).2.1.grow hw3).put hrow (λe=>by have:=uh FM (2*n+k) (by omega);omega) (l*2) (l*2+1) (.int .i64 nx) (.slice na nm nc));have wU:=af (((uh HR).2.2.1.grow hw3).put hrow (λe=>by have:=uh FM (2*n+k) (by omega);omega) (l*2) (l*2+1) (.int .i64 nx) (.slice na nm nc));have HB3:=af (((uh HR).2.2.2.trans (aaw hw3 (uh uY))).trans (uh HS).2);obtain ⟨W3,hW3⟩:∃ W,(w3.setCell ⟨R (2*n+k),l*2,none⟩ (.int .i64 nx)).setCell ⟨R (2*n+k),l*2+1,none⟩ (.slice na nm nc)=W:=⟨_,rfl⟩;rw [hW3] at HS HT3 wU HB3;have HR3:Hid (bg P B W3 n b gs gp go cs cp co R (Pl.bF St k j t) (Pl.dL G k j t) (gN Ov k j t (l+1)) V∧bC P W3 g8 tx ta tm tc t∧bC P W3 w.heap.size vx va vm vc (V (j+1))∧Below B w W3):=⟨(uh HS).1.congr (λ_ _ _ _=>rfl) (λ_ _ _ _=>rfl) (λa b _ _=>uW a b) (λ_ _=>rfl),uh HT3,uh wU,uh HB3⟩;clear hv3 hw3 wV hrow HS HT3 wU HB3 HP HQ xH LD uY;go_wp2
        try rw [hW3]
        clear hW3 p0 p1 f0 f1;go_roundg (gk - 1)
        case measure=>omega
        case rel=>exact ⟨l+1,by simp,by omega,uh HR3⟩
       ·have Wu:l=j:=by omega
        subst Wu;have uY:Hid (B<=wr.heap.size):=by have h1:=(uh HR).1.base.1;have h2:=z_ (uh HR).1.own;unfold Hid;omega
        obtain ⟨k0,k1,k2,k3⟩:=(uh HR).1.cells;obtain ⟨s0,px,pa,pm,pc,p0,p1,hp⟩:=(uh HR).1.G8 (r:=k) (i:=l) hk hj;rw [lL (by omega)] at hp;have q0:=(uh HR).2.2.1.cells.1;have q1:=(uh HR).2.2.1.cells.2.1;have HQ:=af (uh HR).2.2.1.val;have t0:=(uh HR).2.1.cells.1;have t1:=(uh HR).2.1.cells.2.1;have HP:=af hp;have xH:=af (x_ p0 p1);have LD:Hid (w.heap.size<=wr.heap.size):=(uh HR).2.2.2.size;clear hp;go_wp2_with fail;have y0:=b_ k3;have y1:=b_ s0;have y2:=b_ p0;have y3:=b_ p1;have y4:=b_ q0;have y5:=b_ q1;have y6:=b_ t0;have y7:=b_ t1;clear k3 s0 p0 p1 q0 q1 t0 t1;refine ah (cK [(218,λv w=>aj P w v (Ov k l - t*V (l+1)))]) (gL [(218,ag)]) 220 22 (by kernel_rfl) (by rfl) (by kernel_rfl) (aN (λ_ _ _=>aj.below) cO) ?_
        iterate 20 (refine aO λK hK=>?_;go_simp;refine hK _ ?_;clear hK K)
        refine ai ag 399 #[.agg #[.int .i64 px,.slice pa pm pc],.agg #[.int .i64 tx,.slice ta tm tc],.agg #[.int .i64 vx,.slice va vm vc]] (by rfl) (by rfl) ag.some (λw=>by go_simp) (λwq hg hf=>(uZ P (3*L+6) _ _ _ _ _ _ wq (λb' hb'=>hP b' (by have h1:=uh LD;have h2:=hg.size;omega)) ((uh HP).below hg) ((uh HR).2.1.val.below hg) ((uh HQ).below hg) (by omega) (lo.mono (by omega)) (lt.mono (by omega)) (lv.mono (by omega)) ((lt.mul lv).mono (by omega))).mono (by rintro e w' ⟨v',rfl,hv,hb⟩;exact ⟨_,rfl,hb,hv.aU,λt ht=>by cases ht;exact hv⟩)) ?_;rintro _ ⟨nx,na,nm,nc,rfl⟩
        (refine aO λK hK=>?_;go_simp;refine hK _ ?_;clear hK K)
        refine aF ?_;intro w3 hw3 aK;have hv3:aj P w3 (.agg #[.int .i64 nx,.slice na nm nc]) (Ov k l - t*V (l+1)):=aK 20 _ 218 (by decide) rfl rfl;clear aK y0 y1 y2 y3 y4 y5 y6 y7;have wV:=(uh HR).1.grow hw3;have p0:=ae.cell hw3 (uh xH).1;have p1:=ae.cell hw3 (uh xH).2;have f0:=wV.free (r:=2*n+k) (by omega) (l*2);have f1:=wV.free (r:=2*n+k) (by omega) (l*2+1);have hrow:=(wV.oO.rows (2*n+k) (by omega)).block;have HS:=af (wV.Ws (r:=k) (i:=l) hk hj hv3);have HT3:=af (((uh HR).2.1.grow hw3).put hrow (λe=>by have:=uh FM (2*n+k) (by omega);omega) (l*2) (l*2+1) (.int .i64 nx) (.slice na nm nc));have wU:=af (((uh HR).2.2.1.grow hw3).put hrow (λe=>by have:=uh FM (2*n+k) (by omega);omega) (l*2) (l*2+1) (.int .i64 nx) (.slice na nm nc));have HB3:=af (((uh HR).2.2.2.trans (aaw hw3 (uh uY))).trans (uh HS).2);obtain ⟨W3,hW3⟩:∃ W,(w3.setCell ⟨R (2*n+k),l*2,none⟩ (.int .i64 nx)).setCell ⟨R (2*n+k),l*2+1,none⟩ (.slice na nm nc)=W:=⟨_,rfl⟩;rw [hW3] at HS HT3 wU HB3;have HR3:Hid (bg P B W3 n b gs gp go cs cp co R (Pl.bF St k l t) (Pl.dL G k l t) (xG Ov k l t (V (l+1))) V∧bC P W3 g8 tx ta tm tc t∧bC P W3 w.heap.size vx va vm vc (V (l+1))∧Below B w W3):=⟨(uh HS).1.congr (λ_ _ _ _=>rfl) (λ_ _ _ _=>rfl) (λ_ _ _ _=>rfl) (λ_ _=>rfl),uh HT3,uh wU,uh HB3⟩;clear hv3 hw3 wV hrow HS HT3 wU HB3 HP HQ xH LD uY;go_wp2
        try rw [hW3]
        clear hW3 p0 p1 f0 f1;go_end0;exact ⟨rfl,(uh HR3).1,(uh HR3).2.2.2⟩
end Go.Proofs.YtfaljekgpnbmiaaGreat
