/- Joined: XTab3 XTab4 XTab5 XTab6. -/
import Derived.Test.YtfaljekgpnbmiaaJ09
set_option linter.unusedVariables false
set_option linter.unusedSimpArgs false
set_option maxRecDepth 100000
namespace Go.Proofs.Ytfaljekgpnbmiaa.Pl
theorem mul_le_pos {a b c:Int} (h:a≤b) (hc:0<c):a*c≤b*c:=Int.mul_le_mul_of_nonneg_right h (by omega)
theorem fr_trans {x p y q z r:Int} (hp:0<p) (hq:0<q) (hr:0<r) (h1:x*q≤y*p) (h2:y*r≤z*q):x*r≤z*p:=by
 have e1:=mul_le_pos h1 hr
 have e2:=mul_le_pos h2 hp
 have e3:y*p*r=y*r*p:=by simp only [Int.mul_assoc,Int.mul_comm,Int.mul_left_comm]
 have e4:x*q*r=(x*r)*q:=by simp only [Int.mul_assoc,Int.mul_comm,Int.mul_left_comm]
 have e5:z*q*p=(z*p)*q:=by simp only [Int.mul_assoc,Int.mul_comm,Int.mul_left_comm]
 rw [e4,e3] at e1
 rw [e5] at e2
 have:(x*r)*q≤(z*p)*q:=Int.le_trans e1 e2
 exact Int.le_of_mul_le_mul_right this hq
theorem fr_trans_lt {x p y q z r:Int} (hp:0<p) (hq:0<q) (hr:0<r) (h1:x*q<y*p) (h2:y*r≤z*q):x*r<z*p:=by
 have e1:x*q*r<y*p*r:=Int.mul_lt_mul_of_pos_right h1 hr
 have e2:=mul_le_pos h2 hp
 have e3:y*p*r=y*r*p:=by simp only [Int.mul_assoc,Int.mul_comm,Int.mul_left_comm]
 have e4:x*q*r=(x*r)*q:=by simp only [Int.mul_assoc,Int.mul_comm,Int.mul_left_comm]
 have e5:z*q*p=(z*p)*q:=by simp only [Int.mul_assoc,Int.mul_comm,Int.mul_left_comm]
 rw [e4,e3] at e1
 rw [e5] at e2
 have:(x*r)*q<(z*p)*q:=Int.lt_of_lt_of_le e1 e2
 exact Int.lt_of_mul_lt_mul_right this (by omega)
theorem mul_pos_cases {a b:Int} (h:0<a*b):(0<a∧0<b)∨(a<0∧b<0):=by
 rcases (show a<0∨a=0∨0<a by omega) with h1|h1|h1
 ·rcases (show b<0∨b=0∨0<b by omega) with h2 | h2 | h2
  ·exact .inr ⟨h1,h2⟩
  ·rw [h2,Int.mul_zero] at h;omega
  ·have:=Int.mul_neg_of_neg_of_pos h1 h2;omega
 ·rw [h1,Int.zero_mul] at h;omega
 ·rcases (show b<0∨b=0∨0<b by omega) with h2 | h2 | h2
  ·have:=Int.mul_neg_of_pos_of_neg h1 h2;omega
  ·rw [h2,Int.mul_zero] at h;omega
  ·exact .inl ⟨h1,h2⟩
theorem TabOk.swap_const {F:Int→Nat→Int} {n:Nat} {t:Tab} (h:TabOk F n t) {r c k:Nat} (hr:r<t.lines.length) (hk:k<t.lines.length) (hkr:k≠r) (hc:c<n) (hp:t.cell r (c+1)<0) :
  t.scale*(t.swap r c).cell k 0=t.cell k 0*(-t.cell r (c+1))+t.cell k (c+1)*t.cell r 0:=by
 obtain ⟨x,hx⟩:=h.exact hr hk hc (by omega) 0 (by omega) (by omega)
 rw [Tab.swap_cell t r c k 0 hk (by omega),if_neg hkr,if_neg (by omega),hx,fdiv_exact h.pos rfl,Int.sign_eq_neg_one_of_neg hp,Int.neg_mul,Int.one_mul,Int.mul_neg,←hx,Int.mul_neg,Int.mul_comm (t.cell r (c+1))]
 omega
theorem swap_scale {t:Tab} {r c:Nat} (hp:t.cell r (c+1)<0):(t.swap r c).scale=-t.cell r (c+1):=by
 show ((t.cell r (c+1)).natAbs:Int)=_
 omega
structure Prim (n:Nat) (T:Nat→Tab) (R C:Nat→Nat) (wr:Nat) (a b:Nat):Prop where
 there:∀ i,a≤i→i≤b→wr<(T i).lines.length
 wname:∀ i,a≤i→i≤b→(T i).name wr<0
 same:∀ i,a≤i→i<b→(T (i+1)).name wr=(T i).name wr
 feas:∀ i,a≤i→i≤b→∀ k,k<(T i).lines.length→0≤(T i).name k→0≤(T i).cell k 0
 colName:∀ i,a≤i→i<b→0≤(T i).col (C i)
 colPos:∀ i,a≤i→i<b→0<(T i).cell wr (C i+1)
 colLeast:∀ i,a≤i→i<b→∀ k,k<n→0≤(T i).col k→0<(T i).cell wr (k+1)→(T i).col (C i)≤(T i).col k
 rowName:∀ i,a≤i→i<b→0≤(T i).name (R i)
 rowNeg:∀ i,a≤i→i<b→(T i).cell (R i) (C i+1)<0
 tie:∀ i,a≤i→i<b→∀ k,k<(T i).lines.length→0≤(T i).name k→(T i).cell k (C i+1)<0→(T i).cell k 0=0→(T i).cell (R i) 0=0→(T i).name (R i)≤(T i).name k
section
variable {F:Int→Nat→Int} {n:Nat} {T:Nat→Tab} {R C:Nat→Nat} {wr a b:Nat}
theorem Prim.row_ne (S:Prim n T R C wr a b) {i:Nat} (h1:a≤i) (h2:i<b):wr≠R i:=by
 intro h
 have h3:=S.wname i h1 (by omega)
 have h4:=S.rowName i h1 h2
 rw [h] at h3;omega
theorem Walk.rise (W:Walk F n T R C a b) (S:Prim n T R C wr a b) {i:Nat} (h1:a≤i) (h2:i<b) :
  (T i).cell wr 0*(T (i+1)).scale≤(T (i+1)).cell wr 0*(T i).scale∧(0<(T i).cell (R i) 0→(T i).cell wr 0*(T (i+1)).scale<(T (i+1)).cell wr 0*(T i).scale):=by
 have e:=(W.ok i h1 (by omega)).swap_const (W.row i h1 h2) (S.there i h1 (by omega)) (S.row_ne h1 h2) (W.col i h1 h2) (S.rowNeg i h1 h2)
 rw [W.next i h1 h2,swap_scale (S.rowNeg i h1 h2)]
 rw [Int.mul_comm] at e
 have h3:=S.colPos i h1 h2
 have h4:=S.feas i h1 (by omega) _ (W.row i h1 h2) (S.rowName i h1 h2)
 have h5:0≤(T i).cell wr (C i+1)*(T i).cell (R i) 0:=Int.mul_nonneg (by omega) h4
 refine ⟨by omega,fun h6=>?_⟩
 have h7:0<(T i).cell wr (C i+1)*(T i).cell (R i) 0:=Int.mul_pos h3 h6
 omega
theorem Walk.rises (W:Walk F n T R C a b) (S:Prim n T R C wr a b) {u:Nat} (hu:a≤u):∀ (d:Nat),u+d≤b→(T u).cell wr 0*(T (u+d)).scale≤(T (u+d)).cell wr 0*(T u).scale
 | 0,_=>Int.le_refl _
 | d+1,h=>fr_trans (W.ok u hu (by omega)).pos (W.ok (u+d) (by omega) (by omega)).pos (W.ok (u+d+1) (by omega) (by omega)).pos (Walk.rises W S hu d (by omega)) (W.rise S (by omega) (by omega)).1
theorem TabOk.same_corner {F:Int→Nat→Int} {n:Nat} {t t':Tab} (h:TabOk F n t) (h':TabOk F n t') (hc:∀ x,IsCol n t x↔IsCol n t' x) {w w':Nat} (hw:w<t.lines.length) (hw':w'<t'.lines.length) (he:t.name w=t'.name w') :
  t'.scale*t.cell w 0=t'.cell w' 0*t.scale:=by
 obtain ⟨Q,q1,q2⟩:=h.point 0 (by omega)
 have q0:Q 0=t.scale:=by
  have:=q1 0 (by omega)
  rw [base_zero,ev_unit n Q 0 (by omega),if_pos rfl] at this;exact this
 have e:=h'.eval2 hw' Q
 rw [←he,q2 w hw,q0,sm_zero fun c hcn=>?_] at e
 ·omega
 ·obtain ⟨c2,hc2,e2⟩:=(hc (t'.col c)).2 ⟨c,hcn,rfl⟩
  have:=q1 (c2+1) (by omega)
  rw [base_succ,if_neg (by omega),e2] at this
  rw [this,Int.mul_zero]
theorem Prim.wname_all (S:Prim n T R C wr a b):∀ d,a+d≤b→(T (a+d)).name wr=(T a).name wr
 | 0,_=>rfl
 | d+1,h=>(S.same (a+d) (by omega) (by omega)).trans (Prim.wname_all S d (by omega))
theorem Walk.stands (W:Walk F n T R C a b) (S:Prim n T R C wr a b) (hab:∀ x,IsCol n (T a) x↔IsCol n (T b) x) {i:Nat} (h1:a≤i) (h2:i<b):(T i).cell (R i) 0=0:=by
 apply Classical.byContradiction
 intro hne
 have h3:=S.feas i h1 (by omega) _ (W.row i h1 h2) (S.rowName i h1 h2)
 have hlt:=(W.rise S h1 h2).2 (by omega)
 have r1:=W.rises S (Nat.le_refl a) (i - a) (by omega)
 rw [show a+(i - a)=i by omega] at r1
 have r2:=W.rises S (show a≤i+1 by omega) (b - (i+1)) (by omega)
 rw [show i+1+(b - (i+1))=b by omega] at r2
 have pa:=(W.ok a (Nat.le_refl _) (by omega)).pos
 have pi:=(W.ok i h1 (by omega)).pos
 have pj:=(W.ok (i+1) (by omega) (by omega)).pos
 have pb:=(W.ok b (by omega) (Nat.le_refl _)).pos
 have s1:(T i).cell wr 0*(T b).scale<(T b).cell wr 0*(T i).scale:=fr_trans_lt pi pj pb hlt r2
 have e:=(W.ok a (Nat.le_refl _) (by omega)).same_corner (W.ok b (by omega) (Nat.le_refl _)) hab (S.there a (Nat.le_refl _) (by omega)) (S.there b (by omega) (Nat.le_refl _)) (by
  have:=S.wname_all (b - a) (by omega)
  rw [show a+(b - a)=b by omega] at this;exact this.symm)
 have s2:=fr_trans pb pa pi (show (T b).cell wr 0*(T a).scale≤(T a).cell wr 0*(T b).scale by rw [←e,Int.mul_comm];exact Int.le_refl _) r1
 omega
theorem Walk.corner (W:Walk F n T R C a b) (S:Prim n T R C wr a b) (hab:∀ x,IsCol n (T a) x↔IsCol n (T b) x) {Q:Nat→Int} (hQ:∀ x,IsCol n (T a) x→ev n (F x) Q=0):∀ d,a+d≤b→∀ x,IsCol n (T (a+d)) x→ev n (F x) Q=0
 | 0,_,x,hx=>hQ x hx
 | d+1,h,x,hx=>by
  have ih:=Walk.corner W S hab hQ d (by omega)
  rw [show a+(d+1)=a+d+1 by omega,W.next (a+d) (by omega) (by omega)] at hx
  rcases (swap_isCol (W.names (a+d) (by omega) (by omega)) (W.ok (a+d) (by omega) (by omega)).cols (W.col (a+d) (by omega) (by omega)) x).1 hx with ⟨h1,_⟩|h1
  ·exact ih x h1
  ·have e:=(W.ok (a+d) (by omega) (by omega)).eval2 (W.row (a+d) (by omega) (by omega)) Q
   rw [W.stands S hab (by omega) (by omega),Int.zero_mul,sm_zero fun c hc=>by rw [ih _ ⟨c,hc,rfl⟩,Int.mul_zero]] at e
   have hs:=(W.ok (a+d) (by omega) (by omega)).pos
   rw [h1]
   rcases Int.mul_eq_zero.1 (show (T (a+d)).scale*ev n (F ((T (a+d)).name (R (a+d)))) Q=0 by omega) with h2|h2
   ·omega
   ·exact h2
theorem Walk.no_circle (W:Walk F n T R C a b) (S:Prim n T R C wr a b) (hlt:a<b) {M:Int} (hM:∀ i,a≤i→i≤b→∀ x,IsCol n (T i) x→x≤M)
  (lines:∀ i j,a≤i→i≤b→a≤j→j≤b→∀ x,IsCol n (T i) x→¬ IsCol n (T j) x→IsLine (T j) x) (hab:∀ x,IsCol n (T a) x↔IsCol n (T b) x):False:=by
 have hf0:Fickle n T a b ((T a).name (R a)):=by
  refine ⟨a+1,a,by omega,by omega,by omega,by omega,?_,?_⟩
  ·rw [W.next a (Nat.le_refl _) hlt]
   exact (swap_isCol (W.names a (Nat.le_refl _) (by omega)) (W.ok a (Nat.le_refl _) (by omega)).cols (W.col a (Nat.le_refl _) hlt) _).2 (.inr rfl)
  ·intro h
   exact (W.names a (Nat.le_refl _) (by omega)).not_both h ⟨_,W.row a (Nat.le_refl _) hlt,rfl⟩
 obtain ⟨x,hx,hmax⟩:=greatest (p:=Fickle n T a b) (M:=M) (fun y ⟨i,_,h1,h2,_,_,h3,_⟩=>hM i h1 h2 y h3) hf0
 obtain ⟨⟨A,a1,a2,a3,a4⟩,⟨B,b1,b2,b3,b4⟩⟩:=W.both hab hx
 have fick0:∀ y,Fickle n T a b y→0≤y:=fun y hy=>by
  obtain ⟨⟨i,h1,h2,_,h4⟩,_⟩:=W.both hab hy
  rw [h4];exact S.colName i h1 h2
 -- the corner,at which all fickle names are 0
 obtain ⟨Q,q1,q2⟩:=(W.ok a (Nat.le_refl _) (by omega)).point 0 (by omega)
 have q0:Q 0=(T a).scale:=by
  have:=q1 0 (by omega)
  rw [base_zero,ev_unit n Q 0 (by omega),if_pos rfl] at this;exact this
 have pa:=(W.ok a (Nat.le_refl _) (by omega)).pos
 have hQ:=W.corner S hab (Q:=Q) (fun y ⟨c,hc,e⟩=>by
  have:=q1 (c+1) (by omega)
  rw [base_succ,if_neg (by omega),e] at this;exact this)
 have fzero:∀ y,Fickle n T a b y→ev n (F y) Q=0:=fun y ⟨i,_,h1,h2,_,_,h3,_⟩=>by
  have:=hQ (i - a) (by omega) y
  rw [show a+(i - a)=i by omega] at this
  exact this h3
 have okA:=W.ok A a1 (by omega)
 have okB:=W.ok B b1 (by omega)
 have nmB:=W.names B b1 (by omega)
 have pB:=okB.pos
 have cB:=W.col B b1 b2
 -- the way along the column of B
 obtain ⟨D,d1,d2⟩:=okB.point (C B+1) (by omega)
 have d0:D 0=0:=by
  have:=d1 0 (by omega)
  rw [base_zero,ev_unit n D 0 (by omega),if_neg (by omega)] at this;exact this
 have hw:(T A).name wr=(T B).name wr:=by
  have e1:=S.wname_all (A - a) (by omega)
  have e2:=S.wname_all (B - a) (by omega)
  rw [show a+(A - a)=A by omega] at e1
  rw [show a+(B - a)=B by omega] at e2
  rw [e1,e2]
 have e:=okA.eval2 (S.there A a1 (by omega)) D
 rw [d0,Int.mul_zero,Int.zero_add,hw,d2 wr (S.there B b1 (by omega))] at e
 have hpos:0<(T A).scale*(T B).cell wr (C B+1):=Int.mul_pos okA.pos (S.colPos B b1 b2)
 rw [e] at hpos
 obtain ⟨c,hc,hcp⟩:=sm_pos_some hpos
 have hfe:Fickle n T a b ((T B).col (C B)):=by
  refine ⟨B,B+1,by omega,by omega,by omega,by omega,⟨_,cB,rfl⟩,fun h=>?_⟩
  rw [W.next B b1 b2] at h
  rcases (swap_isCol nmB okB.cols cB _).1 h with ⟨_,h⟩|h
  ·exact h rfl
  ·exact nmB.apart _ _ (W.row B b1 b2) cB h.symm
 by_cases hyB:IsCol n (T B) ((T A).col c)
 ·obtain ⟨c',hc',e'⟩:=hyB
  by_cases hcc:c'=C B
  ·-- the entering column itself
   subst hcc
   have hv:=d1 (C B+1) (by omega)
   rw [base_succ,if_pos rfl] at hv
   rw [←e',hv] at hcp
   have hcell:0<(T A).cell wr (c+1):=by
    rcases mul_pos_cases hcp with h|h
    ·exact h.1
    ·omega
   have hle:=S.colLeast A a1 a2 c hc (by rw [←e'];exact S.colName B b1 b2) hcell
   rw [←a4,←e'] at hle
   have hle2:=hmax _ hfe
   have:(T B).col (C B)=x:=by omega
   exact b3 ⟨_,cB,this⟩
  ·have hv:=d1 (c'+1) (by omega)
   rw [base_succ,if_neg (by omega),e'] at hv
   rw [hv,Int.mul_zero] at hcp
   omega
 ·obtain ⟨k,hk,ek⟩:=lines A B a1 (by omega) b1 (by omega) _ ⟨c,hc,rfl⟩ hyB
  have hfy:Fickle n T a b ((T A).col c):=⟨A,B,a1,by omega,b1,by omega,⟨c,hc,rfl⟩,hyB⟩
  have hle:=hmax _ hfy
  have hy0:=fick0 _ hfy
  have hv:=d2 k hk
  rw [ek] at hv
  rw [hv] at hcp
  have hxy:(T A).col c=x→(T A).cell wr (c+1) > 0∧(T B).cell k (C B+1)<0:=fun h=>by
   have h1:c=C A:=(W.names A a1 (by omega)).cols _ _ hc (W.col A a1 a2) (by rw [h,a4])
   have h2:k=R B:=nmB.lines _ _ hk (W.row B b1 b2) (by rw [ek,h,b4])
   exact ⟨by rw [h1];exact S.colPos A a1 a2,by rw [h2];exact S.rowNeg B b1 b2⟩
  rcases mul_pos_cases hcp with ⟨p1,p2⟩|⟨p1,p2⟩
  ·have:=S.colLeast A a1 a2 c hc hy0 p1
   rw [←a4] at this
   have:=(hxy (by omega)).2
   omega
  ·have hne:(T A).col c≠x:=fun h=>by have:=(hxy h).1;omega
   have hk0:(T B).cell k 0=0:=by
    have e3:=okB.eval2 hk Q
    rw [ek,fzero _ hfy,sm_zero fun c2 hc2=>?_,q0] at e3
    ·rcases Int.mul_eq_zero.1 (show (T B).cell k 0*(T a).scale=0 by omega) with h | h
     ·exact h
     ·omega
    ·have h2:=hQ (B - a) (by omega)
     rw [show a+(B - a)=B by omega] at h2
     rw [h2 _ ⟨c2,hc2,rfl⟩,Int.mul_zero]
   have:=S.tie B b1 b2 k hk (by rw [ek];exact hy0) p2 hk0 (W.stands S hab b1 b2)
   rw [ek,←b4] at this
   omega
end
theorem nodup_len:∀ (l m:List (List Int)),l.Nodup→(∀ x∈l,x∈m)→l.length≤m.length
 | [],_,_,_=>Nat.zero_le _
 | a::l,m,hn,hs=>by
  have ha:a∈m:=hs a (by simp)
  have h1:=nodup_len l (m.erase a) (List.nodup_cons.1 hn).2 (fun x hx=>by
   have hne:x≠a:=fun e=>(List.nodup_cons.1 hn).1 (e ▸ hx)
   exact (List.mem_erase_of_ne hne).2 (hs x (by simp [hx])))
  have h2:=List.length_erase_of_mem ha
  have h3:0<m.length:=List.length_pos_of_mem ha
  simp only [List.length_cons]
  omega
def wordsOf (U:List Int):Nat→List (List Int)
 | 0=>[[]]
 | n+1=>U.flatMap fun x=>(wordsOf U n).map fun l=>x::l
theorem wordsOf_len (U:List Int):∀ n,(wordsOf U n).length=U.length^n
 | 0=>rfl
 | n+1=>by
  rw [wordsOf,List.length_flatMap]
  have e:(U.map fun x=>((wordsOf U n).map fun l=>x::l).length)=U.map fun _=>U.length^n:=by
   apply List.map_congr_left
   intro x _
   rw [List.length_map,wordsOf_len U n]
  rw [e,Nat.pow_succ,Nat.mul_comm]
  generalize U.length^n=q
  clear e
  induction U with
  | nil=>simp
  | cons a U ih=>simp only [List.map_cons,List.sum_cons,List.length_cons,ih,Nat.add_mul];omega
theorem mem_wordsOf (U:List Int):∀ (n:Nat) (l:List Int),l.length=n→(∀ x∈l,x∈U)→l∈wordsOf U n
 | 0,l,h,_=>by
  have:l=[]:=List.eq_nil_of_length_eq_zero h
  subst this;simp [wordsOf]
 | n+1,[],h,_=>by simp at h
 | n+1,x::l,h,hs=>by
  rw [wordsOf,List.mem_flatMap]
  exact ⟨x,hs x (by simp),List.mem_map.2 ⟨l,mem_wordsOf U n l (by simpa using h) (fun y hy=>hs y (by simp [hy])),rfl⟩⟩
theorem pigeon {f:Nat→List Int} {U:List Int} {n:Nat} (h:∀ i,i≤U.length^n→(f i).length=n∧∀ x∈f i,x∈U):∃ i j,i<j∧j≤U.length^n∧f i=f j:=by
 apply Classical.byContradiction
 intro hc
 have hinj:∀ i j,i<j→j≤U.length^n→f i≠f j:=fun i j h1 h2 h3=>hc ⟨i,j,h1,h2,h3⟩
 have hnd:∀ k,k≤U.length^n+1→((List.range k).map f).Nodup:=by
  intro k
  induction k with
  | zero=>intro _;simp
  | succ k ih =>
   intro hk
   rw [List.range_succ,List.map_append,List.nodup_append]
   refine ⟨ih (by omega),by simp,?_⟩
   intro a ha b hb
   obtain ⟨i,hi,rfl⟩:=List.mem_map.1 ha
   simp at hb
   subst hb
   exact hinj i k (List.mem_range.1 hi) (by omega)
 have:=nodup_len _ (wordsOf U n) (hnd _ (Nat.le_refl _)) (fun x hx=>by
  obtain ⟨i,hi,rfl⟩:=List.mem_map.1 hx
  have:=h i (by have:=List.mem_range.1 hi;omega)
  exact mem_wordsOf U n _ this.1 this.2)
 rw [List.length_map,List.length_range,wordsOf_len] at this
 omega
structure Stat (U:List Int) (n:Nat) (t:Tab):Prop where
 cols:∀ x,IsCol n t x→x∈U
 lines:∀ x,IsLine t x→x∈U
 all:∀ x,x∈U→IsCol n t x∨IsLine t x
theorem Stat.swap {U:List Int} {n:Nat} {t:Tab} (h:Stat U n t) (hn:NamesOk n t) (hl:t.cols.length=n) {r c:Nat} (hr:r<t.lines.length) (hc:c<n):Stat U n (t.swap r c):=by
 refine ⟨fun x hx=>?_,fun x hx=>?_,fun x hx=>?_⟩
 ·rcases (swap_isCol hn hl hc x).1 hx with ⟨h1,_⟩ | h1
  ·exact h.cols x h1
  ·rw [h1];exact h.lines _ ⟨r,hr,rfl⟩
 ·rcases (swap_isLine hn hr x).1 hx with ⟨h1,_⟩ | h1
  ·exact h.lines x h1
  ·rw [h1];exact h.cols _ ⟨c,hc,rfl⟩
 ·rcases h.all x hx with h1 | h1
  ·by_cases e:x=t.col c
   ·exact .inr ((swap_isLine hn hr x).2 (.inr e))
   ·exact .inl ((swap_isCol hn hl hc x).2 (.inl ⟨h1,e⟩))
  ·by_cases e:x=t.name r
   ·exact .inl ((swap_isCol hn hl hc x).2 (.inr e))
   ·exact .inr ((swap_isLine hn hr x).2 (.inl ⟨h1,e⟩))
theorem list_bound (U:List Int):∃ M:Int,∀ x∈U,x≤M:=by
 induction U with
 | nil=>exact ⟨0,fun x hx=>by simp at hx⟩
 | cons a U ih =>
  obtain ⟨M,hM⟩:=ih
  refine ⟨if a≤M then M else a,fun x hx=>?_⟩
  rcases List.mem_cons.1 hx with h|h
  ·subst h;split <;> omega
  ·have:=hM x h;split <;> omega
theorem isCol_iff {n:Nat} {t:Tab} (hn:t.cols.length=n) (x:Int):IsCol n t x↔x∈t.cols:=by
 constructor
 ·rintro ⟨c,hc,e⟩
  unfold Tab.col at e
  rw [List.getD_eq_getElem?_getD,List.getElem?_eq_getElem (by omega)] at e
  rw [←e];exact List.getElem_mem _
 ·intro h
  obtain ⟨c,hc,e⟩:=List.mem_iff_getElem.1 h
  refine ⟨c,by omega,?_⟩
  unfold Tab.col
  rw [List.getD_eq_getElem?_getD,List.getElem?_eq_getElem hc];exact e
section
variable {F:Int→Nat→Int} {n:Nat} {T:Nat→Tab} {R C:Nat→Nat} {b:Nat} {U:List Int}
theorem Walk.part {a:Nat} (W:Walk F n T R C a b) {i j:Nat} (hi:a≤i) (hj:j≤b):Walk F n T R C i j :=
 ⟨fun k h1 h2=>W.ok k (by omega) (by omega),fun k h1 h2=>W.names k (by omega) (by omega),fun k h1 h2=>W.row k (by omega) (by omega),fun k h1 h2=>W.col k (by omega) (by omega),fun k h1 h2=>W.next k (by omega) (by omega)⟩
theorem Feas.part {a:Nat} (S:Feas n T R C a b) {i j:Nat} (hi:a≤i) (hj:j≤b):Feas n T R C i j :=
 ⟨fun k h1 h2=>S.rowName k (by omega) (by omega),fun k h1 h2=>S.rowNeg k (by omega) (by omega),fun k h1 h2=>S.rowLeast k (by omega) (by omega),fun k h1 h2=>S.colName k (by omega) (by omega),fun k h1 h2=>S.colPos k (by omega) (by omega),fun k h1 h2=>S.colLeast k (by omega) (by omega)⟩
theorem Prim.part {a wr:Nat} (S:Prim n T R C wr a b) {i j:Nat} (hi:a≤i) (hj:j≤b):Prim n T R C wr i j :=
 ⟨fun k h1 h2=>S.there k (by omega) (by omega),fun k h1 h2=>S.wname k (by omega) (by omega),fun k h1 h2=>S.same k (by omega) (by omega),fun k h1 h2=>S.feas k (by omega) (by omega),fun k h1 h2=>S.colName k (by omega) (by omega),fun k h1 h2=>S.colPos k (by omega) (by omega),fun k h1 h2=>S.colLeast k (by omega) (by omega),fun k h1 h2=>S.rowName k (by omega) (by omega),fun k h1 h2=>S.rowNeg k (by omega) (by omega),fun k h1 h2=>S.tie k (by omega) (by omega)⟩
theorem Walk.repeats (W:Walk F n T R C 0 b) (hU:∀ i,i≤b→Stat U n (T i)) (hb:U.length^n<b):∃ i j,i<j∧j≤b∧(∀ x,IsCol n (T i) x↔IsCol n (T j) x):=by
 obtain ⟨i,j,h1,h2,h3⟩:=pigeon (f:=fun i=>(T i).cols) (U:=U) (n:=n) (fun i hi=>⟨(W.ok i (by omega) (by omega)).cols,fun x hx=>(hU i (by omega)).cols x ((isCol_iff (W.ok i (by omega) (by omega)).cols x).2 hx)⟩)
 refine ⟨i,j,h1,by omega,fun x=>?_⟩
 rw [isCol_iff (W.ok i (by omega) (by omega)).cols,isCol_iff (W.ok j (by omega) (by omega)).cols,h3]
theorem Walk.short (W:Walk F n T R C 0 b) (S:Feas n T R C 0 b) (hU:∀ i,i≤b→Stat U n (T i)):b≤U.length^n:=by
 apply Classical.byContradiction
 intro hlt
 obtain ⟨i,j,h1,h2,h3⟩:=W.repeats hU (by omega)
 obtain ⟨M,hM⟩:=list_bound U
 exact (W.part (Nat.zero_le i) h2).no_cycle (S.part (Nat.zero_le i) h2) h1 (M:=M) (fun k k1 k2 x hx=>hM x ((hU k (by omega)).cols x hx))
  (fun p q p1 p2 q1 q2 x hx hy=>((hU q (by omega)).all x ((hU p (by omega)).cols x hx)).resolve_left hy) h3
theorem Walk.short2 {wr:Nat} (W:Walk F n T R C 0 b) (S:Prim n T R C wr 0 b) (hU:∀ i,i≤b→Stat U n (T i)):b≤U.length^n:=by
 apply Classical.byContradiction
 intro hlt
 obtain ⟨i,j,h1,h2,h3⟩:=W.repeats hU (by omega)
 obtain ⟨M,hM⟩:=list_bound U
 exact (W.part (Nat.zero_le i) h2).no_circle (S.part (Nat.zero_le i) h2) h1 (M:=M) (fun k k1 k2 x hx=>hM x ((hU k (by omega)).cols x hx))
  (fun p q p1 p2 q1 q2 x hx hy=>((hU q (by omega)).all x ((hU p (by omega)).cols x hx)).resolve_left hy) h3
end
section
variable {F:Int→Nat→Int} {n:Nat} {t:Tab}
theorem TabOk.none (h:TabOk F n t) {r:Nat} (hr:r<t.lines.length) (h0:t.cell r 0<0) (hc:∀ c,c<n→t.cell r (c+1)≤0) {P:Nat→Int} (hP:0<P 0) (hcol:∀ c,c<n→0≤ev n (F (t.col c)) P):ev n (F (t.name r)) P<0:=by
 have e:=h.eval2 hr P
 have h1:t.cell r 0*P 0<0:=Int.mul_neg_of_neg_of_pos h0 hP
 have h2:sm n (fun c=>t.cell r (c+1)*ev n (F (t.col c)) P)≤0:=sm_nonpos fun c hcn=>Int.mul_nonpos_of_nonpos_of_nonneg (hc c hcn) (hcol c hcn)
 have hs:=h.pos
 apply Classical.byContradiction
 intro hge
 have:=Int.mul_nonneg (show 0≤t.scale by omega) (show 0≤ev n (F (t.name r)) P by omega)
 omega
theorem TabOk.top (h:TabOk F n t) {r:Nat} (hr:r<t.lines.length) (hc:∀ c,c<n→t.cell r (c+1)≤0) {P:Nat→Int} (hcol:∀ c,c<n→0≤ev n (F (t.col c)) P):t.scale*ev n (F (t.name r)) P≤t.cell r 0*P 0:=by
 have e:=h.eval2 hr P
 have h2:sm n (fun c=>t.cell r (c+1)*ev n (F (t.col c)) P)≤0:=sm_nonpos fun c hcn=>Int.mul_nonpos_of_nonpos_of_nonneg (hc c hcn) (hcol c hcn)
 omega
theorem TabOk.top_whole (h:TabOk F n t) {r:Nat} (hr:r<t.lines.length) (hc:∀ c,c<n→t.cell r (c+1)≤0) {P:Nat→Int} (hP:P 0=1) (hcol:∀ c,c<n→0≤ev n (F (t.col c)) P):ev n (F (t.name r)) P≤Int.fdiv (t.cell r 0) t.scale:=by
 have:=h.top hr hc hcol
 rw [hP,Int.mul_one] at this
 rw [Int.fdiv_eq_ediv_of_nonneg _ (by have:=h.pos;omega)]
 exact Int.le_ediv_of_mul_le h.pos (by rw [Int.mul_comm];exact this)
theorem TabOk.keeps (h:TabOk F n t) {r c:Nat} (hr:r<t.lines.length) (hc:c<n) (hp:t.cell r (c+1)<0) (hrn:0≤t.cell r 0) (feas:∀ k,k<t.lines.length→0≤t.name k→0≤t.cell k 0)
  (ratio:∀ k,k<t.lines.length→0≤t.name k→t.cell k (c+1)<0→t.cell r 0*(-t.cell k (c+1))≤t.cell k 0*(-t.cell r (c+1))) :
  ∀ k,k<(t.swap r c).lines.length→0≤(t.swap r c).name k→0≤(t.swap r c).cell k 0:=by
 intro k hk hn
 rw [Tab.swap_len] at hk
 rw [Tab.swap_name t r c k hk] at hn
 by_cases hkr:k=r
 ·rw [Tab.swap_cell t r c k 0 hk (by omega),if_pos hkr,if_neg (by omega),Int.sign_eq_neg_one_of_neg hp]
  omega
 ·rw [if_neg hkr] at hn
  have e:=h.swap_const hr hk hkr hc hp
  have hs:=h.pos
  have h0:=feas k hk hn
  have h1:0≤t.cell k 0*(-t.cell r (c+1))+t.cell k (c+1)*t.cell r 0:=by
   by_cases hneg:t.cell k (c+1)<0
   ·have:=ratio k hk hn hneg
    rw [Int.mul_neg,Int.mul_comm (t.cell r 0)] at this
    omega
   ·have h2:=Int.mul_nonneg h0 (show 0≤-t.cell r (c+1) by omega)
    have h3:=Int.mul_nonneg (show 0≤t.cell k (c+1) by omega) hrn
    omega
  rw [←e] at h1
  apply Classical.byContradiction
  intro hc2
  have:=Int.mul_neg_of_pos_of_neg hs (show (t.swap r c).cell k 0<0 by omega)
  omega
def Tied (F:Int→Nat→Int) (n m:Nat):Prop:=∀ D:Nat→Int,D 0=0→(∀ i:Nat,i<m→0≤ev n (F i) D)→∀ k,k<n+1→D k=0
theorem ev_zero {n:Nat} {f D:Nat→Int} (h:∀ k,k<n+1→D k=0):ev n f D=0:=sm_zero fun k hk=>by rw [h k hk,Int.mul_zero]
theorem way_nonneg {m:Nat} (h:TabOk F n t) {c:Nat} (hc:c<n) (hst:∀ i:Nat,i<m→IsCol n t i∨IsLine t i) (hl:∀ k,k<t.lines.length→0≤t.name k→0≤t.cell k (c+1)) (hT:Tied F n m):False:=by
 obtain ⟨D,d1,d2⟩:=h.point (c+1) (by omega)
 have d0:D 0=0:=by
  have:=d1 0 (by omega)
  rw [base_zero,ev_unit n D 0 (by omega),if_neg (by omega)] at this;exact this
 have hs:=h.pos
 have hz:=hT D d0 (fun i hi=>by
  rcases hst i hi with ⟨c2,hc2,e⟩|⟨r,hr,e⟩
  ·have:=d1 (c2+1) (by omega)
   rw [base_succ,e] at this
   rw [this];split <;> omega
  ·have:=d2 r hr
   rw [e] at this
   rw [this];exact hl r hr (by rw [e];omega))
 have h1:=d1 (c+1) (by omega)
 rw [if_pos rfl,ev_zero hz] at h1
 omega
end
section
variable {F:Int→Nat→Int} {n:Nat} {t:Tab}
theorem TabOk.cell_det (h:TabOk F n t) {r:Nat} (hr:r<t.lines.length) {j:Nat} (hj:j<n+1):∃ e:Int,e*e=1∧t.cell r j=e*det (n+1) (upd (t.base F) j (F (t.name r))):=by
 obtain ⟨e,ee,he⟩:=h.dets
 refine ⟨e,ee,?_⟩
 have h1:=cramer (R:=t.base F) (s:=t.scale) (v:=F (t.name r)) (c:=fun j=>t.cell r j) (fun k hk=>h.tells r hr k hk) (r:=j) hj
 rw [he] at h1
 have hs:=h.pos
 refine Int.eq_of_mul_eq_mul_left (a:=t.scale*e) ?_ ?_
 ·intro h0
  rcases Int.mul_eq_zero.1 h0 with h0|h0
  ·omega
  ·rw [h0] at ee;simp at ee
 ·have e1:t.scale*e*(e*det (n+1) (upd (t.base F) j (F (t.name r))))=(e*e)*(t.scale*det (n+1) (upd (t.base F) j (F (t.name r)))):=by simp only [Int.mul_assoc,Int.mul_left_comm,Int.mul_comm]
  rw [e1,ee,Int.one_mul,h1]
  simp only [Int.mul_assoc,Int.mul_left_comm,Int.mul_comm]
theorem sq_one {e:Int} (h:e*e=1):e=1∨e=-1:=by
 rcases (show e≤-2∨e=-1∨e=0∨e=1∨2≤e by omega) with h1|h1|h1|h1|h1
 ·have:=Int.mul_le_mul_of_nonneg_left (show (2:Int)≤-e by omega) (show 0≤-e by omega)
  rw [Int.neg_mul_neg,h] at this;omega
 ·exact .inr h1
 ·rw [h1] at h;simp at h
 ·exact .inl h1
 ·have:=Int.mul_le_mul_of_nonneg_left h1 (show 0≤e by omega)
  rw [h] at this;omega
structure Small (F:Int→Nat→Int) (n:Nat) (t:Tab) (B:Int):Prop where
 one:1≤B
 cols:∀ c,c<n→∀ k,k<n+1→-B≤F (t.col c) k∧F (t.col c) k≤B
 lines:∀ r,r<t.lines.length→∀ k,k<n+1→-B≤F (t.name r) k∧F (t.name r) k≤B
theorem Small.base {B:Int} (h:Small F n t B):∀ i k,i<n+1→k<n+1→-B≤t.base F i k∧t.base F i k≤B:=by
 intro i k hi hk
 have h1:=h.one
 unfold Tab.base
 split
 ·unfold unit;split <;> omega
 ·exact h.cols (i - 1) (by omega) k hk
theorem TabOk.cell_le {B:Int} (h:TabOk F n t) (hB:Small F n t B) {r:Nat} (hr:r<t.lines.length) {j:Nat} (hj:j<n+1):-(fac (n+1)*B^(n+1))≤t.cell r j∧t.cell r j≤fac (n+1)*B^(n+1):=by
 obtain ⟨e,ee,he⟩:=h.cell_det hr hj
 have h1:=hB.one
 have hb:=det_bound (n+1) (upd (t.base F) j (F (t.name r))) B (by omega) (fun i k hi hk=>by
  unfold upd
  split
  ·exact hB.lines r hr k hk
  ·exact hB.base i k hi hk)
 rw [he]
 rcases sq_one ee with h|h <;> rw [h] <;> omega
theorem TabOk.scale_le {B:Int} (h:TabOk F n t) (hB:Small F n t B):t.scale≤fac (n+1)*B^(n+1):=by
 obtain ⟨e,ee,he⟩:=h.dets
 have h1:=hB.one
 have hb:=det_bound (n+1) (t.base F) B (by omega) (fun i k hi hk=>hB.base i k hi hk)
 rw [he] at hb
 rcases sq_one ee with h|h <;> rw [h] at hb <;> omega
def Tab.drop (t:Tab) (x:Int):Tab:={ t with lines:=t.lines.filter fun l=>l.1 != x }
theorem Tab.drop_line (t:Tab) (x:Int) {r:Nat} (hr:r<(t.drop x).lines.length):∃ r',r'<t.lines.length∧(t.drop x).lines.getD r (0,[])=t.lines.getD r' (0,[])∧(t.drop x).name r≠x:=by
 have hm:(t.drop x).lines[r]∈t.lines.filter fun l=>l.1 != x:=List.getElem_mem hr
 have h1:=List.mem_filter.1 hm
 obtain ⟨r',hr',e⟩:=List.mem_iff_getElem.1 h1.1
 refine ⟨r',hr',?_,?_⟩
 ·rw [List.getD_eq_getElem?_getD,List.getElem?_eq_getElem hr,List.getD_eq_getElem?_getD,List.getElem?_eq_getElem hr',e]
 ·unfold Tab.name
  rw [List.getD_eq_getElem?_getD,List.getElem?_eq_getElem hr]
  have:=h1.2
  simpa using this
theorem TabOk.drop (h:TabOk F n t) (x:Int):TabOk F n (t.drop x):=by
 refine ⟨h.cols,fun l hl=>h.cells l (List.mem_filter.1 hl).1,h.pos,h.dets,fun r hr k hk=>?_⟩
 obtain ⟨r',hr',e,_⟩:=t.drop_line x hr
 have:=h.tells r' hr' k hk
 unfold Tab.name Tab.cell at *
 rw [e];exact this
def Tab.expr (t:Tab) (s:Nat→Int) (c:Nat→Int) (j:Nat):Int:=(if j=0 then s 0*t.scale else 0)+sm t.lines.length (fun r=>c r*t.cell r j)
theorem TabOk.express (h:TabOk F n t) (s c:Nat→Int) (hs:∀ k,k<n+1→s k=s 0*unit 0 k+sm t.lines.length (fun r=>c r*F (t.name r) k)):∀ k,k<n+1→t.scale*s k=sm (n+1) (fun j=>t.expr s c j*t.base F j k):=by
 intro k hk
 have e1:sm (n+1) (fun j=>t.expr s c j*t.base F j k)=sm (n+1) (fun j=>(if j=0 then s 0*t.scale else 0)*t.base F j k)+sm (n+1) (fun j=>sm t.lines.length (fun r=>c r*(t.cell r j*t.base F j k))):=by
  rw [←sm_add]
  refine sm_congr fun j _=>?_
  unfold Tab.expr
  rw [Int.add_mul,Int.mul_comm (sm _ _),←sm_mul]
  congr 1
  refine sm_congr fun r _=>?_
  simp only [Int.mul_assoc,Int.mul_left_comm,Int.mul_comm]
 rw [e1,sm_one 0 (by omega) fun j _ hj=>by rw [if_neg hj,Int.zero_mul],if_pos rfl,base_zero,sm_swap]
 have e2:sm t.lines.length (fun r=>sm (n+1) (fun j=>c r*(t.cell r j*t.base F j k)))=t.scale*sm t.lines.length (fun r=>c r*F (t.name r) k):=by
  rw [←sm_mul]
  refine sm_congr fun r hr=>?_
  rw [sm_mul,←h.tells r hr k hk,Int.mul_left_comm]
 rw [e2,hs k hk,Int.mul_add]
 congr 1
 simp only [Int.mul_assoc,Int.mul_left_comm,Int.mul_comm]
theorem coord_sum {n:Nat} {t:Tab} (hn:NamesOk n t) (hF:∀ k,1≤k→k<n+1→F (-(k:Int))=unit k) (hl:∀ k:Nat,1≤k→k<n+1→IsLine t (-(k:Int))) (s:Nat→Int) :
  ∀ k,k<n+1→s k=s 0*unit 0 k+sm t.lines.length (fun r=>(if t.name r<0∧-t.name r<n+1 then s (-t.name r).toNat else 0)*F (t.name r) k):=by
 intro k hk
 by_cases h0:k=0
 ·subst h0
  rw [sm_zero fun r _=>?_]
  ·unfold unit;rw [if_pos rfl];omega
  ·split
   ·rename_i hc
    obtain ⟨m,hm⟩:∃ m:Nat,-t.name r=m:=⟨(-t.name r).toNat,by omega⟩
    have e:t.name r=-(m:Int):=by omega
    rw [e,hF m (by omega) (by omega)]
    unfold unit;rw [if_neg (by omega)];omega
   ·omega
 ·obtain ⟨r,hr,er⟩:=hl k (by omega) hk
  rw [sm_one r hr fun r2 hr2 hne=>?_]
  ·rw [er,if_pos (by omega),hF k (by omega) hk]
   unfold unit;rw [if_neg (by omega),if_pos rfl,Int.neg_neg,Int.toNat_natCast];omega
  ·split
   ·rename_i hc
    obtain ⟨m,hm⟩:∃ m:Nat,-t.name r2=m:=⟨(-t.name r2).toNat,by omega⟩
    have e:t.name r2=-(m:Int):=by omega
    have hmk:m≠k:=fun e2=>hne (hn.lines r2 r hr2 hr (by rw [e,er,e2]))
    rw [e,hF m (by omega) (by omega)]
    unfold unit;rw [if_neg hmk];omega
   ·omega
end
def extT {α:Type} (T:Nat→α) (b:Nat) (t:α):Nat→α:=fun i=>if i≤b then T i else t
theorem ext_le {α:Type} {T:Nat→α} {b:Nat} {t:α} {i:Nat} (h:i≤b):extT T b t i=T i:=if_pos h
theorem ext_gt {α:Type} {T:Nat→α} {b:Nat} {t:α} {i:Nat} (h:b<i):extT T b t i=t:=if_neg (by omega)
def extN (R:Nat→Nat) (b r:Nat):Nat→Nat:=fun i=>if i<b then R i else r
theorem extN_lt {R:Nat→Nat} {b r i:Nat} (h:i<b):extN R b r i=R i:=if_pos h
theorem extN_eq {R:Nat→Nat} {b r:Nat}:extN R b r b=r:=if_neg (by omega)
section
variable {F:Int→Nat→Int} {n:Nat} {U:List Int}
theorem Walk.snoc {T:Nat→Tab} {R C:Nat→Nat} {b:Nat} (W:Walk F n T R C 0 b) {r c:Nat} (hr:r<(T b).lines.length) (hc:c<n) (hp:(T b).cell r (c+1)≠0) :
  Walk F n (extT T b ((T b).swap r c)) (extN R b r) (extN C b c) 0 (b+1):=by
 have okb:=W.ok b (by omega) (Nat.le_refl _)
 have nmb:=W.names b (by omega) (Nat.le_refl _)
 refine ⟨fun i _ hi=>?_,fun i _ hi=>?_,fun i _ hi=>?_,fun i _ hi=>?_,fun i _ hi=>?_⟩
 ·by_cases h:i≤b
  ·rw [ext_le h];exact W.ok i (by omega) h
  ·rw [ext_gt (by omega)];exact okb.swap hr hc hp
 ·by_cases h:i≤b
  ·rw [ext_le h];exact W.names i (by omega) h
  ·rw [ext_gt (by omega)];exact nmb.swap okb.cols hr hc
 ·rw [ext_le (by omega)]
  by_cases h:i<b
  ·rw [extN_lt h];exact W.row i (by omega) h
  ·have:i=b:=by omega
   subst this;rw [extN_eq];exact hr
 ·by_cases h:i<b
  ·rw [extN_lt h];exact W.col i (by omega) h
  ·have:i=b:=by omega
   subst this;rw [extN_eq];exact hc
 ·rw [ext_le (show i≤b by omega)]
  by_cases h:i<b
  ·rw [ext_le (by omega),extN_lt h,extN_lt h];exact W.next i (by omega) h
  ·have:i=b:=by omega
   subst this;rw [ext_gt (by omega),extN_eq,extN_eq]
def Trail (F:Int→Nat→Int) (n:Nat) (U:List Int) (t0 t:Tab) (b:Nat):Prop:=∃ T R C,T 0=t0∧T b=t∧Walk F n T R C 0 b∧Feas n T R C 0 b∧∀ i,i≤b→Stat U n (T i)
theorem Trail.start {t:Tab} (h:TabOk F n t) (hn:NamesOk n t) (hs:Stat U n t):Trail F n U t t 0 :=
 ⟨fun _=>t,fun _=>0,fun _=>0,rfl,rfl,⟨fun _ _ _=>h,fun _ _ _=>hn,fun i _ hi=>by omega,fun i _ hi=>by omega,fun i _ hi=>by omega⟩,
  ⟨fun i _ hi=>by omega,fun i _ hi=>by omega,fun i _ hi=>by omega,fun i _ hi=>by omega,fun i _ hi=>by omega,fun i _ hi=>by omega⟩,fun _ _=>hs⟩
theorem Trail.last {t0 t:Tab} {b:Nat} (h:Trail F n U t0 t b):TabOk F n t∧NamesOk n t∧Stat U n t∧b≤U.length^n:=by
 obtain ⟨T,R,C,_,rfl,W,S,hU⟩:=h
 exact ⟨W.ok b (by omega) (Nat.le_refl _),W.names b (by omega) (Nat.le_refl _),hU b (Nat.le_refl _),W.short S hU⟩
theorem Trail.snoc {t0 t:Tab} {b:Nat} (h:Trail F n U t0 t b) {r c:Nat} (hr:r<t.lines.length) (hc:c<n) (rowName:0≤t.name r) (rowNeg:t.cell r 0<0)
  (rowLeast:∀ k,k<t.lines.length→0≤t.name k→t.cell k 0<0→t.name r≤t.name k) (colName:0≤t.col c) (colPos:0<t.cell r (c+1)) (colLeast:∀ k,k<n→0≤t.col k→0<t.cell r (k+1)→t.col c≤t.col k) :
  Trail F n U t0 (t.swap r c) (b+1):=by
 obtain ⟨T,R,C,h0,rfl,W,S,hU⟩:=h
 have okb:=W.ok b (by omega) (Nat.le_refl _)
 have nmb:=W.names b (by omega) (Nat.le_refl _)
 refine ⟨_,_,_,by rw [ext_le (by omega)];exact h0,ext_gt (by omega),W.snoc hr hc (by omega),?_,fun i hi=>?_⟩
 ·have cut:∀ i,i<b+1→i<b∨i=b:=fun i hi=>by omega
  refine ⟨fun i _ hi=>?_,fun i _ hi=>?_,fun i _ hi=>?_,fun i _ hi=>?_,fun i _ hi=>?_,fun i _ hi=>?_⟩
  all_goals
   rw [ext_le (show i≤b by omega)]
   rcases cut i hi with h|h
  ·rw [extN_lt h];exact S.rowName i (by omega) h
  ·subst h;rw [extN_eq];exact rowName
  ·rw [extN_lt h];exact S.rowNeg i (by omega) h
  ·subst h;rw [extN_eq];exact rowNeg
  ·rw [extN_lt h];exact S.rowLeast i (by omega) h
  ·subst h;rw [extN_eq];exact rowLeast
  ·rw [extN_lt h];exact S.colName i (by omega) h
  ·subst h;rw [extN_eq];exact colName
  ·rw [extN_lt h,extN_lt h];exact S.colPos i (by omega) h
  ·subst h;rw [extN_eq,extN_eq];exact colPos
  ·rw [extN_lt h,extN_lt h];exact S.colLeast i (by omega) h
  ·subst h;rw [extN_eq,extN_eq];exact colLeast
 ·by_cases h:i≤b
  ·rw [ext_le h];exact hU i h
  ·rw [ext_gt (by omega)];exact (hU b (Nat.le_refl _)).swap nmb okb.cols hr hc
def Climb (F:Int→Nat→Int) (n:Nat) (U:List Int) (wr:Nat) (t0 t:Tab) (b:Nat):Prop:=∃ T R C,T 0=t0∧T b=t∧Walk F n T R C 0 b∧Prim n T R C wr 0 b∧∀ i,i≤b→Stat U n (T i)
theorem Climb.start {wr:Nat} {t:Tab} (h:TabOk F n t) (hn:NamesOk n t) (hs:Stat U n t) (hw:wr<t.lines.length) (hw2:t.name wr<0) (feas:∀ k,k<t.lines.length→0≤t.name k→0≤t.cell k 0):Climb F n U wr t t 0 :=
 ⟨fun _=>t,fun _=>0,fun _=>0,rfl,rfl,⟨fun _ _ _=>h,fun _ _ _=>hn,fun i _ hi=>by omega,fun i _ hi=>by omega,fun i _ hi=>by omega⟩,
  ⟨fun _ _ _=>hw,fun _ _ _=>hw2,fun i _ hi=>by omega,fun _ _ _=>feas,fun i _ hi=>by omega,fun i _ hi=>by omega,fun i _ hi=>by omega,fun i _ hi=>by omega,fun i _ hi=>by omega,fun i _ hi=>by omega⟩,fun _ _=>hs⟩
theorem Climb.last {wr:Nat} {t0 t:Tab} {b:Nat} (h:Climb F n U wr t0 t b):TabOk F n t∧NamesOk n t∧Stat U n t∧b≤U.length^n∧wr<t.lines.length∧t.name wr<0∧(∀ k,k<t.lines.length→0≤t.name k→0≤t.cell k 0)∧t.name wr=t0.name wr:=by
 obtain ⟨T,R,C,rfl,rfl,W,S,hU⟩:=h
 refine ⟨W.ok b (by omega) (Nat.le_refl _),W.names b (by omega) (Nat.le_refl _),hU b (Nat.le_refl _),W.short2 S hU,S.there b (by omega) (Nat.le_refl _),S.wname b (by omega) (Nat.le_refl _),S.feas b (by omega) (Nat.le_refl _),?_⟩
 have:=S.wname_all b (by omega)
 rwa [Nat.zero_add] at this
theorem Climb.snoc {wr:Nat} {t0 t:Tab} {b:Nat} (h:Climb F n U wr t0 t b) {r c:Nat} (hr:r<t.lines.length) (hc:c<n) (rowName:0≤t.name r) (rowNeg:t.cell r (c+1)<0)
  (ratio:∀ k,k<t.lines.length→0≤t.name k→t.cell k (c+1)<0→t.cell r 0*(-t.cell k (c+1))≤t.cell k 0*(-t.cell r (c+1))∧(t.cell r 0*(-t.cell k (c+1))=t.cell k 0*(-t.cell r (c+1))→t.name r≤t.name k))
  (colName:0≤t.col c) (colPos:0<t.cell wr (c+1)) (colLeast:∀ k,k<n→0≤t.col k→0<t.cell wr (k+1)→t.col c≤t.col k) :
  Climb F n U wr t0 (t.swap r c) (b+1):=by
 have hl:=h.last
 obtain ⟨T,R,C,h0,rfl,W,S,hU⟩:=h
 have okb:=hl.1
 have nmb:=hl.2.1
 have hne:wr≠r:=fun e=>by have:=hl.2.2.2.2.2.1;rw [e] at this;omega
 have feas':=okb.keeps hr hc rowNeg (hl.2.2.2.2.2.2.1 r hr rowName) hl.2.2.2.2.2.2.1 (fun k h1 h2 h3=>(ratio k h1 h2 h3).1)
 have hwn:((T b).swap r c).name wr=(T b).name wr:=by rw [Tab.swap_name _ r c wr hl.2.2.2.2.1,if_neg hne]
 refine ⟨_,_,_,by rw [ext_le (by omega)];exact h0,ext_gt (by omega),W.snoc hr hc (by omega),?_,fun i hi=>?_⟩
 ·have cut:∀ i,i<b+1→i<b∨i=b:=fun i hi=>by omega
  refine ⟨fun i _ hi=>?_,fun i _ hi=>?_,fun i _ hi=>?_,fun i _ hi=>?_,fun i _ hi=>?_,fun i _ hi=>?_,fun i _ hi=>?_,fun i _ hi=>?_,fun i _ hi=>?_,fun i _ hi=>?_⟩
  ·by_cases h:i≤b
   ·rw [ext_le h];exact S.there i (by omega) h
   ·rw [ext_gt (by omega),Tab.swap_len];exact hl.2.2.2.2.1
  ·by_cases h:i≤b
   ·rw [ext_le h];exact S.wname i (by omega) h
   ·rw [ext_gt (by omega),hwn];exact hl.2.2.2.2.2.1
  ·rw [ext_le (show i≤b by omega)]
   rcases cut i hi with h|h
   ·rw [ext_le (by omega)];exact S.same i (by omega) h
   ·subst h;rw [ext_gt (by omega)];exact hwn
  ·by_cases h:i≤b
   ·rw [ext_le h];exact S.feas i (by omega) h
   ·rw [ext_gt (by omega)];exact feas'
  all_goals
   rw [ext_le (show i≤b by omega)]
   rcases cut i hi with h|h
  ·rw [extN_lt h];exact S.colName i (by omega) h
  ·subst h;rw [extN_eq];exact colName
  ·rw [extN_lt h];exact S.colPos i (by omega) h
  ·subst h;rw [extN_eq];exact colPos
  ·rw [extN_lt h];exact S.colLeast i (by omega) h
  ·subst h;rw [extN_eq];exact colLeast
  ·rw [extN_lt h];exact S.rowName i (by omega) h
  ·subst h;rw [extN_eq];exact rowName
  ·rw [extN_lt h,extN_lt h];exact S.rowNeg i (by omega) h
  ·subst h;rw [extN_eq,extN_eq];exact rowNeg
  ·rw [extN_lt h,extN_lt h];exact S.tie i (by omega) h
  ·subst h;rw [extN_eq,extN_eq]
   intro k h1 h2 h3 h4 h5
   exact (ratio k h1 h2 h3).2 (by rw [h4,h5,Int.zero_mul,Int.zero_mul])
 ·by_cases h:i≤b
  ·rw [ext_le h];exact hU i h
  ·rw [ext_gt (by omega)];exact (hU b (Nat.le_refl _)).swap nmb okb.cols hr hc
end
end Go.Proofs.Ytfaljekgpnbmiaa.Pl
