/- Joined: XLat7 XLat8 XLat16 XReg3 XReg4. -/
import Derived.Test.YtfaljekgpnbmiaaJ27
set_option linter.unusedVariables false
set_option linter.unusedSimpArgs false
set_option maxRecDepth 100000
namespace Go.Proofs.Ytfaljekgpnbmiaa.Pl
section
variable {n:Nat} {G Q St:Nat→Nat→Int}
theorem gm_reduced2 (hP:Posi n G) (hG:∀ i j,G i j=G j i) {D:Int} (hD:∀ l,l≤n→vol n G l≤D) {i:Nat} (hi:i<n) (hr:∀ l,l<i→-vol n G (l+1)≤2*gm n G l i l∧2*gm n G l i l≤vol n G (l+1)):∀ m l,l+m=i→4*gm n G l i i≤vol n G l*(((m+4:Nat):Int)*D)
 | 0,l,h=>by
  have e:l=i:=by omega
  subst e
  have h1:=vol_one hP (show l≤n by omega)
  have h2:=hD (l+1) (by omega)
  have h3:=vol_one hP (show l+1≤n by omega)
  rw [vol_succ hP hi] at h2 h3
  have h4:1*(4*D)≤vol n G l*(4*D):=Int.mul_le_mul_of_nonneg_right h1 (by omega)
  have e4:(((0+4:Nat):Int)*D)=4*D:=rfl
  rw [e4];omega
 | m+1,l,h=>by
  have ih:=gm_reduced2 hP hG hD hi hr m (l+1) (by omega)
  have hn:=gm_norm hP hG (l:=l) (i:=i) (by omega) hi
  have hv:=vol_one hP (show l+1≤n by omega)
  have hv0:=vol_one hP (show l≤n by omega)
  have hr1:=hr l (by omega)
  have hd:=hD (l+1) (by omega)
  generalize hA:vol n G (l+1)=A at *
  generalize hB:vol n G l=B at *
  generalize gm n G l i i=X at *
  generalize gm n G (l+1) i i=Y at *
  generalize gm n G l i l=Z at *
  have hz:(2*Z)*(2*Z)≤A*A:=(abs_mul_le hr1 hr1).2
  have e1:(((m+1+4:Nat):Int)*D)=((m+4:Nat):Int)*D+D:=by
   have:((m+1+4:Nat):Int)=((m+4:Nat):Int)+1:=by omega
   rw [this,Int.add_mul,Int.one_mul]
  generalize hC:(((m+4:Nat):Int)*D)=C at *
  rw [e1]
  -- A*(4 X)=4 B Y+(2 Z)^2≤B (A C)+A A=A (B C+A)
  have h5:A*(4*X)≤A*(B*C+A):=by
   have t1:A*(4*X)=4*(A*X):=by rw [Int.mul_left_comm]
   have t2:B*(4*Y)≤B*(A*C):=Int.mul_le_mul_of_nonneg_left ih (by omega)
   have t3:B*(4*Y)=4*(B*Y):=by rw [Int.mul_left_comm]
   have t4:B*(A*C)=A*(B*C):=by rw [Int.mul_left_comm]
   have t5:(2*Z)*(2*Z)=4*(Z*Z):=by rw [Int.mul_assoc,Int.mul_left_comm Z 2 Z,←Int.mul_assoc];rfl
   rw [t1,hn,Int.mul_add A]
   omega
  have h6:4*X≤B*C+A:=Int.le_of_mul_le_mul_left h5 (by omega)
  have h7:1*D≤B*D:=Int.mul_le_mul_of_nonneg_right hv0 (by omega)
  rw [Int.mul_add]
  omega
theorem reduced_le (hP:Posi n G) (hG:∀ i j,G i j=G j i) {D:Int} (hD:∀ l,l≤n→vol n G l≤D) {i:Nat} (hi:i<n) (hr:∀ l,l<i→-vol n G (l+1)≤2*gm n G l i l∧2*gm n G l i l≤vol n G (l+1)):4*G i i≤((i+4:Nat):Int)*D:=by
 have:=gm_reduced2 hP hG hD hi hr i 0 (by omega)
 rwa [gm_zero hi hi,vol_zero,Int.one_mul] at this
theorem bil_pos (hQ:Posi n Q) (u:Nat→Int):0≤bil n Q u u:=by
 by_cases h:∃ i,i<n∧u i≠0
 ·exact Int.le_of_lt (hQ u h)
 ·have hz:∀ i,i<n→u i=0:=fun i hi=>Classical.byContradiction fun hc=>h ⟨i,hi,hc⟩
  have:bil n Q u u=0:=sm_zero fun i hi=>by rw [hz i hi,Int.zero_mul]
  omega
theorem bil_symm (hS:∀ i j,Q i j=Q j i) (u v:Nat→Int):bil n Q u v=bil n Q v u:=by
 unfold bil
 have e1:sm n (fun i=>u i*sm n (fun j=>Q i j*v j))=sm n (fun i=>sm n (fun j=>u i*(Q i j*v j))):=sm_congr fun i _=>by rw [sm_mul]
 have e2:sm n (fun i=>v i*sm n (fun j=>Q i j*u j))=sm n (fun i=>sm n (fun j=>v i*(Q i j*u j))):=sm_congr fun i _=>by rw [sm_mul]
 rw [e1,e2,sm_swap]
 refine sm_congr fun j _=>sm_congr fun i _=>?_
 rw [hS i j,Int.mul_left_comm,Int.mul_comm (u i),Int.mul_left_comm (Q j i)]
theorem bil_cross (hQ:Posi n Q) (hS:∀ i j,Q i j=Q j i) (u v:Nat→Int):-(bil n Q u u+bil n Q v v)≤2*bil n Q u v∧2*bil n Q u v≤bil n Q u u+bil n Q v v:=by
 have key:∀ t:Int,0≤(bil n Q u u - t*bil n Q v u) - t*(bil n Q u v - t*bil n Q v v):=fun t=>by
  have:=bil_pos hQ (fun i=>u i - t*v i)
  rw [bil_right,bil_left,bil_left] at this
  exact this
 have h1:=key 1
 have h2:=key (-1)
 rw [bil_symm hS v u] at h1 h2
 omega
theorem bil_unit (Q:Nat→Nat→Int) {c:Nat} (hc:c<n) (x:Nat→Int):bil n Q (unit c) x=sm n (fun j=>Q c j*x j):=by
 unfold bil
 rw [sm_one c hc fun i _ hi=>by unfold unit;rw [if_neg (fun e=>hi e.symm),Int.zero_mul]]
 unfold unit;rw [if_pos rfl,Int.one_mul]
theorem step_le (hQ:Posi n Q) (hS:∀ i j,Q i j=Q j i) {D T:Int} (hD:∀ i j,i<n→j<n→-D≤gm n Q n i j∧gm n Q n i j≤D) {x:Nat→Int} (hx:bil n Q x x≤T) (hq:∀ c,c<n→Q c c≤T) {i:Nat} (hi:i<n):-(n*(D*T))≤x i∧x i≤n*(D*T):=by
 have h:=(gram_ok hQ n (Nat.le_refl n)).1
 have hs:=h.pos
 have hlen:=(gram_len n Q n).1
 let P:Nat→Int:=fun k=>if k=0 then 0 else x (k - 1)
 have e:=h.eval2 (r:=i) (by omega) P
 rw [(gram_names n Q n (Nat.le_refl n) i hi).1,if_pos hi,form_unit,ev_unit n P (i+1) (by omega)] at e
 have p0:P 0=0:=if_pos rfl
 have pi:∀ j,P (j+1)=x j:=fun j=>by show (if j+1=0 then 0 else x (j+1 - 1))=_;rw [if_neg (by omega)];rfl
 rw [p0,Int.mul_zero,Int.zero_add,pi i] at e
 have cbound:∀ c,c<n→-(D*T)≤(gramTab n Q n).cell i (c+1)*ev n (formG Q ((gramTab n Q n).col c)) P∧(gramTab n Q n).cell i (c+1)*ev n (formG Q ((gramTab n Q n).col c)) P≤D*T:=fun c hc=>by
  rw [(gram_names n Q n (Nat.le_refl n) c hc).2,if_pos hc,form_row]
  have e2:sm n (fun j=>Q c j*P (j+1))=bil n Q (unit c) x:=by
   rw [bil_unit Q hc];exact sm_congr fun j _=>by rw [pi]
  rw [e2]
  have h1:=bil_cross hQ hS (unit c) x
  have h2:bil n Q (unit c) (unit c)=Q c c:=(gram_unit n Q c c hc hc).symm
  have h3:=hq c hc
  exact abs_mul_le (hD i c hi hc) (by omega)
 have hb:=sm_abs cbound
 rw [←e] at hb
 have hone:1≤(gramTab n Q n).scale:=by omega
 generalize (gramTab n Q n).scale=s at *
 generalize hM:(n:Int)*(D*T)=M at *
 have hM0:0≤M:=by omega
 constructor
 ·apply Classical.byContradiction
  intro hc
  have:s*x i≤1*x i:=by
   have:=Int.mul_le_mul_of_nonpos_right hone (show x i≤0 by omega)
   exact this
  omega
 ·apply Classical.byContradiction
  intro hc
  have:1*x i≤s*x i:=Int.mul_le_mul_of_nonneg_right hone (by omega)
  omega
end
def prodG (m:Nat) (a:Nat→Nat→Int) (wt:Nat→Int) (i j:Nat):Int:=sm m (fun k=>(wt k*a k (i+1))*a k (j+1))
theorem prodG_symm (m:Nat) (a:Nat→Nat→Int) (wt:Nat→Int) (i j:Nat):prodG m a wt i j=prodG m a wt j i:=by
 unfold prodG
 refine sm_congr fun k _=>?_
 rw [Int.mul_assoc,Int.mul_comm (a k (i+1)),←Int.mul_assoc]
theorem prodG_form (n m:Nat) (a:Nat→Nat→Int) (wt:Nat→Int) (v:Nat→Int):sm n (fun i=>v i*sm n (fun j=>prodG m a wt i j*v j))=sm m (fun k=>wt k*(dir n (a k) v*dir n (a k) v)):=by
 have e1:∀ i,sm n (fun j=>prodG m a wt i j*v j)=sm m (fun k=>(wt k*a k (i+1))*dir n (a k) v):=fun i=>by
  have:sm n (fun j=>prodG m a wt i j*v j)=sm n (fun j=>sm m (fun k=>(wt k*a k (i+1))*(a k (j+1)*v j))):=sm_congr fun j _=>by
   unfold prodG
   rw [Int.mul_comm,←sm_mul]
   exact sm_congr fun k _=>by rw [Int.mul_comm (v j),Int.mul_assoc]
  rw [this,sm_swap]
  exact sm_congr fun k _=>by unfold dir;rw [←sm_mul]
 have e2:sm n (fun i=>v i*sm n (fun j=>prodG m a wt i j*v j))=sm n (fun i=>sm m (fun k=>(wt k*dir n (a k) v)*(a k (i+1)*v i))):=sm_congr fun i _=>by
  rw [e1 i,←sm_mul]
  refine sm_congr fun k _=>?_
  generalize wt k=p
  generalize a k (i+1)=q
  generalize dir n (a k) v=u
  generalize v i=x
  rw [Int.mul_left_comm x,Int.mul_assoc p q,Int.mul_left_comm p q,Int.mul_comm x u]
  rw [Int.mul_left_comm (p*u) q x,Int.mul_assoc p u x]
 rw [e2,sm_swap]
 refine sm_congr fun k _=>?_
 rw [sm_mul]
 unfold dir
 rw [Int.mul_assoc]
theorem prodG_posi {n m:Nat} {a:Nat→Nat→Int} {wt:Nat→Int} (hw:∀ k,k<m→0<wt k) (ht:∀ v:Nat→Int,(∀ k,k<m→dir n (a k) v=0)→∀ i,i<n→v i=0):Posi n (prodG m a wt):=by
 intro v ⟨i,hi,hv⟩
 rw [prodG_form]
 have h0:∀ k,k<m→0≤wt k*(dir n (a k) v*dir n (a k) v):=fun k hk=>Int.mul_nonneg (Int.le_of_lt (hw k hk)) (sq_nonneg _)
 have h1:=sm_nonneg h0
 rcases Int.lt_or_eq_of_le h1 with h2|h2
 ·exact h2
 ·exfalso
  refine hv (ht v (fun k hk=>?_) i hi)
  apply Classical.byContradiction
  intro hc
  have hpos:0<wt k*(dir n (a k) v*dir n (a k) v):=by
   refine Int.mul_pos (hw k hk) ?_
   rcases Int.lt_or_gt_of_ne hc with h|h
   ·exact Int.mul_pos_of_neg_of_neg h h
   ·exact Int.mul_pos h h
  rw [sm_split k hk] at h2
  have h3:=sm_nonneg (n:=m) (f:=fun i=>if i=k then 0 else wt i*(dir n (a i) v*dir n (a i) v)) (fun i hi=>by split;omega;exact h0 i hi)
  omega
end Go.Proofs.Ytfaljekgpnbmiaa.Pl

namespace Go.Proofs.Ytfaljekgpnbmiaa
open Go.RowKit Go.Sort
theorem short_symm {G:Nat→Nat→Int} (h:∀ i j,G i j=G j i) {k j:Nat} (t:Int) (a b:Nat):Pl.shortG G k j t a b=Pl.shortG G k j t b a:=by
 by_cases ha:a=k <;> by_cases hb:b=k
 ·rw [ha,hb]
 ·rw [ha,Pl.short_row G t hb,Pl.short_col G t hb,h k b,h j b]
 ·rw [hb,Pl.short_row G t ha,Pl.short_col G t ha,h k a,h j a]
 ·rw [Pl.short_ne G t ha hb,Pl.short_ne G t hb ha,h a b]
structure Red (n:Nat) (Q St G:Nat→Nat→Int):Prop where
 uni:Pl.Uni n St
 gram:Pl.GramOf n Q St G
 symm:∀ i j,G i j=G j i
section
variable {n:Nat} {Q St G Ov:Nat→Nat→Int} {V:Nat→Int} {k j:Nat} {T D t:Int} {L:Nat}
theorem Red.posi (h:Red n Q St G) (hQ:Pl.Posi n Q):Pl.Posi n G:=Pl.posi_gram hQ h.uni h.gram
theorem Red.start (hS:∀ i j,Q i j=Q j i):Red n Q Pl.unit Q:=⟨Pl.uni_unit n,Pl.gram_unit n Q,hS⟩
theorem Red.short (h:Red n Q St G) (hk:k<n) (hj:j<n) (hjk:j≠k) (t:Int):Red n Q (Pl.subRow St k j t) (Pl.shortG G k j t):=⟨Pl.uni_short h.uni hk hj hjk t,Pl.gram_short h.gram hk hj t,short_symm h.symm t⟩
theorem Red.ex (h:Red n Q St G) (hk0:0<k) (hk:k<n):Red n Q (fun a=>St (Pl.sw k a)) (Pl.exG G k):=⟨Pl.uni_ex h.uni hk0 hk,Pl.gram_ex h.gram hk,fun i j=>h.symm _ _⟩
theorem lt_le {K:Nat} {a B:Int} (h1:-B≤a) (h2:a≤B) (hB:B<1073741824^K):Pl.Lt K a:=by
 unfold Pl.Lt
 omega
theorem lt_of {K:Nat} {a:Int} (h:Pl.Lt K a):-(1073741824^K:Int)≤a∧a≤1073741824^K:=by
 unfold Pl.Lt at h
 omega
theorem pow_one_le (K:Nat):(1:Int)≤1073741824^K:=by
 have h1:0<1073741824^K:=Nat.pow_pos (by decide)
 have h2:((1073741824^K:Nat):Int)=(1073741824:Int)^K:=by rw [Int.natCast_pow];rfl
 omega
theorem fac_le {n:Nat} (hn:n≤9):(Pl.fac (n+1):Int)≤1073741823:=by
 rcases (show n=0∨n=1∨n=2∨n=3∨n=4∨n=5∨n=6∨n=7∨n=8∨n=9 by omega) with h|h|h|h|h|h|h|h|h|h <;> subst h <;> decide
theorem fac_pow_lt {n L:Nat} (hn:n≤9):Pl.fac (n+1)*((1073741824:Int)^L)^(n+1)<1073741824^((n+1)*L+1):=by
 rw [←Int.pow_mul,Nat.mul_comm L,Int.pow_succ]
 have h1:=pow_one_le ((n+1)*L)
 have h2:=fac_le hn
 rw [Int.mul_comm]
 exact Int.mul_lt_mul_of_pos_left (by omega) (by omega)
theorem gram_small (hP:Pl.Posi n G) (hG:∀ a b,a<n→b<n→Pl.Lt L (G a b)) {l:Nat} (hl:l≤n):Pl.Small (Pl.formG G) n (Pl.gramTab n G l) (1073741824^L):=by
 have key:∀ x:Int,((∃ i:Nat,i<n∧x=i)∨∃ i:Nat,i<n∧x=-1 - (i:Int))→∀ k,k<n+1→-(1073741824^L:Int)≤Pl.formG G x k∧Pl.formG G x k≤1073741824^L:=by
  intro x hx k hk
  have h1:=pow_one_le L
  rcases hx with ⟨i,hi,rfl⟩|⟨i,hi,rfl⟩
  ·unfold Pl.formG
   rw [if_pos (by omega)]
   split
   ·omega
   ·exact lt_of (hG _ _ (by omega) (by omega))
  ·rw [Pl.form_unit]
   unfold Pl.unit
   split <;> omega
 have hlen:=(Pl.gram_len n G l).1
 refine ⟨pow_one_le L,fun c hc k hk=>key _ ?_ k hk,fun r hr k hk=>key _ ?_ k hk⟩
 ·rw [(Pl.gram_names n G l hl c hc).2]
  split
  ·exact .inl ⟨c,hc,rfl⟩
  ·exact .inr ⟨c,hc,rfl⟩
 ·have hr':r<n:=by omega
  rw [(Pl.gram_names n G l hl r hr').1]
  split
  ·exact .inr ⟨r,hr',rfl⟩
  ·exact .inl ⟨r,hr',rfl⟩
theorem gm_lt (hP:Pl.Posi n G) (hG:∀ a b,a<n→b<n→Pl.Lt L (G a b)) (hn:n≤9) {l i j:Nat} (hl:l≤n) (hi:i<n) (hj:j<n):Pl.Lt ((n+1)*L+1) (Pl.gm n G l i j):=by
 have hlen:=(Pl.gram_len n G l).1
 obtain ⟨h1,h2⟩:=(Pl.gram_ok hP l hl).1.cell_le (gram_small hP hG hl) (r:=i) (by omega) (j:=j+1) (by omega)
 exact lt_le h1 h2 (fac_pow_lt hn)
theorem vol_lt (hP:Pl.Posi n G) (hG:∀ a b,a<n→b<n→Pl.Lt L (G a b)) (hn:n≤9) {l:Nat} (hl:l≤n):Pl.Lt ((n+1)*L+1) (Pl.vol n G l):=by
 have h1:=(Pl.gram_ok hP l hl).1.scale_le (gram_small hP hG hl)
 have h2:=Pl.vol_pos hP hl
 have h3:=fac_pow_lt (n:=n) (L:=L) hn
 unfold Pl.vol at *
 exact lt_le (by omega) (Int.le_refl _) (by omega)
theorem times_lt {o v:Int} (hv:0<v) (ho:Pl.Lt L o):Pl.Lt (L+1) (Int.fdiv (o+o+v) (v+v)):=by
 have h1:=Pl.near_half (lam:=o) hv
 generalize Int.fdiv (o+o+v) (v+v)=t at *
 have hm:-(o.natAbs+1:Int)≤t∧t≤o.natAbs+1:=by
  constructor
  ·apply Classical.byContradiction
   intro hc
   have:v*t≤v*(-(o.natAbs:Int) - 2):=Int.mul_le_mul_of_nonneg_left (by omega) (by omega)
   have e:v*(-(o.natAbs:Int) - 2)=-(v*o.natAbs) - v*2:=by rw [Int.mul_sub,Int.mul_neg]
   have h4:1*(o.natAbs:Int)≤v*o.natAbs:=Int.mul_le_mul_of_nonneg_right (by omega) (by omega)
   rw [Int.mul_comm t v] at h1
   omega
  ·apply Classical.byContradiction
   intro hc
   have:v*((o.natAbs:Int)+2)≤v*t:=Int.mul_le_mul_of_nonneg_left (by omega) (by omega)
   have e:v*((o.natAbs:Int)+2)=v*o.natAbs+v*2:=by rw [Int.mul_add]
   have h4:1*(o.natAbs:Int)≤v*o.natAbs:=Int.mul_le_mul_of_nonneg_right (by omega) (by omega)
   rw [Int.mul_comm t v] at h1
   omega
 unfold Pl.Lt at *
 rw [Int.pow_succ]
 have:=pow_one_le L
 omega
structure Inn (n:Nat) (Q:Nat→Nat→Int) (k j:Nat) (St G Ov:Nat→Nat→Int) (V:Nat→Int) (T D:Int) (L:Nat):Prop where
 red:Red n Q St G
 vol:∀ l,l≤n→V l=Pl.vol n G l
 ov:∀ i l,l<i→i<n→Ov i l=Pl.gm n G l i l
 done:∀ l,j≤l→l<k→-Pl.vol n G (l+1)≤2*Pl.gm n G l k l∧2*Pl.gm n G l k l≤Pl.vol n G (l+1)
 diag:∀ i,i<n→i≠k→G i i≤T
 vols:∀ l,l≤n→Pl.vol n G l≤D
 lst:∀ a b,a<n→b<n→Pl.Lt L (St a b)
 lg:∀ a b,a<n→b<n→Pl.Lt L (G a b)
theorem Inn.step (hQ:Pl.Posi n Q) (h:Inn n Q k (j+1) St G Ov V T D L) (hjk:j<k) (hk:k<n) (hn:n≤9) (ht:Int.fdiv (Ov k j+Ov k j+V (j+1)) (V (j+1)+V (j+1))=t):Inn n Q k j (Pl.subRow St k j t) (Pl.shortG G k j t) (shortO Ov k j t (V (j+1))) V T D ((3*n+3)*L+9):=by
 have hP:=h.red.posi hQ
 have hj:j<n:=by omega
 have hr:=h.red.short hk hj (by omega) t
 have hP':=hr.posi hQ
 have gs:=Pl.gm_short hP hP' hjk hk
 have hv:V (j+1)=Pl.vol n G (j+1):=h.vol _ (by omega)
 have hvp:=Pl.vol_pos hP (show j+1≤n by omega)
 have lov:Pl.Lt ((n+1)*L+1) (Ov k j):=by rw [h.ov k j hjk hk];exact gm_lt hP h.lg hn (by omega) hk hj
 have lt:Pl.Lt ((n+1)*L+2) t:=by rw [←ht,hv];exact times_lt hvp lov
 have hLL:L≤(n+1)*L:=by rw [Nat.add_mul,Nat.one_mul];omega
 have e33:(3*n+3)*L=3*((n+1)*L):=by rw [←Nat.mul_assoc];congr 1
 have lsub:∀ a b,a<n→b<n→Pl.Lt ((n+1)*L+2+L+1) (Pl.subRow G k j t a b):=fun a b ha hb=>by
  unfold Pl.subRow
  split
  ·exact ((h.lg k b hk hb).mono (by omega)).sub (lt.mul (h.lg j b hj hb))
  ·exact (h.lg a b ha hb).mono (by omega)
 refine ⟨hr,fun l hl=>?_,fun i l hl hi=>?_,fun l h1 h2=>?_,fun i hi hik=>?_,fun l hl=>?_,fun a b ha hb=>?_,fun a b ha hb=>?_⟩
 ·rw [(gs l hl).2.2];exact h.vol l hl
 ·unfold shortO upd2 partRow
  by_cases hik:i=k
  ·subst hik
   rcases (show l<j∨l=j∨j<l by omega) with h1|h1|h1
   ·rw [if_neg (by omega),if_pos ⟨rfl,h1⟩,(gs l (by omega)).1 (by omega) i l (by omega) (Nat.le_refl _) hi (by omega),Pl.short_row _ t (by omega),h.ov i l hl hi,h.ov j l h1 hj]
   ·subst h1
    rw [if_pos ⟨rfl,rfl⟩,(gs l (by omega)).1 (Nat.le_refl _) i l (by omega) (Nat.le_refl _) hi (by omega),Pl.short_row _ t (by omega),h.ov i l hl hi,hv,Pl.vol_succ hP hj]
   ·rw [if_neg (by omega),if_neg (by omega),(gs l (by omega)).2.1 h1 i l (by omega) (Nat.le_refl _) hi (by omega),h.ov i l hl hi]
  ·rw [if_neg (by omega),if_neg (by omega),h.ov i l hl hi]
   by_cases h1:l≤j
   ·rw [(gs l (by omega)).1 h1 i l (by omega) (Nat.le_refl _) hi (by omega),Pl.short_ne _ t hik (by omega)]
   ·rw [(gs l (by omega)).2.1 (by omega) i l (by omega) (Nat.le_refl _) hi (by omega)]
 ·rw [(gs (l+1) (by omega)).2.2]
  rcases (show l=j∨j<l by omega) with h3|h3
  ·subst h3
   rw [(gs l (by omega)).1 (Nat.le_refl _) k l (by omega) (Nat.le_refl _) hk (by omega),Pl.short_row _ t (by omega),←Pl.vol_succ hP hj,←ht,h.ov k l hjk hk,hv]
   exact Pl.near_half hvp
  ·rw [(gs l (by omega)).2.1 h3 k l (by omega) (Nat.le_refl _) hk (by omega)]
   exact h.done l (by omega) h2
 ·rw [Pl.short_ne G t hik hik];exact h.diag i hi hik
 ·rw [(gs l hl).2.2];exact h.vols l hl
 ·unfold Pl.subRow
  split
  ·exact (((h.lst k b hk hb).mono (show L≤(n+1)*L+2+L by omega)).sub (lt.mul (h.lst j b hj hb))).mono (by omega)
  ·exact (h.lst a b ha hb).mono (by omega)
 ·unfold Pl.shortG
  show Pl.Lt _ (if b=k then Pl.subRow G k j t a k - t*Pl.subRow G k j t a j else Pl.subRow G k j t a b)
  split
  ·exact (((lsub a k ha hk).mono (show _≤(n+1)*L+2+((n+1)*L+2+L+1) by omega)).sub (lt.mul (lsub a j ha hj))).mono (by omega)
  ·exact (lsub a b ha hb).mono (by omega)
structure Out (n:Nat) (Q St G:Nat→Nat→Int) (T D:Int):Prop where
 red:Red n Q St G
 vols:∀ l,l≤n→Pl.vol n G l≤D
 diag:∀ i,i<n→G i i≤T
theorem Inn.out (hQ:Pl.Posi n Q) (h:Inn n Q k 0 St G Ov V T D L) (hk:k<n) (hT:((n+4:Nat):Int)*D≤4*T) (hD:0≤D):Out n Q St G T D:=by
 refine ⟨h.red,h.vols,fun i hi=>?_⟩
 by_cases e:i=k
 ·subst e
  have h1:=Pl.reduced_le (h.red.posi hQ) h.red.symm h.vols hi (fun l hl=>h.done l (Nat.zero_le _) hl)
  have h2:((i+4:Nat):Int)*D≤((n+4:Nat):Int)*D:=Int.mul_le_mul_of_nonneg_right (by omega) hD
  omega
 ·exact h.diag i hi e
theorem Out.ex (hQ:Pl.Posi n Q) (h:Out n Q St G T D) (hk0:0<k) (hk:k<n) (hless:Pl.vol n (Pl.exG G k) k<Pl.vol n G k):Out n Q (fun a=>St (Pl.sw k a)) (Pl.exG G k) T D∧Pl.sm (n+1) (Pl.vol n (Pl.exG G k))<Pl.sm (n+1) (Pl.vol n G):=by
 have hr:=h.red.ex hk0 hk
 have hP:=h.red.posi hQ
 have hP':=hr.posi hQ
 have key:∀ l,l≤n→l≠k→Pl.vol n (Pl.exG G k) l=Pl.vol n G l:=fun l hl hlk=>by
  rcases (show l≤k - 1∨k+1≤l by omega) with h1|h1
  ·exact (Pl.gm_ex_low hP hP' hk0 hk l h1).2
  ·have:=(Pl.gm_ex_high hP hP' hk0 hk (l - (k+1)) (by omega)).2
   rwa [show k+1+(l - (k+1))=l by omega] at this
 refine ⟨⟨hr,fun l hl=>?_,fun i hi=>h.diag _ (Pl.sw_lt hk hi)⟩,?_⟩
 ·by_cases e:l=k
  ·rw [e];have:=h.vols k (by omega);omega
  ·rw [key l hl e];exact h.vols l hl
 ·rw [Pl.sm_split k (show k<n+1 by omega),Pl.sm_split (f:=Pl.vol n G) k (show k<n+1 by omega)]
  have:Pl.sm (n+1) (fun i=>if i=k then 0 else Pl.vol n (Pl.exG G k) i)=Pl.sm (n+1) (fun i=>if i=k then 0 else Pl.vol n G i):=Pl.sm_congr fun i hi=>by
   split
   ·rfl
   ·rename_i e;exact key i (by omega) e
  omega
def latD (n LQ:Nat):Nat:=(n+1)*LQ+1
def latL (n LQ:Nat):Nat:=2*latD n LQ+3
theorem Out.start {LQ:Nat} (hQ:Pl.Posi n Q) (hS:∀ i j,Q i j=Q j i) (hn:n≤9) (hl:∀ a b,a<n→b<n→Pl.Lt LQ (Q a b)):Out n Q Pl.unit Q (1073741824^(latD n LQ+1)) (1073741824^latD n LQ):=by
 refine ⟨.start hS,fun l hl'=>(lt_of (vol_lt hQ hl hn hl')).2,fun i hi=>?_⟩
 refine (lt_of ((hl i i hi hi).mono ?_)).2
 unfold latD
 have:LQ≤(n+1)*LQ:=by rw [Nat.add_mul,Nat.one_mul];omega
 omega
theorem lat_pow (K:Nat):(1073741824:Int)^K<1073741824^(K+1):=by
 rw [Int.pow_succ];have:=pow_one_le K;omega
theorem Out.lg {LQ:Nat} (hQ:Pl.Posi n Q) (h:Out n Q St G (1073741824^(latD n LQ+1)) D) (a b:Nat) (ha:a<n) (hb:b<n):Pl.Lt (latL n LQ) (G a b):=by
 have h1:=Pl.cross_le (h.red.posi hQ) h.red.symm ha hb
 have h2:=h.diag a ha
 have h3:=h.diag b hb
 have h4:=lat_pow (latD n LQ+1)
 exact (lt_le (K:=latD n LQ+1+1) (B:=1073741824^(latD n LQ+1)) (by omega) (by omega) h4).mono (by unfold latL;omega)
theorem Out.lst {LQ:Nat} (hQ:Pl.Posi n Q) (hS:∀ i j,Q i j=Q j i) (hn:n≤9) (hl:∀ a b,a<n→b<n→Pl.Lt LQ (Q a b)) (h:Out n Q St G (1073741824^(latD n LQ+1)) D) (a b:Nat) (ha:a<n) (hb:b<n):Pl.Lt (latL n LQ) (St a b):=by
 have h1:=Pl.step_le hQ hS (D:=1073741824^latD n LQ) (T:=1073741824^(latD n LQ+1)) (fun i j hi hj=>lt_of (gm_lt hQ hl hn (Nat.le_refl _) hi hj)) (x:=St a) (by rw [←h.red.gram a a ha ha];exact h.diag a ha) (fun c hc=>(lt_of ((hl c c hc hc).mono (by
  unfold latD
  have:LQ≤(n+1)*LQ:=by rw [Nat.add_mul,Nat.one_mul];omega
  omega))).2) hb
 have e:(1073741824:Int)^latD n LQ*1073741824^(latD n LQ+1)=1073741824^(2*latD n LQ+1):=by rw [←Int.pow_add];congr 1;omega
 rw [e] at h1
 refine (lt_le (K:=2*latD n LQ+2) h1.1 h1.2 ?_).mono (by unfold latL;omega)
 rw [Int.pow_succ _ (2*latD n LQ+1),Int.mul_comm]
 have:=pow_one_le (2*latD n LQ+1)
 exact Int.mul_lt_mul_of_pos_left (by omega) (by omega)
def latG (n L:Nat):Nat→Nat
 | 0=>L
 | m+1=>(3*n+3)*latG n L m+9
theorem latG_mono (n L:Nat) {m m':Nat} (h:m≤m'):latG n L m≤latG n L m':=by
 induction h with
 | refl=>exact Nat.le_refl _
 | step _ ih =>
  refine Nat.le_trans ih ?_
  show _≤(3*n+3)*_+9
  rw [Nat.add_mul];omega
end
end Go.Proofs.Ytfaljekgpnbmiaa

namespace Go.Proofs.Ytfaljekgpnbmiaa.Pl
def rise (n:Nat) (St:Nat→Nat→Int) (s:Nat→Int) (j:Nat):Int:=sm n (fun i=>s (i+1)*St j i)
theorem sumT_rise (n:Nat) (St:Nat→Nat→Int) (s:Nat→Int) (j:Nat):sumT n St s (j+1)=rise n St s j:=by
 unfold sumT rise;rw [if_neg (by omega)];rfl
theorem rise_unit {n:Nat} (s:Nat→Int) {j:Nat} (hj:j<n):rise n unit s j=s (j+1):=by
 unfold rise
 rw [sm_one j hj fun i _ hi=>by unfold unit;rw [if_neg (fun e=>hi e.symm),Int.mul_zero]]
 unfold unit;rw [if_pos rfl,Int.mul_one]
theorem rise_same (n:Nat) (St:Nat→Nat→Int) (s:Nat→Int) {k j a:Nat} (t:Int) (h:a≠k):rise n (subRow St k j t) s a=rise n St s a:=by
 unfold rise
 refine sm_congr fun i _=>?_
 unfold subRow;rw [if_neg h]
theorem rise_sub (n:Nat) (St:Nat→Nat→Int) (s:Nat→Int) (k j:Nat) (t:Int):rise n (subRow St k j t) s k=rise n St s k - t*rise n St s j:=by
 unfold rise
 rw [←sm_mul,←sm_sub]
 refine sm_congr fun i _=>?_
 unfold subRow
 rw [if_pos rfl,Int.mul_sub,Int.mul_left_comm]
theorem rest_less (a:Int) {b:Int} (hb:b≠0):(a - Int.fdiv a b*b).natAbs<b.natAbs:=by
 rcases (show b<0∨0<b by omega) with h|h
 ·rw [←Int.neg_fdiv_neg,Int.fdiv_eq_ediv_of_nonneg _ (by omega)]
  have d1:=Int.mul_ediv_add_emod (-a) (-b)
  have d2:=Int.emod_nonneg (-a) (show -b≠0 by omega)
  have d3:=Int.emod_lt_of_pos (-a) (show 0 < -b by omega)
  generalize (-a)/(-b)=q at *
  generalize (-a)%(-b)=r at *
  rw [Int.neg_mul,Int.mul_comm b q] at d1
  omega
 ·rw [Int.fdiv_eq_ediv_of_nonneg _ (by omega)]
  have d1:=Int.mul_ediv_add_emod a b
  have d2:=Int.emod_nonneg a (show b≠0 by omega)
  have d3:=Int.emod_lt_of_pos a h
  generalize a/b=q at *
  generalize a%b=r at *
  rw [Int.mul_comm b q] at d1
  omega
theorem times_le (a:Int) {b:Int} (hb:b≠0):((Int.fdiv a b).natAbs:Int)*b.natAbs≤a.natAbs+b.natAbs:=by
 have h:=rest_less a hb
 have e:((Int.fdiv a b).natAbs:Int)*b.natAbs=((Int.fdiv a b*b).natAbs:Int):=by rw [Int.natAbs_mul];simp
 rw [e]
 omega
def risen (n:Nat) (r:Nat→Int):Int:=sm n (fun j=>(r j).natAbs)
theorem risen_nonneg (n:Nat) (r:Nat→Int):0≤risen n r:=sm_nonneg fun _ _=>by omega
theorem risen_less {n:Nat} {r r':Nat→Int} {k:Nat} (hk:k<n) (h:∀ j,j<n→j≠k→r' j=r j) (hlt:(r' k).natAbs<(r k).natAbs):risen n r'<risen n r:=by
 unfold risen
 rw [sm_split (f:=fun j=>((r' j).natAbs:Int)) k hk,sm_split (f:=fun j=>((r j).natAbs:Int)) k hk,sm_congr (f:=fun j=>if j=k then 0 else ((r' j).natAbs:Int)) (g:=fun j=>if j=k then 0 else ((r j).natAbs:Int)) fun j hj=>?_]
 ·omega
 ·by_cases e:j=k
  ·rw [if_pos e,if_pos e]
  ·rw [if_neg e,if_neg e,h j hj e]
theorem straight_step {n:Nat} {St:Nat→Nat→Int} {s:Nat→Int} {k j:Nat} (hk:k<n) (hjk:j≠k) (hj:rise n St s j≠0) (hle:(rise n St s j).natAbs≤(rise n St s k).natAbs) :
  risen n (rise n (subRow St k j (Int.fdiv (rise n St s k) (rise n St s j))) s)<risen n (rise n St s):=by
 refine risen_less hk (fun a _ ha=>rise_same n St s _ ha) ?_
 rw [rise_sub]
 have:=rest_less (rise n St s k) hj
 omega
def strStep (n:Nat) (s:Nat→Int) (at_:Nat) (St:Nat→Nat→Int) (j:Nat):Nat→Nat→Int :=
 if j=at_∨rise n St s j=0 then St else subRow St j at_ (Int.fdiv (rise n St s j) (rise n St s at_))
def strTo (n:Nat) (s:Nat→Int) (at_:Nat) (St:Nat→Nat→Int):Nat→Nat→Nat→Int
 | 0=>St
 | j+1=>strStep n s at_ (strTo n s at_ St j) j
def LeastAt (n:Nat) (s:Nat→Int) (St:Nat→Nat→Int) (at_:Nat):Prop:=at_<n∧rise n St s at_≠0∧∀ j,j<n→rise n St s j≠0→(rise n St s at_).natAbs≤(rise n St s j).natAbs
def Rounds (n:Nat) (s:Nat→Int) (k:Nat) (St:Nat→Nat→Int):Prop:=∃ (T:Nat→Nat→Nat→Int) (A:Nat→Nat),T 0=unit∧T k=St∧∀ i,i<k→LeastAt n s (T i) (A i)∧T (i+1)=strTo n s (A i) (T i) n
section
variable {n:Nat} {s:Nat→Int} {at_:Nat} {St:Nat→Nat→Int}
theorem step_other (j:Nat) {a:Nat} (h:a≠j):strStep n s at_ St j a=St a:=by
 unfold strStep
 split
 ·rfl
 ·funext i;unfold subRow;rw [if_neg h]
theorem to_later:∀ (j:Nat) {a:Nat},j≤a→strTo n s at_ St j a=St a
 | 0,_,_=>rfl
 | j+1,a,h=>by
  show strStep n s at_ (strTo n s at_ St j) j a=St a
  rw [step_other j (by omega),to_later j (by omega)]
theorem to_at:∀ (j:Nat),strTo n s at_ St j at_=St at_
 | 0=>rfl
 | j+1=>by
  show strStep n s at_ (strTo n s at_ St j) j at_=St at_
  by_cases e:at_=j
  ·unfold strStep;rw [if_pos (.inl e.symm),to_at j]
  ·rw [step_other j e,to_at j]
theorem rise_row {St':Nat→Nat→Int} {a:Nat} (h:St' a=St a):rise n St' s a=rise n St s a:=by unfold rise;rw [h]
theorem to_rise_later (j:Nat) {a:Nat} (h:j≤a):rise n (strTo n s at_ St j) s a=rise n St s a:=rise_row (to_later j h)
theorem to_rise_at (j:Nat):rise n (strTo n s at_ St j) s at_=rise n St s at_:=rise_row (to_at j)
theorem to_uni (h:Uni n St) (ha:at_<n):∀ j,j≤n→Uni n (strTo n s at_ St j)
 | 0,_=>h
 | j+1,hj=>by
  show Uni n (strStep n s at_ (strTo n s at_ St j) j)
  unfold strStep
  split
  ·exact to_uni h ha j (by omega)
  ·rename_i hne
   exact uni_short (to_uni h ha j (by omega)) (by omega) ha (fun e=>hne (.inl e.symm)) _
theorem to_risen (h:LeastAt n s St at_):∀ j,j≤n→risen n (rise n (strTo n s at_ St j) s)≤risen n (rise n St s)∧((∃ a,a<j∧a≠at_∧rise n St s a≠0)→risen n (rise n (strTo n s at_ St j) s)<risen n (rise n St s))
 | 0,_=>⟨Int.le_refl _,fun ⟨a,h1,_⟩=>by omega⟩
 | j+1,hj=>by
  have ih:=to_risen h j (by omega)
  show risen n (rise n (strStep n s at_ (strTo n s at_ St j) j) s)≤_∧_
  have er:=to_rise_later (n:=n) (s:=s) (at_:=at_) (St:=St) j (a:=j) (Nat.le_refl _)
  by_cases hc:j=at_∨rise n (strTo n s at_ St j) s j=0
  ·have e:strStep n s at_ (strTo n s at_ St j) j=strTo n s at_ St j:=by unfold strStep;rw [if_pos hc]
   have e2:strTo n s at_ St (j+1)=strTo n s at_ St j:=e
   rw [e,e2]
   refine ⟨ih.1,fun ⟨a,h1,h2,h3⟩=>ih.2 ⟨a,?_,h2,h3⟩⟩
   rcases (show a<j∨a=j by omega) with h4|h4
   ·exact h4
   ·subst h4
    rcases hc with h5|h5
    ·exact absurd h5 h2
    ·rw [er] at h5;exact absurd h5 h3
  ·have e:strStep n s at_ (strTo n s at_ St j) j=subRow (strTo n s at_ St j) j at_ (Int.fdiv (rise n (strTo n s at_ St j) s j) (rise n (strTo n s at_ St j) s at_)):=by unfold strStep;rw [if_neg hc]
   have e2:strTo n s at_ St (j+1)=strStep n s at_ (strTo n s at_ St j) j:=rfl
   have hnz:rise n (strTo n s at_ St j) s j≠0:=fun h0=>hc (.inr h0)
   have hlt:=straight_step (n:=n) (St:=strTo n s at_ St j) (s:=s) (k:=j) (j:=at_) (by omega) (fun e=>hc (.inl e.symm)) (by rw [to_rise_at];exact h.2.1) (by
    rw [to_rise_at,er]
    rw [er] at hnz
    exact h.2.2 j (by omega) hnz)
   rw [e2,e]
   exact ⟨by omega,fun _=>by omega⟩
theorem Rounds.start (n:Nat) (s:Nat→Int):Rounds n s 0 unit:=⟨fun _=>unit,fun _=>0,rfl,rfl,fun i hi=>by omega⟩
theorem Rounds.snoc {k:Nat} (h:Rounds n s k St) (ha:LeastAt n s St at_):Rounds n s (k+1) (strTo n s at_ St n):=by
 obtain ⟨T,A,h0,rfl,h2⟩:=h
 refine ⟨fun i=>if i≤k then T i else strTo n s at_ (T k) n,fun i=>if i<k then A i else at_,?_,?_,fun i hi=>?_⟩
 ·simp [h0]
 ·show (if k+1≤k then _ else _)=_
  rw [if_neg (by omega)]
 ·by_cases e:i<k
  ·have:=h2 i e
   simp only [if_pos (show i≤k by omega),if_pos e,if_pos (show i+1≤k by omega)]
   exact this
  ·have:i=k:=by omega
   subst this
   simp only [if_pos (Nat.le_refl i),if_neg e,if_neg (show ¬ i+1≤i by omega)]
   exact ⟨ha,trivial⟩
theorem Rounds.uni {k:Nat} (h:Rounds n s k St):Uni n St:=by
 obtain ⟨T,A,h0,rfl,h2⟩:=h
 induction k with
 | zero=>rw [h0];exact uni_unit n
 | succ k ih =>
  have h3:=h2 k (by omega)
  rw [h3.2]
  exact to_uni (ih (fun i hi=>h2 i (by omega))) h3.1.1 n (Nat.le_refl _)
theorem to_alone:∀ j,(∀ a,a<j→a=at_∨rise n St s a=0)→strTo n s at_ St j=St
 | 0,_=>rfl
 | j+1,h=>by
  show strStep n s at_ (strTo n s at_ St j) j=St
  rw [to_alone j (fun a ha=>h a (by omega))]
  unfold strStep
  rw [if_pos (h j (by omega))]
end
end Go.Proofs.Ytfaljekgpnbmiaa.Pl
