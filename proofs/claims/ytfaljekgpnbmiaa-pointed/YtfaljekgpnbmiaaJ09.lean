/- Joined: XDet XTab1 XTab2. -/
import Derived.Test.YtfaljekgpnbmiaaJ08
set_option linter.unusedVariables false
set_option linter.unusedSimpArgs false
set_option maxRecDepth 100000
namespace Go.Proofs.Ytfaljekgpnbmiaa.Pl
def sm:Nat→(Nat→Int)→Int
 | 0,_=>0
 | n+1,f=>sm n f+f n
theorem sm_congr {n:Nat} {f g:Nat→Int} (h:∀ i,i<n→f i=g i):sm n f=sm n g:=by
 induction n with
 | zero=>rfl
 | succ n ih=>rw [sm,sm,ih fun i hi=>h i (by omega),h n (by omega)]
theorem sm_add (n:Nat) (f g:Nat→Int):sm n (fun i=>f i+g i)=sm n f+sm n g:=by
 induction n with
 | zero=>rfl
 | succ n ih=>simp only [sm,ih];omega
theorem sm_sub (n:Nat) (f g:Nat→Int):sm n (fun i=>f i - g i)=sm n f - sm n g:=by
 induction n with
 | zero=>rfl
 | succ n ih=>simp only [sm,ih];omega
theorem sm_mul (n:Nat) (a:Int) (f:Nat→Int):sm n (fun i=>a*f i)=a*sm n f:=by
 induction n with
 | zero=>simp [sm]
 | succ n ih=>simp only [sm,ih,Int.mul_add]
theorem sm_zero {n:Nat} {f:Nat→Int} (h:∀ i,i<n→f i=0):sm n f=0:=by
 induction n with
 | zero=>rfl
 | succ n ih=>rw [sm,ih fun i hi=>h i (by omega),h n (by omega)];rfl
theorem sm_one {n:Nat} {f:Nat→Int} (j:Nat) (hj:j<n) (h:∀ i,i<n→i≠j→f i=0):sm n f=f j:=by
 induction n with
 | zero=>omega
 | succ n ih =>
  rw [sm]
  by_cases hn:j=n
  ·rw [sm_zero fun i hi=>h i (by omega) (by omega),hn];omega
  ·rw [ih (by omega) fun i hi=>h i (by omega),h n (by omega) (by omega)];omega
theorem sm_two {n:Nat} {f:Nat→Int} (j k:Nat) (hj:j<n) (hk:k<n) (hjk:j≠k) (h:∀ i,i<n→i≠j→i≠k→f i=0):sm n f=f j+f k:=by
 have e:sm n f=sm n (fun i=>(if i=j then f i else 0)+(if i=j then 0 else f i)):=sm_congr fun i _=>by split <;> omega
 rw [e,sm_add,sm_one j hj fun i _ hi=>if_neg hi,sm_one k hk fun i hi hik=>?_,if_pos rfl,if_neg (fun e=>hjk e.symm)]
 by_cases hij:i=j
 ·rw [if_pos hij]
 ·rw [if_neg hij];exact h i hi hij hik
theorem sm_swap (n m:Nat) (f:Nat→Nat→Int):sm n (fun i=>sm m (fun j=>f i j))=sm m (fun j=>sm n (fun i=>f i j)):=by
 induction n with
 | zero=>rw [sm];exact (sm_zero fun _ _=>rfl).symm
 | succ n ih=>simp only [sm,ih];rw [sm_add]
theorem sm_split {n:Nat} {f:Nat→Int} (j:Nat) (hj:j<n):sm n f=f j+sm n (fun i=>if i=j then 0 else f i):=by
 have e:sm n f=sm n (fun i=>(if i=j then f i else 0)+(if i=j then 0 else f i)):=sm_congr fun i _=>by split <;> omega
 rw [e,sm_add,sm_one j hj fun i _ hi=>if_neg hi,if_pos rfl]
theorem sm_nonpos {n:Nat} {f:Nat→Int} (h:∀ i,i<n→f i≤0):sm n f≤0:=by
 induction n with
 | zero=>exact Int.le_refl 0
 | succ n ih=>rw [sm];have h1:=ih fun i hi=>h i (by omega);have h2:=h n (by omega);omega
theorem sm_nonneg {n:Nat} {f:Nat→Int} (h:∀ i,i<n→0≤f i):0≤sm n f:=by
 induction n with
 | zero=>exact Int.le_refl 0
 | succ n ih=>rw [sm];have h1:=ih fun i hi=>h i (by omega);have h2:=h n (by omega);omega
theorem sm_pos_some {n:Nat} {f:Nat→Int} (h:0<sm n f):∃ i,i<n∧0<f i:=by
 apply Classical.byContradiction
 intro hc
 have:=sm_nonpos (n:=n) (f:=f) fun i hi=>by
  apply Classical.byContradiction
  intro h1
  exact hc ⟨i,hi,by omega⟩
 omega
theorem sm_abs {n:Nat} {f:Nat→Int} {b:Int} (h:∀ i,i<n→-b≤f i∧f i≤b):-(n*b)≤sm n f∧sm n f≤n*b:=by
 induction n with
 | zero=>simp [sm]
 | succ n ih =>
  have h1:=ih fun i hi=>h i (by omega)
  have h2:=h n (by omega)
  have e:((n+1:Nat):Int)*b=n*b+b:=by rw [Int.natCast_add,Int.add_mul];simp
  rw [sm,e];omega
def sgn (k:Nat):Int:=if k%2=0 then 1 else -1
theorem sgn_succ (k:Nat):sgn (k+1)=-sgn k:=by
 unfold sgn
 rcases Nat.mod_two_eq_zero_or_one k with h|h
 ·rw [if_neg (by omega),if_pos h]
 ·rw [if_pos (by omega),if_neg (by omega)];rfl
def del (i:Nat) (R:Nat→Nat→Int):Nat→Nat→Int:=fun k=>if k<i then R k else R (k+1)
def upd (R:Nat→Nat→Int) (j:Nat) (v:Nat→Int):Nat→Nat→Int:=fun i=>if i=j then v else R i
def det:Nat→(Nat→Nat→Int)→Int
 | 0,_=>1
 | m+1,R=>sm (m+1) (fun i=>sgn (i+m)*(R i m*det m (del i R)))
theorem upd_same (R:Nat→Nat→Int) (j:Nat) (v:Nat→Int):upd R j v j=v:=by unfold upd;rw [if_pos rfl]
theorem upd_ne (R:Nat→Nat→Int) {i j:Nat} (v:Nat→Int) (h:i≠j):upd R j v i=R i:=by unfold upd;rw [if_neg h]
theorem upd_comm (R:Nat→Nat→Int) {i j:Nat} (u v:Nat→Int) (h:i≠j):upd (upd R i u) j v=upd (upd R j v) i u:=by
 funext k;unfold upd
 by_cases h1:k=j
 ·rw [if_pos h1,if_neg (by omega),if_pos h1]
 ·rw [if_neg h1]
  by_cases h2:k=i
  ·rw [if_pos h2,if_pos h2]
  ·rw [if_neg h2,if_neg h2,if_neg h1]
theorem upd_self (R:Nat→Nat→Int) (j:Nat):upd R j (R j)=R:=by
 funext i;unfold upd;split
 ·rename_i h;rw [h]
 ·rfl
theorem det_congr:∀ (m:Nat) {R S:Nat→Nat→Int},(∀ i j,i<m→j<m→R i j=S i j)→det m R=det m S
 | 0,_,_,_=>rfl
 | m+1,R,S,h=>by
  rw [det,det]
  refine sm_congr fun i hi=>?_
  rw [h i m hi (by omega),det_congr m (R:=del i R) (S:=del i S) fun k j hk hj=>?_]
  unfold del
  split
  ·exact h k j (by omega) (by omega)
  ·exact h (k+1) j (by omega) (by omega)
theorem del_upd_same (R:Nat→Nat→Int) (r:Nat) (v:Nat→Int):del r (upd R r v)=del r R:=by
 funext k;unfold del
 split
 ·rw [upd_ne R v (by omega)]
 ·rw [upd_ne R v (by omega)]
theorem del_upd_lt (R:Nat→Nat→Int) {i r:Nat} (v:Nat→Int) (h:r<i):del i (upd R r v)=upd (del i R) r v:=by
 funext k
 by_cases hk:k=r
 ·rw [hk,upd_same];unfold del;rw [if_pos h,upd_same]
 ·rw [upd_ne _ v hk];unfold del
  split
  ·rw [upd_ne _ v hk]
  ·rw [upd_ne _ v (by omega)]
theorem del_upd_gt (R:Nat→Nat→Int) {i r:Nat} (v:Nat→Int) (h:i<r):del i (upd R r v)=upd (del i R) (r - 1) v:=by
 funext k
 by_cases hk:k=r - 1
 ·rw [hk,upd_same];unfold del;rw [if_neg (by omega),show r - 1+1=r by omega,upd_same]
 ·rw [upd_ne _ v hk];unfold del
  split
  ·rw [upd_ne _ v (by omega)]
  ·rw [upd_ne _ v (by omega)]
theorem det_linear:∀ (m:Nat) (R:Nat→Nat→Int) (r:Nat) (a b:Int) (u v:Nat→Int),r<m →
  det m (upd R r (fun j=>a*u j+b*v j))=a*det m (upd R r u)+b*det m (upd R r v)
 | 0,_,_,_,_,_,_,h=>by omega
 | m+1,R,r,a,b,u,v,h=>by
  rw [det,det,det,←sm_mul,←sm_mul,←sm_add]
  refine sm_congr fun i hi=>?_
  by_cases hir:i=r
  ·subst hir
   rw [upd_same,upd_same,upd_same,del_upd_same,del_upd_same,del_upd_same,Int.add_mul,Int.mul_add]
   congr 1
   ·rw [Int.mul_assoc,Int.mul_left_comm]
   ·rw [Int.mul_assoc,Int.mul_left_comm]
  ·have key:∀ q,q<m→(∀ x,del i (upd R r x)=upd (del i R) q x) →
     sgn (i+m)*(R i m*det m (del i (upd R r fun j=>a*u j+b*v j)))=a*(sgn (i+m)*(R i m*det m (del i (upd R r u))))+b*(sgn (i+m)*(R i m*det m (del i (upd R r v)))):=by
    intro q hq hx
    rw [hx,hx,hx,det_linear m (del i R) q a b u v hq]
    generalize det m (upd (del i R) q u)=X
    generalize det m (upd (del i R) q v)=Y
    rw [Int.mul_add,Int.mul_add,Int.mul_left_comm (R i m) a X,Int.mul_left_comm (R i m) b Y,Int.mul_left_comm (sgn (i+m)) a,Int.mul_left_comm (sgn (i+m)) b]
   rw [upd_ne _ _ hir,upd_ne _ _ hir,upd_ne _ _ hir]
   by_cases hlt:r<i
   ·exact key r (by omega) fun x=>del_upd_lt R x hlt
   ·exact key (r - 1) (by omega) fun x=>del_upd_gt R x (by omega)
theorem det_adj:∀ (m:Nat) (R:Nat→Nat→Int) (p:Nat),p+1<m→R p=R (p+1)→det m R=0
 | 0,_,_,h,_=>by omega
 | m+1,R,p,h,he=>by
  rw [det,sm_two p (p+1) (by omega) h (by omega) fun i hi h1 h2=>?_]
  ·have e:del p R=del (p+1) R:=by
    funext k;unfold del
    by_cases hk:k<p
    ·rw [if_pos hk,if_pos (by omega)]
    ·rw [if_neg hk]
     by_cases hk2:k=p
     ·rw [if_pos (by omega),hk2,he]
     ·rw [if_neg (by omega)]
   rw [e,show p+1+m=(p+m)+1 by omega,sgn_succ,he,Int.neg_mul]
   omega
  ·have h0:det m (del i R)=0:=by
    by_cases hip:i<p
    ·refine det_adj m (del i R) (p - 1) (by omega) ?_
     unfold del
     rw [if_neg (by omega),if_neg (by omega),show p - 1+1=p by omega];exact he
    ·refine det_adj m (del i R) p (by omega) ?_
     unfold del
     rw [if_pos (by omega),if_pos (by omega)];exact he
   rw [h0,Int.mul_zero,Int.mul_zero]
theorem det_swap (m:Nat) (R:Nat→Nat→Int) (p:Nat) (h:p+1<m) (u v:Nat→Int) :
  det m (upd (upd R p u) (p+1) v)=-det m (upd (upd R p v) (p+1) u):=by
 have lin:=fun (x y:Nat→Int) (r:Nat) (hr:r<m) (S:Nat→Nat→Int)=>det_linear m S r 1 1 x y hr
 have z:∀ x,det m (upd (upd R p x) (p+1) x)=0:=fun x=>det_adj m _ p h (by rw [upd_same,upd_ne _ _ (by omega),upd_same])
 have e0:=z (fun j=>1*u j+1*v j)
 rw [lin _ _ (p+1) h,upd_comm R _ _ (show p≠p+1 by omega),upd_comm R _ _ (show p≠p+1 by omega),lin _ _ p (by omega),lin _ _ p (by omega),
  ← upd_comm R _ _ (show p≠p+1 by omega),←upd_comm R _ _ (show p≠p+1 by omega),←upd_comm R _ _ (show p≠p+1 by omega),←upd_comm R _ _ (show p≠p+1 by omega),z u,z v] at e0
 omega
theorem det_eq (m:Nat):∀ (d:Nat) (R:Nat→Nat→Int) (p q:Nat),q=p+1+d→q<m→R p=R q→det m R=0
 | 0,R,p,q,hq,hm,he=>det_adj m R p (by omega) (by rw [he,hq])
 | d+1,R,p,q,hq,hm,he=>by
  have e:R=upd (upd R (q - 1) (R (q - 1))) (q - 1+1) (R (q - 1+1)):=by rw [upd_self,upd_self]
  rw [e,det_swap m R (q - 1) (by omega)]
  rw [det_eq m d _ p (q - 1) (by omega) (by omega) ?_]
  ·rfl
  ·rw [upd_ne _ _ (by omega),upd_ne _ _ (by omega),upd_ne _ _ (by omega),upd_same,show q - 1+1=q by omega];exact he
theorem det_two {m:Nat} {R:Nat→Nat→Int} {p q:Nat} (hpq:p≠q) (hp:p<m) (hq:q<m) (he:R p=R q):det m R=0:=by
 by_cases h:p<q
 ·exact det_eq m (q - p - 1) R p q (by omega) hq he
 ·exact det_eq m (p - q - 1) R q p (by omega) hp he.symm
def unit (i j:Nat):Int:=if i=j then 1 else 0
theorem det_unit:∀ m,det m unit=1
 | 0=>rfl
 | m+1=>by
  rw [det,sm_one m (by omega) fun i _ hi=>by unfold unit;rw [if_neg hi];simp]
  have e:det m (del m unit)=1:=by
   rw [←det_unit m]
   refine det_congr m fun i j hi _=>?_
   unfold del;rw [if_pos hi]
  rw [e]
  have e2:unit m m=1:=if_pos rfl
  have e3:sgn (m+m)=1:=by unfold sgn;rw [if_pos (by omega)]
  rw [e2,e3];rfl
theorem det_sum (m:Nat) (R:Nat→Nat→Int) (r:Nat) (hr:r<m) (c:Nat→Int) (V:Nat→Nat→Int):∀ n,
  det m (upd R r (fun j=>sm n (fun k=>c k*V k j)))=sm n (fun k=>c k*det m (upd R r (V k)))
 | 0=>by
  have e:(fun j=>sm 0 (fun k=>c k*V k j))=(fun j=>0*R r j+0*R r j):=by funext j;simp [sm]
  rw [e,det_linear m R r 0 0 _ _ hr];simp [sm]
 | n+1=>by
  have e:(fun j=>sm (n+1) (fun k=>c k*V k j))=(fun j=>1*sm n (fun k=>c k*V k j)+c n*V n j):=by funext j;rw [sm];omega
  rw [e,det_linear m R r 1 (c n) _ _ hr,det_sum m R r hr c V n,sm];omega
theorem det_scale (m:Nat) (R:Nat→Nat→Int) (r:Nat) (hr:r<m) (a:Int) (u:Nat→Int):det m (upd R r (fun j=>a*u j))=a*det m (upd R r u):=by
 have e:(fun j=>a*u j)=(fun j=>a*u j+0*u j):=by funext j;omega
 rw [e,det_linear m R r a 0 _ _ hr];omega
theorem cramer {m:Nat} {R:Nat→Nat→Int} {s:Int} {v:Nat→Int} {c:Nat→Int} (h:∀ j,j<m→s*v j=sm m (fun k=>c k*R k j)) {r:Nat} (hr:r<m) :
  s*det m (upd R r v)=c r*det m R:=by
 rw [←det_scale m R r hr s v]
 have e:det m (upd R r (fun j=>s*v j))=det m (upd R r (fun j=>sm m (fun k=>c k*R k j))):=by
  refine det_congr m fun i j _ hj=>?_
  unfold upd
  split
  ·exact h j hj
  ·rfl
 rw [e,det_sum m R r hr c R m,sm_one r hr fun k hk hkr=>?_,upd_self]
 rw [det_two (p:=r) (q:=k) (fun e=>hkr e.symm) hr hk (by rw [upd_same,upd_ne _ _ hkr]),Int.mul_zero]
def fac:Nat→Int
 | 0=>1
 | n+1=>(n+1)*fac n
theorem abs_mul_le {a b x y:Int} (ha:-x≤a∧a≤x) (hb:-y≤b∧b≤y):-(x*y)≤a*b∧a*b≤x*y:=by
 have hx:0≤x:=by omega
 have hy:0≤y:=by omega
 have h1:0≤(x - a)*(y - b):=Int.mul_nonneg (by omega) (by omega)
 have h2:0≤(x+a)*(y+b):=Int.mul_nonneg (by omega) (by omega)
 have h3:0≤(x - a)*(y+b):=Int.mul_nonneg (by omega) (by omega)
 have h4:0≤(x+a)*(y - b):=Int.mul_nonneg (by omega) (by omega)
 simp only [Int.sub_mul,Int.add_mul,Int.mul_sub,Int.mul_add] at h1 h2 h3 h4
 omega
theorem det_bound:∀ (m:Nat) (R:Nat→Nat→Int) (B:Int),0≤B→(∀ i j,i<m→j<m→-B≤R i j∧R i j≤B)→-(fac m*B^m)≤det m R∧det m R≤fac m*B^m
 | 0,R,B,_,_=>by simp [det,fac]
 | m+1,R,B,hB,h=>by
  rw [det]
  have hs:∀ i,i<m+1→-(B*(fac m*B^m))≤sgn (i+m)*(R i m*det m (del i R))∧sgn (i+m)*(R i m*det m (del i R))≤B*(fac m*B^m):=fun i hi=>by
   have h1:=abs_mul_le (h i m hi (by omega)) (det_bound m (del i R) B hB fun k j hk hj=>by
    unfold del
    split
    ·exact h k j (by omega) (by omega)
    ·exact h (k+1) j (by omega) (by omega))
   unfold sgn
   split
   ·omega
   ·omega
  have:=sm_abs hs
  rw [fac,Int.pow_succ]
  have e:(↑m+1)*fac m*(B^m*B)=((m+1:Nat):Int)*(B*(fac m*B^m)):=by
   rw [Int.natCast_add,Int.mul_assoc]
   congr 1
   rw [Int.mul_comm B,←Int.mul_assoc]
  rw [e];exact this
structure Tab where
 lines:List (Int × List Int)
 cols:List Int
 scale:Int
def Tab.name (t:Tab) (r:Nat):Int:=(t.lines.getD r (0,[])).1
def Tab.cell (t:Tab) (r j:Nat):Int:=(t.lines.getD r (0,[])).2.getD j 0
def Tab.col (t:Tab) (c:Nat):Int:=t.cols.getD c 0
def Tab.base (F:Int→Nat→Int) (t:Tab):Nat→Nat→Int:=fun i=>if i=0 then unit 0 else F (t.col (i - 1))
structure TabOk (F:Int→Nat→Int) (n:Nat) (t:Tab):Prop where
 cols:t.cols.length=n
 cells:∀ l∈t.lines,l.2.length=n+1
 pos:0<t.scale
 dets:∃ e:Int,e*e=1∧det (n+1) (t.base F)=e*t.scale
 tells:∀ r,r<t.lines.length→∀ k,k<n+1→t.scale*F (t.name r) k=sm (n+1) (fun j=>t.cell r j*t.base F j k)
def Tab.told (t:Tab) (i r c:Nat) (sg:Int):List Int:=(List.range (t.cols.length+1)).map fun j=>sg*(if j=c then t.cell i c else Int.fdiv (t.cell r c*t.cell i j - t.cell i c*t.cell r j) t.scale)
def Tab.turned (t:Tab) (r c:Nat) (sg:Int):List Int:=(List.range (t.cols.length+1)).map fun j=>sg*(if j=c then t.scale else -t.cell r j)
def Tab.swap (t:Tab) (r c:Nat):Tab :=
 { lines:=t.lines.mapIdx fun i l=>if i=r then (t.col c,t.turned r (c+1) (Int.sign (t.cell r (c+1)))) else (l.1,t.told i r (c+1) (Int.sign (t.cell r (c+1)))),cols:=t.cols.set c (t.name r),scale:=(t.cell r (c+1)).natAbs }
theorem getD_map_range (n:Nat) (f:Nat→Int) (j:Nat) (h:j<n):((List.range n).map f).getD j 0=f j:=by
 rw [List.getD_eq_getElem?_getD,List.getElem?_map,List.getElem?_range h];rfl
theorem Tab.swap_len (t:Tab) (r c:Nat):(t.swap r c).lines.length=t.lines.length:=by simp [Tab.swap]
theorem Tab.swap_cols (t:Tab) (r c:Nat):(t.swap r c).cols.length=t.cols.length:=by simp [Tab.swap]
theorem Tab.swap_line (t:Tab) (r c i:Nat) (hi:i<t.lines.length):(t.swap r c).lines.getD i (0,[])=if i=r then (t.col c,t.turned r (c+1) (Int.sign (t.cell r (c+1)))) else (t.name i,t.told i r (c+1) (Int.sign (t.cell r (c+1)))):=by
 unfold Tab.swap Tab.name
 simp only
 rw [List.getD_eq_getElem?_getD,List.getElem?_mapIdx,List.getElem?_eq_getElem hi,List.getD_eq_getElem?_getD,List.getElem?_eq_getElem hi]
 simp only [Option.map_some,Option.getD_some]
theorem Tab.swap_name (t:Tab) (r c i:Nat) (hi:i<t.lines.length):(t.swap r c).name i=if i=r then t.col c else t.name i:=by
 unfold Tab.name
 rw [Tab.swap_line t r c i hi]
 split <;> rfl
theorem Tab.swap_col (t:Tab) (r c k:Nat) (hc:c<t.cols.length):(t.swap r c).col k=if k=c then t.name r else t.col k:=by
 unfold Tab.swap Tab.col
 simp only
 rw [List.getD_eq_getElem?_getD,List.getElem?_set,List.getD_eq_getElem?_getD]
 by_cases hk:k=c
 ·subst hk
  rw [if_pos rfl,if_pos hc,if_pos rfl];rfl
 ·rw [if_neg (fun e=>hk e.symm),if_neg hk]
theorem Tab.swap_cell (t:Tab) (r c i j:Nat) (hi:i<t.lines.length) (hj:j<t.cols.length+1) :
  (t.swap r c).cell i j=Int.sign (t.cell r (c+1))*(if i=r then (if j=c+1 then t.scale else -t.cell r j) else (if j=c+1 then t.cell i (c+1) else Int.fdiv (t.cell r (c+1)*t.cell i j - t.cell i (c+1)*t.cell r j) t.scale)):=by
 conv=>lhs;unfold Tab.cell
 rw [Tab.swap_line t r c i hi]
 by_cases h:i=r
 ·rw [if_pos h,if_pos h];unfold Tab.turned;simp only;rw [getD_map_range _ _ _ hj]
 ·rw [if_neg h,if_neg h];unfold Tab.told;simp only;rw [getD_map_range _ _ _ hj]
theorem Tab.swap_base (F:Int→Nat→Int) (t:Tab) (r c:Nat) (hc:c<t.cols.length):(t.swap r c).base F=upd (t.base F) (c+1) (F (t.name r)):=by
 funext i
 unfold upd Tab.base
 by_cases hi:i=c+1
 ·rw [if_pos hi,if_neg (by omega),Tab.swap_col t r c _ hc,if_pos (by omega)]
 ·rw [if_neg hi]
  by_cases h0:i=0
  ·rw [if_pos h0,if_pos h0]
  ·rw [if_neg h0,if_neg h0,Tab.swap_col t r c _ hc,if_neg (by omega)]
theorem sign_sq {p:Int} (h:p≠0):Int.sign p*Int.sign p=1:=by
 rcases (show p<0∨0<p by omega) with h|h
 ·rw [Int.sign_eq_neg_one_of_neg h];rfl
 ·rw [Int.sign_eq_one_of_pos h];rfl
theorem sign_mul_self (p:Int):Int.sign p*p=p.natAbs:=by
 rcases (show p<0∨p=0∨0<p by omega) with h|h|h
 ·rw [Int.sign_eq_neg_one_of_neg h];omega
 ·subst h;rfl
 ·rw [Int.sign_eq_one_of_pos h];omega
theorem fdiv_exact {a s x:Int} (hs:0<s) (h:a=s*x):Int.fdiv a s=x:=by
 rw [h,Int.mul_comm,Int.mul_fdiv_cancel _ (by omega)]
section
variable {F:Int→Nat→Int} {n:Nat} {t:Tab}
theorem TabOk.col_by (h:TabOk F n t) {r c:Nat} (hr:r<t.lines.length) (hc:c<n) (k:Nat) (hk:k<n+1) :
  t.cell r (c+1)*t.base F (c+1) k=t.scale*F (t.name r) k - sm (n+1) (fun j=>if j=c+1 then 0 else t.cell r j*t.base F j k):=by
 have e:=h.tells r hr k hk
 rw [sm_split (c+1) (by omega)] at e
 omega
theorem TabOk.line_by (h:TabOk F n t) {r c i:Nat} (hr:r<t.lines.length) (hi:i<t.lines.length) (hc:c<n) (k:Nat) (hk:k<n+1) :
  (t.cell r (c+1)*t.scale)*F (t.name i) k=sm (n+1) (fun j=>(if j=c+1 then t.scale*t.cell i (c+1) else t.cell r (c+1)*t.cell i j - t.cell i (c+1)*t.cell r j)*(t.swap r c).base F j k):=by
 have e1:=h.tells i hi k hk
 have e2:=h.col_by hr hc k hk
 rw [sm_split (c+1) (by omega)] at e1
 rw [sm_split (c+1) (by omega),Tab.swap_base F t r c (by rw [h.cols];exact hc),upd_same,if_pos rfl,Int.mul_assoc,e1,Int.mul_add]
 have e3:t.cell r (c+1)*(t.cell i (c+1)*t.base F (c+1) k)=t.cell i (c+1)*(t.scale*F (t.name r) k) - t.cell i (c+1)*sm (n+1) (fun j=>if j=c+1 then 0 else t.cell r j*t.base F j k):=by
  rw [Int.mul_left_comm,e2,Int.mul_sub]
 rw [e3,←sm_mul,←sm_mul]
 have e4:sm (n+1) (fun j=>if j=c+1 then 0 else (if j=c+1 then t.scale*t.cell i (c+1) else t.cell r (c+1)*t.cell i j - t.cell i (c+1)*t.cell r j)*upd (t.base F) (c+1) (F (t.name r)) j k)
   = sm (n+1) (fun j=>t.cell r (c+1)*(if j=c+1 then 0 else t.cell i j*t.base F j k)) - sm (n+1) (fun j=>t.cell i (c+1)*(if j=c+1 then 0 else t.cell r j*t.base F j k)):=by
  rw [←sm_sub]
  refine sm_congr fun j _=>?_
  by_cases hj:j=c+1
  ·rw [if_pos hj,if_pos hj,if_pos hj];omega
  ·rw [if_neg hj,if_neg hj,if_neg hj,if_neg hj,upd_ne _ _ hj,Int.sub_mul,Int.mul_assoc,Int.mul_assoc]
 rw [e4,show t.scale*t.cell i (c+1)*F (t.name r) k=t.cell i (c+1)*(t.scale*F (t.name r) k) by rw [Int.mul_assoc,Int.mul_left_comm]]
 omega
theorem TabOk.swap_det (h:TabOk F n t) {r c:Nat} (hr:r<t.lines.length) (hc:c<n) {e:Int} (he:det (n+1) (t.base F)=e*t.scale):det (n+1) ((t.swap r c).base F)=e*t.cell r (c+1):=by
 have h1:=cramer (R:=t.base F) (s:=t.scale) (v:=F (t.name r)) (c:=fun j=>t.cell r j) (fun k hk=>h.tells r hr k hk) (r:=c+1) (by omega)
 rw [Tab.swap_base F t r c (by rw [h.cols];exact hc)]
 rw [he] at h1
 have hp:=h.pos
 refine Int.eq_of_mul_eq_mul_left (a:=t.scale) (by omega) ?_
 rw [h1,←Int.mul_assoc,Int.mul_comm,Int.mul_comm (t.cell r (c+1)) e]
theorem TabOk.exact (h:TabOk F n t) {r c i:Nat} (hr:r<t.lines.length) (hi:i<t.lines.length) (hc:c<n) (hp:t.cell r (c+1)≠0) (j:Nat) (hj:j<n+1) (hjc:j≠c+1) :
  ∃ x,t.cell r (c+1)*t.cell i j - t.cell i (c+1)*t.cell r j=t.scale*x:=by
 obtain ⟨e,ee,he⟩:=h.dets
 have hd:=h.swap_det hr hc he
 have h1:=cramer (R:=(t.swap r c).base F) (s:=t.cell r (c+1)*t.scale) (v:=F (t.name i)) (fun k hk=>h.line_by hr hi hc k hk) (r:=j) hj
 rw [hd] at h1
 rw [if_neg hjc] at h1
 refine ⟨e*det (n+1) (upd ((t.swap r c).base F) j (F (t.name i))),?_⟩
 generalize det (n+1) (upd ((t.swap r c).base F) j (F (t.name i)))=X at *
 generalize t.cell r (c+1)*t.cell i j - t.cell i (c+1)*t.cell r j=Y at *
 refine Int.eq_of_mul_eq_mul_left (a:=t.cell r (c+1)*e) ?_ ?_
 ·intro h0
  rcases Int.mul_eq_zero.1 h0 with h0|h0
  ·exact hp h0
  ·rw [h0] at ee;simp at ee
 ·have e1:t.cell r (c+1)*e*(t.scale*(e*X))=(e*e)*(t.cell r (c+1)*t.scale*X):=by
   simp only [Int.mul_assoc,Int.mul_left_comm,Int.mul_comm]
  rw [e1,ee,h1,Int.one_mul]
  simp only [Int.mul_assoc,Int.mul_left_comm,Int.mul_comm]
theorem TabOk.swap (h:TabOk F n t) {r c:Nat} (hr:r<t.lines.length) (hc:c<n) (hp:t.cell r (c+1)≠0):TabOk F n (t.swap r c):=by
 have hcl:=h.cols
 have hsc:(t.swap r c).scale=((t.cell r (c+1)).natAbs:Int):=rfl
 refine ⟨by rw [Tab.swap_cols];exact hcl,?_,by rw [hsc];omega,?_,?_⟩
 ·intro l hl
  unfold Tab.swap at hl
  simp only at hl
  obtain ⟨i,hi,rfl⟩:=List.mem_iff_getElem.1 hl
  rw [List.getElem_mapIdx]
  split
  ·simp [Tab.turned,hcl]
  ·simp [Tab.told,hcl]
 ·obtain ⟨e,ee,he⟩:=h.dets
  refine ⟨e*Int.sign (t.cell r (c+1)),?_,?_⟩
  ·have:=sign_sq hp
   rw [show e*Int.sign (t.cell r (c+1))*(e*Int.sign (t.cell r (c+1)))=(e*e)*(Int.sign (t.cell r (c+1))*Int.sign (t.cell r (c+1))) by simp only [Int.mul_assoc,Int.mul_left_comm,Int.mul_comm],ee,this];rfl
  ·rw [h.swap_det hr hc he,hsc,←sign_mul_self,Int.mul_assoc,←Int.mul_assoc (Int.sign (t.cell r (c+1))),sign_sq hp,Int.one_mul]
 ·intro i hi k hk
  rw [Tab.swap_len] at hi
  rw [Tab.swap_name t r c i hi,hsc,←sign_mul_self]
  have hcell:∀ j,j<n+1→(t.swap r c).cell i j=_:=fun j hj=>Tab.swap_cell t r c i j hi (by rw [hcl];exact hj)
  by_cases hir:i=r
  ·rw [if_pos hir]
   have e1:=h.col_by hr hc k hk
   have e2:F (t.col c) k=t.base F (c+1) k:=by unfold Tab.base;rw [if_neg (by omega)];rfl
   rw [e2,Int.mul_assoc,e1,sm_split (f:=fun j=>(t.swap r c).cell i j*(t.swap r c).base F j k) (c+1) (by omega),hcell (c+1) (by omega),if_pos hir,if_pos rfl,Tab.swap_base F t r c (by rw [hcl];exact hc),upd_same,Int.mul_sub,Int.mul_assoc]
   have e3:sm (n+1) (fun j=>if j=c+1 then 0 else (t.swap r c).cell i j*upd (t.base F) (c+1) (F (t.name r)) j k)=sm (n+1) (fun j=>(-Int.sign (t.cell r (c+1)))*(if j=c+1 then 0 else t.cell r j*t.base F j k)):=by
    refine sm_congr fun j hj=>?_
    by_cases hjc:j=c+1
    ·rw [if_pos hjc,if_pos hjc];omega
    ·rw [if_neg hjc,if_neg hjc,hcell j hj,if_pos hir,if_neg hjc,upd_ne _ _ hjc]
     simp only [Int.neg_mul,Int.mul_neg,Int.mul_assoc]
   rw [e3,sm_mul,Int.neg_mul]
   omega
  ·rw [if_neg hir]
   have e1:=h.line_by hr hi hc k hk
   have hs:=h.pos
   refine Int.eq_of_mul_eq_mul_left (a:=t.scale) (by omega) ?_
   rw [←sm_mul,show t.scale*(Int.sign (t.cell r (c+1))*t.cell r (c+1)*F (t.name i) k)=Int.sign (t.cell r (c+1))*((t.cell r (c+1)*t.scale)*F (t.name i) k) by simp only [Int.mul_assoc,Int.mul_left_comm,Int.mul_comm],e1,←sm_mul]
   refine sm_congr fun j hj=>?_
   rw [hcell j hj,if_neg hir]
   by_cases hjc:j=c+1
   ·rw [if_pos hjc,if_pos hjc]
    simp only [Int.mul_assoc,Int.mul_left_comm,Int.mul_comm]
   ·rw [if_neg hjc,if_neg hjc]
    obtain ⟨x,hx⟩:=h.exact hr hi hc hp j hj hjc
    rw [hx,fdiv_exact hs rfl]
    simp only [Int.mul_assoc,Int.mul_left_comm,Int.mul_comm]
end
def ev (n:Nat) (f P:Nat→Int):Int:=sm (n+1) (fun k=>f k*P k)
theorem ev_unit (n:Nat) (P:Nat→Int) (i:Nat) (hi:i<n+1):ev n (unit i) P=P i:=by
 unfold ev
 rw [sm_one i hi fun k _ hk=>by unfold unit;rw [if_neg (fun e=>hk e.symm)];omega]
 unfold unit;rw [if_pos rfl];omega
section
variable {F:Int→Nat→Int} {n:Nat} {t:Tab}
theorem TabOk.eval (h:TabOk F n t) {r:Nat} (hr:r<t.lines.length) (P:Nat→Int):t.scale*ev n (F (t.name r)) P=sm (n+1) (fun j=>t.cell r j*ev n (t.base F j) P):=by
 have e1:t.scale*ev n (F (t.name r)) P=sm (n+1) (fun k=>sm (n+1) (fun j=>t.cell r j*(t.base F j k*P k))):=by
  unfold ev
  rw [←sm_mul]
  refine sm_congr fun k hk=>?_
  rw [←Int.mul_assoc,h.tells r hr k hk,Int.mul_comm,←sm_mul]
  refine sm_congr fun j _=>?_
  simp only [Int.mul_assoc,Int.mul_left_comm,Int.mul_comm]
 rw [e1,sm_swap]
 refine sm_congr fun j _=>?_
 unfold ev
 rw [←sm_mul]
theorem TabOk.point (h:TabOk F n t) (j:Nat) (hj:j<n+1):∃ Q:Nat→Int,(∀ i,i<n+1→ev n (t.base F i) Q=if i=j then t.scale else 0)∧∀ r,r<t.lines.length→ev n (F (t.name r)) Q=t.cell r j:=by
 obtain ⟨e,ee,he⟩:=h.dets
 refine ⟨fun k=>e*det (n+1) (upd (t.base F) j (unit k)),?_⟩
 have hb:∀ i,i<n+1→ev n (t.base F i) (fun k=>e*det (n+1) (upd (t.base F) j (unit k)))=if i=j then t.scale else 0:=by
  intro i hi
  unfold ev
  have e1:sm (n+1) (fun k=>t.base F i k*(e*det (n+1) (upd (t.base F) j (unit k))))=e*sm (n+1) (fun k=>t.base F i k*det (n+1) (upd (t.base F) j (unit k))):=by
   rw [←sm_mul]
   refine sm_congr fun k _=>?_
   rw [Int.mul_left_comm]
  rw [e1,←det_sum (n+1) (t.base F) j hj (fun k=>t.base F i k) unit (n+1)]
  have e2:det (n+1) (upd (t.base F) j (fun x=>sm (n+1) (fun k=>t.base F i k*unit k x)))=det (n+1) (upd (t.base F) j (t.base F i)):=by
   refine det_congr (n+1) fun a b _ hb=>?_
   unfold upd
   split
   ·show sm (n+1) (fun k=>t.base F i k*unit k b)=_
    rw [sm_one b hb fun k _ hk=>by unfold unit;rw [if_neg hk];omega]
    unfold unit;rw [if_pos rfl];omega
   ·rfl
  rw [e2]
  by_cases hij:i=j
  ·rw [if_pos hij,hij,upd_self,he,←Int.mul_assoc,ee,Int.one_mul]
  ·rw [if_neg hij,det_two (p:=j) (q:=i) (fun e=>hij e.symm) hj hi (by rw [upd_same,upd_ne _ _ hij]),Int.mul_zero]
 refine ⟨hb,fun r hr=>?_⟩
 have hs:=h.pos
 refine Int.eq_of_mul_eq_mul_left (a:=t.scale) (by omega) ?_
 rw [h.eval hr,sm_one j hj fun i hi hij=>by rw [hb i hi,if_neg hij,Int.mul_zero],hb j hj,if_pos rfl,Int.mul_comm]
theorem base_succ (F:Int→Nat→Int) (t:Tab) (c:Nat):t.base F (c+1)=F (t.col c):=by unfold Tab.base;rw [if_neg (by omega)];rfl
theorem base_zero (F:Int→Nat→Int) (t:Tab):t.base F 0=unit 0:=by unfold Tab.base;rw [if_pos rfl]
theorem sm_head (n:Nat) (f:Nat→Int):sm (n+1) f=f 0+sm n (fun c=>f (c+1)):=by
 induction n with
 | zero=>simp [sm]
 | succ n ih=>rw [sm,ih,sm];omega
theorem TabOk.eval2 (h:TabOk F n t) {r:Nat} (hr:r<t.lines.length) (P:Nat→Int):t.scale*ev n (F (t.name r)) P=t.cell r 0*P 0+sm n (fun c=>t.cell r (c+1)*ev n (F (t.col c)) P):=by
 rw [h.eval hr,sm_head,base_zero,ev_unit n P 0 (by omega)]
 simp only [base_succ]
end
structure NamesOk (n:Nat) (t:Tab):Prop where
 lines:∀ i j,i<t.lines.length→j<t.lines.length→t.name i=t.name j→i=j
 cols:∀ i j,i<n→j<n→t.col i=t.col j→i=j
 apart:∀ i j,i<t.lines.length→j<n→t.name i≠t.col j
theorem NamesOk.swap {n:Nat} {t:Tab} (h:NamesOk n t) (hn:t.cols.length=n) {r c:Nat} (hr:r<t.lines.length) (hc:c<n):NamesOk n (t.swap r c):=by
 refine ⟨?_,?_,?_⟩
 ·intro i j hi hj e
  rw [Tab.swap_len] at hi hj
  rw [Tab.swap_name t r c i hi,Tab.swap_name t r c j hj] at e
  by_cases h1:i=r
  ·by_cases h2:j=r
   ·omega
   ·rw [if_pos h1,if_neg h2] at e;exact absurd e.symm (h.apart j c hj hc)
  ·by_cases h2:j=r
   ·rw [if_neg h1,if_pos h2] at e;exact absurd e (h.apart i c hi hc)
   ·rw [if_neg h1,if_neg h2] at e;exact h.lines i j hi hj e
 ·intro i j hi hj e
  rw [Tab.swap_col t r c i (by omega),Tab.swap_col t r c j (by omega)] at e
  by_cases h1:i=c
  ·by_cases h2:j=c
   ·omega
   ·rw [if_pos h1,if_neg h2] at e;exact absurd e (h.apart r j hr hj)
  ·by_cases h2:j=c
   ·rw [if_neg h1,if_pos h2] at e;exact absurd e.symm (h.apart r i hr hi)
   ·rw [if_neg h1,if_neg h2] at e;exact h.cols i j hi hj e
 ·intro i j hi hj e
  rw [Tab.swap_len] at hi
  rw [Tab.swap_name t r c i hi,Tab.swap_col t r c j (by omega)] at e
  by_cases h1:i=r
  ·by_cases h2:j=c
   ·rw [if_pos h1,if_pos h2] at e;exact absurd e.symm (h.apart r c hr hc)
   ·rw [if_pos h1,if_neg h2] at e;exact absurd (h.cols c j hc hj e).symm h2
  ·by_cases h2:j=c
   ·rw [if_neg h1,if_pos h2] at e;exact absurd (h.lines i r hi hr e) h1
   ·rw [if_neg h1,if_neg h2] at e;exact h.apart i j hi hj e
def IsCol (n:Nat) (t:Tab) (x:Int):Prop:=∃ c,c<n∧t.col c=x
def IsLine (t:Tab) (x:Int):Prop:=∃ r,r<t.lines.length∧t.name r=x
theorem swap_isCol {n:Nat} {t:Tab} (h:NamesOk n t) (hn:t.cols.length=n) {r c:Nat} (hc:c<n) (x:Int):IsCol n (t.swap r c) x↔(IsCol n t x∧x≠t.col c)∨x=t.name r:=by
 constructor
 ·rintro ⟨k,hk,e⟩
  rw [Tab.swap_col t r c k (by omega)] at e
  by_cases h1:k=c
  ·rw [if_pos h1] at e;exact .inr e.symm
  ·rw [if_neg h1] at e
   exact .inl ⟨⟨k,hk,e⟩,fun hx=>h1 (h.cols k c hk hc (e.trans hx))⟩
 ·rintro (⟨⟨k,hk,e⟩,hx⟩ | e)
  ·refine ⟨k,hk,?_⟩
   rw [Tab.swap_col t r c k (by omega),if_neg (fun hkc=>hx (by rw [←e,hkc]))];exact e
  ·exact ⟨c,hc,by rw [Tab.swap_col t r c c (by omega),if_pos rfl,e]⟩
theorem swap_isLine {n:Nat} {t:Tab} (h:NamesOk n t) {r c:Nat} (hr:r<t.lines.length) (x:Int):IsLine (t.swap r c) x↔(IsLine t x∧x≠t.name r)∨x=t.col c:=by
 constructor
 ·rintro ⟨k,hk,e⟩
  rw [Tab.swap_len] at hk
  rw [Tab.swap_name t r c k hk] at e
  by_cases h1:k=r
  ·rw [if_pos h1] at e;exact .inr e.symm
  ·rw [if_neg h1] at e
   exact .inl ⟨⟨k,hk,e⟩,fun hx=>h1 (h.lines k r hk hr (e.trans hx))⟩
 ·rintro (⟨⟨k,hk,e⟩,hx⟩ | e)
  ·refine ⟨k,by rw [Tab.swap_len];exact hk,?_⟩
   rw [Tab.swap_name t r c k hk,if_neg (fun hkr=>hx (by rw [←e,hkr]))];exact e
  ·exact ⟨r,by rw [Tab.swap_len];exact hr,by rw [Tab.swap_name t r c r hr,if_pos rfl,e]⟩
theorem NamesOk.not_both {n:Nat} {t:Tab} (h:NamesOk n t) {x:Int} (h1:IsCol n t x) (h2:IsLine t x):False:=by
 obtain ⟨c,hc,e1⟩:=h1
 obtain ⟨r,hr,e2⟩:=h2
 exact h.apart r c hr hc (e2.trans e1.symm)
theorem leaves {p:Nat→Prop} {a b:Nat} (hab:a≤b) (ha:p a) (hb:¬ p b):∃ i,a≤i∧i<b∧p i∧¬ p (i+1):=by
 induction b with
 | zero=>exact absurd (show p 0 by have:a=0:=(by omega);rw [←this];exact ha) hb
 | succ b ih =>
  by_cases hp:p b
  ·by_cases hlt:a≤b
   ·exact ⟨b,hlt,by omega,hp,hb⟩
   ·have:a=b+1:=by omega
    rw [this] at ha;exact absurd ha hb
  ·by_cases hlt:a≤b
   ·obtain ⟨i,h1,h2,h3,h4⟩:=ih hlt hp
    exact ⟨i,h1,by omega,h3,h4⟩
   ·have:a=b+1:=by omega
    rw [this] at ha;exact absurd ha hb
theorem greatest {p:Int→Prop} {M:Int} (hM:∀ x,p x→x≤M) {x0:Int} (h0:p x0):∃ x,p x∧∀ y,p y→y≤x:=by
 have key:∀ (d:Nat) (x:Int),p x→M - x≤d→∃ x,p x∧∀ y,p y→y≤x:=by
  intro d
  induction d with
  | zero=>intro x hx hd;exact ⟨x,hx,fun y hy=>by have:=hM y hy;omega⟩
  | succ d ih =>
   intro x hx hd
   by_cases hc:∃ y,p y∧x<y
   ·obtain ⟨y,hy,hlt⟩:=hc
    exact ih y hy (by omega)
   ·exact ⟨x,hx,fun y hy=>by
     apply Classical.byContradiction
     intro h
     exact hc ⟨y,hy,by omega⟩⟩
 exact key (M - x0).toNat x0 h0 (by have:=hM x0 h0;omega)
structure Walk (F:Int→Nat→Int) (n:Nat) (T:Nat→Tab) (R C:Nat→Nat) (a b:Nat):Prop where
 ok:∀ i,a≤i→i≤b→TabOk F n (T i)
 names:∀ i,a≤i→i≤b→NamesOk n (T i)
 row:∀ i,a≤i→i<b→R i<(T i).lines.length
 col:∀ i,a≤i→i<b→C i<n
 next:∀ i,a≤i→i<b→T (i+1)=(T i).swap (R i) (C i)
section
variable {F:Int→Nat→Int} {n:Nat} {T:Nat→Tab} {R C:Nat→Nat} {a b:Nat}
theorem Walk.gone (W:Walk F n T R C a b) {i:Nat} (h1:a≤i) (h2:i<b) {x:Int} (hx:IsCol n (T i) x) (hy:¬ IsCol n (T (i+1)) x):x=(T i).col (C i):=by
 apply Classical.byContradiction
 intro h
 rw [W.next i h1 h2] at hy
 exact hy ((swap_isCol (W.names i h1 (by omega)) (W.ok i h1 (by omega)).cols (W.col i h1 h2) x).2 (.inl ⟨hx,h⟩))
theorem Walk.came (W:Walk F n T R C a b) {i:Nat} (h1:a≤i) (h2:i<b) {x:Int} (hx:¬ IsCol n (T i) x) (hy:IsCol n (T (i+1)) x):x=(T i).name (R i):=by
 rw [W.next i h1 h2] at hy
 rcases (swap_isCol (W.names i h1 (by omega)) (W.ok i h1 (by omega)).cols (W.col i h1 h2) x).1 hy with ⟨h,_⟩|h
 ·exact absurd h hx
 ·exact h
def Fickle (n:Nat) (T:Nat→Tab) (a b:Nat) (x:Int):Prop:=∃ i j,a≤i∧i≤b∧a≤j∧j≤b∧IsCol n (T i) x∧¬ IsCol n (T j) x
theorem Walk.both (W:Walk F n T R C a b) (hab:∀ x,IsCol n (T a) x↔IsCol n (T b) x) {x:Int} (h:Fickle n T a b x) :
  (∃ i,a≤i∧i<b∧IsCol n (T i) x∧x=(T i).col (C i))∧(∃ i,a≤i∧i<b∧¬ IsCol n (T i) x∧x=(T i).name (R i)):=by
 obtain ⟨i,j,hi1,hi2,hj1,hj2,hx,hy⟩:=h
 have lv:∀ u v,a≤u→u≤v→v≤b→IsCol n (T u) x→¬ IsCol n (T v) x→∃ i,a≤i∧i<b∧IsCol n (T i) x∧x=(T i).col (C i):=by
  intro u v h1 h2 h3 h4 h5
  obtain ⟨k,k1,k2,k3,k4⟩:=leaves (p:=fun i=>IsCol n (T i) x) h2 h4 h5
  exact ⟨k,by omega,by omega,k3,W.gone (by omega) (by omega) k3 k4⟩
 have en:∀ u v,a≤u→u≤v→v≤b→¬ IsCol n (T u) x→IsCol n (T v) x→∃ i,a≤i∧i<b∧¬ IsCol n (T i) x∧x=(T i).name (R i):=by
  intro u v h1 h2 h3 h4 h5
  obtain ⟨k,k1,k2,k3,k4⟩:=leaves (p:=fun i=>¬ IsCol n (T i) x) h2 h4 (fun h=>h h5)
  exact ⟨k,by omega,by omega,k3,W.came (by omega) (by omega) k3 (Classical.byContradiction k4)⟩
 by_cases ha:IsCol n (T a) x
 ·exact ⟨lv a j (by omega) hj1 hj2 ha hy,en j b hj1 hj2 (by omega) hy ((hab x).1 ha)⟩
 ·exact ⟨lv i b hi1 hi2 (by omega) hx (fun h=>ha ((hab x).2 h)),en a i (by omega) hi1 hi2 ha hx⟩
structure Feas (n:Nat) (T:Nat→Tab) (R C:Nat→Nat) (a b:Nat):Prop where
 rowName:∀ i,a≤i→i<b→0≤(T i).name (R i)
 rowNeg:∀ i,a≤i→i<b→(T i).cell (R i) 0<0
 rowLeast:∀ i,a≤i→i<b→∀ k,k<(T i).lines.length→0≤(T i).name k→(T i).cell k 0<0→(T i).name (R i)≤(T i).name k
 colName:∀ i,a≤i→i<b→0≤(T i).col (C i)
 colPos:∀ i,a≤i→i<b→0<(T i).cell (R i) (C i+1)
 colLeast:∀ i,a≤i→i<b→∀ k,k<n→0≤(T i).col k→0<(T i).cell (R i) (k+1)→(T i).col (C i)≤(T i).col k
theorem Walk.no_cycle (W:Walk F n T R C a b) (S:Feas n T R C a b) (hlt:a<b) {M:Int} (hM:∀ i,a≤i→i≤b→∀ x,IsCol n (T i) x→x≤M)
  (lines:∀ i j,a≤i→i≤b→a≤j→j≤b→∀ x,IsCol n (T i) x→¬ IsCol n (T j) x→IsLine (T j) x) (hab:∀ x,IsCol n (T a) x↔IsCol n (T b) x):False:=by
 have hf0:Fickle n T a b ((T a).name (R a)):=by
  refine ⟨a+1,a,by omega,by omega,by omega,by omega,?_,?_⟩
  ·rw [W.next a (Nat.le_refl _) hlt]
   exact (swap_isCol (W.names a (Nat.le_refl _) (by omega)) (W.ok a (Nat.le_refl _) (by omega)).cols (W.col a (Nat.le_refl _) hlt) _).2 (.inr rfl)
  ·intro h
   exact (W.names a (Nat.le_refl _) (by omega)).not_both h ⟨_,W.row a (Nat.le_refl _) hlt,rfl⟩
 obtain ⟨x,hx,hmax⟩:=greatest (p:=Fickle n T a b) (M:=M) (fun y ⟨i,_,h1,h2,_,_,h3,_⟩=>hM i h1 h2 y h3) hf0
 obtain ⟨⟨B,b1,b2,b3,b4⟩,⟨A,a1,a2,a3,a4⟩⟩:=W.both hab hx
 have fick0:∀ y,Fickle n T a b y→0≤y:=fun y hy=>by
  obtain ⟨⟨i,h1,h2,_,h4⟩,_⟩:=W.both hab hy
  rw [h4];exact S.colName i h1 h2
 obtain ⟨Q,q1,q2⟩:=(W.ok A a1 (by omega)).point 0 (by omega)
 have hs:=(W.ok A a1 (by omega)).pos
 have q0:Q 0=(T A).scale:=by
  have:=q1 0 (by omega)
  rw [base_zero,ev_unit n Q 0 (by omega),if_pos rfl] at this;exact this
 -- the value of a column of the table A is 0
 have vcol:∀ y,IsCol n (T A) y→ev n (F y) Q=0:=fun y ⟨c,hc,e⟩=>by
  have:=q1 (c+1) (by omega)
  rw [base_succ,if_neg (by omega),e] at this;exact this
 -- a fickle name below x is at least 0 there
 have vlow:∀ y,0≤y→y<x→(IsCol n (T A) y∨IsLine (T A) y)→0≤ev n (F y) Q:=fun y h0 hlt h=>by
  rcases h with h|⟨r,hr,e⟩
  ·rw [vcol y h];exact Int.le_refl 0
  ·have e2:=q2 r hr
   rw [e] at e2
   rw [e2]
   apply Classical.byContradiction
   intro hneg
   have:=S.rowLeast A a1 a2 r hr (by rw [e];exact h0) (by omega)
   rw [e,←a4] at this;omega
 have hrB:=W.row B b1 b2
 have hz:=(W.ok B b1 (by omega)).eval2 hrB Q
 have hsB:=(W.ok B b1 (by omega)).pos
 -- the row of B is a fickle name below x
 have hyf:Fickle n T a b ((T B).name (R B)):=by
  refine ⟨B+1,B,by omega,by omega,by omega,by omega,?_,?_⟩
  ·rw [W.next B b1 b2]
   exact (swap_isCol (W.names B b1 (by omega)) (W.ok B b1 (by omega)).cols (W.col B b1 b2) _).2 (.inr rfl)
  ·intro h
   exact (W.names B b1 (by omega)).not_both h ⟨_,hrB,rfl⟩
 have hyx:(T B).name (R B)<x:=by
  have h1:=hmax _ hyf
  have h2:(T B).name (R B)≠x:=by rw [b4];exact (W.names B b1 (by omega)).apart _ _ hrB (W.col B b1 b2)
  omega
 have stat:∀ y,Fickle n T a b y→IsCol n (T A) y∨IsLine (T A) y:=fun y ⟨i,_,h1,h2,_,_,h3,_⟩=>by
  by_cases h:IsCol n (T A) y
  ·exact .inl h
  ·exact .inr (lines i A h1 h2 a1 (by omega) y h3 h)
 have hL:0≤(T B).scale*ev n (F ((T B).name (R B))) Q:=Int.mul_nonneg (by omega) (vlow _ (S.rowName B b1 b2) hyx (stat _ hyf))
 have hneg:(T B).cell (R B) 0*Q 0<0:=by
  rw [q0];exact Int.mul_neg_of_neg_of_pos (S.rowNeg B b1 b2) hs
 have hsum:sm n (fun c=>(T B).cell (R B) (c+1)*ev n (F ((T B).col c)) Q)≤0:=by
  refine sm_nonpos fun c hc=>?_
  by_cases hA:IsCol n (T A) ((T B).col c)
  ·rw [vcol _ hA,Int.mul_zero];exact Int.le_refl 0
  ·have hfk:Fickle n T a b ((T B).col c):=⟨B,A,b1,by omega,a1,by omega,⟨c,hc,rfl⟩,hA⟩
   have hle:=hmax _ hfk
   by_cases hx2:(T B).col c=x
   ·have hcB:c=C B:=(W.names B b1 (by omega)).cols _ _ hc (W.col B b1 b2) (by rw [hx2,b4])
    have hp:=S.colPos B b1 b2
    rw [←hcB] at hp
    have hv:ev n (F ((T B).col c)) Q<0:=by
     rw [hx2,a4,q2 _ (W.row A a1 a2)];exact S.rowNeg A a1 a2
    have:=Int.mul_neg_of_pos_of_neg hp hv
    omega
   ·have hcell:(T B).cell (R B) (c+1)≤0:=by
     apply Classical.byContradiction
     intro h
     have:=S.colLeast B b1 b2 c hc (fick0 _ hfk) (by omega)
     rw [←b4] at this;omega
    have hv:=vlow _ (fick0 _ hfk) (by omega) (stat _ hfk)
    exact Int.mul_nonpos_of_nonpos_of_nonneg hcell hv
 omega
end
end Go.Proofs.Ytfaljekgpnbmiaa.Pl
