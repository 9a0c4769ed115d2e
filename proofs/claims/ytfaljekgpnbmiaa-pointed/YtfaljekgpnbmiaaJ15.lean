/- Joined: XLat4 XLat5 XReg1 XReg2 XTab8 XTab9. -/
import Derived.Test.YtfaljekgpnbmiaaJ14
set_option linter.unusedVariables false
set_option linter.unusedSimpArgs false
set_option maxRecDepth 100000
namespace Go.Proofs.Ytfaljekgpnbmiaa.Pl
def comb (n:Nat) (St:Nat→Nat→Int) (y:Nat→Int) (i:Nat):Int:=sm n (fun j=>y j*St j i)
structure Uni (n:Nat) (St:Nat→Nat→Int):Prop where
 reach:∀ x:Nat→Int,∃ y:Nat→Int,∀ i,i<n→x i=comb n St y i
 once:∀ y:Nat→Int,(∀ i,i<n→comb n St y i=0)→∀ j,j<n→y j=0
theorem uni_unit (n:Nat):Uni n unit:=by
 have e:∀ y i,i<n→comb n unit y i=y i:=fun y i hi=>by
  unfold comb
  rw [sm_one i hi fun j _ hj=>by unfold unit;rw [if_neg hj];omega]
  unfold unit;rw [if_pos rfl];omega
 exact ⟨fun x=>⟨x,fun i hi=>(e x i hi).symm⟩,fun y h j hj=>by rw [←e y j hj];exact h j hj⟩
theorem comb_sub {n:Nat} (St:Nat→Nat→Int) {k j:Nat} (hk:k<n) (hj:j<n) (hjk:j≠k) (t:Int) (y:Nat→Int) (i:Nat) :
  comb n (subRow St k j t) y i=comb n St (fun a=>if a=j then y j - t*y k else y a) i:=by
 unfold comb
 rw [sm_split (f:=fun a=>y a*subRow St k j t a i) k hk,sm_split (f:=fun a=>(if a=j then y j - t*y k else y a)*St a i) j hj]
 have e1:sm n (fun a=>if a=k then 0 else y a*subRow St k j t a i)=y j*St j i+sm n (fun a=>if a=j then 0 else if a=k then 0 else y a*St a i):=by
  rw [sm_split (f:=fun a=>if a=k then 0 else y a*subRow St k j t a i) j hj,if_neg hjk]
  unfold subRow
  rw [if_neg hjk]
  congr 1
  refine sm_congr fun a _=>?_
  by_cases h1:a=j
  ·rw [if_pos h1,if_pos h1]
  ·rw [if_neg h1,if_neg h1]
   by_cases h2:a=k
   ·rw [if_pos h2,if_pos h2]
   ·rw [if_neg h2,if_neg h2,if_neg h2]
 have e2:sm n (fun a=>if a=j then 0 else (if a=j then y j - t*y k else y a)*St a i)=y k*St k i+sm n (fun a=>if a=j then 0 else if a=k then 0 else y a*St a i):=by
  rw [sm_split (f:=fun a=>if a=j then 0 else (if a=j then y j - t*y k else y a)*St a i) k hk,if_neg (fun e=>hjk e.symm),if_neg (fun e=>hjk e.symm)]
  congr 1
  refine sm_congr fun a _=>?_
  by_cases h1:a=j
  ·rw [if_pos h1,if_pos h1];split <;> rfl
  ·rw [if_neg h1,if_neg h1,if_neg h1]
 rw [e1,e2,if_pos rfl]
 unfold subRow
 rw [if_pos rfl,Int.mul_sub,Int.sub_mul,Int.mul_left_comm (y k),Int.mul_assoc t]
 omega
theorem uni_short {n:Nat} {St:Nat→Nat→Int} (h:Uni n St) {k j:Nat} (hk:k<n) (hj:j<n) (hjk:j≠k) (t:Int):Uni n (subRow St k j t):=by
 constructor
 ·intro x
  obtain ⟨y,hy⟩:=h.reach x
  refine ⟨fun a=>if a=j then y j+t*y k else y a,fun i hi=>?_⟩
  rw [comb_sub St hk hj hjk,hy i hi]
  unfold comb
  refine sm_congr fun a _=>?_
  dsimp only
  by_cases h1:a=j
  ·rw [if_pos h1,if_pos rfl,if_neg (fun e=>hjk e.symm),h1,Int.add_sub_cancel]
  ·rw [if_neg h1,if_neg h1]
 ·intro y hy a ha
  have h1:=h.once (fun a=>if a=j then y j - t*y k else y a) (fun i hi=>by rw [←comb_sub St hk hj hjk];exact hy i hi)
  have hk0:y k=0:=by have:=h1 k hk;rwa [if_neg (fun e=>hjk e.symm)] at this
  by_cases e:a=j
  ·have:=h1 j hj
   rw [if_pos rfl,hk0,Int.mul_zero] at this
   rw [e];omega
  ·have:=h1 a ha
   rwa [if_neg e] at this
theorem sw_sw (k a:Nat) (hk:0<k):sw k (sw k a)=a:=by
 by_cases h1:a=k
 ·rw [h1,sw_self,sw_pred hk]
 ·by_cases h2:a=k - 1
  ·rw [h2,sw_pred hk,sw_self]
  ·rw [sw_other h1 h2,sw_other h1 h2]
theorem sm_sw {n k:Nat} (hk:0<k) (hkn:k<n) (f:Nat→Int):sm n (fun a=>f (sw k a))=sm n f:=by
 rw [sm_split (f:=fun a=>f (sw k a)) k hkn,sm_split (f:=fun a=>if a=k then 0 else f (sw k a)) (k - 1) (by omega),sm_split (f:=f) k hkn,sm_split (f:=fun a=>if a=k then 0 else f a) (k - 1) (by omega),sw_self,sw_pred hk,if_neg (by omega)]
 have e:sm n (fun a=>if a=k - 1 then 0 else if a=k then 0 else f (sw k a))=sm n (fun a=>if a=k - 1 then 0 else if a=k then 0 else f a):=by
  refine sm_congr fun a _=>?_
  by_cases h1:a=k - 1
  ·rw [if_pos h1,if_pos h1]
  ·rw [if_neg h1,if_neg h1]
   by_cases h2:a=k
   ·rw [if_pos h2,if_pos h2]
   ·rw [if_neg h2,if_neg h2,sw_other h2 h1]
 rw [e]
 omega
theorem comb_ex {n k:Nat} (hk:0<k) (hkn:k<n) (St:Nat→Nat→Int) (y:Nat→Int) (i:Nat):comb n (fun a=>St (sw k a)) y i=comb n St (fun a=>y (sw k a)) i:=by
 unfold comb
 rw [←sm_sw hk hkn (fun a=>y (sw k a)*St a i)]
 refine sm_congr fun a _=>?_
 rw [sw_sw k a hk]
theorem uni_ex {n:Nat} {St:Nat→Nat→Int} (h:Uni n St) {k:Nat} (hk:0<k) (hkn:k<n):Uni n (fun a=>St (sw k a)):=by
 constructor
 ·intro x
  obtain ⟨y,hy⟩:=h.reach x
  refine ⟨fun a=>y (sw k a),fun i hi=>?_⟩
  rw [comb_ex hk hkn,hy i hi]
  unfold comb
  refine sm_congr fun a _=>?_
  dsimp only
  rw [sw_sw k a hk]
 ·intro y hy a ha
  have:=h.once (fun a=>y (sw k a)) (fun i hi=>by rw [←comb_ex hk hkn];exact hy i hi) (sw k a) (sw_lt hkn ha)
  rwa [sw_sw k a hk] at this
def bil (n:Nat) (Q:Nat→Nat→Int) (u v:Nat→Int):Int:=sm n (fun i=>u i*sm n (fun j=>Q i j*v j))
theorem bil_left (n:Nat) (Q:Nat→Nat→Int) (u w v:Nat→Int) (t:Int):bil n Q (fun i=>u i - t*w i) v=bil n Q u v - t*bil n Q w v:=by
 unfold bil
 rw [←sm_mul,←sm_sub]
 refine sm_congr fun i _=>?_
 rw [Int.sub_mul,Int.mul_assoc]
theorem bil_right (n:Nat) (Q:Nat→Nat→Int) (u v w:Nat→Int) (t:Int):bil n Q u (fun i=>v i - t*w i)=bil n Q u v - t*bil n Q u w:=by
 unfold bil
 rw [←sm_mul,←sm_sub]
 refine sm_congr fun i _=>?_
 have e:sm n (fun j=>Q i j*(v j - t*w j))=sm n (fun j=>Q i j*v j) - t*sm n (fun j=>Q i j*w j):=by
  rw [←sm_mul,←sm_sub]
  refine sm_congr fun j _=>?_
  rw [Int.mul_sub,Int.mul_left_comm]
 rw [e,Int.mul_sub,Int.mul_left_comm]
def GramOf (n:Nat) (Q St G:Nat→Nat→Int):Prop:=∀ a b,a<n→b<n→G a b=bil n Q (St a) (St b)
theorem gram_unit (n:Nat) (Q:Nat→Nat→Int):GramOf n Q unit Q:=by
 intro a b ha hb
 unfold bil
 rw [sm_one a ha fun i _ hi=>by unfold unit;rw [if_neg (fun e=>hi e.symm),Int.zero_mul],sm_one b hb fun j _ hj=>by unfold unit;rw [if_neg (fun e=>hj e.symm),Int.mul_zero]]
 unfold unit;rw [if_pos rfl,if_pos rfl];omega
theorem gram_short {n:Nat} {Q St G:Nat→Nat→Int} (h:GramOf n Q St G) {k j:Nat} (hk:k<n) (hj:j<n) (t:Int):GramOf n Q (subRow St k j t) (shortG G k j t):=by
 intro a b ha hb
 have hr:∀ x,x≠k→subRow St k j t x=St x:=fun x hx=>by funext i;unfold subRow;rw [if_neg hx]
 have hkk:subRow St k j t k=fun i=>St k i - t*St j i:=by funext i;unfold subRow;rw [if_pos rfl]
 by_cases hak:a=k
 ·by_cases hbk:b=k
  ·rw [hak,hbk,short_both,hkk,bil_left,bil_right,bil_right,h k k hk hk,h j k hj hk,h k j hk hj,h j j hj hj,Int.mul_sub t (bil n Q (St k) (St j)),Int.mul_sub t (bil n Q (St j) (St k))]
   omega
  ·rw [hak,short_row G t hbk,hkk,hr b hbk,bil_left,h k b hk hb,h j b hj hb]
 ·by_cases hbk:b=k
  ·rw [hbk,short_col G t hak,hkk,hr a hak,bil_right,h a k ha hk,h a j ha hj]
  ·rw [short_ne G t hak hbk,hr a hak,hr b hbk,h a b ha hb]
theorem gram_ex {n:Nat} {Q St G:Nat→Nat→Int} (h:GramOf n Q St G) {k:Nat} (hkn:k<n):GramOf n Q (fun a=>St (sw k a)) (exG G k):=fun a b ha hb=>h (sw k a) (sw k b) (sw_lt hkn ha) (sw_lt hkn hb)
theorem bil_comb {n:Nat} (Q St:Nat→Nat→Int) (v w:Nat→Int):bil n Q (comb n St v) (comb n St w)=sm n (fun a=>v a*sm n (fun b=>bil n Q (St a) (St b)*w b)):=by
 have l1:∀ z,bil n Q (comb n St v) z=sm n (fun a=>v a*bil n Q (St a) z):=fun z=>by
  unfold bil comb
  have e:∀ i,i<n→sm n (fun j=>v j*St j i)*sm n (fun j=>Q i j*z j)=sm n (fun a=>v a*(St a i*sm n (fun j=>Q i j*z j))):=fun i _=>by
   rw [Int.mul_comm,←sm_mul]
   refine sm_congr fun a _=>?_
   rw [Int.mul_comm,Int.mul_assoc]
  rw [sm_congr e,sm_swap]
  refine sm_congr fun a _=>?_
  rw [←sm_mul]
 have l2:∀ u,bil n Q u (comb n St w)=sm n (fun b=>bil n Q u (St b)*w b):=fun u=>by
  unfold bil comb
  have e:∀ i,i<n→u i*sm n (fun j=>Q i j*sm n (fun b=>w b*St b j))=sm n (fun b=>u i*(sm n (fun j=>Q i j*St b j)*w b)):=fun i _=>by
   rw [←sm_mul,sm_congr (f:=fun j=>u i*(Q i j*sm n (fun b=>w b*St b j))) (g:=fun j=>sm n (fun b=>u i*(Q i j*St b j*w b))) fun j _=>by
    rw [←sm_mul,←sm_mul]
    refine sm_congr fun b _=>?_
    simp only [Int.mul_assoc,Int.mul_comm,Int.mul_left_comm],sm_swap]
   refine sm_congr fun b _=>?_
   rw [sm_mul]
   congr 1
   rw [Int.mul_comm,←sm_mul]
   refine sm_congr fun j _=>?_
   rw [Int.mul_comm]
  rw [sm_congr e,sm_swap]
  refine sm_congr fun b _=>?_
  rw [Int.mul_comm,←sm_mul]
  refine sm_congr fun i _=>?_
  simp only [Int.mul_assoc,Int.mul_comm,Int.mul_left_comm]
 rw [l1]
 refine sm_congr fun a _=>?_
 rw [l2]
theorem posi_gram {n:Nat} {Q St G:Nat→Nat→Int} (hQ:Posi n Q) (hU:Uni n St) (hG:GramOf n Q St G):Posi n G:=by
 intro v ⟨i,hi,hv⟩
 have e:sm n (fun i=>v i*sm n (fun j=>G i j*v j))=bil n Q (comb n St v) (comb n St v):=by
  rw [bil_comb]
  refine sm_congr fun a ha=>?_
  rw [sm_congr fun b hb=>by rw [hG a b ha hb]]
 rw [e]
 unfold bil
 refine hQ (comb n St v) ?_
 apply Classical.byContradiction
 intro hc
 exact hv (hU.once v (fun j hj=>Classical.byContradiction fun h=>hc ⟨j,hj,h⟩) i hi)
theorem near_half {lam v:Int} (hv:0<v):-v≤2*(lam - Int.fdiv (lam+lam+v) (v+v)*v)∧2*(lam - Int.fdiv (lam+lam+v) (v+v)*v)≤v:=by
 rw [Int.fdiv_eq_ediv_of_nonneg _ (by omega)]
 have d1:=Int.mul_ediv_add_emod (lam+lam+v) (v+v)
 have d2:=Int.emod_nonneg (lam+lam+v) (show v+v≠0 by omega)
 have d3:=Int.emod_lt_of_pos (lam+lam+v) (show 0<v+v by omega)
 generalize (lam+lam+v)/(v+v)=q at *
 generalize (lam+lam+v)%(v+v)=r at *
 rw [Int.add_mul,Int.mul_comm v q] at d1
 omega
section
variable {n:Nat} {G:Nat→Nat→Int}
theorem gm_pos (hP:Posi n G) {l i:Nat} (hl:l≤i) (hi:i<n):0<gm n G l i i:=by
 have h:=(gram_ok hP l (by omega)).1
 obtain ⟨D,d1,d2⟩:=h.point (i+1) (by omega)
 have hs:=h.pos
 have hlen:=(gram_len n G l).1
 have c1:∀ a,a<n→a<l→sm n (fun j=>G a j*D (j+1))=0:=fun a ha hlt=>by
  have:=d1 (a+1) (by omega)
  rw [base_succ,(gram_names n G l (by omega) a ha).2,if_pos hlt,if_neg (by omega),form_row] at this;exact this
 have c2:∀ a,a<n→¬ a<l→D (a+1)=if a=i then (gramTab n G l).scale else 0:=fun a ha hge=>by
  have:=d1 (a+1) (by omega)
  rw [base_succ,(gram_names n G l (by omega) a ha).2,if_neg hge,form_unit,ev_unit n D (a+1) (by omega)] at this
  rw [this]
  by_cases e:a=i
  ·rw [if_pos (by omega),if_pos e]
  ·rw [if_neg (by omega),if_neg e]
 have c3:sm n (fun j=>G i j*D (j+1))=gm n G l i i:=by
  have:=d2 i (by omega)
  rw [(gram_names n G l (by omega) i hi).1,if_neg (by omega),form_row] at this;exact this
 have hq:=hP (fun a=>D (a+1)) ⟨i,hi,by rw [c2 i hi (by omega),if_pos rfl];omega⟩
 rw [sm_one i hi fun a ha hai=>?_] at hq
 ·rw [c3,c2 i hi (by omega),if_pos rfl] at hq
  rcases mul_pos_cases hq with h5|h5 <;> omega
 ·by_cases hlt:a<l
  ·rw [c1 a ha hlt,Int.mul_zero]
  ·rw [c2 a ha hlt,if_neg hai,Int.zero_mul]
theorem gm_norm (hP:Posi n G) (hG:∀ i j,G i j=G j i) {l i:Nat} (hl:l<i) (hi:i<n):vol n G (l+1)*gm n G l i i=vol n G l*gm n G (l+1) i i+gm n G l i l*gm n G l i l:=by
 have e:=(gm_succ hP (l:=l) (by omega) hi hi (by omega) (by omega)).2
 rw [←vol_succ hP (by omega),gm_symm hP hG l (by omega) l i (Nat.le_refl _) (by omega) (by omega) hi] at e
 omega
theorem vol_one (hP:Posi n G) {l:Nat} (hl:l≤n):1≤vol n G l:=by have:=vol_pos hP hl;omega
theorem sq_nonneg (x:Int):0≤x*x:=by
 rcases (show x≤0∨0≤x by omega) with h|h
 ·have:=Int.mul_nonneg (show 0≤-x by omega) (show 0≤-x by omega);rwa [Int.neg_mul_neg] at this
 ·exact Int.mul_nonneg h h
theorem cross_le (hP:Posi n G) (hG:∀ i j,G i j=G j i) {i j:Nat} (hi:i<n) (hj:j<n):-(G i i+G j j)≤2*G i j∧2*G i j≤G i i+G j j:=by
 by_cases hij:i=j
 ·subst hij
  have:=gm_pos hP (Nat.zero_le i) hi
  rw [gm_zero hi hi] at this
  omega
 ·have key:∀ t:Int,t≠0→0<G i i+t*G i j+t*(G j i+t*G j j):=fun t ht=>by
   have h:=hP (fun a=>if a=i then 1 else if a=j then t else 0) ⟨i,hi,by rw [if_pos rfl];decide⟩
   rw [sm_two i j hi hj hij fun a _ h1 h2=>by rw [if_neg h1,if_neg h2,Int.zero_mul]] at h
   have r:∀ a,sm n (fun b=>G a b*(if b=i then 1 else if b=j then t else 0))=G a i+t*G a j:=fun a=>by
    rw [sm_two i j hi hj hij fun b _ h1 h2=>by rw [if_neg h1,if_neg h2,Int.mul_zero]]
    rw [if_pos rfl,if_neg (fun e=>hij e.symm),if_pos rfl,Int.mul_one,Int.mul_comm]
   rw [r i,r j,if_pos rfl,if_neg (fun e=>hij e.symm),if_pos rfl,Int.one_mul] at h
   exact h
  have h1:=key 1 (by decide)
  have h2:=key (-1) (by decide)
  rw [hG j i] at h1 h2
  omega
end
def pt (x:Nat→Int) (k:Nat):Int:=if k=0 then 1 else x (k - 1)
theorem ev_pt (n:Nat) (s x:Nat→Int):ev n s (pt x)=s 0+sm n (fun i=>s (i+1)*x i):=by
 unfold ev
 rw [sm_head]
 have e:pt x 0=1:=if_pos rfl
 rw [e,Int.mul_one]
 congr 1
theorem ev_pt_congr {n:Nat} {s x y:Nat→Int} (h:∀ i,i<n→x i=y i):ev n s (pt x)=ev n s (pt y):=by
 rw [ev_pt,ev_pt,sm_congr fun i hi=>by rw [h i hi]]
structure Reg where
 size:Nat
 zero:List (Nat→Int)
 least:List (Nat→Int)
 told:List (Nat→Int)
structure Reg.Has (r:Reg) (x:Nat→Int):Prop where
 zero:∀ s∈r.zero,ev r.size s (pt x)=0
 least:∀ s∈r.least,0≤ev r.size s (pt x)
def Reg.tells (r:Reg) (x:Nat→Int):List Int:=r.told.map fun s=>ev r.size s (pt x)
def Reg.Ans (r:Reg) (L:List Int):Prop:=∃ x,r.Has x∧r.tells x=L
def sumT (n:Nat) (St:Nat→Nat→Int) (s:Nat→Int) (k:Nat):Int:=if k=0 then s 0 else sm n (fun i=>s (i+1)*St (k - 1) i)
theorem ev_turn (n:Nat) (St:Nat→Nat→Int) (s y:Nat→Int):ev n (sumT n St s) (pt y)=ev n s (pt (comb n St y)):=by
 rw [ev_pt,ev_pt]
 have e0:sumT n St s 0=s 0:=if_pos rfl
 rw [e0]
 congr 1
 have e1:sm n (fun i=>s (i+1)*comb n St y i)=sm n (fun i=>sm n (fun j=>s (i+1)*(y j*St j i))):=sm_congr fun i _=>by unfold comb;rw [←sm_mul]
 rw [e1,sm_swap]
 refine sm_congr fun j _=>?_
 unfold sumT
 rw [if_neg (by omega),Int.mul_comm,←sm_mul]
 refine sm_congr fun i _=>?_
 rw [show j+1 - 1=j by omega,Int.mul_left_comm]
def Reg.turn (r:Reg) (St:Nat→Nat→Int):Reg:=⟨r.size,r.zero.map (sumT r.size St),r.least.map (sumT r.size St),r.told.map (sumT r.size St)⟩
theorem Reg.turn_has (r:Reg) (St:Nat→Nat→Int) (y:Nat→Int):(r.turn St).Has y↔r.Has (comb r.size St y):=by
 constructor
 ·intro h
  refine ⟨fun s hs=>?_,fun s hs=>?_⟩
  ·rw [←ev_turn];exact h.zero _ (List.mem_map.2 ⟨s,hs,rfl⟩)
  ·rw [←ev_turn];exact h.least _ (List.mem_map.2 ⟨s,hs,rfl⟩)
 ·intro h
  refine ⟨fun s hs=>?_,fun s hs=>?_⟩
  ·obtain ⟨s',hs',rfl⟩:=List.mem_map.1 hs
   show ev r.size _ _=0
   rw [ev_turn];exact h.zero s' hs'
  ·obtain ⟨s',hs',rfl⟩:=List.mem_map.1 hs
   show 0≤ev r.size _ _
   rw [ev_turn];exact h.least s' hs'
theorem Reg.turn_tells (r:Reg) (St:Nat→Nat→Int) (y:Nat→Int):(r.turn St).tells y=r.tells (comb r.size St y):=by
 unfold Reg.tells Reg.turn
 rw [List.map_map]
 refine List.map_congr_left fun s _=>?_
 exact ev_turn r.size St s y
theorem Reg.has_congr {r:Reg} {x y:Nat→Int} (h:∀ i,i<r.size→x i=y i):r.Has x↔r.Has y :=
 ⟨fun a=>⟨fun s hs=>by rw [←ev_pt_congr h];exact a.zero s hs,fun s hs=>by rw [←ev_pt_congr h];exact a.least s hs⟩,
  fun a=>⟨fun s hs=>by rw [ev_pt_congr h];exact a.zero s hs,fun s hs=>by rw [ev_pt_congr h];exact a.least s hs⟩⟩
theorem Reg.tells_congr {r:Reg} {x y:Nat→Int} (h:∀ i,i<r.size→x i=y i):r.tells x=r.tells y:=by
 unfold Reg.tells
 exact List.map_congr_left fun s _=>ev_pt_congr h
theorem Reg.turn_ans {r:Reg} {St:Nat→Nat→Int} (hU:Uni r.size St) (L:List Int):(r.turn St).Ans L↔r.Ans L:=by
 constructor
 ·rintro ⟨y,h1,h2⟩
  exact ⟨comb r.size St y,(r.turn_has St y).1 h1,by rw [←r.turn_tells];exact h2⟩
 ·rintro ⟨x,h1,h2⟩
  obtain ⟨y,hy⟩:=hU.reach x
  exact ⟨y,(r.turn_has St y).2 ((Reg.has_congr hy).1 h1),by rw [r.turn_tells,←Reg.tells_congr hy];exact h2⟩
theorem sm_ins (f:Nat→Int) (t:Nat):∀ m,t≤m→sm (m+1) f=f t+sm m (fun i=>f (if i<t then i else i+1))
 | 0,h=>by have:t=0:=(by omega);subst this;simp [sm]
 | m+1,h=>by
  by_cases ht:t=m+1
  ·subst ht
   rw [sm,sm_congr (f:=f) (g:=fun i=>f (if i<m+1 then i else i+1)) fun i hi=>by rw [if_pos hi]]
   omega
  ·rw [sm,sm_ins f t m (by omega),sm,if_neg (by omega)]
   omega
def sumF (t:Nat) (v:Int) (s:Nat→Int) (k:Nat):Int:=if k=0 then s 0+s (t+1)*v else if k≤t then s k else s (k+1)
def ins (t:Nat) (v:Int) (x:Nat→Int) (i:Nat):Int:=if i<t then x i else if i=t then v else x (i - 1)
theorem ev_fix {m t:Nat} (ht:t≤m) (v:Int) (s x:Nat→Int):ev m (sumF t v s) (pt x)=ev (m+1) s (pt (ins t v x)):=by
 rw [ev_pt,ev_pt,sm_ins _ t m ht]
 have e0:sumF t v s 0=s 0+s (t+1)*v:=if_pos rfl
 have e1:ins t v x t=v:=by unfold ins;rw [if_neg (by omega),if_pos rfl]
 rw [e0,e1,sm_congr (f:=fun i=>sumF t v s (i+1)*x i) (g:=fun i=>s ((if i<t then i else i+1)+1)*ins t v x (if i<t then i else i+1)) fun i hi=>?_]
 ·omega
 ·unfold sumF ins
  rw [if_neg (by omega)]
  by_cases h:i<t
  ·rw [if_pos (by omega),if_pos h,if_pos h]
  ·rw [if_neg (by omega),if_neg h,if_neg (by omega),if_neg (by omega)]
   rfl
def Reg.fix (r:Reg) (t:Nat) (v:Int):Reg:=⟨r.size - 1,r.zero.map (sumF t v),r.least.map (sumF t v),r.told.map (sumF t v)⟩
theorem ins_out {t:Nat} {v:Int} {x:Nat→Int} (h:x t=v):∀ i,ins t v (fun i=>if i<t then x i else x (i+1)) i=x i:=by
 intro i
 unfold ins
 dsimp only
 by_cases h1:i<t
 ·rw [if_pos h1,if_pos h1]
 ·rw [if_neg h1]
  by_cases h2:i=t
  ·rw [if_pos h2,h2,h]
  ·rw [if_neg h2,if_neg (by omega),show i - 1+1=i by omega]
theorem Reg.fix_ans {r:Reg} {t:Nat} (ht:t<r.size) (v:Int) (L:List Int):(r.fix t v).Ans L↔∃ x,r.Has x∧r.tells x=L∧x t=v:=by
 obtain ⟨m,hm⟩:∃ m,r.size=m+1:=⟨r.size - 1,by omega⟩
 have key:∀ s x,ev (r.size - 1) (sumF t v s) (pt x)=ev r.size s (pt (ins t v x)):=fun s x=>by
  rw [hm];exact ev_fix (by omega) v s x
 have hh:∀ x,(r.fix t v).Has x↔r.Has (ins t v x):=fun x=>by
  constructor
  ·intro h
   exact ⟨fun s hs=>by rw [←key];exact h.zero _ (List.mem_map.2 ⟨s,hs,rfl⟩),fun s hs=>by rw [←key];exact h.least _ (List.mem_map.2 ⟨s,hs,rfl⟩)⟩
  ·intro h
   refine ⟨fun s hs=>?_,fun s hs=>?_⟩
   ·obtain ⟨s',hs',rfl⟩:=List.mem_map.1 hs
    show ev (r.size - 1) _ _=0
    rw [key];exact h.zero s' hs'
   ·obtain ⟨s',hs',rfl⟩:=List.mem_map.1 hs
    show 0≤ev (r.size - 1) _ _
    rw [key];exact h.least s' hs'
 have ht2:∀ x,(r.fix t v).tells x=r.tells (ins t v x):=fun x=>by
  unfold Reg.tells Reg.fix
  rw [List.map_map]
  exact List.map_congr_left fun s _=>key s x
 constructor
 ·rintro ⟨x,h1,h2⟩
  exact ⟨ins t v x,(hh x).1 h1,by rw [←ht2];exact h2,by unfold ins;rw [if_neg (by omega),if_pos rfl]⟩
 ·rintro ⟨x,h1,h2,h3⟩
  refine ⟨fun i=>if i<t then x i else x (i+1),(hh _).2 ((Reg.has_congr fun i _=>(ins_out h3 i).symm).1 h1),?_⟩
  rw [ht2,Reg.tells_congr fun i _=>ins_out h3 i];exact h2
theorem divided_iff {n:Nat} {g:Int} (hg:0<g) {s q:Nat→Int} (h0:q 0=Int.fdiv (s 0) g) (hq:∀ i,i<n→s (i+1)=g*q (i+1)) (x:Nat→Int):0≤ev n q (pt x)↔0≤ev n s (pt x):=by
 have e:sm n (fun i=>s (i+1)*x i)=g*sm n (fun i=>q (i+1)*x i):=by
  rw [←sm_mul]
  exact sm_congr fun i hi=>by rw [hq i hi,Int.mul_assoc]
 rw [ev_pt,ev_pt,h0,e,Int.fdiv_eq_ediv_of_nonneg _ (by omega)]
 clear e
 have d1:=Int.mul_ediv_add_emod (s 0) g
 have d2:=Int.emod_nonneg (s 0) (show g≠0 by omega)
 have d3:=Int.emod_lt_of_pos (s 0) hg
 generalize s 0/g=a at *
 generalize s 0%g=b at *
 generalize sm n (fun i=>q (i+1)*x i)=c at *
 constructor
 ·intro h
  have:=Int.mul_nonneg (show 0≤g by omega) h
  rw [Int.mul_add] at this
  omega
 ·intro h
  apply Classical.byContradiction
  intro hc
  have:g*(a+c)≤g*(-1):=Int.mul_le_mul_of_nonneg_left (by omega) (by omega)
  rw [Int.mul_add] at this
  omega
def dir (n:Nat) (s D:Nat→Int):Int:=sm n (fun i=>s (i+1)*D i)
theorem dir_congr {n:Nat} {s D E:Nat→Int} (h:∀ i,i<n→D i=E i):dir n s D=dir n s E:=sm_congr fun i hi=>by rw [h i hi]
theorem dir_turn (n:Nat) (St:Nat→Nat→Int) (s y:Nat→Int):dir n (sumT n St s) y=dir n s (comb n St y):=by
 have h1:=ev_turn n St s y
 rw [ev_pt,ev_pt] at h1
 have e0:sumT n St s 0=s 0:=if_pos rfl
 unfold dir
 omega
theorem dir_fix {m t:Nat} (ht:t≤m) (v:Int) (s D:Nat→Int):dir m (sumF t v s) D=dir (m+1) s (ins t 0 D):=by
 have h1:=ev_fix ht 0 s D
 rw [ev_pt,ev_pt] at h1
 have e0:sumF t 0 s 0=s 0+s (t+1)*0:=if_pos rfl
 have e1:sm m (fun i=>sumF t 0 s (i+1)*D i)=dir m (sumF t v s) D:=sm_congr fun i _=>by
  have h2:sumF t 0 s (i+1)=sumF t v s (i+1):=by
   unfold sumF
   rw [if_neg (show ¬ i+1=0 by omega),if_neg (show ¬ i+1=0 by omega)]
  rw [h2]
 rw [e0,Int.mul_zero,e1] at h1
 unfold dir at *
 omega
def Reg.Tied (r:Reg):Prop:=∀ D:Nat→Int,(∀ s∈r.zero,dir r.size s D=0)→(∀ s∈r.least,0≤dir r.size s D)→∀ i,i<r.size→D i=0
theorem Reg.Tied.turn {r:Reg} (h:r.Tied) {St:Nat→Nat→Int} (hU:Uni r.size St):(r.turn St).Tied:=by
 intro D h1 h2
 refine hU.once D (h (comb r.size St D) (fun s hs=>?_) (fun s hs=>?_))
 ·rw [←dir_turn];exact h1 _ (List.mem_map.2 ⟨s,hs,rfl⟩)
 ·rw [←dir_turn];exact h2 _ (List.mem_map.2 ⟨s,hs,rfl⟩)
theorem Reg.Tied.fix {r:Reg} (h:r.Tied) {t:Nat} (ht:t<r.size) (v:Int):(r.fix t v).Tied:=by
 obtain ⟨m,hm⟩:∃ m,r.size=m+1:=⟨r.size - 1,by omega⟩
 have key:∀ s D,dir (r.size - 1) (sumF t v s) D=dir r.size s (ins t 0 D):=fun s D=>by rw [hm];exact dir_fix (by omega) v s D
 intro D h1 h2 i hi
 have hi':i<r.size - 1:=hi
 have h3:=h (ins t 0 D) (fun s hs=>by rw [←key];exact h1 _ (List.mem_map.2 ⟨s,hs,rfl⟩)) (fun s hs=>by rw [←key];exact h2 _ (List.mem_map.2 ⟨s,hs,rfl⟩))
 by_cases hlt:i<t
 ·have:=h3 i (by omega)
  unfold ins at this
  rwa [if_pos hlt] at this
 ·have:=h3 (i+1) (by omega)
  unfold ins at this
  rwa [if_neg (by omega),if_neg (by omega),show i+1 - 1=i by omega] at this
theorem Reg.Tied.more {r r':Reg} (h:r.Tied) (hs:r'.size=r.size) (hz:∀ s∈r.zero,s∈r'.zero) (hl:∀ s∈r.least,s∈r'.least):r'.Tied:=by
 intro D h1 h2 i hi
 rw [hs] at h1 h2 hi
 exact h D (fun s h3=>h1 s (hz s h3)) (fun s h3=>h2 s (hl s h3)) i hi
theorem alone_ev {n t:Nat} {St:Nat→Nat→Int} {s:Nat→Int} {f:Int} (ht:t<n) (hs:∀ j,j<n→sumT n St s (j+1)=if j=t then f else 0) (y:Nat→Int):ev n s (pt (comb n St y))=s 0+f*y t:=by
 rw [←ev_turn,ev_pt]
 have e0:sumT n St s 0=s 0:=if_pos rfl
 rw [e0,sm_one t ht fun j hj hjt=>by rw [hs j hj,if_neg hjt,Int.zero_mul],hs t ht,if_pos rfl]
theorem without_ans {r:Reg} {s:Nat→Int} {St:Nat→Nat→Int} {t:Nat} {f v:Int} (hU:Uni r.size St) (ht:t<r.size) (hf:f≠0) (hs:∀ j,j<r.size→sumT r.size St s (j+1)=if j=t then f else 0) (hv:s 0+f*v=0) (L:List Int) :
  ((r.turn St).fix t v).Ans L↔∃ x,r.Has x∧r.tells x=L∧ev r.size s (pt x)=0:=by
 rw [Reg.fix_ans (r:=r.turn St) ht v L]
 constructor
 ·rintro ⟨y,h1,h2,h3⟩
  refine ⟨comb r.size St y,(r.turn_has St y).1 h1,by rw [←r.turn_tells];exact h2,?_⟩
  rw [alone_ev ht hs,h3];exact hv
 ·rintro ⟨x,h1,h2,h3⟩
  obtain ⟨y,hy⟩:=hU.reach x
  refine ⟨y,(r.turn_has St y).2 ((Reg.has_congr hy).1 h1),by rw [r.turn_tells,←Reg.tells_congr hy];exact h2,?_⟩
  rw [ev_pt_congr hy,alone_ev ht hs] at h3
  refine Int.eq_of_mul_eq_mul_left hf ?_
  omega
theorem without_none {n t:Nat} {s:Nat→Int} {St:Nat→Nat→Int} {f:Int} (hU:Uni n St) (ht:t<n) (hf:f≠0) (hs:∀ j,j<n→sumT n St s (j+1)=if j=t then f else 0) (hv:s 0+f*Int.fdiv (-s 0) f≠0) (x:Nat→Int):ev n s (pt x)≠0:=by
 intro h
 obtain ⟨y,hy⟩:=hU.reach x
 rw [ev_pt_congr hy,alone_ev ht hs] at h
 have e:-s 0=y t*f:=by rw [Int.mul_comm];omega
 rw [e,Int.mul_fdiv_cancel _ hf] at hv
 omega
theorem const_ev {n:Nat} {s:Nat→Int} (h:∀ i,i<n→s (i+1)=0) (x:Nat→Int):ev n s (pt x)=s 0:=by
 rw [ev_pt,sm_zero fun i hi=>by rw [h i hi,Int.zero_mul]];omega
theorem ev_lin (n:Nat) (s P Q:Nat→Int) (a b:Int):ev n s (fun k=>a*P k+b*Q k)=a*ev n s P+b*ev n s Q:=by
 unfold ev
 rw [←sm_mul,←sm_mul,←sm_add]
 refine sm_congr fun k _=>?_
 rw [Int.mul_add,Int.mul_left_comm,Int.mul_left_comm (s k) b]
theorem drop_free {n:Nat} {others:List (Nat→Int)} {s:Nat→Int} (h:∀ P:Nat→Int,0<P 0→(∀ u∈others,0≤ev n u P)→0≤ev n s P→0<ev n s P)
  {Q:Nat→Int} (q0:0<Q 0) (q1:∀ u∈others,0≤ev n u Q) (q2:0≤ev n s Q):∀ P:Nat→Int,0≤P 0→(∀ u∈others,0≤ev n u P)→0≤ev n s P∧(0<P 0→0<ev n s P):=by
 intro P p0 p1
 have hq:=h Q q0 q1 q2
 have main:0≤ev n s P:=by
  apply Classical.byContradiction
  intro hc
  have h0:0<(ev n s Q)*P 0+(-ev n s P)*Q 0:=by
   have:=Int.mul_nonneg (show 0≤ev n s Q by omega) p0
   have:=Int.mul_pos (show 0 < -ev n s P by omega) q0
   omega
  have hR:=h (fun k=>(ev n s Q)*P k+(-ev n s P)*Q k) h0 (fun u hu=>by
   rw [ev_lin]
   have:=Int.mul_nonneg (show 0≤ev n s Q by omega) (p1 u hu)
   have:=Int.mul_nonneg (show 0≤-ev n s P by omega) (q1 u hu)
   omega) (by rw [ev_lin,Int.neg_mul,Int.mul_comm (ev n s Q)];omega)
  rw [ev_lin,Int.neg_mul,Int.mul_comm (ev n s Q)] at hR
  omega
 exact ⟨main,fun hp=>h P hp p1 main⟩
section
variable {n m:Nat} {S:Nat→Nat→Int} {F:Int→Nat→Int} {t:Tab}
theorem mem_allNames {x:Int} (h:x∈allNames n m) (h0:0≤x):∃ i:Nat,i<m∧x=i:=by
 rcases List.mem_append.1 h with h|h
 ·obtain ⟨i,hi,e⟩:=List.mem_map.1 h
  exact ⟨i,List.mem_range.1 hi,e.symm⟩
 ·obtain ⟨j,_,e⟩:=List.mem_map.1 h
  omega
def InAll (n m:Nat) (S:Nat→Nat→Int) (P:Nat→Int):Prop:=∀ i,i<m→0≤ev n (S i) P
theorem cols_nonneg {U:List Int} (hU:∀ x∈U,0≤x→∃ i:Nat,i<m∧x=i) (hF:∀ i:Nat,i<m→F i=S i) (hst:Stat U n t) (hcol:∀ c,c<n→0≤t.col c) {P:Nat→Int} (hP:InAll n m S P):∀ c,c<n→0≤ev n (F (t.col c)) P:=by
 intro c hc
 obtain ⟨i,hi,e⟩:=hU _ (hst.cols _ ⟨c,hc,rfl⟩) (hcol c hc)
 rw [e,hF i hi];exact hP i hi
theorem no_point {U:List Int} (hU:∀ x∈U,0≤x→∃ i:Nat,i<m∧x=i) (hF:∀ i:Nat,i<m→F i=S i) (h:TabOk F n t) (hst:Stat U n t) (hcol:∀ c,c<n→0≤t.col c) {r:Nat} (hr:r<t.lines.length) (hn:0≤t.name r) (h0:t.cell r 0<0) (hc:∀ c,c<n→t.cell r (c+1)≤0) (x:Nat→Int):¬ InAll n m S (pt x):=by
 intro hP
 have h1:=h.none hr h0 hc (P:=pt x) (by show 0<pt x 0;unfold pt;rw [if_pos rfl];decide) (cols_nonneg hU hF hst hcol hP)
 obtain ⟨i,hi,e⟩:=hU _ (hst.lines _ ⟨r,hr,rfl⟩) hn
 rw [e,hF i hi] at h1
 have:=hP i hi
 omega
theorem top_point {U:List Int} (hU:∀ x∈U,0≤x→∃ i:Nat,i<m∧x=i) (hF:∀ i:Nat,i<m→F i=S i) (h:TabOk F n t) (hst:Stat U n t) (hcol:∀ c,c<n→0≤t.col c) {wr:Nat} (hr:wr<t.lines.length) (hc:∀ c,c<n→t.cell wr (c+1)≤0) {x:Nat→Int} (hP:InAll n m S (pt x)):ev n (F (t.name wr)) (pt x)≤Int.fdiv (t.cell wr 0) t.scale :=
 h.top_whole hr hc (by unfold pt;rw [if_pos rfl]) (cols_nonneg hU hF hst hcol hP)
theorem low_above {U:List Int} (hU:∀ x∈U,0≤x→∃ i:Nat,i<m∧x=i) (hF:∀ i:Nat,i<m→F i=S i) (h:TabOk F n t) (hst:Stat U n t) (hcol:∀ c,c<n→0≤t.col c) {wr:Nat} (hr:wr<t.lines.length) (hc:∀ c,c<n→t.cell wr (c+1)≤0) (hlow:Int.fdiv (t.cell wr 0) t.scale<0) {P:Nat→Int} (p0:0<P 0) (hP:InAll n m S P):ev n (F (t.name wr)) P<0:=by
 have h1:=h.top hr hc (cols_nonneg hU hF hst hcol hP)
 have hs:=h.pos
 have hneg:t.cell wr 0<0:=by
  apply Classical.byContradiction
  intro hc2
  rw [Int.fdiv_eq_ediv_of_nonneg _ (by omega)] at hlow
  have:=Int.ediv_nonneg (show 0≤t.cell wr 0 by omega) (show 0≤t.scale by omega)
  omega
 have h2:=Int.mul_neg_of_neg_of_pos hneg p0
 apply Classical.byContradiction
 intro hc3
 have:=Int.mul_nonneg (show 0≤t.scale by omega) (show 0≤ev n (F (t.name wr)) P by omega)
 omega
end
def Tab.part (t:Tab) (r c:Nat) (sg:Int) (j:Nat):Tab:={ t with lines:=t.lines.mapIdx fun i l=>if i<j∧i≠r then (l.1,t.told i r c sg) else l }
theorem part_zero (t:Tab) (r c:Nat) (sg:Int):t.part r c sg 0=t:=by
 unfold Tab.part
 have:(t.lines.mapIdx fun i l=>if i<0∧i≠r then (l.1,t.told i r c sg) else l)=t.lines:=by
  apply List.ext_getElem?
  intro i
  rw [List.getElem?_mapIdx]
  cases t.lines[i]? <;> simp
 rw [this]
theorem part_len (t:Tab) (r c:Nat) (sg:Int) (j:Nat):(t.part r c sg j).lines.length=t.lines.length:=by simp [Tab.part]
theorem part_get (t:Tab) (r c:Nat) (sg:Int) (j:Nat) {i:Nat} (hi:i<t.lines.length):(t.part r c sg j).lines[i]'(by rw [part_len];exact hi)=if i<j∧i≠r then (t.lines[i].1,t.told i r c sg) else t.lines[i]:=by
 simp [Tab.part]
theorem part_line (t:Tab) (r c:Nat) (sg:Int) (j:Nat) {i:Nat} (hi:j≤i∨i=r):(t.part r c sg j).lines.getD i (0,[])=t.lines.getD i (0,[]):=by
 unfold Tab.part
 simp only
 rw [List.getD_eq_getElem?_getD,List.getD_eq_getElem?_getD,List.getElem?_mapIdx]
 cases h:t.lines[i]? with
 | none=>rfl
 | some l =>
  simp only [Option.map_some,Option.getD_some]
  rw [if_neg (by omega)]
theorem part_cell (t:Tab) (r c:Nat) (sg:Int) (j:Nat) {i:Nat} (hi:j≤i∨i=r) (k:Nat):(t.part r c sg j).cell i k=t.cell i k:=by
 unfold Tab.cell
 rw [part_line t r c sg j hi]
theorem part_told (t:Tab) (r c:Nat) (sg:Int) (j:Nat):(t.part r c sg j).told j r c sg=t.told j r c sg:=by
 unfold Tab.told
 have h1:=part_cell t r c sg j (i:=j) (.inl (Nat.le_refl _))
 have h2:=part_cell t r c sg j (i:=r) (.inr rfl)
 simp only [h1,h2]
 rfl
theorem part_turned (t:Tab) (r c:Nat) (sg:Int) (j:Nat):(t.part r c sg j).turned r c sg=t.turned r c sg:=by
 unfold Tab.turned
 have h2:=part_cell t r c sg j (i:=r) (.inr rfl)
 simp only [h2]
 rfl
theorem part_next (t:Tab) (r c:Nat) (sg:Int) {j:Nat} (hj:j<t.lines.length) (hjr:j≠r) :
  t.part r c sg (j+1)={ t.part r c sg j with lines:=(t.part r c sg j).lines.set j (((t.part r c sg j).lines[j]'(by rw [part_len];exact hj)).1,t.told j r c sg) }:=by
 have:(t.part r c sg (j+1)).lines=(t.part r c sg j).lines.set j (((t.part r c sg j).lines[j]'(by rw [part_len];exact hj)).1,t.told j r c sg):=by
  apply List.ext_getElem
  ·rw [part_len,List.length_set,part_len]
  ·intro i h1 h2
   rw [part_len] at h1
   rw [part_get t r c sg _ h1,List.getElem_set]
   by_cases e:j=i
   ·subst e
    rw [if_pos ⟨by omega,hjr⟩,if_pos rfl,part_get t r c sg _ hj,if_neg (by omega)]
   ·rw [if_neg e,part_get t r c sg _ h1]
    by_cases h:i<j∧i≠r
    ·rw [if_pos h,if_pos ⟨by omega,h.2⟩]
    ·rw [if_neg h,if_neg (by omega)]
 show ({ lines:=(t.part r c sg (j+1)).lines,cols:=t.cols,scale:=t.scale }:Tab)=_
 rw [this]
 rfl
theorem part_skip (t:Tab) (r c:Nat) (sg:Int):t.part r c sg (r+1)=t.part r c sg r:=by
 have:(t.part r c sg (r+1)).lines=(t.part r c sg r).lines:=by
  apply List.ext_getElem
  ·rw [part_len,part_len]
  ·intro i h1 h2
   rw [part_len] at h1
   rw [part_get t r c sg _ h1,part_get t r c sg _ h1]
   by_cases h:i<r∧i≠r
   ·rw [if_pos h,if_pos ⟨by omega,h.2⟩]
   ·rw [if_neg h,if_neg (by omega)]
 show ({ lines:=(t.part r c sg (r+1)).lines,cols:=t.cols,scale:=t.scale }:Tab)=_
 rw [this]
 rfl
theorem swap_get (t:Tab) (r c:Nat) {i:Nat} (hi:i<t.lines.length):(t.swap r c).lines[i]'(by rw [Tab.swap_len];exact hi)=if i=r then (t.col c,t.turned r (c+1) (Int.sign (t.cell r (c+1)))) else (t.lines[i].1,t.told i r (c+1) (Int.sign (t.cell r (c+1)))):=by
 simp [Tab.swap]
theorem part_swap (t:Tab) {r c:Nat} (hr:r<t.lines.length) :
  ({ lines:=(t.part r (c+1) (Int.sign (t.cell r (c+1))) t.lines.length).lines.set r (t.col c,t.turned r (c+1) (Int.sign (t.cell r (c+1)))),cols:=t.cols.set c (t.name r),scale:=(t.cell r (c+1)).natAbs }:Tab)=t.swap r c:=by
 have:(t.part r (c+1) (Int.sign (t.cell r (c+1))) t.lines.length).lines.set r (t.col c,t.turned r (c+1) (Int.sign (t.cell r (c+1))))=(t.swap r c).lines:=by
  apply List.ext_getElem
  ·rw [List.length_set,part_len,Tab.swap_len]
  ·intro i h1 h2
   rw [List.length_set,part_len] at h1
   rw [List.getElem_set,swap_get t r c h1]
   by_cases e:r=i
   ·subst e;rw [if_pos rfl,if_pos rfl]
   ·rw [if_neg e,if_neg (Ne.symm e),part_get _ _ _ _ _ h1,if_pos ⟨h1,Ne.symm e⟩]
 rw [this]
 rfl
end Go.Proofs.Ytfaljekgpnbmiaa.Pl
