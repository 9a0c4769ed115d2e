/- Joined: XSet3 XSet4 XSet5 XSet6. -/
import Derived.Test.YtfaljekgpnbmiaaJ31
set_option linter.unusedVariables false
set_option linter.unusedSimpArgs false
set_option maxRecDepth 100000
namespace Go.Proofs.Ytfaljekgpnbmiaa
open Go.RowKit Go.Sort
def regOf (f:List Int→Nat→Int) (r:RegL) (n:Nat):Pl.Reg:=⟨n,r.zero.map f,r.least.map f,r.told.map f⟩
def lf (a:List Int) (k:Nat):Int:=a.getD k 0
def RegL.reg (r:RegL):Pl.Reg:=regOf lf r r.size
theorem ev_same {n:Nat} {s t:Nat→Int} (h:∀ k,k≤n→s k=t k) (x:Nat→Int):Pl.ev n s (Pl.pt x)=Pl.ev n t (Pl.pt x):=by
 rw [Pl.ev_pt,Pl.ev_pt,h 0 (Nat.zero_le _),Pl.sm_congr fun i hi=>by rw [h (i+1) (by omega)]]
theorem regOf_has {f g:List Int→Nat→Int} {r:RegL} {n:Nat} (h:∀ a k,k≤n→f a k=g a k) (x:Nat→Int):(regOf f r n).Has x↔(regOf g r n).Has x:=by
 have one:∀ f g:List Int→Nat→Int,(∀ a k,k≤n→f a k=g a k)→(regOf f r n).Has x→(regOf g r n).Has x:=fun f g h hh=>by
  refine ⟨fun s hs=>?_,fun s hs=>?_⟩
  ·obtain ⟨a,ha,rfl⟩:=List.mem_map.1 hs
   have:=hh.zero (f a) (List.mem_map.2 ⟨a,ha,rfl⟩)
   exact (ev_same (fun k hk=>(h a k hk).symm) x).trans this
  ·obtain ⟨a,ha,rfl⟩:=List.mem_map.1 hs
   have h1:=hh.least (f a) (List.mem_map.2 ⟨a,ha,rfl⟩)
   have h2:Pl.ev n (f a) (Pl.pt x)=Pl.ev n (g a) (Pl.pt x):=ev_same (h a) x
   show 0≤Pl.ev n (g a) (Pl.pt x)
   rw [←h2];exact h1
 exact ⟨one f g h,one g f fun a k hk=>(h a k hk).symm⟩
theorem regOf_tells {f g:List Int→Nat→Int} {r:RegL} {n:Nat} (h:∀ a k,k≤n→f a k=g a k) (x:Nat→Int):(regOf f r n).tells x=(regOf g r n).tells x:=by
 show ((r.told.map f).map fun s=>Pl.ev n s (Pl.pt x))=((r.told.map g).map fun s=>Pl.ev n s (Pl.pt x))
 rw [List.map_map,List.map_map]
 exact List.map_congr_left fun a _=>ev_same (h a) x
theorem regOf_ans {f g:List Int→Nat→Int} {r:RegL} {n:Nat} (h:∀ a k,k≤n→f a k=g a k) (A:List Int):(regOf f r n).Ans A↔(regOf g r n).Ans A :=
 ⟨fun ⟨x,h1,h2⟩=>⟨x,(regOf_has h x).1 h1,by rw [←regOf_tells h];exact h2⟩,fun ⟨x,h1,h2⟩=>⟨x,(regOf_has h x).2 h1,by rw [regOf_tells h];exact h2⟩⟩
theorem turned_same {n:Nat} {St:Nat→Nat→Int} (a:List Int) (k:Nat) (hk:k≤n):lf (turnedP a (matL n St) n) k=Pl.sumT n St (lf a) k:=by
 unfold lf turnedP
 rw [Pl.getD_map_range _ _ _ (by omega)]
 unfold turnedF Pl.sumT
 by_cases e:k=0
 ·rw [if_pos e,if_pos e]
 ·rw [if_neg e,if_neg e]
  unfold alongP
  exact Pl.sm_congr fun i hi=>by rw [matL_cell St (by omega) hi]
theorem turned_reg_eq (r:RegL) (M:List (List Int)):(r.turned M).reg=regOf (fun a=>lf (turnedP a M r.size)) r r.size:=by
 unfold RegL.reg regOf RegL.turned
 simp only [List.map_map]
 rfl
theorem turn_eq (r:RegL) (St:Nat→Nat→Int):r.reg.turn St=regOf (fun a=>Pl.sumT r.size St (lf a)) r r.size:=by
 unfold RegL.reg regOf Pl.Reg.turn
 simp only [List.map_map]
 rfl
theorem fixed_same {t:Nat} {x:Int} (a:List Int) (k:Nat):lf (fixedP a t x) k=Pl.sumF t x (lf a) k:=by
 unfold lf fixedP raisedP Pl.sumF
 rw [List.getD_eq_getElem?_getD,List.getElem?_mapIdx,List.getElem?_eraseIdx]
 by_cases e:k=0
 ·subst e
  rw [if_pos (by omega),if_pos rfl]
  cases a with
  | nil=>simp
  | cons z a=>simp
 ·rw [if_neg e]
  by_cases h:k≤t
  ·rw [if_pos (by omega),if_pos h]
   show _=a.getD k 0
   rw [List.getD_eq_getElem?_getD (l:=a) (i:=k)]
   cases a[k]? with
   | none=>rfl
   | some z=>simp [e]
  ·rw [if_neg (by omega),if_neg h]
   show _=a.getD (k+1) 0
   rw [List.getD_eq_getElem?_getD (l:=a) (i:=k+1)]
   cases a[k+1]? with
   | none=>rfl
   | some z=>simp [e]
theorem fixed_reg_eq (r:RegL) (t:Nat) (x:Int):(r.fixed t x).reg=r.reg.fix t x:=by
 unfold RegL.reg regOf RegL.fixed Pl.Reg.fix
 simp only [List.map_map]
 have e:lf∘(fun a=>fixedP a t x)=Pl.sumF t x∘lf:=by
  funext a k
  exact fixed_same a k
 rw [e]
theorem WithoutP.ans {r r':RegL} {s:Nat→Int} (h:WithoutP r s r') (A:List Int):r'.reg.Ans A↔∃ x,r.reg.Has x∧r.reg.tells x=A∧Pl.ev r.size s (Pl.pt x)=0:=by
 rcases h with ⟨rfl,h0,kk,St,hr,hz⟩|⟨at_,kk,St,x,h1,hx,hv,rfl⟩
 ·have key:∀ x,Pl.ev r'.size s (Pl.pt x)=0:=fun x=>by
   obtain ⟨y,hy⟩:=hr.uni.reach x
   rw [Pl.ev_pt_congr hy,←Pl.ev_turn,Pl.const_ev (fun i hi=>by rw [Pl.sumT_rise];exact hz i hi)]
   exact h0
  exact ⟨fun ⟨x,h2,h3⟩=>⟨x,h2,h3,key x⟩,fun ⟨x,h2,h3,_⟩=>⟨x,h2,h3⟩⟩
 ·have ht:∀ j,j<r.size→Pl.sumT r.size St s (j+1)=if j=at_ then Pl.rise r.size St s at_ else 0:=fun j hj=>by
   rw [Pl.sumT_rise]
   split
   ·rename_i e;rw [e]
   ·rename_i e;exact h1.only j hj e
  refine Iff.trans ?_ (Pl.without_ans (r:=r.reg) (s:=s) h1.rounds.uni h1.lt h1.nz ht hv A)
  rw [fixed_reg_eq,Pl.Reg.fix_ans (r:=(r.turned (matL r.size St)).reg) h1.lt,Pl.Reg.fix_ans (r:=r.reg.turn St) h1.lt,turned_reg_eq,turn_eq]
  constructor
  ·rintro ⟨y,a1,a2,a3⟩
   exact ⟨y,(regOf_has turned_same y).1 a1,by rw [←regOf_tells turned_same];exact a2,a3⟩
  ·rintro ⟨y,a1,a2,a3⟩
   exact ⟨y,(regOf_has turned_same y).2 a1,by rw [regOf_tells turned_same];exact a2,a3⟩
theorem NoneP.none {r:RegL} {s:Nat→Int} (h:NoneP r s) (x:Nat→Int):Pl.ev r.size s (Pl.pt x)≠0:=by
 rcases h with ⟨h0,kk,St,hr,hz⟩|⟨at_,kk,St,h1,hv⟩
 ·obtain ⟨y,hy⟩:=hr.uni.reach x
  rw [Pl.ev_pt_congr hy,←Pl.ev_turn,Pl.const_ev (fun i hi=>by rw [Pl.sumT_rise];exact hz i hi)]
  exact h0
 ·refine Pl.without_none h1.rounds.uni h1.lt h1.nz (fun j hj=>?_) hv x
  rw [Pl.sumT_rise]
  split
  ·rename_i e;rw [e]
  ·rename_i e;exact h1.only j hj e
theorem RegL.zero_split {r:RegL} (h0:0<r.zero.length):r.zero=r.zero.dropLast++[r.lastZero]:=by
 have hne:r.zero≠[]:=fun h=>by rw [h] at h0;exact absurd h0 (Nat.lt_irrefl 0)
 have e:r.zero.getLast hne=r.lastZero:=by
  unfold RegL.lastZero
  rw [List.getLast_eq_getElem,List.getD_eq_getElem?_getD,List.getElem?_eq_getElem (by omega)]
  rfl
 rw [←e];exact (List.dropLast_concat_getLast hne).symm
theorem RegL.less_has {r:RegL} (h0:0<r.zero.length) (x:Nat→Int):r.reg.Has x↔r.less.reg.Has x∧Pl.ev r.size (lf r.lastZero) (Pl.pt x)=0:=by
 have e:=r.zero_split h0
 constructor
 ·intro h
  refine ⟨⟨fun s hs=>?_,fun s hs=>h.least s hs⟩,?_⟩
  ·obtain ⟨a,ha,rfl⟩:=List.mem_map.1 hs
   exact h.zero _ (List.mem_map.2 ⟨a,by rw [e];exact List.mem_append.2 (.inl ha),rfl⟩)
  ·exact h.zero _ (List.mem_map.2 ⟨r.lastZero,by rw [e];exact List.mem_append.2 (.inr (List.mem_singleton.2 rfl)),rfl⟩)
 ·rintro ⟨h,h1⟩
  refine ⟨fun s hs=>?_,fun s hs=>h.least s hs⟩
  obtain ⟨a,ha,rfl⟩:=List.mem_map.1 hs
  rw [e] at ha
  rcases List.mem_append.1 ha with ha|ha
  ·exact h.zero _ (List.mem_map.2 ⟨a,ha,rfl⟩)
  ·rw [List.mem_singleton.1 ha];exact h1
theorem ZStep.ans {r r':RegL} (h:ZStep r r') (A:List Int):r'.reg.Ans A↔r.reg.Ans A:=by
 rw [h.2.ans A]
 constructor
 ·rintro ⟨x,h1,h2,h3⟩
  exact ⟨x,(RegL.less_has h.1 x).2 ⟨h1,h3⟩,h2⟩
 ·rintro ⟨x,h1,h2⟩
  obtain ⟨h3,h4⟩:=(RegL.less_has h.1 x).1 h1
  exact ⟨x,h3,h2,h4⟩
theorem ZRounds.ans {r0 r:RegL} {k:Nat} (h:ZRounds r0 k r) (A:List Int):r.reg.Ans A↔r0.reg.Ans A:=by
 obtain ⟨T,e0,e1,h2⟩:=h
 subst e1
 induction k with
 | zero=>rw [e0]
 | succ k ih=>exact ((h2 k (by omega)).ans A).trans (ih fun i hi=>h2 i (by omega))
theorem none_ans {r:RegL} (h0:0<r.zero.length) (h:NoneP r.less (fun k=>r.lastZero.getD k 0)) (A:List Int):¬ r.reg.Ans A:=by
 rintro ⟨x,h1,_⟩
 exact h.none x ((RegL.less_has h0 x).1 h1).2
theorem dir_fixed {n t:Nat} {x:Int} {St:Nat→Nat→Int} (ht:t<n) (a:List Int) (D:Nat→Int):Pl.dir (n - 1) (Pl.sumF t x (Pl.sumT n St (lf a))) D=Pl.dir (n - 1) (lf (fixedP (turnedP a (matL n St) n) t x)) D:=by
 unfold Pl.dir
 refine Pl.sm_congr fun j hj=>?_
 rw [fixed_same]
 congr 1
 unfold Pl.sumF
 rw [if_neg (show ¬ (j+1=0) by omega),if_neg (show ¬ (j+1=0) by omega)]
 by_cases h:j+1≤t
 ·rw [if_pos h,if_pos h];exact (turned_same a (j+1) (by omega)).symm
 ·rw [if_neg h,if_neg h];exact (turned_same a (j+1+1) (by omega)).symm
theorem ZStep.tied {r r':RegL} (h:ZStep r r') (ht:r.reg.Tied):r'.reg.Tied:=by
 obtain ⟨h0,hw⟩:=h
 have e:=r.zero_split h0
 rcases hw with ⟨rfl,_,kk,St,hr,hz⟩|⟨at_,kk,St,x,h1,_,_,rfl⟩
 ·have key:∀ D,Pl.dir r.size (lf r.lastZero) D=0:=fun D=>by
   obtain ⟨y,hy⟩:=hr.uni.reach D
   have e1:Pl.dir r.size (lf r.lastZero) D=Pl.dir r.size (Pl.sumT r.size St (lf r.lastZero)) y:=by
    rw [Pl.dir_turn];exact Pl.dir_congr hy
   rw [e1]
   unfold Pl.dir
   exact Pl.sm_zero fun i hi=>by
    rw [Pl.sumT_rise]
    have h3:Pl.rise r.size St (lf r.lastZero) i=0:=hz i hi
    rw [h3,Int.zero_mul]
  intro D d1 d2
  refine ht D (fun s hs=>?_) d2
  obtain ⟨a,ha,rfl⟩:=List.mem_map.1 hs
  rw [e] at ha
  rcases List.mem_append.1 ha with ha|ha
  ·exact d1 _ (List.mem_map.2 ⟨a,ha,rfl⟩)
  ·rw [List.mem_singleton.1 ha];exact key D
 ·have hlt:at_<r.size:=h1.lt
  have hT:=(ht.turn (St:=St) h1.rounds.uni).fix (t:=at_) hlt x
  intro D d1 d2 i hi
  refine hT D (fun s hs=>?_) (fun s hs=>?_) i hi
  ·obtain ⟨s1,hs1,rfl⟩:=List.mem_map.1 hs
   obtain ⟨s2,hs2,rfl⟩:=List.mem_map.1 hs1
   obtain ⟨a,ha,rfl⟩:=List.mem_map.1 hs2
   rw [e] at ha
   rcases List.mem_append.1 ha with ha|ha
   ·have h3:=d1 (lf (fixedP (turnedP a (matL r.size St) r.size) at_ x)) (List.mem_map.2 ⟨_,List.mem_map.2 ⟨_,List.mem_map.2 ⟨a,ha,rfl⟩,rfl⟩,rfl⟩)
    exact Eq.trans (dir_fixed hlt a D) h3
   ·rw [List.mem_singleton.1 ha]
    show Pl.dir (r.size - 1) _ D=0
    unfold Pl.dir
    refine Pl.sm_zero fun j hj=>?_
    have h4:Pl.sumF at_ x (Pl.sumT r.size St (lf r.lastZero)) (j+1)=0:=by
     unfold Pl.sumF
     rw [if_neg (by omega)]
     split
     ·rw [Pl.sumT_rise];exact h1.only j (show j<r.size by omega) (by omega)
     ·rw [Pl.sumT_rise];exact h1.only (j+1) (show j+1<r.size by omega) (by omega)
    exact (congrArg (·*D j) h4).trans (Int.zero_mul _)
  ·obtain ⟨s1,hs1,rfl⟩:=List.mem_map.1 hs
   obtain ⟨s2,hs2,rfl⟩:=List.mem_map.1 hs1
   obtain ⟨a,ha,rfl⟩:=List.mem_map.1 hs2
   have h3:=d2 (lf (fixedP (turnedP a (matL r.size St) r.size) at_ x)) (List.mem_map.2 ⟨_,List.mem_map.2 ⟨_,List.mem_map.2 ⟨a,ha,rfl⟩,rfl⟩,rfl⟩)
   exact Int.le_trans h3 (Int.le_of_eq (dir_fixed hlt a D).symm)
theorem commonP_nonneg (a:List Int):∀ n,0≤commonP a n
 | 0=>Int.le_refl _
 | _+1=>Int.natCast_nonneg _
theorem commonP_dvd (a:List Int):∀ n i,i<n→commonP a n∣a.getD (i+1) 0
 | n+1,i,hi=>by
  show (Int.gcd (commonP a n) (a.getD (n+1) 0):Int)∣_
  by_cases e:i=n
  ·subst e;exact Int.gcd_dvd_right _ _
  ·exact Int.dvd_trans (Int.gcd_dvd_left _ _) (commonP_dvd a n i (by omega))
theorem commonP_zero {a:List Int} {n:Nat} (h:commonP a n=0) {i:Nat} (hi:i<n):a.getD (i+1) 0=0:=by
 have h1:=commonP_dvd a n i hi
 rw [h] at h1
 exact Int.zero_dvd.1 h1
def dividedP (n:Nat) (a:List Int) (d:Int):List Int:=(List.range (n+1)).map fun k=>Int.fdiv (a.getD k 0) d
def keepD (n:Nat) (a:List Int):List (List Int):=if commonP a n=0 then [] else [dividedP n a (commonP a n)]
def RegL.whole (r:RegL):RegL:=⟨r.size,r.zero,r.least.flatMap (keepD r.size),r.told⟩
theorem divided_get {n:Nat} {a:List Int} {d:Int} {k:Nat} (hk:k≤n):lf (dividedP n a d) k=Int.fdiv (a.getD k 0) d:=by
 unfold lf dividedP;exact Pl.getD_map_range _ _ _ (by omega)
theorem divided_factor {n:Nat} {a:List Int} (h:commonP a n≠0) {i:Nat} (hi:i<n):lf a (i+1)=commonP a n*lf (dividedP n a (commonP a n)) (i+1):=by
 rw [divided_get (by omega)]
 obtain ⟨q,hq⟩:=commonP_dvd a n i hi
 show a.getD (i+1) 0=_
 rw [hq,Int.mul_fdiv_cancel_left _ h]
theorem keepD_iff {n:Nat} {a:List Int} (hc:commonP a n=0→0≤a.getD 0 0) (x:Nat→Int):0≤Pl.ev n (lf a) (Pl.pt x)↔∀ b∈keepD n a,0≤Pl.ev n (lf b) (Pl.pt x):=by
 unfold keepD
 by_cases h:commonP a n=0
 ·rw [if_pos h,Pl.const_ev (fun i hi=>commonP_zero h hi)]
  exact ⟨fun _ b hb=>absurd hb List.not_mem_nil,fun _=>hc h⟩
 ·rw [if_neg h]
  have hp:0<commonP a n:=by have:=commonP_nonneg a n;omega
  have:=Pl.divided_iff hp (divided_get (Nat.zero_le n)) (fun i hi=>divided_factor h hi) x
  constructor
  ·intro h1 b hb
   rw [List.mem_singleton.1 hb];exact this.2 h1
  ·intro h1
   exact this.1 (h1 _ (List.mem_singleton.2 rfl))
theorem whole_has {r:RegL} (hc:∀ a∈r.least,commonP a r.size=0→0≤a.getD 0 0) (x:Nat→Int):r.whole.reg.Has x↔r.reg.Has x:=by
 constructor
 ·intro h
  refine ⟨h.zero,fun s hs=>?_⟩
  obtain ⟨a,ha,rfl⟩:=List.mem_map.1 hs
  exact (keepD_iff (hc a ha) x).2 fun b hb=>h.least _ (List.mem_map.2 ⟨b,List.mem_flatMap.2 ⟨a,ha,hb⟩,rfl⟩)
 ·intro h
  refine ⟨h.zero,fun s hs=>?_⟩
  obtain ⟨b,hb,rfl⟩:=List.mem_map.1 hs
  obtain ⟨a,ha,hb2⟩:=List.mem_flatMap.1 hb
  exact (keepD_iff (hc a ha) x).1 (h.least _ (List.mem_map.2 ⟨a,ha,rfl⟩)) b hb2
theorem whole_ans {r:RegL} (hc:∀ a∈r.least,commonP a r.size=0→0≤a.getD 0 0) (A:List Int):r.whole.reg.Ans A↔r.reg.Ans A :=
 ⟨fun ⟨x,h1,h2⟩=>⟨x,(whole_has hc x).1 h1,h2⟩,fun ⟨x,h1,h2⟩=>⟨x,(whole_has hc x).2 h1,h2⟩⟩
theorem whole_none {r:RegL} {a:List Int} (ha:a∈r.least) (h0:commonP a r.size=0) (hn:a.getD 0 0<0) (A:List Int):¬ r.reg.Ans A:=by
 rintro ⟨x,h1,_⟩
 have h2:0≤Pl.ev r.size (lf a) (Pl.pt x):=h1.least _ (List.mem_map.2 ⟨a,ha,rfl⟩)
 rw [Pl.const_ev (fun i hi=>commonP_zero h0 hi)] at h2
 have h3:(0:Int)≤a.getD 0 0:=h2
 omega
theorem whole_tied {r:RegL} (ht:r.reg.Tied):r.whole.reg.Tied:=by
 intro D d1 d2
 refine ht D d1 fun s hs=>?_
 obtain ⟨a,ha,rfl⟩:=List.mem_map.1 hs
 show 0≤Pl.dir r.size (lf a) D
 by_cases h:commonP a r.size=0
 ·have:Pl.dir r.size (lf a) D=0:=Pl.sm_zero fun i hi=>by
   have h3:lf a (i+1)=0:=commonP_zero h hi
   rw [h3,Int.zero_mul]
  omega
 ·have hp:0<commonP a r.size:=by have:=commonP_nonneg a r.size;omega
  have h2:0≤Pl.dir r.size (lf (dividedP r.size a (commonP a r.size))) D:=d2 _ (List.mem_map.2 ⟨_,List.mem_flatMap.2 ⟨a,ha,by unfold keepD;rw [if_neg h];exact List.mem_singleton.2 rfl⟩,rfl⟩)
  have e:Pl.dir r.size (lf a) D=commonP a r.size*Pl.dir r.size (lf (dividedP r.size a (commonP a r.size))) D:=by
   unfold Pl.dir
   rw [←Pl.sm_mul]
   exact Pl.sm_congr fun i hi=>by rw [divided_factor h hi,Int.mul_assoc]
  rw [e]
  exact Int.mul_nonneg (by omega) h2
theorem keepD_len (n:Nat) (a:List Int):(keepD n a).length≤1:=by unfold keepD;split <;> simp
theorem keepD_mem {n:Nat} {a b:List Int} (h:b∈keepD n a):b=dividedP n a (commonP a n)∧0<commonP a n:=by
 unfold keepD at h
 by_cases e:commonP a n=0
 ·rw [if_pos e] at h;exact absurd h List.not_mem_nil
 ·rw [if_neg e] at h
  exact ⟨List.mem_singleton.1 h,by have:=commonP_nonneg a n;omega⟩
theorem flat_len (n:Nat):∀ ls:List (List Int),(ls.flatMap (keepD n)).length≤ls.length
 | []=>Nat.le_refl _
 | a::ls=>by
  rw [List.flatMap_cons,List.length_append,List.length_cons]
  have:=keepD_len n a
  have:=flat_len n ls
  omega
theorem RegOk.whole {r:RegL} (h:RegOk r):RegOk r.whole:=⟨h.zeroL,fun l hl=>by
 obtain ⟨a,_,hb⟩:=List.mem_flatMap.1 hl
 rw [(keepD_mem hb).1]
 show (dividedP _ _ _).length=r.size+1
 simp [dividedP],h.toldL,h.zeroN,Nat.le_trans (flat_len _ _) h.leastN,h.toldN⟩
theorem getD_mem_or (ls:List (List Int)) (i:Nat):ls.getD i []∈ls∨ls.getD i []=[]:=by
 rw [List.getD_eq_getElem?_getD]
 rcases hi:ls[i]? with _|a
 ·exact .inr rfl
 ·exact .inl (List.mem_of_getElem? hi)
theorem RegLt.whole {K:Nat} {r:RegL} (h:RegLt K r):RegLt K r.whole:=⟨h.zero,fun i k=>by
 show Pl.Lt K (((r.least.flatMap (keepD r.size)).getD i []).getD k 0)
 rcases getD_mem_or (r.least.flatMap (keepD r.size)) i with hm|e
 ·obtain ⟨a,ha,hb⟩:=List.mem_flatMap.1 hm
  obtain ⟨e,hp⟩:=keepD_mem hb
  rw [e]
  obtain ⟨j,hj,rfl⟩:=List.mem_iff_getElem.1 ha
  by_cases hk:k≤r.size
  ·have e2:(dividedP r.size r.least[j] (commonP r.least[j] r.size)).getD k 0=Int.fdiv (r.least[j].getD k 0) (commonP r.least[j] r.size):=divided_get hk
   rw [e2]
   have h1:=h.least j k
   have e3:r.least.getD j []=r.least[j]:=by rw [List.getD_eq_getElem?_getD,List.getElem?_eq_getElem hj];rfl
   rw [e3] at h1
   exact h1.fdiv hp
  ·have e2:(dividedP r.size r.least[j] (commonP r.least[j] r.size)).getD k 0=0:=by
    rw [List.getD_eq_getElem?_getD,List.getElem?_eq_none (by simp [dividedP];omega)];rfl
   rw [e2];exact lt_zero K
 ·rw [e];exact lt_zero K,h.told⟩
end Go.Proofs.Ytfaljekgpnbmiaa
