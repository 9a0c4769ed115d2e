/- Joined: XFind1 XFind2 XFind3 XFind4 XLow1. -/
import Derived.Test.YtfaljekgpnbmiaaJ36
set_option linter.unusedVariables false
set_option linter.unusedSimpArgs false
set_option maxRecDepth 100000
namespace Go.Proofs.Ytfaljekgpnbmiaa
open Go.RowKit Go.Sort
theorem matL_at (n:Nat) (f:Nat→Nat→Int) (i j:Nat):((matL n f).getD i []).getD j 0=if i<n∧j<n then f i j else 0:=by
 by_cases hi:i<n
 ·rw [matL_get f hi]
  by_cases hj:j<n
  ·rw [if_pos ⟨hi,hj⟩,Pl.getD_map_range _ _ _ hj]
  ·rw [if_neg (fun h=>hj h.2),List.getD_eq_getElem?_getD,List.getElem?_eq_none (by simp;omega)];rfl
 ·rw [if_neg (fun h=>hi h.1)]
  have:(matL n f).getD i []=[]:=by rw [List.getD_eq_getElem?_getD,List.getElem?_eq_none (by rw [matL_len];omega)];rfl
  rw [this];rfl
theorem matL_symm {n:Nat} {f:Nat→Nat→Int} (h:∀ i j,f i j=f j i) (i j:Nat):((matL n f).getD i []).getD j 0=((matL n f).getD j []).getD i 0:=by
 rw [matL_at,matL_at]
 by_cases h1:i<n∧j<n
 ·rw [if_pos h1,if_pos ⟨h1.2,h1.1⟩,h i j]
 ·rw [if_neg h1,if_neg (fun h2=>h1 ⟨h2.2,h2.1⟩)]
theorem posi_congr {n:Nat} {Q Q':Nat→Nat→Int} (h:Pl.Posi n Q) (he:∀ i j,i<n→j<n→Q i j=Q' i j):Pl.Posi n Q':=by
 intro v hv
 have h1:=h v hv
 have e:Pl.sm n (fun i=>v i*Pl.sm n (fun j=>Q' i j*v j))=Pl.sm n (fun i=>v i*Pl.sm n (fun j=>Q i j*v j)):=Pl.sm_congr fun i hi=>by
  congr 1
  exact Pl.sm_congr fun j hj=>by rw [he i j hi hj]
 rwa [e]
theorem reg_posi {r:RegL} (hz:r.zero=[]) (ht:r.reg.Tied) {wt:Nat→Int} (hw:∀ k,k<r.least.length→0<wt k):Pl.Posi r.size (Pl.prodG r.least.length r.S wt):=by
 refine Pl.prodG_posi hw fun v hv=>?_
 refine ht v (fun s hs=>?_) (fun s hs=>?_)
 ·have:r.reg.zero=[]:=by show r.zero.map lf=[];rw [hz];rfl
  rw [this] at hs;cases hs
 ·obtain ⟨a,ha,rfl⟩:=List.mem_map.1 hs
  obtain ⟨i,hi,e⟩:=List.mem_iff_getElem.1 ha
  have e2:r.S i=lf a:=by
   funext k
   unfold RegL.S lf
   rw [List.getD_eq_getElem?_getD (l:=r.least),List.getElem?_eq_getElem hi,e];rfl
  have:=hv i hi
  rw [e2] at this
  exact Int.le_of_eq this.symm
def offP:Nat→Int
 | 0=>0
 | k+1=>nextP (offP k)
theorem off_two:∀ t,offP (2*t)=-(t:Int)∧offP (2*t+1)=(t:Int)+1
 | 0=>by
  refine ⟨rfl,?_⟩
  show nextP 0=_
  unfold nextP;rw [if_neg (by omega)];rfl
 | t+1=>by
  have h:=(off_two t).2
  have e1:offP (2*(t+1))=-((t+1:Nat):Int):=by
   show nextP (offP (2*t+1))=_
   rw [h];unfold nextP;rw [if_pos (by omega)];omega
  refine ⟨e1,?_⟩
  show nextP (offP (2*(t+1)))=_
  rw [e1];unfold nextP;rw [if_neg (by omega)];omega
theorem off_all {k:Nat} (hk:0<offP k) {d:Int} (h1:-offP k<d) (h2:d<offP k):∃ j,j<k∧offP j=d:=by
 rcases (show ∃ t,k=2*t∨k=2*t+1 from ⟨k/2,by omega⟩) with ⟨t,e|e⟩
 ·rw [e,(off_two t).1] at hk;omega
 ·rw [e,(off_two t).2] at h1 h2
  by_cases hd:d≤0
  ·exact ⟨2*d.natAbs,by omega,by rw [(off_two _).1];omega⟩
  ·exact ⟨2*(d.natAbs - 1)+1,by omega,by rw [(off_two _).2];omega⟩
theorem all_tried {low high:Int} {k:Nat} (h:high<Int.fdiv (low+high) 2+offP k) {x:Int} (hx1:low≤x) (hx2:x≤high):∃ j,j<k∧Int.fdiv (low+high) 2+offP j=x:=by
 have e:Int.fdiv (low+high) 2=(low+high)/2:=Int.fdiv_eq_ediv_of_nonneg _ (by decide)
 rw [e] at h ⊢
 have hp:0<offP k:=by omega
 obtain ⟨j,hj,ej⟩:=off_all hp (d:=x - (low+high)/2) (by omega) (by omega)
 exact ⟨j,hj,by omega⟩
section
variable {r r1:RegL} {L k:Nat}
theorem ZRounds.tied (h:ZRounds r k r1) (ht:r.reg.Tied):r1.reg.Tied:=by
 obtain ⟨T,h0,hk,hs⟩:=h
 have:∀ i,i≤k→(T i).reg.Tied:=fun i=>by
  induction i with
  | zero=>intro _;rw [h0];exact ht
  | succ i ih=>intro hi;exact (hs i (by omega)).tied (ih (by omega))
 rw [←hk];exact this k (Nat.le_refl _)
structure Settled (r r2:RegL) (L:Nat):Prop where
 zero:r2.zero=[]
 ok:RegOk r2
 size:r2.size≤r.size
 lt:RegLt (limbs L (r.size - r2.size)) r2
 tied:r2.reg.Tied
 ans:∀ A,r2.reg.Ans A↔r.reg.Ans A
 told:r2.told.length=r.told.length
 few:r2.least.length≤r.least.length
 some:∀ a∈r2.least,∃ i,i<r2.size∧a.getD (i+1) 0≠0
theorem WithoutP.lens {s:Nat→Int} {r':RegL} (h:WithoutP r s r'):r'.told.length=r.told.length∧r'.least.length=r.least.length:=by
 rcases h with ⟨rfl,_⟩|⟨at_,kk,St,x,_,_,_,rfl⟩
 ·exact ⟨rfl,rfl⟩
 ·simp [RegL.fixed,RegL.turned]
theorem ZRounds.lens (h:ZRounds r k r1):r1.told.length=r.told.length∧r1.least.length=r.least.length:=by
 obtain ⟨T,h0,hk,hs⟩:=h
 have:∀ i,i≤k→(T i).told.length=r.told.length∧(T i).least.length=r.least.length:=fun i=>by
  induction i with
  | zero=>intro _;rw [h0];exact ⟨rfl,rfl⟩
  | succ i ih =>
   intro hi
   have h1:=(hs i (by omega)).2.lens
   have h2:=ih (by omega)
   exact ⟨h1.1.trans h2.1,h1.2.trans h2.2⟩
 rw [←hk];exact this k (Nat.le_refl _)
theorem divided_some {n:Nat} {a:List Int} (h:commonP a n≠0):∃ i,i<n∧(dividedP n a (commonP a n)).getD (i+1) 0≠0:=by
 apply Classical.byContradiction
 intro hc
 have hz:∀ i,i<n→a.getD (i+1) 0=0:=fun i hi=>by
  have h1:=divided_factor h hi
  have h2:lf (dividedP n a (commonP a n)) (i+1)=0:=Classical.byContradiction fun h3=>hc ⟨i,hi,h3⟩
  rw [h2,Int.mul_zero] at h1
  exact h1
 have:∀ m,m≤n→commonP a m=0:=fun m=>by
  induction m with
  | zero=>intro _;rfl
  | succ m ih =>
   intro hm
   show (Int.gcd (commonP a m) (a.getD (m+1) 0):Int)=0
   rw [ih (by omega),hz m (by omega)];rfl
 exact h (this n (Nat.le_refl _))
theorem settled_all (hok:RegOk r) (hlt:RegLt L r) (hn:r.size≤100) (ht:r.reg.Tied) (h:ZRounds r r.zero.length r1) (hc:∀ a∈r1.least,commonP a r1.size=0→0≤a.getD 0 0):Settled r r1.whole L:=by
 have hi:=h.inv hok hlt hn
 have hz:r1.zero=[]:=List.eq_nil_of_length_eq_zero (by have:=hi.left;omega)
 refine ⟨hz,hi.ok.whole,hi.size,hi.lt.whole,whole_tied (h.tied ht),fun A=>(whole_ans hc A).trans (h.ans A),h.lens.1,?_,fun a ha=>?_⟩
 ·have h1:(r1.least.flatMap (keepD r1.size)).length≤r1.least.length:=flat_len r1.size r1.least
  have h2:=h.lens.2
  show (r1.least.flatMap (keepD r1.size)).length≤_
  omega
 ·obtain ⟨b,hb,hb2⟩:=List.mem_flatMap.1 ha
  obtain ⟨e,hp⟩:=keepD_mem hb2
  rw [e]
  exact divided_some (n:=r1.size) (Int.ne_of_gt hp)
end
section
variable {r r1 r':RegL} {L k:Nat}
def RegL.Lead (r:RegL):Prop:=0<r.zero.length∧∃ i,i<r.size∧r.lastZero.getD (i+1) 0≠0
theorem dir_unit {n:Nat} {s:Nat→Int} {i:Nat} (hi:i<n):Pl.dir n s (Pl.unit i)=s (i+1):=by
 unfold Pl.dir
 rw [Pl.sm_one i hi fun j _ hj=>by unfold Pl.unit;rw [if_neg (fun e=>hj e.symm),Int.mul_zero]]
 unfold Pl.unit;rw [if_pos rfl,Int.mul_one]
theorem ZStep.lead (h:ZStep r r') (hl:r.Lead):r'.size+1=r.size:=by
 obtain ⟨h0,hw⟩:=h
 rcases hw with ⟨rfl,_,kk,St,hr,hz⟩|⟨at_,kk,St,x,h1,_,_,rfl⟩
 ·exfalso
  obtain ⟨_,i,hi,hne⟩:=hl
  refine hne ?_
  have hi':i<r.less.size:=hi
  have e0:=dir_unit (s:=lf r.lastZero) hi'
  obtain ⟨y,hy⟩:=hr.uni.reach (Pl.unit i)
  have e1:Pl.dir r.less.size (lf r.lastZero) (Pl.unit i)=Pl.dir r.less.size (Pl.sumT r.less.size St (lf r.lastZero)) y:=by
   rw [Pl.dir_turn];exact Pl.dir_congr hy
  have e2:Pl.dir r.less.size (Pl.sumT r.less.size St (lf r.lastZero)) y=0:=by
   unfold Pl.dir
   exact Pl.sm_zero fun j hj=>by
    rw [Pl.sumT_rise]
    have h3:Pl.rise r.less.size St (lf r.lastZero) j=0:=hz j hj
    rw [h3,Int.zero_mul]
  have:lf r.lastZero (i+1)=0:=by rw [←e0,e1,e2]
  exact this
 ·have:=h1.lt
  show r.size - 1+1=r.size
  have e:r.less.size=r.size:=rfl
  omega
theorem ZStep.size (h:ZStep r r'):r'.size≤r.size:=by
 obtain ⟨_,hw⟩:=h
 rcases hw with ⟨rfl,_⟩|⟨at_,kk,St,x,h1,_,_,rfl⟩
 ·exact Nat.le_refl _
 ·exact Nat.sub_le _ _
theorem ZRounds.lead (h:ZRounds r k r1) (hk:0<k) (hl:r.Lead):r1.size<r.size:=by
 obtain ⟨T,h0,e,hs⟩:=h
 have h1:=(hs 0 hk).lead (by rw [h0];exact hl)
 have:∀ i,i<k→(T (i+1)).size≤(T 1).size:=fun i=>by
  induction i with
  | zero=>intro _;exact Nat.le_refl _
  | succ i ih=>intro hi;exact Nat.le_trans (hs (i+1) hi).size (ih (by omega))
 have h2:=this (k - 1) (by omega)
 rw [show k - 1+1=k by omega,e] at h2
 rw [h0] at h1
 simp only [Nat.zero_add] at h1
 omega
theorem lead_of {r:RegL} (h0:0<r.zero.length) (h:∀ a∈r.zero,∃ i,i<r.size∧a.getD (i+1) 0≠0):r.Lead:=by
 refine ⟨h0,h _ ?_⟩
 unfold RegL.lastZero
 rw [List.getD_eq_getElem?_getD,List.getElem?_eq_getElem (by omega)]
 exact List.getElem_mem _
theorem along_lt2 {K M:Nat} {a st:List Int} (ha:∀ k,Pl.Lt K (a.getD k 0)) (hs:∀ k,Pl.Lt M (st.getD k 0)) {i:Nat} (hi:i≤1000):Pl.Lt (K+M+1) (alongP a st i) :=
 Pl.Lt.sum (fun k _=>(ha (k+1)).mul (hs k)) (by omega)
theorem RegLt.turned2 {L K:Nat} {r:RegL} {M:List (List Int)} (h:RegLt L r) (hM:∀ i k,Pl.Lt K ((M.getD i []).getD k 0)) (hn:r.size≤100):RegLt (L+K+1) (r.turned M):=by
 have key:∀ ls:List (List Int),(∀ i k,Pl.Lt L ((ls.getD i []).getD k 0))→∀ i k,Pl.Lt (L+K+1) (((ls.map (fun a=>turnedP a M r.size)).getD i []).getD k 0):=fun ls hls i k=>by
  rcases hi:ls[i]? with _|a
  ·have e:(ls.map (fun a=>turnedP a M r.size)).getD i []=[]:=by rw [List.getD_eq_getElem?_getD,List.getElem?_map,hi];rfl
   rw [e];exact lt_zero _
  ·have e:(ls.map (fun a=>turnedP a M r.size)).getD i []=turnedP a M r.size:=by rw [List.getD_eq_getElem?_getD,List.getElem?_map,hi];rfl
   have ha:ls.getD i []=a:=by rw [List.getD_eq_getElem?_getD,hi];rfl
   have hls':=hls i
   rw [ha] at hls'
   rw [e]
   unfold turnedP
   by_cases hk:k<r.size+1
   ·rw [Pl.getD_map_range _ _ _ hk]
    unfold turnedF
    split
    ·exact (hls' 0).mono (by omega)
    ·exact along_lt2 hls' (hM _) (by omega)
   ·rw [List.getD_eq_getElem?_getD,List.getElem?_eq_none (by simp;omega)];exact lt_zero _
 exact ⟨key _ h.zero,key _ h.least,key _ h.told⟩
theorem dir_same {n:Nat} {s t:Nat→Int} (h:∀ k,k≤n→s k=t k) (D:Nat→Int):Pl.dir n s D=Pl.dir n t D:=by
 unfold Pl.dir
 exact Pl.sm_congr fun i hi=>by rw [h (i+1) (by omega)]
theorem regOf_tied {f g:List Int→Nat→Int} {r:RegL} {n:Nat} (h:∀ a k,k≤n→f a k=g a k) (ht:(regOf f r n).Tied):(regOf g r n).Tied:=by
 intro D d1 d2
 refine ht D (fun s hs=>?_) (fun s hs=>?_)
 ·obtain ⟨a,ha,rfl⟩:=List.mem_map.1 hs
  exact (dir_same (h a) D).trans (d1 (g a) (List.mem_map.2 ⟨a,ha,rfl⟩))
 ·obtain ⟨a,ha,rfl⟩:=List.mem_map.1 hs
  exact Int.le_trans (d2 (g a) (List.mem_map.2 ⟨a,ha,rfl⟩)) (Int.le_of_eq (dir_same (h a) D).symm)
theorem turned_tied {St:Nat→Nat→Int} (hU:Pl.Uni r.size St) (ht:r.reg.Tied):(r.turned (matL r.size St)).reg.Tied:=by
 have h1:=ht.turn hU
 rw [turn_eq] at h1
 rw [turned_reg_eq]
 exact regOf_tied (fun a k hk=>(turned_same a k hk).symm) h1
theorem turned_ans {St:Nat→Nat→Int} (hU:Pl.Uni r.size St) (A:List Int):(r.turned (matL r.size St)).reg.Ans A↔r.reg.Ans A:=by
 rw [turned_reg_eq]
 refine (regOf_ans turned_same A).trans ?_
 rw [←turn_eq]
 exact Pl.Reg.turn_ans hU A
theorem slice_ans {t:Nat} (ht:t<r.size) (v:Int) (A:List Int):(r.fixed t v).reg.Ans A↔∃ x,r.reg.Has x∧r.reg.tells x=A∧x t=v:=by
 rw [fixed_reg_eq];exact Pl.Reg.fix_ans (r:=r.reg) ht v A
theorem slice_tied {t:Nat} (ht:t<r.size) (v:Int) (h:r.reg.Tied):(r.fixed t v).reg.Tied:=by
 rw [fixed_reg_eq];exact Pl.Reg.Tied.fix (r:=r.reg) h ht v
end
def srK (n L:Nat):Nat:=(n+1)*L+1
def srQ (n L:Nat):Nat:=2*srK n L+2*L+1
def srS (n L:Nat):Nat:=latL n (srQ n L)
def srT (n L:Nat):Nat:=L+srS n L+1
def srV (n L:Nat):Nat:=(n+1)*srT n L+1
def srF (n L:Nat):Nat:=srT n L+srV n L+1
theorem srQ_ge (n L:Nat):L≤srQ n L:=by unfold srQ;omega
theorem srS_ge (n L:Nat):srQ n L≤srS n L:=by
 unfold srS latL latD
 rw [Nat.add_mul,Nat.one_mul];omega
structure Room (N:Nat) (G:Nat→Nat):Prop where
 size:N≤9
 one:∀ s,s≤N→1≤G s
 drop:∀ s,s<N→15*G (s+1)+6≤G s
 part:∀ s,s<N→srF (s+1) (G (s+1))≤G s
 settle:∀ s,s≤N→20*limbs (G s) s+10≤1500000000000
 reduce:∀ s,s≤N→3*((s+1)*latG s (srS s (G s)) s+1)+20≤1500000000000
 limits:∀ s,s≤N→2*srV s (G s)+20≤1500000000000
theorem Room.limbs {N:Nat} {G:Nat→Nat} (h:Room N G) {s:Nat} (hs:s≤N):∀ k,k≤s→limbs (G s) k≤G (s - k)
 | 0,_=>Nat.le_refl _
 | k+1,hk=>by
  have h1:=Room.limbs h hs k (by omega)
  have h2:=h.drop (s - (k+1)) (by omega)
  rw [show s - (k+1)+1=s - k by omega] at h2
  show 15*Go.Proofs.Ytfaljekgpnbmiaa.limbs (G s) k+6≤_
  omega
def NewS (B:Nat) (v:Value):Prop:=∃ g n cap,v=.slice (some ⟨g,0,none⟩) n cap∧B≤g
theorem NewS.mono {B B':Nat} {v:Value} (h:NewS B v) (hb:B'≤B):NewS B' v:=by
 obtain ⟨g,n,cap,e,h1⟩:=h
 exact ⟨g,n,cap,e,by omega⟩
theorem RowAt.apart {P:Nat→Prop} {w:World} {v:Value} {l:List Int} (hP:RowAt P w v l) {B k:Nat} {cs:Array Value} (hv:NewS B v) (hk:k<B) (hb:w.heap[k]?=some (.cells cs 82 (0,0))):RowAt (fun j=>P j∧j≠k) w v l:=by
 obtain ⟨g,n,cap,rfl,hg⟩:=hv
 obtain ⟨ad,cap',e,h1,h2⟩:=hP
 refine ⟨ad,cap',e,h1,fun i hi=>?_⟩
 obtain ⟨g',off,x,a,m,c,e',c1,c2,hw,hp,hcs⟩:=h2 i hi
 have eg:g'=g:=by rw [e'] at e;cases e;rfl
 refine ⟨g',off,x,a,m,c,e',c1,c2,?_,⟨hp,by omega⟩,hcs⟩
 rcases hw with hw|⟨l',b,off',cap'',cs',sg,h3,h4,h5,h6⟩
 ·exact .inl hw
 ·refine .inr ⟨l',b,off',cap'',cs',sg,h3,⟨h4,fun e2=>?_⟩,h5,h6⟩
  rw [e2,hb] at h5;simp at h5
set_option maxHeartbeats 20000000 in
theorem constants_new (P:Nat→Prop) (n:Nat) (ls:List (List Int)) (va:Value) (w:World) (hP:∀ b,w.heap.size≤b→P b) (ha:RowsAt P w va ls) (hla:ls.length=n) (hn:n≤1000) (hne:∀ l∈ls,0<l.length) :
  Calls Try.prog 83 #[va] w fun e w'=>∃ v',e=.returned v'∧RowAt P w' v' ((List.range n).map fun k=>(ls.getD k []).getD 0 0)∧NewS w.heap.size v'∧Below w.heap.size w w':=by
 obtain ⟨i0,hi0,hz0,hz1,hz2⟩:=info_parts Try.infoWhole
 have HRA:=hide ha
 have HLA:=hide hla
 have HNE:=hide hne
 obtain ⟨aa,ac,rfl⟩:∃ ad cap,va=.slice ad n cap:=by obtain ⟨ad,cap,e,_⟩:=ha;rw [hla] at e;exact ⟨ad,cap,e⟩
 clear ha hla hne
 go_enter Try.func83,Try.ntmps83
 go_wp2_with (at_make;refine wpList_make_full _ rfl _ _ 73 rfl w.heap.size 82 i0 (.agg #[.int .i64 0,.slice none 0 0]) 2 Try.underlying73 hi0 hz0 hz1 .i64 .i64 _ _ n rfl rfl ?e1 ?e2 ?c1 ?c2 ?c3 ?_)
 case e1=>first | rfl | omega | simp
 case e2=>first | rfl | omega | simp
 case c1=>rw [hz2];omega
 case c2=>unfold maxLen;omega
 case c3=>first | omega | simp
 ·intro w1 hown hgrow
  have hG1:Grows w w1:=(Below.refl _ _).grown hgrow (Nat.le_refl _) (by intro k hk;cases hk)
  have HRI:Hid (RowIn P w1 w.heap.size n (fun _=>0)):=RowIn.made hown
  have HG1:Hid (Grows w w1):=hG1
  clear hown hgrow hG1
  go_wp2_with fail
  go_loopg [4] n (fun k iv wr=>∃ (i:Nat),iv=.int .i64 i∧i+k=n∧Hid (RowIn P wr w.heap.size n (fun k=>if k<i then (ls.getD k []).getD 0 0 else 0)∧Grows w wr∧True))
  case atStart=>exact ⟨0,rfl,by omega,(uh HRI).congr (fun i _=>by rw [if_neg (by omega)]),uh HG1,trivial⟩
  case round =>
   obtain ⟨i,rfl,hik,HR⟩:=hrel
   by_cases hlt:i<n
   ·obtain ⟨ox,oy,om,oc,r00,r01,_⟩:=(uh HR).1.get hlt
    obtain ⟨gl,ol,cl,u,el,k0,hur,hul⟩:=rows_cell ((uh HRA).below (uh HR).2.1) (i:=i) (by rw [uh HLA];exact hlt)
    rw [uh HLA] at el
    cases el
    have hpos:0<(ls.getD i []).length:=uh HNE _ hul
    obtain ⟨ga,oa,ca,nx,na,nm,nc,rfl,p0,p1,hv2⟩:=row_cell hur (i:=0) hpos
    have hw2:Grows wr wr:=Grows.refl _
    simp only [Nat.zero_mul,Nat.add_zero] at p0 p1
    have hR2:=(uh HR).1.grow hw2
    have r0:=Grows.cell hw2 r00
    have r1:=Grows.cell hw2 r01
    have f0:=hR2.free (i*2)
    have f1:=hR2.free (i*2+1)
    have HRI2:Hid (RowIn P ((wr.setCell ⟨w.heap.size,i*2,none⟩ (.int .i64 nx)).setCell ⟨w.heap.size,i*2+1,none⟩ (.slice na nm nc)) (w.heap.size) n (fun k=>if k<i+1 then (ls.getD k []).getD 0 0 else 0)):=(hR2.set hlt hv2).congr (fun k _=>upd_next (f:=fun k=>(ls.getD k []).getD 0 0) (z:=fun _=>0) k)
    have HG2:Hid (Grows w ((wr.setCell ⟨w.heap.size,i*2,none⟩ (.int .i64 nx)).setCell ⟨w.heap.size,i*2+1,none⟩ (.slice na nm nc))):=(Below.setCell (p:=⟨w.heap.size,i*2,none⟩) (Grows.trans (uh HR).2.1 hw2) (by show w.heap.size≤w.heap.size;omega) _).setCell (p:=⟨w.heap.size,i*2+1,none⟩) (by show w.heap.size≤w.heap.size;omega) _
    clear hv2 hw2 hR2
    go_wp2
    go_roundg (gk - 1)
    case measure=>omega
    case rel=>exact ⟨i+1,by simp,by omega,uh HRI2,uh HG2,trivial⟩
   ·have hin:i=n:=by omega
    have HF:Hid (RowAt P wr (.slice (some ⟨w.heap.size,0,none⟩) n n) ((List.range n).map fun k=>(ls.getD k []).getD 0 0)):=((uh HR).1.congr (f':=fun k=>(ls.getD k []).getD 0 0) (fun k hk=>by rw [if_pos (by omega)])).row (hP _ (Nat.le_refl _))
    go_wp2
    go_ret
    exact ⟨_,rfl,uh HF,⟨_,_,_,rfl,Nat.le_refl _⟩,(uh HR).2.1⟩
def FindPost (r:RegL) (w:World) (e:Ending) (w':World):Prop:=∃ (vs:Value) (ok:Bool),e=.returned (.tuple #[vs,.bool ok])∧ShapeS vs∧Below w.heap.size w w'∧(ok=true→NewS w.heap.size vs∧∃ A,RowAt PT w' vs A∧r.reg.Ans A)∧(ok=false→∀ A,¬ r.reg.Ans A)
def FindC (r:RegL):Prop:=∀ (v:Value) (w:World),RegAt PT w v r→Calls Try.prog 58 #[v] w (FindPost r w)
structure RegBox (P:Nat→Prop) (g:Nat) (w:World) (r:RegL) (za:Option Addr) (zn zc:Nat) (la:Option Addr) (ln lc:Nat) (ta:Option Addr) (tn tc:Nat):Prop where
 own:w.heap[g]?=some (.cells #[.int .i64 r.size,.slice za zn zc,.slice la ln lc,.slice ta tn tc] 78 (0,0))
 rows:Reg3 P w (.slice za zn zc) (.slice la ln lc) (.slice ta tn tc) r
theorem Reg3.mono {P P':Nat→Prop} {w:World} {vz vl vt:Value} {r:RegL} (h:Reg3 P w vz vl vt r) (hp:∀ k,k<w.heap.size→P k→P' k):Reg3 P' w vz vl vt r:=⟨h.zero.mono hp,h.least.mono hp,h.told.mono hp⟩
section
variable {P:Nat→Prop} {g:Nat} {w w':World} {r:RegL} {za la ta:Option Addr} {zn zc ln lc tn tc:Nat}
theorem RegBox.holds (h:RegBox P g w r za zn zc la ln lc ta tn tc) (hh:Holds P w w') (hb:w'.heap[g]?=w.heap[g]?):RegBox P g w' r za zn zc la ln lc ta tn tc:=⟨hb.trans h.own,h.rows.holds hh⟩
theorem RegBox.mono {P':Nat→Prop} (h:RegBox P g w r za zn zc la ln lc ta tn tc) (hp:∀ k,k<w.heap.size→P k→P' k):RegBox P' g w r za zn zc la ln lc ta tn tc:=⟨h.own,h.rows.mono hp⟩
theorem RegBox.all (h:RegBox P g w r za zn zc la ln lc ta tn tc):RegBox PT g w r za zn zc la ln lc ta tn tc:=h.mono fun _ _ _=>trivial
theorem RegBox.grow (h:RegBox P g w r za zn zc la ln lc ta tn tc) (hg:Grows w w'):RegBox P g w' r za zn zc la ln lc ta tn tc:=⟨Below.same hg _ _ h.own,h.rows.grow hg⟩
theorem RegBox.at (h:RegBox P g w r za zn zc la ln lc ta tn tc):RegAt PT w (.agg #[.int .i64 r.size,.slice za zn zc,.slice la ln lc,.slice ta tn tc]) r:=⟨_,_,_,rfl,h.all.rows.zero,h.all.rows.least,h.all.rows.told⟩
theorem RegBox.cells (h:RegBox P g w r za zn zc la ln lc ta tn tc) :
  w.cell? ⟨g,0,none⟩=some (.int .i64 r.size)∧w.cell? ⟨g,1,none⟩=some (.slice za zn zc)∧w.cell? ⟨g,2,none⟩=some (.slice la ln lc)∧w.cell? ⟨g,3,none⟩=some (.slice ta tn tc)∧(∀ o,w.frozen? ⟨g,o,none⟩=false):=by
 refine ⟨?_,?_,?_,?_,fun o=>freeOf h.own o⟩ <;> (rw [cellsOf h.own];rfl)
theorem RegBox.new (h:Reg3 PT w (.slice za zn zc) (.slice la ln lc) (.slice ta tn tc) r):RegBox PT w.heap.size (w.alloc (.cells #[.int .i64 r.size,.slice za zn zc,.slice la ln lc,.slice ta tn tc] 78)) r za zn zc la ln lc ta tn tc:=⟨slot_one _ _,h.grow (Grows.alloc _ _)⟩
theorem RegBox.store {w0:World} {cs:Array Value} (hG:Grows w0 w) (hg:w0.heap.size≤g) (hb:w.heap[g]?=some (.cells cs 78 (0,0))) (hn:cs.size=4) (h2:Reg3 PT w (.slice za zn zc) (.slice la ln lc) (.slice ta tn tc) r) :
  RegBox PT g ((((w.setCell ⟨g,0,none⟩ (.int .i64 r.size)).setCell ⟨g,1,none⟩ (.slice za zn zc)).setCell ⟨g,2,none⟩ (.slice la ln lc)).setCell ⟨g,3,none⟩ (.slice ta tn tc)) r za zn zc la ln lc ta tn tc∧Grows w0 ((((w.setCell ⟨g,0,none⟩ (.int .i64 r.size)).setCell ⟨g,1,none⟩ (.slice za zn zc)).setCell ⟨g,2,none⟩ (.slice la ln lc)).setCell ⟨g,3,none⟩ (.slice ta tn tc))∧Holds PT w ((((w.setCell ⟨g,0,none⟩ (.int .i64 r.size)).setCell ⟨g,1,none⟩ (.slice za zn zc)).setCell ⟨g,2,none⟩ (.slice la ln lc)).setCell ⟨g,3,none⟩ (.slice ta tn tc)):=by
 have hs:=reg_store (P:=PT) hG hg hb (r.size:Int) za zn zc la ln lc ta tn tc
 refine ⟨⟨?_,h2.holds hs.2⟩,hs.1,hs.2⟩
 obtain ⟨a,b,c,d,rfl⟩:∃ a b c d,cs=#[a,b,c,d]:=by
  rcases cs with ⟨_|⟨a,_|⟨b,_|⟨c,_|⟨d,_|⟨e,t⟩⟩⟩⟩⟩⟩ <;> simp at hn
  exact ⟨a,b,c,d,rfl⟩
 have b1:=heap_setCell_same w g 0 _ _ (.int .i64 r.size) hb
 have b2:=heap_setCell_same _ g 1 _ _ (.slice za zn zc) b1
 have b3:=heap_setCell_same _ g 2 _ _ (.slice la ln lc) b2
 have b4:=heap_setCell_same _ g 3 _ _ (.slice ta tn tc) b3
 exact b4
theorem RegBox.var {B k:Nat} (h:RegBox (·<B) g w r za zn zc la ln lc ta tn tc) (hk:B≤k) (hne:g≠k) (u v:Value):RegBox (·<B) g ((w.setCell ⟨k,0,none⟩ u).setCell ⟨k,1,none⟩ v) r za zn zc la ln lc ta tn tc :=
 h.holds (Holds.trans (P:=(·<B)) (holds_out (P:=(·<B)) (Nat.not_lt.2 hk) _ _) (holds_out (P:=(·<B)) (Nat.not_lt.2 hk) _ _)) (int_far hne _ _)
end
theorem tells_at' {r:RegL} {i:Nat} (h:i<r.told.length) (x:Nat→Int):(r.reg.tells x).getD i 0=Pl.ev r.size (lf (r.told.getD i [])) (Pl.pt x):=by
 have e:r.reg.tells x=r.told.map fun a=>Pl.ev r.size (lf a) (Pl.pt x):=by
  show ((r.told.map lf).map fun s=>Pl.ev r.size s (Pl.pt x))=_
  rw [List.map_map];rfl
 rw [e,List.getD_eq_getElem?_getD,List.getElem?_map,List.getD_eq_getElem?_getD (l:=r.told),List.getElem?_eq_getElem h];rfl
structure SrAt (B:Nat) (w0 w:World) (R:RegL) (ya:Option Addr) (yn yc:Nat) (ua:Option Addr) (un uc:Nat) (ra:Option Addr) (rn rc:Nat) (g8 g9 g10 g11:Nat) (lx:Int) (la:Option Addr) (lm lc:Nat) (lo:Int) (hx:Int) (ha:Option Addr) (hm hc:Nat) (hi:Int) (mx:Int) (ma:Option Addr) (mm mc:Nat) (mid:Int) (ox:Int) (oa:Option Addr) (om oc:Nat) (off:Int):Prop where
 box:RegBox (·<B) w0.heap.size w R ya yn yc ua un uc ra rn rc
 v8:VarAt PT w g8 lx la lm lc lo
 v9:VarAt PT w g9 hx ha hm hc hi
 v10:VarAt PT w g10 mx ma mm mc mid
 v11:VarAt PT w g11 ox oa om oc off
 grows:Grows w0 w
 n8:g8≠g11
 n9:g9≠g11
 n10:g10≠g11
 new:w0.heap.size<g11
 b11:B≤g11
section
variable {B:Nat} {w0 w w':World} {R:RegL} {ya ua ra la ha ma oa:Option Addr} {yn yc un uc rn rc g8 g9 g10 g11 lm lc hm hc mm mc om oc:Nat} {lx lo hx hi mx mid ox off:Int}
theorem SrAt.grow (h:SrAt B w0 w R ya yn yc ua un uc ra rn rc g8 g9 g10 g11 lx la lm lc lo hx ha hm hc hi mx ma mm mc mid ox oa om oc off) (hg:Grows w w'):SrAt B w0 w' R ya yn yc ua un uc ra rn rc g8 g9 g10 g11 lx la lm lc lo hx ha hm hc hi mx ma mm mc mid ox oa om oc off :=
 ⟨h.box.grow hg,h.v8.grow hg,h.v9.grow hg,h.v10.grow hg,h.v11.grow hg,h.grows.trans hg,h.n8,h.n9,h.n10,h.new,h.b11⟩
theorem SrAt.set (h:SrAt B w0 w R ya yn yc ua un uc ra rn rc g8 g9 g10 g11 lx la lm lc lo hx ha hm hc hi mx ma mm mc mid ox oa om oc off) {x:Int} {a:Option Addr} {m c:Nat} {n:Int} (hv:WhAt PT w (.agg #[.int .i64 x,.slice a m c]) n):SrAt B w0 ((w.setCell ⟨g11,0,none⟩ (.int .i64 x)).setCell ⟨g11,1,none⟩ (.slice a m c)) R ya yn yc ua un uc ra rn rc g8 g9 g10 g11 lx la lm lc lo hx ha hm hc hi mx ma mm mc mid x a m c n :=
 ⟨h.box.var h.b11 (Nat.ne_of_lt h.new) _ _,h.v8.put ⟨_,h.v11.heap⟩ h.n8 _ _ _ _,h.v9.put ⟨_,h.v11.heap⟩ h.n9 _ _ _ _,h.v10.put ⟨_,h.v11.heap⟩ h.n10 _ _ _ _,⟨int_sets h.v11.heap _ _,hv.sets h.v11.heap _ _⟩,(Below.setCell (p:=⟨g11,0,none⟩) h.grows (Nat.le_of_lt h.new) _).setCell (p:=⟨g11,1,none⟩) (Nat.le_of_lt h.new) _,h.n8,h.n9,h.n10,h.new,h.b11⟩
end
theorem lt_two {K:Nat} (h:K≠0):Pl.Lt K 2:=by
 obtain ⟨K',rfl⟩:∃ K',K=K'+1:=⟨K - 1,by omega⟩
 rw [Pl.lt_nat,Nat.pow_succ];have:=Nat.pow_pos (n:=K') (show 0<1073741824 by omega);show 2<_;omega
theorem turned_fit {r:RegL} {L K:Nat} (hf:RegFit L r) {St:Nat→Nat→Int} (hU:Pl.Uni r.size St) (hS:∀ a b,a<r.size→b<r.size→Pl.Lt K (St a b)):RegFit (L+K+1) (r.turned (matL r.size St)) :=
 ⟨by show r.zero.map _=[];rw [hf.zero];rfl,turned_tied hU hf.tied,hf.ok.turned,hf.lt.turned2 (matL_lt hS) (by have:=hf.size;omega),by omega,hf.size0,hf.size,by show (r.least.map _).length≤800;rw [List.length_map];exact hf.few⟩
theorem lt_between {K:Nat} {a b x:Int} (ha:Pl.Lt K a) (hb:Pl.Lt K b) (h1:a≤x) (h2:x≤b):Pl.Lt K x:=by
 rw [Pl.lt_nat] at *;omega
structure SrI (R:RegL) (last:Nat) (lo hi:Int) (k:Nat):Prop where
 all:∀ j,j<k→Int.fdiv (lo+hi) 2+offP j≤hi∧(lo≤Int.fdiv (lo+hi) 2+offP j→∀ A,¬ (R.fixed last (Int.fdiv (lo+hi) 2+offP j)).reg.Ans A)
theorem SrI.few {R:RegL} {last k:Nat} {lo hi:Int} (h:SrI R last lo hi k):k≤2*(hi - Int.fdiv (lo+hi) 2).toNat+2:=by
 apply Classical.byContradiction
 intro hc
 have h1:=(h.all (2*(hi - Int.fdiv (lo+hi) 2).toNat+1) (by omega)).1
 rw [(off_two _).2] at h1
 omega
theorem SrI.next {R:RegL} {last k:Nat} {lo hi:Int} (h:SrI R last lo hi k) (h1:Int.fdiv (lo+hi) 2+offP k≤hi) (h2:lo≤Int.fdiv (lo+hi) 2+offP k→∀ A,¬ (R.fixed last (Int.fdiv (lo+hi) 2+offP k)).reg.Ans A):SrI R last lo hi (k+1) :=
 ⟨fun j hj=>by
  by_cases e:j=k
  ·rw [e];exact ⟨h1,h2⟩
  ·exact h.all j (by omega)⟩
theorem SrI.none {R:RegL} {last k:Nat} {lo hi:Int} (h:SrI R last lo hi k) (hl:last<R.size) (hlim:∀ x,R.reg.Has x→lo≤x last∧x last≤hi) (hend:hi<Int.fdiv (lo+hi) 2+offP k) (A:List Int):¬ R.reg.Ans A:=by
 rintro ⟨x,hx,ht⟩
 obtain ⟨h1,h2⟩:=hlim x hx
 obtain ⟨j,hj,e⟩:=all_tried hend h1 h2
 refine (h.all j hj).2 (by omega) A ((slice_ans hl _ A).2 ⟨x,hx,ht,e.symm⟩)
theorem SrI.lt {R:RegL} {last k K:Nat} {lo hi:Int} (h:SrI R last lo hi k) (hl:Pl.Lt K lo) (hh:Pl.Lt K hi):Pl.Lt (K+1) (Int.fdiv (lo+hi) 2)∧Pl.Lt (K+3) (offP k)∧Pl.Lt (K+4) (Int.fdiv (lo+hi) 2+offP k):=by
 have m1:Pl.Lt (K+1) (Int.fdiv (lo+hi) 2):=(hl.add hh).fdiv (by decide)
 have m2:Pl.Lt (K+2) (hi - Int.fdiv (lo+hi) 2):=(Pl.Lt.mono hh (show K≤K+1 by omega)).sub m1
 have hf:=h.few
 have m3:Pl.Lt (K+3) (offP k):=by
  have h1:(offP k).natAbs≤(hi - Int.fdiv (lo+hi) 2).natAbs+1:=by
   rcases (show ∃ t,k=2*t∨k=2*t+1 from ⟨k/2,by omega⟩) with ⟨t,e|e⟩
   ·rw [e,(off_two t).1];omega
   ·rw [e,(off_two t).2];omega
  rw [Pl.lt_nat] at m2 ⊢
  have e2:(1073741824:Nat)^(K+3)=1073741824^(K+2)*1073741824:=Nat.pow_succ _ _
  have hp:0<(1073741824:Nat)^(K+2):=Nat.pow_pos (by omega)
  omega
 exact ⟨m1,m3,(Pl.Lt.mono m1 (by omega)).add m3⟩
section
variable {r r1 r2:RegL} {L k:Nat}
def RegL.part (r:RegL) (row:List Int):RegL:=⟨r.size,r.zero,r.least++[row],r.told⟩
def RegL.bound (r:RegL) (row:List Int):RegL:=⟨r.size,r.zero++[row],r.least,r.told⟩
theorem raised_lf (a:List Int) (v:Int) (h0:0<a.length) (k:Nat):lf (raisedP a v) k=if k=0 then lf a 0+v else lf a k:=by
 unfold lf raisedP
 rw [List.getD_eq_getElem?_getD,List.getElem?_mapIdx,List.getD_eq_getElem?_getD (l:=a) (i:=k),List.getD_eq_getElem?_getD (l:=a) (i:=0)]
 by_cases e:k=0
 ·subst e
  rw [List.getElem?_eq_getElem h0];simp
 ·rw [if_neg e]
  cases a[k]? with
  | none=>rfl
  | some z=>simp [e]
theorem raised_ev (n:Nat) (a:List Int) (v:Int) (h0:0<a.length) (x:Nat→Int):Pl.ev n (lf (raisedP a v)) (Pl.pt x)=Pl.ev n (lf a) (Pl.pt x)+v:=by
 rw [Pl.ev_pt,Pl.ev_pt,raised_lf a v h0,if_pos rfl,Pl.sm_congr (g:=fun i=>lf a (i+1)*x i) fun i _=>by rw [raised_lf a v h0,if_neg (by omega)]]
 omega
theorem raised_len (a:List Int) (v:Int):(raisedP a v).length=a.length:=by unfold raisedP;rw [List.length_mapIdx]
theorem raised_lt {K:Nat} {a:List Int} {v:Int} (ha:∀ k,Pl.Lt K (a.getD k 0)) (hv:Pl.Lt K v) (k:Nat):Pl.Lt (K+1) ((raisedP a v).getD k 0):=by
 by_cases h0:0<a.length
 ·have e:=raised_lf a v h0 k
  unfold lf at e
  rw [e]
  split
  ·exact (ha 0).add hv
  ·exact (ha k).mono (by omega)
 ·have:a=[]:=List.eq_nil_of_length_eq_zero (by omega)
  subst this
  exact lt_zero _
theorem neg_lt {K:Nat} {a:List Int} (ha:∀ k,Pl.Lt K (a.getD k 0)) (k:Nat):Pl.Lt K ((a.map fun x=>-x).getD k 0):=by
 have:=congrFun (neg_lf a) k
 unfold lf at this
 rw [this];exact (ha k).neg
theorem told_mem {i:Nat} (h:i<r.told.length):r.told.getD i []∈r.told:=by
 rw [List.getD_eq_getElem?_getD,List.getElem?_eq_getElem h];exact List.getElem_mem _
theorem tells_at {i:Nat} (h:i<r.told.length) (x:Nat→Int):(r.reg.tells x).getD i 0=Pl.ev r.size (lf (r.told.getD i [])) (Pl.pt x):=by
 have e:r.reg.tells x=r.told.map fun a=>Pl.ev r.size (lf a) (Pl.pt x):=by
  show ((r.told.map lf).map fun s=>Pl.ev r.size s (Pl.pt x))=_
  rw [List.map_map];rfl
 rw [e,List.getD_eq_getElem?_getD,List.getElem?_map,List.getD_eq_getElem?_getD (l:=r.told),List.getElem?_eq_getElem h];rfl
theorem ans_len {A:List Int} (h:r.reg.Ans A):A.length=r.told.length:=by
 obtain ⟨x,_,rfl⟩:=h
 show ((r.told.map lf).map _).length=_
 rw [List.length_map,List.length_map]
def lowRow (a:List Int) (top:Int):List Int:=raisedP (a.map fun x=>-x) top
theorem lowRow_ev (n:Nat) (a:List Int) (top:Int) (h0:0<a.length) (x:Nat→Int):Pl.ev n (lf (lowRow a top)) (Pl.pt x)=top - Pl.ev n (lf a) (Pl.pt x):=by
 unfold lowRow
 rw [raised_ev _ _ _ (by rw [List.length_map];exact h0),neg_lf,ev_neg];omega
theorem part_ans (hok:RegOk r) {i:Nat} (h:i<r.told.length) (top:Int) (A:List Int):(r.part (lowRow (r.told.getD i []) top)).reg.Ans A↔r.reg.Ans A∧A.getD i 0≤top:=by
 have h0:0<(r.told.getD i []).length:=by rw [hok.toldL _ (told_mem h)];omega
 constructor
 ·rintro ⟨x,hx,rfl⟩
  have hx1:r.reg.Has x:=⟨hx.zero,fun s hs=>hx.least s (by
   obtain ⟨a,ha,rfl⟩:=List.mem_map.1 hs
   exact List.mem_map.2 ⟨a,List.mem_append.2 (.inl ha),rfl⟩)⟩
  refine ⟨⟨x,hx1,rfl⟩,?_⟩
  have h2:0≤Pl.ev r.size (lf (lowRow (r.told.getD i []) top)) (Pl.pt x):=hx.least _ (List.mem_map.2 ⟨_,List.mem_append.2 (.inr (List.mem_singleton.2 rfl)),rfl⟩)
  rw [lowRow_ev _ _ _ h0] at h2
  have h3:(r.reg.tells x).getD i 0≤top:=by rw [tells_at h];omega
  exact h3
 ·rintro ⟨⟨x,hx,rfl⟩,h1⟩
  rw [tells_at h] at h1
  refine ⟨x,⟨hx.zero,fun s hs=>?_⟩,rfl⟩
  obtain ⟨a,ha,rfl⟩:=List.mem_map.1 hs
  rcases List.mem_append.1 ha with ha|ha
  ·exact hx.least _ (List.mem_map.2 ⟨a,ha,rfl⟩)
  ·rw [List.mem_singleton.1 ha]
   show 0≤Pl.ev r.size _ _
   rw [lowRow_ev _ _ _ h0];omega
theorem part_ok (hok:RegOk r) {i:Nat} (h:i<r.told.length) (top:Int) (hn:r.least.length<1000):RegOk (r.part (lowRow (r.told.getD i []) top)) :=
 ⟨hok.zeroL,fun l hl=>by
  rcases List.mem_append.1 hl with h1|h1
  ·exact hok.leastL l h1
  ·rw [List.mem_singleton.1 h1]
   unfold lowRow;rw [raised_len,List.length_map];exact hok.toldL _ (told_mem h),hok.toldL,hok.zeroN,by show (r.least++[_]).length≤1000;rw [List.length_append];simp;omega,hok.toldN⟩
theorem lt_append {K:Nat} {ls:List (List Int)} {row:List Int} (h:∀ i k,Pl.Lt K ((ls.getD i []).getD k 0)) (hr:∀ k,Pl.Lt K (row.getD k 0)) (i k:Nat):Pl.Lt K (((ls++[row]).getD i []).getD k 0):=by
 refine mem_getD_lt (fun a ha=>?_) i k
 rcases List.mem_append.1 ha with h1|h1
 ·exact fun k=>lt_mem h h1 k
 ·rw [List.mem_singleton.1 h1];exact hr
theorem part_lt {K:Nat} (hl:RegLt K r) (i:Nat) {top:Int} (ht:Pl.Lt K top):RegLt (K+1) (r.part (lowRow (r.told.getD i []) top)) :=
 ⟨fun i k=>(hl.zero i k).mono (by omega),lt_append (fun i k=>(hl.least i k).mono (by omega)) (raised_lt (neg_lt (hl.told i)) ht),fun i k=>(hl.told i k).mono (by omega)⟩
theorem part_tied (ht:r.reg.Tied) (row:List Int):(r.part row).reg.Tied :=
 Pl.Reg.Tied.more ht rfl (fun s hs=>hs) (fun s hs=>by
  obtain ⟨a,ha,rfl⟩:=List.mem_map.1 hs
  exact List.mem_map.2 ⟨a,List.mem_append.2 (.inl ha),rfl⟩)
theorem bound_ans (hok:RegOk r) {i:Nat} (h:i<r.told.length) (v:Int) (A:List Int):(r.bound (raisedP (r.told.getD i []) (-v))).reg.Ans A↔r.reg.Ans A∧A.getD i 0=v:=by
 have h0:0<(r.told.getD i []).length:=by rw [hok.toldL _ (told_mem h)];omega
 constructor
 ·rintro ⟨x,hx,rfl⟩
  have hx1:r.reg.Has x:=⟨fun s hs=>hx.zero s (by
   obtain ⟨a,ha,rfl⟩:=List.mem_map.1 hs
   exact List.mem_map.2 ⟨a,List.mem_append.2 (.inl ha),rfl⟩),hx.least⟩
  refine ⟨⟨x,hx1,rfl⟩,?_⟩
  have h2:Pl.ev r.size (lf (raisedP (r.told.getD i []) (-v))) (Pl.pt x)=0:=hx.zero _ (List.mem_map.2 ⟨_,List.mem_append.2 (.inr (List.mem_singleton.2 rfl)),rfl⟩)
  rw [raised_ev _ _ _ h0] at h2
  have h3:(r.reg.tells x).getD i 0=v:=by rw [tells_at h];omega
  exact h3
 ·rintro ⟨⟨x,hx,rfl⟩,h1⟩
  rw [tells_at h] at h1
  refine ⟨x,⟨fun s hs=>?_,hx.least⟩,rfl⟩
  obtain ⟨a,ha,rfl⟩:=List.mem_map.1 hs
  rcases List.mem_append.1 ha with ha|ha
  ·exact hx.zero _ (List.mem_map.2 ⟨a,ha,rfl⟩)
  ·rw [List.mem_singleton.1 ha]
   show Pl.ev r.size _ _=0
   rw [raised_ev _ _ _ h0];omega
theorem bound_ok (hok:RegOk r) {i:Nat} (h:i<r.told.length) (v:Int) (hn:r.zero.length<1000):RegOk (r.bound (raisedP (r.told.getD i []) v)) :=
 ⟨fun l hl=>by
  rcases List.mem_append.1 hl with h1|h1
  ·exact hok.zeroL l h1
  ·rw [List.mem_singleton.1 h1,raised_len];exact hok.toldL _ (told_mem h),hok.leastL,hok.toldL,by show (r.zero++[_]).length≤1000;rw [List.length_append];simp;omega,hok.leastN,hok.toldN⟩
theorem bound_lt {K:Nat} (hl:RegLt K r) (i:Nat) {v:Int} (ht:Pl.Lt K v):RegLt (K+1) (r.bound (raisedP (r.told.getD i []) v)) :=
 ⟨lt_append (fun i k=>(hl.zero i k).mono (by omega)) (raised_lt (hl.told i) ht),fun i k=>(hl.least i k).mono (by omega),fun i k=>(hl.told i k).mono (by omega)⟩
theorem bound_tied (ht:r.reg.Tied) (row:List Int):(r.bound row).reg.Tied :=
 Pl.Reg.Tied.more ht rfl (fun s hs=>by
  obtain ⟨a,ha,rfl⟩:=List.mem_map.1 hs
  exact List.mem_map.2 ⟨a,List.mem_append.2 (.inl ha),rfl⟩) (fun s hs=>hs)
end
structure ReachI (d gap reach:Int):Prop where
 gap0:0≤gap
 reach0:0≤reach
 some:∃ b:Nat,gap*2^b≤d∧reach+1≤4^b*(4*(d+1))
theorem ReachI.start {d:Int} (h:0≤d):ReachI d d 0:=⟨h,Int.le_refl _,0,by omega,by omega⟩
theorem ReachI.lower {d gap gap' reach:Int} (h:ReachI d gap reach) (h0:0≤gap') (h1:gap'≤gap):ReachI d gap' reach:=by
 obtain ⟨b,h2,h3⟩:=h.some
 exact ⟨h0,h.reach0,b,Int.le_trans (Int.mul_le_mul_of_nonneg_right h1 (Int.pow_nonneg (by decide))) h2,h3⟩
theorem ReachI.near {d gap gap' reach:Int} (h:ReachI d gap reach) (h0:0≤gap') (h1:gap'≤gap) (hr:reach+1≤gap):ReachI d gap' (reach*4+3):=by
 obtain ⟨b,h2,h3⟩:=h.some
 have hp:(1:Int)≤2^b:=Int.pow_pos (by decide)
 have hq:(1:Int)≤4^b:=Int.pow_pos (by decide)
 have hg:gap≤d:=by
  have:=Int.mul_le_mul_of_nonneg_left hp h.gap0
  omega
 have h4:1*(4*(d+1))≤4^b*(4*(d+1)):=Int.mul_le_mul_of_nonneg_right hq (by have:=h.gap0;omega)
 exact ⟨h0,by have:=h.reach0;omega,b,Int.le_trans (Int.mul_le_mul_of_nonneg_right h1 (by omega)) h2,by omega⟩
theorem ReachI.half {d gap gap' reach:Int} (h:ReachI d gap reach) (h0:0≤gap') (h1:2*gap'≤gap):ReachI d gap' (reach*4+3):=by
 obtain ⟨b,h2,h3⟩:=h.some
 refine ⟨h0,by have:=h.reach0;omega,b+1,?_,?_⟩
 ·have e:gap'*2^(b+1)=(2*gap')*2^b:=by rw [Int.pow_succ,Int.mul_comm 2 gap',Int.mul_assoc,Int.mul_comm 2 (2^b)]
  rw [e]
  exact Int.le_trans (Int.mul_le_mul_of_nonneg_right h1 (Int.pow_nonneg (by decide))) h2
 ·have e:(4:Int)^(b+1)*(4*(d+1))=4*(4^b*(4*(d+1))):=by rw [Int.pow_succ,Int.mul_comm (4^b) 4,Int.mul_assoc]
  rw [e];omega
theorem ReachI.le {d gap reach:Int} (h:ReachI d gap reach) (hg:0<gap):reach+1≤d*d*(4*(d+1)):=by
 obtain ⟨b,h2,h3⟩:=h.some
 have hp:(1:Int)≤2^b:=Int.pow_pos (by decide)
 have hb:(2:Int)^b≤d:=by
  have:=Int.mul_le_mul_of_nonneg_right (show (1:Int)≤gap by omega) (show (0:Int)≤2^b by omega)
  omega
 have e:(4:Int)^b=2^b*2^b:=by rw [←Int.mul_pow];rfl
 have h4:(4:Int)^b≤d*d:=by rw [e];exact Int.mul_le_mul hb hb (by omega) (by omega)
 exact Int.le_trans h3 (Int.mul_le_mul_of_nonneg_right h4 (by omega))
theorem ReachI.lt {d gap reach:Int} {M:Nat} (h:ReachI d gap reach) (hg:0<gap) (hM:1≤M) (hd:Pl.Lt M d):Pl.Lt (3*M+2) reach:=by
 have h1:=h.le hg
 obtain ⟨M',rfl⟩:∃ M',M=M'+1:=⟨M - 1,by omega⟩
 have l4:Pl.Lt (M'+1+2) (4*(d+1)):=by
  have a1:Pl.Lt (M'+1+1) (d+1):=hd.add (one_small (by decide))
  have a2:Pl.Lt (1+(M'+1+1)) (4*(d+1)):=Pl.Lt.mul (K:=1) (by rw [Pl.lt_nat];decide) a1
  exact a2.mono (by omega)
 have l5:Pl.Lt ((M'+1)+(M'+1)+(M'+1+2)) (d*d*(4*(d+1))):=(hd.mul hd).mul l4
 have l6:Pl.Lt (3*(M'+1)+2) (d*d*(4*(d+1))):=l5.mono (by omega)
 rw [Pl.lt_nat] at l6 ⊢
 have:=h.reach0
 omega
def lexLt (A B:List Int):Prop:=∃ i,i<A.length∧(∀ j,j<i→A.getD j 0=B.getD j 0)∧A.getD i 0<B.getD i 0
structure LowTo (S:List Int→Prop) (k:Nat) (A:List Int):Prop where
 mem:S A
 low:∀ B,S B→∀ i,i<k→(∀ j,j<i→B.getD j 0=A.getD j 0)→A.getD i 0≤B.getD i 0
theorem LowTo.least {S:List Int→Prop} {k:Nat} {A:List Int} (h:LowTo S k A) {B:List Int} (hB:S B) (hl:B.length≤k):¬ lexLt B A:=by
 rintro ⟨i,hi,h1,h2⟩
 have:=h.low B hB i (by omega) h1
 omega
theorem LowTo.step {S S':List Int→Prop} {k:Nat} {A A':List Int} (h:LowTo S k A) (hS:∀ B,S' B↔S B∧∀ j,j<k→B.getD j 0=A.getD j 0) (hm:S' A') (hl:∀ B,S' B→A'.getD k 0≤B.getD k 0):LowTo S (k+1) A':=by
 have hA:=(hS A').1 hm
 refine ⟨hA.1,fun B hB i hi hj=>?_⟩
 by_cases e:i=k
 ·subst e
  exact hl B ((hS B).2 ⟨hB,fun j hj'=>(hj j hj').trans (hA.2 j hj')⟩)
 ·have:=h.low B hB i (by omega) (fun j hj'=>(hj j hj').trans (hA.2 j (by omega)))
  rw [hA.2 i (by omega)];exact this
theorem LowTo.next {S S':List Int→Prop} {k:Nat} {A A':List Int} (hS:∀ B,S' B↔S B∧∀ j,j<k→B.getD j 0=A.getD j 0) (hm:S' A') (B:List Int):(S' B∧B.getD k 0=A'.getD k 0)↔S B∧∀ j,j<k+1→B.getD j 0=A'.getD j 0:=by
 have hA:=(hS A').1 hm
 rw [hS B]
 constructor
 ·rintro ⟨⟨h1,h2⟩,h3⟩
  refine ⟨h1,fun j hj=>?_⟩
  by_cases e:j=k
  ·rw [e];exact h3
  ·rw [h2 j (by omega),hA.2 j (by omega)]
 ·rintro ⟨h1,h2⟩
  exact ⟨⟨h1,fun j hj=>(h2 j (by omega)).trans (hA.2 j hj)⟩,h2 k (by omega)⟩
end Go.Proofs.Ytfaljekgpnbmiaa
