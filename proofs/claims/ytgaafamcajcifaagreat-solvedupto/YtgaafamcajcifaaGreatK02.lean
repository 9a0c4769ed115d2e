/- Joined: Plain XLimb XGen XDet XTab1. -/
import Derived.Test.YtgaafamcajcifaaGreatK01
set_option linter.unusedVariables false
set_option linter.unusedSimpArgs false
set_option maxRecDepth 100000
namespace Go.Proofs.YtgaafamcajcifaaGreat.Pl
def Ja (a d:Int):Int:=if d<1 then 0 else a/d
theorem Ru (a d M:Int) (h:-M<=a) (h':a<=M):-M<=a.tdiv d∧a.tdiv d<=M:=by
 have h1:=Int.natAbs_tdiv_le_natAbs a d;omega
theorem Jb (a d:Int) (hd:1<=d):Ja a d=if a.tmod d<0 then a.tdiv d - 1 else a.tdiv d:=by
 unfold Ja;rw [g_ (by omega)];have e1:=Int.mul_tdiv_add_tmod a d;have e2:=aay a d;have e3:=aaS a (show d≠0 by omega);have e4:=aaT a (show 0<d by omega);have e5:=Int.lt_tmod_of_pos a (show 0<d by omega);have e6:=Int.tmod_lt_of_pos a (show 0<d by omega)
 split
 ·have:d*(a/d - (a.tdiv d - 1))=(a.tmod d+d) - a%d:=by rw [aaI,aaI];omega
  have hx:a/d - (a.tdiv d - 1)=0:=by
   generalize a/d - (a.tdiv d - 1)=x at *
   have l1:d*x<d*1:=by omega
   have l2:d*(-1)<d*x:=by omega
   have:=abt l1 (by omega);have:=abt l2 (by omega);omega
  omega
 ·have:d*(a/d - a.tdiv d)=a.tmod d - a%d:=by rw [aaI];omega
  have hx:a/d - a.tdiv d=0:=by
   generalize a/d - a.tdiv d=x at *
   have l1:d*x<d*1:=by omega
   have l2:d*(-1)<d*x:=by omega
   have:=abt l1 (by omega);have:=abt l2 (by omega);omega
  omega
end Go.Proofs.YtgaafamcajcifaaGreat.Pl

namespace Go.Proofs.YtgaafamcajcifaaGreat.Pl
open Go.RowKit
def lv:List Int->Int
 | []=>0
 | d::l=>d+1073741824*lv l
def ak (l:List Int):Prop:=∀ d∈l,0<=d∧d<1073741824
def aT (l:List Int) (i:Nat):Int:=l.getD i 0
def pv (l:List Int):Nat->Int
 | 0=>0
 | i+1=>pv l i+1073741824^i*aT l i
theorem pow_pos (i:Nat):(0:Int)<1073741824^i:=Int.pow_pos (by omega)
theorem pJ (a b:List Int):lv (a++b)=lv a+1073741824^a.length*lv b:=by
 induction a with
 | nil=>simp [lv]
 | cons d a ih =>
  rw [List.cons_append,lv,lv,ih,List.length_cons,aaC,Q_,y_,r_ (1073741824^a.length)];omega
theorem ak.nil:ak []:=λd h=>by simp at h
theorem ak.cons {d:Int} {l:List Int} (h0:0<=d) (h1:d<1073741824) (h:ak l):ak (d::l):=by
 intro x hx;rcases aa0.1 hx with rfl|hx
 ·exact ⟨h0,h1⟩
 ·exact h x hx
theorem ak.append {a b:List Int} (h:ak a) (h':ak b):ak (a++b):=by
 intro x hx;rcases F_.1 hx with hx|hx
 ·exact h x hx
 ·exact h' x hx
theorem ak.take {a:List Int} (h:ak a) (n:Nat):ak (a.take n):=λx hx=>h x (List.mem_of_mem_take hx)
theorem ak.aT {l:List Int} (h:ak l) (i:Nat):0<=aT l i∧aT l i<1073741824:=by
 unfold Pl.aT;by_cases hi:i<l.length
 ·rw [a_,f_ hi];exact h _ (aak _)
 ·rw [a_,O_ (by omega)];simp
theorem l8 {l:List Int} (h:ak l):0<=lv l∧lv l<1073741824^l.length:=by
 induction l with
 | nil=>simp [lv]
 | cons d l ih =>
  have h1:=h d (by simp);have h2:=ih (λx hx=>h x (by simp [hx]));rw [lv,List.length_cons,aaC];omega
theorem VQ (l:List Int) (k:Nat):pv l (l.length+k)=pv l l.length:=by
 induction k with
 | zero=>rfl
 | succ k ih =>
  rw [<-abr,pv,ih];have:aT l (l.length+k)=0:=by unfold aT;rw [a_,O_ (by omega)];rfl
  rw [this];simp
theorem yu (l:List Int) (i:Nat) (h:i<=l.length):pv l i=lv (l.take i):=by
 induction i with
 | zero=>simp [pv,lv]
 | succ i ih =>
  have hi:i<l.length:=by omega
  rw [pv,ih (by omega),W_ hi,pJ,T_,aa3 (by omega)];simp only [lv,aT];rw [a_,f_ hi];simp
theorem iL (l:List Int) (n:Nat) (h:l.length<=n):pv l n=lv l:=by
 obtain ⟨k,rfl⟩:∃ k,n=l.length+k:=⟨n - l.length,by omega⟩;rw [VQ,yu l l.length (d_ _),aaG]
theorem nV {l:List Int} (h:ak l) (i:Nat):0<=pv l i∧pv l i<1073741824^i:=by
 induction i with
 | zero=>simp [pv]
 | succ i ih =>
  have hd:=h.aT i;rw [pv,aaC];have hp:=pow_pos i;have h1:1073741824^i*aT l i<=1073741824^i*1073741823:=o_ (by omega) (by omega);have h2:=Y_ (aaO hp) hd.1;omega
theorem nW {i j:Nat} (h:i<=j):(1073741824:Int)^i<=1073741824^j:=by
 obtain ⟨k,rfl⟩:∃ k,j=i+k:=⟨j - i,by omega⟩
 induction k with
 | zero=>exact aaU _
 | succ k ih =>
  have:=ih (by omega);have hp:=pow_pos (i+k);rw [<-abr,aaC];omega
theorem VR {l:List Int} (h:ak l) (n:Nat) (hl:lv l<1073741824^n):pv l n=lv l:=by
 by_cases hn:l.length<=n
 ·exact iL l n hn
 ·have e:=pJ (l.take n) (l.drop n);rw [List.take_append_drop,T_,aa3 (by omega)] at e;have b1:=l8 (h.take n);have b2:0<=lv (l.drop n):=(l8 (l:=l.drop n) (λx hx=>h x (List.mem_of_mem_drop hx))).1;rw [yu l n (by omega)];have hp:=pow_pos n;rcases Int.lt_or_eq_of_le b2 with hlt|heq
  ·have:1073741824^n*1<=1073741824^n*lv (l.drop n):=o_ (by omega) (by omega);omega
  ·rw [<-heq] at e;omega
theorem ni (P c:Int):P*(c%1073741824)+P*1073741824*(c/1073741824)=P*c:=by
 rw [y_,<-Q_,Int.emod_add_mul_ediv]
theorem CF (l:List Int) (n:Nat):lv (l++List.replicate n 0)=lv l:=by
 rw [pJ];have:lv (List.replicate n 0)=0:=by
  induction n with
  | zero=>rfl
  | succ n ih=>rw [List.replicate_succ,lv,ih];rfl
 rw [this];simp
theorem Bo (l:List Int) (d:Int):lv (l++[d])=lv l+1073741824^l.length*d:=by rw [pJ];simp [lv]
theorem Cb {a d q:Int} (hd:0<d) (h1:q*d<=a) (h2:a<q*d+d):a/d=q:=by
 have e1:q<=a/d:=Int.le_ediv_of_mul_le hd h1;have e2:a/d<q+1:=Int.ediv_lt_of_lt_mul hd (by rw [aaN];omega);omega
theorem rW (a:Int) (h0:-9223372036854775808<=a) (h1:a<=9223372036854775807):bits .and .i64 a 1073741823=a%1073741824:=by
 have e:(BitVec.ofInt 64 a &&& BitVec.ofInt 64 1073741823).toNat=((a%1073741824).toNat):=by
  rw [BitVec.toNat_and,show (BitVec.ofInt 64 1073741823).toNat=2^30 - 1 from rfl,Nat.and_two_pow_sub_one_eq_mod,BitVec.toNat_ofInt];omega
 show IntKind.i64.wrap ((BitVec.ofInt 64 a &&& BitVec.ofInt 64 1073741823).toNat:Int)=_;rw [e];simp only [IntKind.wrap,IntKind.bits,IntKind.signed];have:0<=a%1073741824∧a%1073741824<1073741824:=⟨aaS _ (by omega),aaT _ (by omega)⟩;rw [Int.toNat_of_nonneg this.1];simp;omega
end Go.Proofs.YtgaafamcajcifaaGreat.Pl

namespace Go.Proofs.YtgaafamcajcifaaGreat
open Go.RowKit
theorem af {p:Prop} (h:p):Hid p:=h
theorem uh {p:Prop} (h:Hid p):p:=h
theorem Bd {k:IntKind} {a b:Int} (h:a=b):Ending.returned (.int k a)=.returned (.int k b):=by rw [h]
theorem Cj {a b:Bool} (h:a=b):Ending.returned (.bool a)=.returned (.bool b):=by rw [h]
theorem bR {w:World} {B:Nat} {e:TypeId} {size:Nat} {v:Value} {n:Nat} {xs:List Value} (h:w.ownsRow B e size v n xs):∀ k,v.ownBlock=some k->B<=k:=λk hk=>(h.lt k hk).1
def bF (n:Int):Value:=.int .i64 n
def aI (B:Nat) (w:World) (v:Value) (l:List Int):Prop:=w.ownsRow B 3 1 v l.length (l.map bF)
def aA (e:TypeId) (w w':World):Prop:=∀ (k:Nat) (cur:Array Value),w.heap[k]?=some (Obj.cells cur e (0,0))->w'.heap[k]?=w.heap[k]?
theorem aA.aX {e:TypeId} {w w':World} (h:Below w.heap.size w w'):aA e w w':=λk _ hk=>h.block k (z_ hk)
theorem aA.trans {e:TypeId} {w w' w2:World} (h:aA e w w') (h2:aA e w' w2):aA e w w2:=λk cur hk=>by
 have e1:=h k cur hk;rw [h2 k cur (e1.trans hk),e1]
theorem aA.setCell {e T:TypeId} {w:World} {b:Nat} {cs:Array Value} {fz:Nat × Nat} (hb:w.heap[b]?=some (.cells cs T fz)) (hne:T≠e) (o:Nat) (u:Value):aA e w (w.setCell ⟨b,o,none⟩ u):=λk cur hk=>by
 refine l_ _ _ _ _ ?_;rintro rfl;rw [hb] at hk;cases hk;exact hne rfl
theorem aA.grown {e e':TypeId} {w w':World} {B size n:Nat} {v:Value} {xs:List Value} (ho:w.ownsRow B e' size v n xs) (hg:w.grownBy w' v.ownBlock) (hne:e'≠e):aA e w w':=λk cur hk=>by
 refine hg.block k (z_ hk) ?_;intro hv;rcases ho.2 with ⟨rfl,_⟩|⟨g,cap,c2,rfl,_,hgg,_⟩
 ·simp [Value.ownBlock] at hv
 ·simp [Value.ownBlock] at hv;subst hv;rw [hgg] at hk;cases hk;exact hne rfl
theorem aA.alloc (e:TypeId) (w:World) (o:Obj):aA e w (w.alloc o):=.aX ((n_ _ _).alloc (d_ _) o)
theorem aW {w w':World} {B:Nat} {e:TypeId} {size:Nat} {v:Value} {n:Nat} {xs:List Value} (h:w.ownsRow B e size v n xs) (hk:aA e w w'):w'.ownsRow B e size v n xs:=by
 refine ⟨h.1,?_⟩;rcases h.2 with hn|⟨g,cap,cur,rfl,hb,hgg,rest⟩
 ·exact .inl hn
 ·exact .inr ⟨g,cap,cur,rfl,hb,by rw [hk g cur hgg];exact hgg,rest⟩
theorem UO {w:World} {B:Nat} {e:TypeId} {size:Nat} {v:Value} {n:Nat} {xs:List Value} (h:w.ownsRow B e size v n xs) (g:Nat) (hg:v.ownBlock=some g):g<w.heap.size:=by
 rcases h.2 with ⟨rfl,_⟩|⟨g',cap,cur,rfl,hb,hgg,rest⟩
 ·simp [Value.ownBlock] at hg
 ·simp [Value.ownBlock] at hg;subst hg;exact z_ hgg
theorem cellsOf {w:World} {b:Nat} {cs:Array Value} {T:TypeId} (h:w.heap[b]?=some (.cells cs T (0,0))) (i:Nat):w.cell? ⟨b,i,none⟩=cs[i]?:=by simp [World.cell?,h]
theorem aH {w:World} {b:Nat} {cs:Array Value} {T:TypeId} (h:w.heap[b]?=some (.cells cs T (0,0))) (i:Nat):w.frozen? ⟨b,i,none⟩=false:=by simp [World.frozen?,h]
theorem Tryz.jL:(Tryz.prog.info? 3).map (λi=>(i.zero,i.size,i.bytes))=some (some (.int .i64 0),1,8):=by kernel_rfl
def bI (w:World) (v:Value) (l:List Int):Prop :=
 ∃ ad cap,v=.slice ad l.length cap∧∀ i,i<l.length->∃ b off,ad=some ⟨b,off,none⟩∧w.cell? ⟨b,off+i,none⟩=some (.int .i64 (l.getD i 0))
theorem cO {B:Nat} {w:World} {v:Value} {l:List Int} (h:aI B w v l):bI w v l:=by
 rcases h.2 with ⟨rfl,hn⟩|⟨g,cap,cur,rfl,hb,hgg,hle,hm,hcs,htk⟩
 ·exact ⟨none,0,by rw [hn],λi hi=>by omega⟩
 ·refine ⟨some ⟨g,0,none⟩,cap,rfl,λi hi=>⟨g,0,rfl,?_⟩⟩;have:=World.ownsRow.cellAt (show w.ownsRow B 3 1 (.slice (some ⟨g,0,none⟩) l.length cap) l.length (l.map bF) from h) i (by omega);rw [M_,this,aal,f_ hi,a_,f_ hi];rfl
theorem rG {w w':World} {a:Addr} {x:Value} (h:Below w.heap.size w w') (hc:w.cell? a=some x):w'.cell? a=some x :=
 (h.cell (World.block_lt_of_cell? w a hc)).trans hc
theorem bI.below {w w':World} {v:Value} {l:List Int} (h:bI w v l) (hb:Below w.heap.size w w'):bI w' v l:=by
 obtain ⟨ad,cap,hv,hc⟩:=h;refine ⟨ad,cap,hv,λi hi=>?_⟩;obtain ⟨b,off,hg,h1⟩:=hc i hi;exact ⟨b,off,hg,rG hb h1⟩
theorem nT {w:World} {ad:Option Addr} {n cap:Nat} {l:List Int} (h:bI w (.slice ad n cap) l) (i:Nat) (hi:i<l.length):∃ b off,ad=some ⟨b,off,none⟩∧w.cell? ⟨b,off+i,none⟩=some (.int .i64 l[i]):=by
 obtain ⟨_,_,he,hc⟩:=h;simp only [Value.slice.injEq] at he;obtain ⟨b,off,e1,e2⟩:=hc i hi;refine ⟨b,off,he.1.trans e1,?_⟩;rw [e2,a_,f_ hi];rfl
structure il (b:Nat) (w w':World):Prop where
 os:w'.os=w.os
 tape:w'.tape=w.tape
 output:w'.output=w.output
 size:w.heap.size<=w'.heap.size
 block:∀ k:Nat,k<w.heap.size->k≠b->w'.heap[k]?=w.heap[k]?
theorem il.aX {b:Nat} {w w':World} (h:Below w.heap.size w w'):il b w w':=⟨h.os,h.tape,h.output,h.size,λk hk _=>h.block k hk⟩
theorem il.trans {b:Nat} {w w' w2:World} (h:il b w w') (h2:il b w' w2):il b w w2 :=
 ⟨h2.os.trans h.os,h2.tape.trans h.tape,h2.output.trans h.output,w_ h.size h2.size,λk hk hne=>(h2.block k (aa9 hk h.size) hne).trans (h.block k hk hne)⟩
theorem il.setCell {b:Nat} {w w':World} (h:il b w w') (o:Nat) (u:Value):il b w (w'.setCell ⟨b,o,none⟩ u) :=
 h.trans ⟨rfl,rfl,rfl,by simp,λk _ hne=>l_ _ _ _ _ hne⟩
theorem il.below {b B:Nat} {w w':World} (h:il b w w') (hb:B<=b) (hB:B<=w.heap.size):Below B w w':=⟨h.os,h.tape,h.output,h.size,λk hk=>h.block k (by omega) (by omega)⟩
end Go.Proofs.YtgaafamcajcifaaGreat

namespace Go.Proofs.YtgaafamcajcifaaGreat.Pl
def sm:Nat->(Nat->Int)->Int
 | 0,_=>0
 | n+1,f=>sm n f+f n
theorem aC {n:Nat} {f g:Nat->Int} (h:∀ i,i<n->f i=g i):sm n f=sm n g:=by
 induction n with
 | zero=>rfl
 | succ n ih=>rw [sm,sm,ih λi hi=>h i (by omega),h n (by omega)]
theorem zB (n:Nat) (f g:Nat->Int):sm n (λi=>f i+g i)=sm n f+sm n g:=by
 induction n with
 | zero=>rfl
 | succ n ih=>simp only [sm,ih];omega
theorem zC (n:Nat) (f g:Nat->Int):sm n (λi=>f i - g i)=sm n f - sm n g:=by
 induction n with
 | zero=>rfl
 | succ n ih=>simp only [sm,ih];omega
theorem dz (n:Nat) (a:Int) (f:Nat->Int):sm n (λi=>a*f i)=a*sm n f:=by
 induction n with
 | zero=>simp [sm]
 | succ n ih=>simp only [sm,ih,Q_]
theorem kD {n:Nat} {f:Nat->Int} (h:∀ i,i<n->f i=0):sm n f=0:=by
 induction n with
 | zero=>rfl
 | succ n ih=>rw [sm,ih λi hi=>h i (by omega),h n (by omega)];rfl
theorem iK {n:Nat} {f:Nat->Int} (j:Nat) (hj:j<n) (h:∀ i,i<n->i≠j->f i=0):sm n f=f j:=by
 induction n with
 | zero=>omega
 | succ n ih =>
  rw [sm];by_cases hn:j=n
  ·rw [kD λi hi=>h i (by omega) (by omega),hn];omega
  ·rw [ih (by omega) λi hi=>h i (by omega),h n (by omega) (by omega)];omega
theorem Jp {n:Nat} {f:Nat->Int} (j k:Nat) (hj:j<n) (hk:k<n) (hjk:j≠k) (h:∀ i,i<n->i≠j->i≠k->f i=0):sm n f=f j+f k:=by
 have e:sm n f=sm n (λi=>(if i=j then f i else 0)+(if i=j then 0 else f i)):=aC λi _=>by split <;> omega
 rw [e,zB,iK j hj λi _ hi=>g_ hi,iK k hk λi hi hik=>?_,h_ rfl,g_ (λe=>hjk e.symm)];by_cases hij:i=j
 ·rw [h_ hij]
 ·rw [g_ hij];exact h i hi hij hik
theorem oU (n m:Nat) (f:Nat->Nat->Int):sm n (λi=>sm m (λj=>f i j))=sm m (λj=>sm n (λi=>f i j)):=by
 induction n with
 | zero=>rw [sm];exact (kD λ_ _=>rfl).symm
 | succ n ih=>simp only [sm,ih];rw [zB]
theorem fK {n:Nat} {f:Nat->Int} (j:Nat) (hj:j<n):sm n f=f j+sm n (λi=>if i=j then 0 else f i):=by
 have e:sm n f=sm n (λi=>(if i=j then f i else 0)+(if i=j then 0 else f i)):=aC λi _=>by split <;> omega
 rw [e,zB,iK j hj λi _ hi=>g_ hi,h_ rfl]
theorem vS {n:Nat} {f:Nat->Int} (h:∀ i,i<n->f i<=0):sm n f<=0:=by
 induction n with
 | zero=>exact aaU 0
 | succ n ih=>rw [sm];have h1:=ih λi hi=>h i (by omega);have h2:=h n (by omega);omega
theorem vT {n:Nat} {f:Nat->Int} (h:∀ i,i<n->0<=f i):0<=sm n f:=by
 induction n with
 | zero=>exact aaU 0
 | succ n ih=>rw [sm];have h1:=ih λi hi=>h i (by omega);have h2:=h n (by omega);omega
theorem Gv {n:Nat} {f:Nat->Int} (h:0<sm n f):∃ i,i<n∧0<f i:=by
 apply v_;intro hc;have:=vS (n:=n) (f:=f) λi hi=>by
  apply v_;intro h1;exact hc ⟨i,hi,by omega⟩
 omega
theorem O3 {n:Nat} {f:Nat->Int} {b:Int} (h:∀ i,i<n->-b<=f i∧f i<=b):-(n*b)<=sm n f∧sm n f<=n*b:=by
 induction n with
 | zero=>simp [sm]
 | succ n ih =>
  have h1:=ih λi hi=>h i (by omega);have h2:=h n (by omega);have e:((n+1:Nat):Int)*b=n*b+b:=by rw [Int.natCast_add,aaN];simp
  rw [sm,e];omega
def KS (k:Nat):Int:=if k%2=0 then 1 else -1
theorem O4 (k:Nat):KS (k+1)=-KS k:=by
 unfold KS;rcases Nat.mod_two_eq_zero_or_one k with h|h
 ·rw [g_ (by omega),h_ h]
 ·rw [h_ (by omega),g_ (by omega)];rfl
def del (i:Nat) (R:Nat->Nat->Int):Nat->Nat->Int:=λk=>if k<i then R k else R (k+1)
def lY (R:Nat->Nat->Int) (j:Nat) (v:Nat->Int):Nat->Nat->Int:=λi=>if i=j then v else R i
def mX:Nat->(Nat->Nat->Int)->Int
 | 0,_=>1
 | m+1,R=>sm (m+1) (λi=>KS (i+m)*(R i m*mX m (del i R)))
theorem iD (R:Nat->Nat->Int) (j:Nat) (v:Nat->Int):lY R j v j=v:=by unfold lY;rw [h_ rfl]
theorem ji (R:Nat->Nat->Int) {i j:Nat} (v:Nat->Int) (h:i≠j):lY R j v i=R i:=by unfold lY;rw [g_ h]
theorem rO (R:Nat->Nat->Int) {i j:Nat} (u v:Nat->Int) (h:i≠j):lY (lY R i u) j v=lY (lY R j v) i u:=by
 funext k;unfold lY;by_cases h1:k=j
 ·rw [h_ h1,g_ (by omega),h_ h1]
 ·rw [g_ h1];by_cases h2:k=i
  ·rw [h_ h2,h_ h2]
  ·rw [g_ h2,g_ h2,g_ h1]
theorem yt (R:Nat->Nat->Int) (j:Nat):lY R j (R j)=R:=by
 funext i;unfold lY;split
 ·rename_i h;rw [h]
 ·rfl
theorem mY:∀ (m:Nat) {R S:Nat->Nat->Int},(∀ i j,i<m->j<m->R i j=S i j)->mX m R=mX m S
 | 0,_,_,_=>rfl
 | m+1,R,S,h=>by
  rw [mX,mX];refine aC λi hi=>?_;rw [h i m hi (by omega),mY m (R:=del i R) (S:=del i S) λk j hk hj=>?_];unfold del
  split
  ·exact h k j (by omega) (by omega)
  ·exact h (k+1) j (by omega) (by omega)
theorem sN (R:Nat->Nat->Int) (r:Nat) (v:Nat->Int):del r (lY R r v)=del r R:=by
 funext k;unfold del
 split
 ·rw [ji R v (by omega)]
 ·rw [ji R v (by omega)]
theorem Jq (R:Nat->Nat->Int) {i r:Nat} (v:Nat->Int) (h:r<i):del i (lY R r v)=lY (del i R) r v:=by
 funext k;by_cases hk:k=r
 ·rw [hk,iD];unfold del;rw [h_ h,iD]
 ·rw [ji _ v hk];unfold del
  split
  ·rw [ji _ v hk]
  ·rw [ji _ v (by omega)]
theorem Jr (R:Nat->Nat->Int) {i r:Nat} (v:Nat->Int) (h:i<r):del i (lY R r v)=lY (del i R) (r - 1) v:=by
 funext k;by_cases hk:k=r - 1
 ·rw [hk,iD];unfold del;rw [g_ (by omega),show r - 1+1=r by omega,iD]
 ·rw [ji _ v hk];unfold del
  split
  ·rw [ji _ v (by omega)]
  ·rw [ji _ v (by omega)]
theorem pX:∀ (m:Nat) (R:Nat->Nat->Int) (r:Nat) (a b:Int) (u v:Nat->Int),r<m ->
  mX m (lY R r (λj=>a*u j+b*v j))=a*mX m (lY R r u)+b*mX m (lY R r v)
 | 0,_,_,_,_,_,_,h=>by omega
 | m+1,R,r,a,b,u,v,h=>by
  rw [mX,mX,mX,<-dz,<-dz,<-zB];refine aC λi hi=>?_;by_cases hir:i=r
  ·subst hir;rw [iD,iD,iD,sN,sN,sN,aaN,Q_];congr 1
   ·rw [y_,r_]
   ·rw [y_,r_]
  ·have key:∀ q,q<m->(∀ x,del i (lY R r x)=lY (del i R) q x) ->
     KS (i+m)*(R i m*mX m (del i (lY R r λj=>a*u j+b*v j)))=a*(KS (i+m)*(R i m*mX m (del i (lY R r u))))+b*(KS (i+m)*(R i m*mX m (del i (lY R r v)))):=by
    intro q hq hx;rw [hx,hx,hx,pX m (del i R) q a b u v hq];generalize mX m (lY (del i R) q u)=X;generalize mX m (lY (del i R) q v)=Y;rw [Q_,Q_,r_ (R i m) a X,r_ (R i m) b Y,r_ (KS (i+m)) a,r_ (KS (i+m)) b]
   rw [ji _ _ hir,ji _ _ hir,ji _ _ hir];by_cases hlt:r<i
   ·exact key r (by omega) λx=>Jq R x hlt
   ·exact key (r - 1) (by omega) λx=>Jr R x (by omega)
theorem Bf:∀ (m:Nat) (R:Nat->Nat->Int) (p:Nat),p+1<m->R p=R (p+1)->mX m R=0
 | 0,_,_,h,_=>by omega
 | m+1,R,p,h,he=>by
  rw [mX,Jp p (p+1) (by omega) h (by omega) λi hi h1 h2=>?_]
  ·have e:del p R=del (p+1) R:=by
    funext k;unfold del;by_cases hk:k<p
    ·rw [h_ hk,h_ (by omega)]
    ·rw [g_ hk];by_cases hk2:k=p
     ·rw [h_ (by omega),hk2,he]
     ·rw [g_ (by omega)]
   rw [e,show p+1+m=(p+m)+1 by omega,O4,he,aaP];omega
  ·have h0:mX m (del i R)=0:=by
    by_cases TN:i<p
    ·refine Bf m (del i R) (p - 1) (by omega) ?_;unfold del;rw [g_ (by omega),g_ (by omega),show p - 1+1=p by omega];exact he
    ·refine Bf m (del i R) p (by omega) ?_;unfold del;rw [h_ (by omega),h_ (by omega)];exact he
   rw [h0,X_,X_]
theorem O5 (m:Nat) (R:Nat->Nat->Int) (p:Nat) (h:p+1<m) (u v:Nat->Int) :
  mX m (lY (lY R p u) (p+1) v)=-mX m (lY (lY R p v) (p+1) u):=by
 have lin:=λ(x y:Nat->Int) (r:Nat) (hr:r<m) (S:Nat->Nat->Int)=>pX m S r 1 1 x y hr;have z:∀ x,mX m (lY (lY R p x) (p+1) x)=0:=λx=>Bf m _ p h (by rw [iD,ji _ _ (by omega),iD]);have e0:=z (λj=>1*u j+1*v j);rw [lin _ _ (p+1) h,rO R _ _ (show p≠p+1 by omega),rO R _ _ (show p≠p+1 by omega),lin _ _ p (by omega),lin _ _ p (by omega),
  <- rO R _ _ (show p≠p+1 by omega),<-rO R _ _ (show p≠p+1 by omega),<-rO R _ _ (show p≠p+1 by omega),<-rO R _ _ (show p≠p+1 by omega),z u,z v] at e0
 omega
theorem Js (m:Nat):∀ (d:Nat) (R:Nat->Nat->Int) (p q:Nat),q=p+1+d->q<m->R p=R q->mX m R=0
 | 0,R,p,q,hq,hm,he=>Bf m R p (by omega) (by rw [he,hq])
 | d+1,R,p,q,hq,hm,he=>by
  have e:R=lY (lY R (q - 1) (R (q - 1))) (q - 1+1) (R (q - 1+1)):=by rw [yt,yt]
  rw [e,O5 m R (q - 1) (by omega)];rw [Js m d _ p (q - 1) (by omega) (by omega) ?_]
  ·rfl
  ·rw [ji _ _ (by omega),ji _ _ (by omega),ji _ _ (by omega),iD,show q - 1+1=q by omega];exact he
theorem KT {m:Nat} {R:Nat->Nat->Int} {p q:Nat} (hpq:p≠q) (hp:p<m) (hq:q<m) (he:R p=R q):mX m R=0:=by
 by_cases h:p<q
 ·exact Js m (q - p - 1) R p q (by omega) hq he
 ·exact Js m (p - q - 1) R q p (by omega) hp he.symm
def unit (i j:Nat):Int:=if i=j then 1 else 0
theorem BZ:∀ m,mX m unit=1
 | 0=>rfl
 | m+1=>by
  rw [mX,iK m (by omega) λi _ hi=>by unfold unit;rw [g_ hi];simp];have e:mX m (del m unit)=1:=by
   rw [<-BZ m];refine mY m λi j hi _=>?_;unfold del;rw [h_ hi]
  rw [e];have e2:unit m m=1:=h_ rfl;have e3:KS (m+m)=1:=by unfold KS;rw [h_ (by omega)]
  rw [e2,e3];rfl
theorem Fj (m:Nat) (R:Nat->Nat->Int) (r:Nat) (hr:r<m) (c:Nat->Int) (V:Nat->Nat->Int):∀ n,
  mX m (lY R r (λj=>sm n (λk=>c k*V k j)))=sm n (λk=>c k*mX m (lY R r (V k)))
 | 0=>by
  have e:(λj=>sm 0 (λk=>c k*V k j))=(λj=>0*R r j+0*R r j):=by funext j;simp [sm]
  rw [e,pX m R r 0 0 _ _ hr];simp [sm]
 | n+1=>by
  have e:(λj=>sm (n+1) (λk=>c k*V k j))=(λj=>1*sm n (λk=>c k*V k j)+c n*V n j):=by funext j;rw [sm];omega
  rw [e,pX m R r 1 (c n) _ _ hr,Fj m R r hr c V n,sm];omega
theorem Mk (m:Nat) (R:Nat->Nat->Int) (r:Nat) (hr:r<m) (a:Int) (u:Nat->Int):mX m (lY R r (λj=>a*u j))=a*mX m (lY R r u):=by
 have e:(λj=>a*u j)=(λj=>a*u j+0*u j):=by funext j;omega
 rw [e,pX m R r a 0 _ _ hr];omega
theorem Jt {m:Nat} {R:Nat->Nat->Int} {s:Int} {v:Nat->Int} {c:Nat->Int} (h:∀ j,j<m->s*v j=sm m (λk=>c k*R k j)) {r:Nat} (hr:r<m) :
  s*mX m (lY R r v)=c r*mX m R:=by
 rw [<-Mk m R r hr s v];have e:mX m (lY R r (λj=>s*v j))=mX m (lY R r (λj=>sm m (λk=>c k*R k j))):=by
  refine mY m λi j _ hj=>?_;unfold lY
  split
  ·exact h j hj
  ·rfl
 rw [e,Fj m R r hr c R m,iK r hr λk hk hkr=>?_,yt];rw [KT (p:=r) (q:=k) (λe=>hkr e.symm) hr hk (by rw [iD,ji _ _ hkr]),X_]
def KU:Nat->Int
 | 0=>1
 | n+1=>(n+1)*KU n
theorem xh {a b x y:Int} (ha:-x<=a∧a<=x) (hb:-y<=b∧b<=y):-(x*y)<=a*b∧a*b<=x*y:=by
 have hx:0<=x:=by omega
 have hy:0<=y:=by omega
 have h1:0<=(x - a)*(y - b):=Y_ (by omega) (by omega);have h2:0<=(x+a)*(y+b):=Y_ (by omega) (by omega);have h3:0<=(x - a)*(y+b):=Y_ (by omega) (by omega);have h4:0<=(x+a)*(y - b):=Y_ (by omega) (by omega);simp only [abh,aaN,aaI,Q_] at h1 h2 h3 h4;omega
theorem zD:∀ (m:Nat) (R:Nat->Nat->Int) (B:Int),0<=B->(∀ i j,i<m->j<m->-B<=R i j∧R i j<=B)->-(KU m*B^m)<=mX m R∧mX m R<=KU m*B^m
 | 0,R,B,_,_=>by simp [mX,KU]
 | m+1,R,B,hB,h=>by
  rw [mX];have hs:∀ i,i<m+1->-(B*(KU m*B^m))<=KS (i+m)*(R i m*mX m (del i R))∧KS (i+m)*(R i m*mX m (del i R))<=B*(KU m*B^m):=λi hi=>by
   have h1:=xh (h i m hi (by omega)) (zD m (del i R) B hB λk j hk hj=>by
    unfold del
    split
    ·exact h k j (by omega) (by omega)
    ·exact h (k+1) j (by omega) (by omega))
   unfold KS
   split
   ·omega
   ·omega
  have:=O3 hs;rw [KU,aaC];have e:(↑m+1)*KU m*(B^m*B)=((m+1:Nat):Int)*(B*(KU m*B^m)):=by
   rw [Int.natCast_add,y_];congr 1;rw [u_ B,<-y_]
  rw [e];exact this
structure aR where
 lines:List (Int × List Int)
 aS:List Int
 scale:Int
def aR.name (t:aR) (r:Nat):Int:=(t.lines.getD r (0,[])).1
def aR.cell (t:aR) (r j:Nat):Int:=(t.lines.getD r (0,[])).2.getD j 0
def aR.fe (t:aR) (c:Nat):Int:=t.aS.getD c 0
def aR.base (F:Int->Nat->Int) (t:aR):Nat->Nat->Int:=λi=>if i=0 then unit 0 else F (t.fe (i - 1))
structure bM (F:Int->Nat->Int) (n:Nat) (t:aR):Prop where
 aS:t.aS.length=n
 cells:∀ l∈t.lines,l.2.length=n+1
 pos:0<t.scale
 F8:∃ e:Int,e*e=1∧mX (n+1) (t.base F)=e*t.scale
 fB:∀ r,r<t.lines.length->∀ k,k<n+1->t.scale*F (t.name r) k=sm (n+1) (λj=>t.cell r j*t.base F j k)
def aR.told (t:aR) (i r c:Nat) (sg:Int):List Int:=(List.range (t.aS.length+1)).map λj=>sg*(if j=c then t.cell i c else Int.fdiv (t.cell r c*t.cell i j - t.cell i c*t.cell r j) t.scale)
def aR.bK (t:aR) (r c:Nat) (sg:Int):List Int:=(List.range (t.aS.length+1)).map λj=>sg*(if j=c then t.scale else -t.cell r j)
def aR.swap (t:aR) (r c:Nat):aR :=
 { lines:=t.lines.mapIdx λi l=>if i=r then (t.fe c,t.bK r (c+1) (Int.sign (t.cell r (c+1)))) else (l.1,t.told i r (c+1) (Int.sign (t.cell r (c+1)))),aS:=t.aS.set c (t.name r),scale:=(t.cell r (c+1)).natAbs }
theorem bJ (n:Nat) (f:Nat->Int) (j:Nat) (h:j<n):((List.range n).map f).getD j 0=f j:=by
 rw [a_,aal,abg h];rfl
theorem aR.iG (t:aR) (r c:Nat):(t.swap r c).lines.length=t.lines.length:=by simp [aR.swap]
theorem aR.Es (t:aR) (r c:Nat):(t.swap r c).aS.length=t.aS.length:=by simp [aR.swap]
theorem aR.EY (t:aR) (r c i:Nat) (hi:i<t.lines.length):(t.swap r c).lines.getD i (0,[])=if i=r then (t.fe c,t.bK r (c+1) (Int.sign (t.cell r (c+1)))) else (t.name i,t.told i r (c+1) (Int.sign (t.cell r (c+1)))):=by
 unfold aR.swap aR.name;simp only;rw [a_,List.getElem?_mapIdx,f_ hi,a_,f_ hi];simp only [Option.map_some,Option.getD_some]
theorem aR.jG (t:aR) (r c i:Nat) (hi:i<t.lines.length):(t.swap r c).name i=if i=r then t.fe c else t.name i:=by
 unfold aR.name;rw [aR.EY t r c i hi]
 split <;> rfl
theorem aR.jY (t:aR) (r c k:Nat) (hc:c<t.aS.length):(t.swap r c).fe k=if k=c then t.name r else t.fe k:=by
 unfold aR.swap aR.fe;simp only;rw [a_,List.getElem?_set,a_];by_cases hk:k=c
 ·subst hk;rw [h_ rfl,h_ hc,h_ rfl];rfl
 ·rw [g_ (λe=>hk e.symm),g_ hk]
theorem aR.wh (t:aR) (r c i j:Nat) (hi:i<t.lines.length) (hj:j<t.aS.length+1) :
  (t.swap r c).cell i j=Int.sign (t.cell r (c+1))*(if i=r then (if j=c+1 then t.scale else -t.cell r j) else (if j=c+1 then t.cell i (c+1) else Int.fdiv (t.cell r (c+1)*t.cell i j - t.cell i (c+1)*t.cell r j) t.scale)):=by
 conv=>lhs;unfold aR.cell
 rw [aR.EY t r c i hi];by_cases h:i=r
 ·rw [h_ h,h_ h];unfold aR.bK;simp only;rw [bJ _ _ _ hj]
 ·rw [g_ h,g_ h];unfold aR.told;simp only;rw [bJ _ _ _ hj]
theorem aR.Ab (F:Int->Nat->Int) (t:aR) (r c:Nat) (hc:c<t.aS.length):(t.swap r c).base F=lY (t.base F) (c+1) (F (t.name r)):=by
 funext i;unfold lY aR.base;by_cases hi:i=c+1
 ·rw [h_ hi,g_ (by omega),aR.jY t r c _ hc,h_ (by omega)]
 ·rw [g_ hi];by_cases h0:i=0
  ·rw [h_ h0,h_ h0]
  ·rw [g_ h0,g_ h0,aR.jY t r c _ hc,g_ (by omega)]
theorem LB {p:Int} (h:p≠0):Int.sign p*Int.sign p=1:=by
 rcases (show p<0∨0<p by omega) with h|h
 ·rw [E_ h];rfl
 ·rw [J_ h];rfl
theorem sign_mul_self (p:Int):Int.sign p*p=p.natAbs:=by
 rcases (show p<0∨p=0∨0<p by omega) with h|h|h
 ·rw [E_ h];omega
 ·subst h;rfl
 ·rw [J_ h];omega
theorem xC {a s x:Int} (hs:0<s) (h:a=s*x):Int.fdiv a s=x:=by
 rw [h,u_,Int.mul_fdiv_cancel _ (by omega)]
section
variable {F:Int->Nat->Int} {n:Nat} {t:aR}
theorem bM.QT (h:bM F n t) {r c:Nat} (hr:r<t.lines.length) (hc:c<n) (k:Nat) (hk:k<n+1) :
  t.cell r (c+1)*t.base F (c+1) k=t.scale*F (t.name r) k - sm (n+1) (λj=>if j=c+1 then 0 else t.cell r j*t.base F j k):=by
 have e:=h.fB r hr k hk;rw [fK (c+1) (by omega)] at e;omega
theorem bM.LC (h:bM F n t) {r c i:Nat} (hr:r<t.lines.length) (hi:i<t.lines.length) (hc:c<n) (k:Nat) (hk:k<n+1) :
  (t.cell r (c+1)*t.scale)*F (t.name i) k=sm (n+1) (λj=>(if j=c+1 then t.scale*t.cell i (c+1) else t.cell r (c+1)*t.cell i j - t.cell i (c+1)*t.cell r j)*(t.swap r c).base F j k):=by
 have e1:=h.fB i hi k hk;have e2:=h.QT hr hc k hk;rw [fK (c+1) (by omega)] at e1;rw [fK (c+1) (by omega),aR.Ab F t r c (by rw [h.aS];exact hc),iD,h_ rfl,y_,e1,Q_];have e3:t.cell r (c+1)*(t.cell i (c+1)*t.base F (c+1) k)=t.cell i (c+1)*(t.scale*F (t.name r) k) - t.cell i (c+1)*sm (n+1) (λj=>if j=c+1 then 0 else t.cell r j*t.base F j k):=by
  rw [r_,e2,aaI]
 rw [e3,<-dz,<-dz];have e4:sm (n+1) (λj=>if j=c+1 then 0 else (if j=c+1 then t.scale*t.cell i (c+1) else t.cell r (c+1)*t.cell i j - t.cell i (c+1)*t.cell r j)*lY (t.base F) (c+1) (F (t.name r)) j k)
   = sm (n+1) (λj=>t.cell r (c+1)*(if j=c+1 then 0 else t.cell i j*t.base F j k)) - sm (n+1) (λj=>t.cell i (c+1)*(if j=c+1 then 0 else t.cell r j*t.base F j k)):=by
  rw [<-zC];refine aC λj _=>?_;by_cases hj:j=c+1
  ·rw [h_ hj,h_ hj,h_ hj];omega
  ·rw [g_ hj,g_ hj,g_ hj,g_ hj,ji _ _ hj,abh,y_,y_]
 rw [e4,show t.scale*t.cell i (c+1)*F (t.name r) k=t.cell i (c+1)*(t.scale*F (t.name r) k) by rw [y_,r_]];omega
theorem bM.IP (h:bM F n t) {r c:Nat} (hr:r<t.lines.length) (hc:c<n) {e:Int} (he:mX (n+1) (t.base F)=e*t.scale):mX (n+1) ((t.swap r c).base F)=e*t.cell r (c+1):=by
 have h1:=Jt (R:=t.base F) (s:=t.scale) (v:=F (t.name r)) (c:=λj=>t.cell r j) (λk hk=>h.fB r hr k hk) (r:=c+1) (by omega);rw [aR.Ab F t r c (by rw [h.aS];exact hc)];rw [he] at h1;have hp:=h.pos;refine abf (a:=t.scale) (by omega) ?_;rw [h1,<-y_,u_,u_ (t.cell r (c+1)) e]
theorem bM.exact (h:bM F n t) {r c i:Nat} (hr:r<t.lines.length) (hi:i<t.lines.length) (hc:c<n) (hp:t.cell r (c+1)≠0) (j:Nat) (hj:j<n+1) (hjc:j≠c+1) :
  ∃ x,t.cell r (c+1)*t.cell i j - t.cell i (c+1)*t.cell r j=t.scale*x:=by
 obtain ⟨e,ee,he⟩:=h.F8;have hd:=h.IP hr hc he;have h1:=Jt (R:=(t.swap r c).base F) (s:=t.cell r (c+1)*t.scale) (v:=F (t.name i)) (λk hk=>h.LC hr hi hc k hk) (r:=j) hj;rw [hd] at h1;rw [g_ hjc] at h1;refine ⟨e*mX (n+1) (lY ((t.swap r c).base F) j (F (t.name i))),?_⟩;generalize mX (n+1) (lY ((t.swap r c).base F) j (F (t.name i)))=X at *
 generalize t.cell r (c+1)*t.cell i j - t.cell i (c+1)*t.cell r j=Y at *
 refine abf (a:=t.cell r (c+1)*e) ?_ ?_
 ·intro h0;rcases abG.1 h0 with h0|h0
  ·exact hp h0
  ·rw [h0] at ee;simp at ee
 ·have e1:t.cell r (c+1)*e*(t.scale*(e*X))=(e*e)*(t.cell r (c+1)*t.scale*X):=by
   simp only [y_,r_,u_]
  rw [e1,ee,h1,aaH];simp only [y_,r_,u_]
theorem bM.swap (h:bM F n t) {r c:Nat} (hr:r<t.lines.length) (hc:c<n) (hp:t.cell r (c+1)≠0):bM F n (t.swap r c):=by
 have hcl:=h.aS;have hsc:(t.swap r c).scale=((t.cell r (c+1)).natAbs:Int):=rfl;refine ⟨by rw [aR.Es];exact hcl,?_,by rw [hsc];omega,?_,?_⟩
 ·intro l hl;unfold aR.swap at hl;simp only at hl;obtain ⟨i,hi,rfl⟩:=aa5.1 hl;rw [List.getElem_mapIdx]
  split
  ·simp [aR.bK,hcl]
  ·simp [aR.told,hcl]
 ·obtain ⟨e,ee,he⟩:=h.F8;refine ⟨e*Int.sign (t.cell r (c+1)),?_,?_⟩
  ·have:=LB hp;rw [show e*Int.sign (t.cell r (c+1))*(e*Int.sign (t.cell r (c+1)))=(e*e)*(Int.sign (t.cell r (c+1))*Int.sign (t.cell r (c+1))) by simp only [y_,r_,u_],ee,this];rfl
  ·rw [h.IP hr hc he,hsc,<-sign_mul_self,y_,<-y_ (Int.sign (t.cell r (c+1))),LB hp,aaH]
 ·intro i hi k hk;rw [aR.iG] at hi;rw [aR.jG t r c i hi,hsc,<-sign_mul_self];have hcell:∀ j,j<n+1->(t.swap r c).cell i j=_:=λj hj=>aR.wh t r c i j hi (by rw [hcl];exact hj);by_cases hir:i=r
  ·rw [h_ hir];have e1:=h.QT hr hc k hk;have e2:F (t.fe c) k=t.base F (c+1) k:=by unfold aR.base;rw [g_ (by omega)];rfl
   rw [e2,y_,e1,fK (f:=λj=>(t.swap r c).cell i j*(t.swap r c).base F j k) (c+1) (by omega),hcell (c+1) (by omega),h_ hir,h_ rfl,aR.Ab F t r c (by rw [hcl];exact hc),iD,aaI,y_];have e3:sm (n+1) (λj=>if j=c+1 then 0 else (t.swap r c).cell i j*lY (t.base F) (c+1) (F (t.name r)) j k)=sm (n+1) (λj=>(-Int.sign (t.cell r (c+1)))*(if j=c+1 then 0 else t.cell r j*t.base F j k)):=by
    refine aC λj hj=>?_;by_cases hjc:j=c+1
    ·rw [h_ hjc,h_ hjc];omega
    ·rw [g_ hjc,g_ hjc,hcell j hj,h_ hir,g_ hjc,ji _ _ hjc];simp only [aaP,abC,y_]
   rw [e3,dz,aaP];omega
  ·rw [g_ hir];have e1:=h.LC hr hi hc k hk;have hs:=h.pos;refine abf (a:=t.scale) (by omega) ?_;rw [<-dz,show t.scale*(Int.sign (t.cell r (c+1))*t.cell r (c+1)*F (t.name i) k)=Int.sign (t.cell r (c+1))*((t.cell r (c+1)*t.scale)*F (t.name i) k) by simp only [y_,r_,u_],e1,<-dz];refine aC λj hj=>?_;rw [hcell j hj,g_ hir];by_cases hjc:j=c+1
   ·rw [h_ hjc,h_ hjc];simp only [y_,r_,u_]
   ·rw [g_ hjc,g_ hjc];obtain ⟨x,hx⟩:=h.exact hr hi hc hp j hj hjc;rw [hx,xC hs rfl];simp only [y_,r_,u_]
end
end Go.Proofs.YtgaafamcajcifaaGreat.Pl
