/- Joined: Plain XLimb XGen XDet XTab1. -/
import Derived.Test.YtfaljekgpnbmiaaGreatJ01
set_option linter.unusedVariables false
set_option linter.unusedSimpArgs false
set_option maxRecDepth 100000
namespace Go.Proofs.YtfaljekgpnbmiaaGreat.Pl
def Jf (a d:Int):Int:=if d<1 then 0 else a/d
theorem Sn (a d M:Int) (h:-M<=a) (h':a<=M):-M<=a.tdiv d∧a.tdiv d<=M:=by
 have h1:=Int.natAbs_tdiv_le_natAbs a d;omega
theorem Jg (a d:Int) (hd:1<=d):Jf a d=if a.tmod d<0 then a.tdiv d - 1 else a.tdiv d:=by
 unfold Jf;rw [g_ (by omega)];have e1:=Int.mul_tdiv_add_tmod a d;have e2:=aaz a d;have e3:=abh a (show d≠0 by omega);have e4:=abj a (show 0<d by omega);have e5:=Int.lt_tmod_of_pos a (show 0<d by omega);have e6:=Int.tmod_lt_of_pos a (show 0<d by omega)
 split
 ·have:d*(a/d - (a.tdiv d - 1))=(a.tmod d+d) - a%d:=by rw [aaZ,aaZ];omega
  have hx:a/d - (a.tdiv d - 1)=0:=by
   generalize a/d - (a.tdiv d - 1)=x at *
   have l1:d*x<d*1:=by omega
   have l2:d*(-1)<d*x:=by omega
   have:=abZ l1 (by omega);have:=abZ l2 (by omega);omega
  omega
 ·have:d*(a/d - a.tdiv d)=a.tmod d - a%d:=by rw [aaZ];omega
  have hx:a/d - a.tdiv d=0:=by
   generalize a/d - a.tdiv d=x at *
   have l1:d*x<d*1:=by omega
   have l2:d*(-1)<d*x:=by omega
   have:=abZ l1 (by omega);have:=abZ l2 (by omega);omega
  omega
end Go.Proofs.YtfaljekgpnbmiaaGreat.Pl

namespace Go.Proofs.YtfaljekgpnbmiaaGreat.Pl
open Go.RowKit
def lv:List Int->Int
 | []=>0
 | d::l=>d+1073741824*lv l
def ak (l:List Int):Prop:=∀ d∈l,0<=d∧d<1073741824
def aT (l:List Int) (i:Nat):Int:=l.getD i 0
def pv (l:List Int):Nat->Int
 | 0=>0
 | i+1=>pv l i+1073741824^i*aT l i
theorem pow_pos (i:Nat):(0:Int)<1073741824^i:=Int.pow_pos (by omega)
theorem pM (a b:List Int):lv (a++b)=lv a+1073741824^a.length*lv b:=by
 induction a with
 | nil=>simp [lv]
 | cons d a ih =>
  rw [List.cons_append,lv,lv,ih,ab6,aaJ,R_,y_,r_ (1073741824^a.length)];omega
theorem ak.nil:ak []:=λd h=>by simp at h
theorem ak.cons {d:Int} {l:List Int} (h0:0<=d) (h1:d<1073741824) (h:ak l):ak (d::l):=by
 intro x hx;rcases abp.1 hx with rfl|hx
 ·exact ⟨h0,h1⟩
 ·exact h x hx
theorem ak.append {a b:List Int} (h:ak a) (h':ak b):ak (a++b):=by
 intro x hx;rcases F_.1 hx with hx|hx
 ·exact h x hx
 ·exact h' x hx
theorem ak.take {a:List Int} (h:ak a) (n:Nat):ak (a.take n):=λx hx=>h x (List.mem_of_mem_take hx)
theorem ak.aT {l:List Int} (h:ak l) (i:Nat):0<=aT l i∧aT l i<1073741824:=by
 unfold Pl.aT;by_cases hi:i<l.length
 ·rw [a_,f_ hi];exact h _ (aan _)
 ·rw [a_,P_ (by omega)];simp
theorem mg {l:List Int} (h:ak l):0<=lv l∧lv l<1073741824^l.length:=by
 induction l with
 | nil=>simp [lv]
 | cons d l ih =>
  have h1:=h d (by simp);have h2:=ih (λx hx=>h x (by simp [hx]));rw [lv,ab6,aaJ];omega
theorem WJ (l:List Int) (k:Nat):pv l (l.length+k)=pv l l.length:=by
 induction k with
 | zero=>rfl
 | succ k ih =>
  rw [<-abY,pv,ih];have:aT l (l.length+k)=0:=by unfold aT;rw [a_,P_ (by omega)];rfl
  rw [this];simp
theorem yx (l:List Int) (i:Nat) (h:i<=l.length):pv l i=lv (l.take i):=by
 induction i with
 | zero=>simp [pv,lv]
 | succ i ih =>
  have hi:i<l.length:=by omega
  rw [pv,ih (by omega),X_ hi,pM,U_,abu (by omega)];simp only [lv,aT];rw [a_,f_ hi];simp
theorem iN (l:List Int) (n:Nat) (h:l.length<=n):pv l n=lv l:=by
 obtain ⟨k,rfl⟩:∃ k,n=l.length+k:=⟨n - l.length,by omega⟩;rw [WJ,yx l l.length (d_ _),aaV]
theorem nY {l:List Int} (h:ak l) (i:Nat):0<=pv l i∧pv l i<1073741824^i:=by
 induction i with
 | zero=>simp [pv]
 | succ i ih =>
  have hd:=h.aT i;rw [pv,aaJ];have hp:=pow_pos i;have h1:1073741824^i*aT l i<=1073741824^i*1073741823:=o_ (by omega) (by omega);have h2:=Z_ (abd hp) hd.1;omega
theorem nZ {i j:Nat} (h:i<=j):(1073741824:Int)^i<=1073741824^j:=by
 obtain ⟨k,rfl⟩:∃ k,j=i+k:=⟨j - i,by omega⟩
 induction k with
 | zero=>exact abk _
 | succ k ih =>
  have:=ih (by omega);have hp:=pow_pos (i+k);rw [<-abY,aaJ];omega
theorem WM {l:List Int} (h:ak l) (n:Nat) (hl:lv l<1073741824^n):pv l n=lv l:=by
 by_cases hn:l.length<=n
 ·exact iN l n hn
 ·have e:=pM (l.take n) (l.drop n);rw [List.take_append_drop,U_,abu (by omega)] at e;have b1:=mg (h.take n);have b2:0<=lv (l.drop n):=(mg (l:=l.drop n) (λx hx=>h x (List.mem_of_mem_drop hx))).1;rw [yx l n (by omega)];have hp:=pow_pos n;rcases adM b2 with hlt|heq
  ·have:1073741824^n*1<=1073741824^n*lv (l.drop n):=o_ (by omega) (by omega);omega
  ·rw [<-heq] at e;omega
theorem nA (P c:Int):P*(c%1073741824)+P*1073741824*(c/1073741824)=P*c:=by
 rw [y_,<-R_,Int.emod_add_mul_ediv]
theorem CJ (l:List Int) (n:Nat):lv (l++List.replicate n 0)=lv l:=by
 rw [pM];have:lv (List.replicate n 0)=0:=by
  induction n with
  | zero=>rfl
  | succ n ih=>rw [List.replicate_succ,lv,ih];rfl
 rw [this];simp
theorem Bq (l:List Int) (d:Int):lv (l++[d])=lv l+1073741824^l.length*d:=by rw [pM];simp [lv]
theorem Ce {a d q:Int} (hd:0<d) (h1:q*d<=a) (h2:a<q*d+d):a/d=q:=by
 have e1:q<=a/d:=Int.le_ediv_of_mul_le hd h1;have e2:a/d<q+1:=acZ hd (by rw [abb];omega);omega
theorem rY (a:Int) (h0:-9223372036854775808<=a) (h1:a<=9223372036854775807):bits .and .i64 a 1073741823=a%1073741824:=by
 have e:(BitVec.ofInt 64 a &&& BitVec.ofInt 64 1073741823).toNat=((a%1073741824).toNat):=by
  rw [BitVec.toNat_and,show (BitVec.ofInt 64 1073741823).toNat=2^30 - 1 from rfl,Nat.and_two_pow_sub_one_eq_mod,BitVec.toNat_ofInt];omega
 show IntKind.i64.wrap ((BitVec.ofInt 64 a &&& BitVec.ofInt 64 1073741823).toNat:Int)=_;rw [e];simp only [IntKind.wrap,IntKind.bits,IntKind.signed];have:0<=a%1073741824∧a%1073741824<1073741824:=⟨abh _ (by omega),abj _ (by omega)⟩;rw [Int.toNat_of_nonneg this.1];simp;omega
end Go.Proofs.YtfaljekgpnbmiaaGreat.Pl

namespace Go.Proofs.YtfaljekgpnbmiaaGreat
open Go.RowKit
theorem af {p:Prop} (h:p):Hid p:=h
theorem uh {p:Prop} (h:Hid p):p:=h
theorem Bf {k:IntKind} {a b:Int} (h:a=b):Ending.returned (.int k a)=.returned (.int k b):=by rw [h]
theorem Cm {a b:Bool} (h:a=b):Ending.returned (.bool a)=.returned (.bool b):=by rw [h]
theorem bT {w:World} {B:Nat} {e:TypeId} {size:Nat} {v:Value} {n:Nat} {xs:List Value} (h:w.ownsRow B e size v n xs):∀ k,v.ownBlock=some k->B<=k:=λk hk=>(h.lt k hk).1
def bG (n:Int):Value:=.int .i64 n
def aI (B:Nat) (w:World) (v:Value) (l:List Int):Prop:=w.ownsRow B 3 1 v l.length (l.map bG)
def aA (e:TypeId) (w w':World):Prop:=∀ (k:Nat) (cur:Array Value),w.heap[k]?=some (Obj.cells cur e (0,0))->w'.heap[k]?=w.heap[k]?
theorem aA.aX {e:TypeId} {w w':World} (h:Below w.heap.size w w'):aA e w w':=λk _ hk=>h.block k (z_ hk)
theorem aA.trans {e:TypeId} {w w' w2:World} (h:aA e w w') (h2:aA e w' w2):aA e w w2:=λk cur hk=>by
 have e1:=h k cur hk;rw [h2 k cur (e1.trans hk),e1]
theorem aA.setCell {e T:TypeId} {w:World} {b:Nat} {cs:Array Value} {fz:Nat × Nat} (hb:w.heap[b]?=some (.cells cs T fz)) (hne:T≠e) (o:Nat) (u:Value):aA e w (w.setCell ⟨b,o,none⟩ u):=λk cur hk=>by
 refine l_ _ _ _ _ ?_;rintro rfl;rw [hb] at hk;cases hk;exact hne rfl
theorem aA.grown {e e':TypeId} {w w':World} {B size n:Nat} {v:Value} {xs:List Value} (ho:w.ownsRow B e' size v n xs) (hg:w.grownBy w' v.ownBlock) (hne:e'≠e):aA e w w':=λk cur hk=>by
 refine hg.block k (z_ hk) ?_;intro hv;rcases ho.2 with ⟨rfl,_⟩|⟨g,cap,c2,rfl,_,hgg,_⟩
 ·simp [Value.ownBlock] at hv
 ·simp [Value.ownBlock] at hv;subst hv;rw [hgg] at hk;cases hk;exact hne rfl
theorem aA.alloc (e:TypeId) (w:World) (o:Obj):aA e w (w.alloc o):=.aX ((n_ _ _).alloc (d_ _) o)
theorem aW {w w':World} {B:Nat} {e:TypeId} {size:Nat} {v:Value} {n:Nat} {xs:List Value} (h:w.ownsRow B e size v n xs) (hk:aA e w w'):w'.ownsRow B e size v n xs:=by
 refine ⟨h.1,?_⟩;rcases h.2 with hn|⟨g,cap,cur,rfl,hb,hgg,rest⟩
 ·exact .inl hn
 ·exact .inr ⟨g,cap,cur,rfl,hb,by rw [hk g cur hgg];exact hgg,rest⟩
theorem Vw {w:World} {B:Nat} {e:TypeId} {size:Nat} {v:Value} {n:Nat} {xs:List Value} (h:w.ownsRow B e size v n xs) (g:Nat) (hg:v.ownBlock=some g):g<w.heap.size:=by
 rcases h.2 with ⟨rfl,_⟩|⟨g',cap,cur,rfl,hb,hgg,rest⟩
 ·simp [Value.ownBlock] at hg
 ·simp [Value.ownBlock] at hg;subst hg;exact z_ hgg
theorem cellsOf {w:World} {b:Nat} {cs:Array Value} {T:TypeId} (h:w.heap[b]?=some (.cells cs T (0,0))) (i:Nat):w.cell? ⟨b,i,none⟩=cs[i]?:=by simp [World.cell?,h]
theorem aH {w:World} {b:Nat} {cs:Array Value} {T:TypeId} (h:w.heap[b]?=some (.cells cs T (0,0))) (i:Nat):w.frozen? ⟨b,i,none⟩=false:=by simp [World.frozen?,h]
theorem Tryz.jN:(Tryz.prog.info? 3).map (λi=>(i.zero,i.size,i.bytes))=some (some (.int .i64 0),1,8):=by kernel_rfl
def bJ (w:World) (v:Value) (l:List Int):Prop :=
 ∃ ad cap,v=.slice ad l.length cap∧∀ i,i<l.length->∃ b off,ad=some ⟨b,off,none⟩∧w.cell? ⟨b,off+i,none⟩=some (.int .i64 (l.getD i 0))
theorem cZ {B:Nat} {w:World} {v:Value} {l:List Int} (h:aI B w v l):bJ w v l:=by
 rcases h.2 with ⟨rfl,hn⟩|⟨g,cap,cur,rfl,hb,hgg,hle,hm,hcs,htk⟩
 ·exact ⟨none,0,by rw [hn],λi hi=>by omega⟩
 ·refine ⟨some ⟨g,0,none⟩,cap,rfl,λi hi=>⟨g,0,rfl,?_⟩⟩;have:=World.ownsRow.cellAt (show w.ownsRow B 3 1 (.slice (some ⟨g,0,none⟩) l.length cap) l.length (l.map bG) from h) i (by omega);rw [M_,this,aas,f_ hi,a_,f_ hi];rfl
theorem rJ {w w':World} {a:Addr} {x:Value} (h:Below w.heap.size w w') (hc:w.cell? a=some x):w'.cell? a=some x :=
 (h.cell (World.block_lt_of_cell? w a hc)).trans hc
theorem bJ.below {w w':World} {v:Value} {l:List Int} (h:bJ w v l) (hb:Below w.heap.size w w'):bJ w' v l:=by
 obtain ⟨ad,cap,hv,hc⟩:=h;refine ⟨ad,cap,hv,λi hi=>?_⟩;obtain ⟨b,off,hg,h1⟩:=hc i hi;exact ⟨b,off,hg,rJ hb h1⟩
theorem nW {w:World} {ad:Option Addr} {n cap:Nat} {l:List Int} (h:bJ w (.slice ad n cap) l) (i:Nat) (hi:i<l.length):∃ b off,ad=some ⟨b,off,none⟩∧w.cell? ⟨b,off+i,none⟩=some (.int .i64 l[i]):=by
 obtain ⟨_,_,he,hc⟩:=h;simp only [Value.slice.injEq] at he;obtain ⟨b,off,e1,e2⟩:=hc i hi;refine ⟨b,off,he.1.trans e1,?_⟩;rw [e2,a_,f_ hi];rfl
structure iw (b:Nat) (w w':World):Prop where
 os:w'.os=w.os
 tape:w'.tape=w.tape
 output:w'.output=w.output
 size:w.heap.size<=w'.heap.size
 block:∀ k:Nat,k<w.heap.size->k≠b->w'.heap[k]?=w.heap[k]?
theorem iw.aX {b:Nat} {w w':World} (h:Below w.heap.size w w'):iw b w w':=⟨h.os,h.tape,h.output,h.size,λk hk _=>h.block k hk⟩
theorem iw.trans {b:Nat} {w w' w2:World} (h:iw b w w') (h2:iw b w' w2):iw b w w2 :=
 ⟨h2.os.trans h.os,h2.tape.trans h.tape,h2.output.trans h.output,w_ h.size h2.size,λk hk hne=>(h2.block k (abA hk h.size) hne).trans (h.block k hk hne)⟩
theorem iw.setCell {b:Nat} {w w':World} (h:iw b w w') (o:Nat) (u:Value):iw b w (w'.setCell ⟨b,o,none⟩ u) :=
 h.trans ⟨rfl,rfl,rfl,by simp,λk _ hne=>l_ _ _ _ _ hne⟩
theorem iw.below {b B:Nat} {w w':World} (h:iw b w w') (hb:B<=b) (hB:B<=w.heap.size):Below B w w':=⟨h.os,h.tape,h.output,h.size,λk hk=>h.block k (by omega) (by omega)⟩
end Go.Proofs.YtfaljekgpnbmiaaGreat

namespace Go.Proofs.YtfaljekgpnbmiaaGreat.Pl
def sm:Nat->(Nat->Int)->Int
 | 0,_=>0
 | n+1,f=>sm n f+f n
theorem aC {n:Nat} {f g:Nat->Int} (h:∀ i,i<n->f i=g i):sm n f=sm n g:=by
 induction n with
 | zero=>rfl
 | succ n ih=>rw [sm,sm,ih λi hi=>h i (by omega),h n (by omega)]
theorem zD (n:Nat) (f g:Nat->Int):sm n (λi=>f i+g i)=sm n f+sm n g:=by
 induction n with
 | zero=>rfl
 | succ n ih=>simp only [sm,ih];omega
theorem zF (n:Nat) (f g:Nat->Int):sm n (λi=>f i - g i)=sm n f - sm n g:=by
 induction n with
 | zero=>rfl
 | succ n ih=>simp only [sm,ih];omega
theorem dA (n:Nat) (a:Int) (f:Nat->Int):sm n (λi=>a*f i)=a*sm n f:=by
 induction n with
 | zero=>simp [sm]
 | succ n ih=>simp only [sm,ih,R_]
theorem kF {n:Nat} {f:Nat->Int} (h:∀ i,i<n->f i=0):sm n f=0:=by
 induction n with
 | zero=>rfl
 | succ n ih=>rw [sm,ih λi hi=>h i (by omega),h n (by omega)];rfl
theorem iM {n:Nat} {f:Nat->Int} (j:Nat) (hj:j<n) (h:∀ i,i<n->i≠j->f i=0):sm n f=f j:=by
 induction n with
 | zero=>omega
 | succ n ih =>
  rw [sm];by_cases hn:j=n
  ·rw [kF λi hi=>h i (by omega) (by omega),hn];omega
  ·rw [ih (by omega) λi hi=>h i (by omega),h n (by omega) (by omega)];omega
theorem JS {n:Nat} {f:Nat->Int} (j k:Nat) (hj:j<n) (hk:k<n) (hjk:j≠k) (h:∀ i,i<n->i≠j->i≠k->f i=0):sm n f=f j+f k:=by
 have e:sm n f=sm n (λi=>(if i=j then f i else 0)+(if i=j then 0 else f i)):=aC λi _=>by split <;> omega
 rw [e,zD,iM j hj λi _ hi=>g_ hi,iM k hk λi hi hik=>?_,h_ rfl,g_ (λe=>hjk e.symm)];by_cases hij:i=j
 ·rw [h_ hij]
 ·rw [g_ hij];exact h i hi hij hik
theorem oW (n m:Nat) (f:Nat->Nat->Int):sm n (λi=>sm m (λj=>f i j))=sm m (λj=>sm n (λi=>f i j)):=by
 induction n with
 | zero=>rw [sm];exact (kF λ_ _=>rfl).symm
 | succ n ih=>simp only [sm,ih];rw [zD]
theorem fO {n:Nat} {f:Nat->Int} (j:Nat) (hj:j<n):sm n f=f j+sm n (λi=>if i=j then 0 else f i):=by
 have e:sm n f=sm n (λi=>(if i=j then f i else 0)+(if i=j then 0 else f i)):=aC λi _=>by split <;> omega
 rw [e,zD,iM j hj λi _ hi=>g_ hi,h_ rfl]
theorem vU {n:Nat} {f:Nat->Int} (h:∀ i,i<n->f i<=0):sm n f<=0:=by
 induction n with
 | zero=>exact abk 0
 | succ n ih=>rw [sm];have h1:=ih λi hi=>h i (by omega);have h2:=h n (by omega);omega
theorem vV {n:Nat} {f:Nat->Int} (h:∀ i,i<n->0<=f i):0<=sm n f:=by
 induction n with
 | zero=>exact abk 0
 | succ n ih=>rw [sm];have h1:=ih λi hi=>h i (by omega);have h2:=h n (by omega);omega
theorem GA {n:Nat} {f:Nat->Int} (h:0<sm n f):∃ i,i<n∧0<f i:=by
 apply v_;intro hc;have:=vU (n:=n) (f:=f) λi hi=>by
  apply v_;intro h1;exact hc ⟨i,hi,by omega⟩
 omega
theorem PW {n:Nat} {f:Nat->Int} {b:Int} (h:∀ i,i<n->-b<=f i∧f i<=b):-(n*b)<=sm n f∧sm n f<=n*b:=by
 induction n with
 | zero=>simp [sm]
 | succ n ih =>
  have h1:=ih λi hi=>h i (by omega);have h2:=h n (by omega);have e:((n+1:Nat):Int)*b=n*b+b:=by rw [Int.natCast_add,abb];simp
  rw [sm,e];omega
def Lr (k:Nat):Int:=if k%2=0 then 1 else -1
theorem PX (k:Nat):Lr (k+1)=-Lr k:=by
 unfold Lr;rcases Nat.mod_two_eq_zero_or_one k with h|h
 ·rw [g_ (by omega),h_ h]
 ·rw [h_ (by omega),g_ (by omega)];rfl
def del (i:Nat) (R:Nat->Nat->Int):Nat->Nat->Int:=λk=>if k<i then R k else R (k+1)
def l8 (R:Nat->Nat->Int) (j:Nat) (v:Nat->Int):Nat->Nat->Int:=λi=>if i=j then v else R i
def ng:Nat->(Nat->Nat->Int)->Int
 | 0,_=>1
 | m+1,R=>sm (m+1) (λi=>Lr (i+m)*(R i m*ng m (del i R)))
theorem iF (R:Nat->Nat->Int) (j:Nat) (v:Nat->Int):l8 R j v j=v:=by unfold l8;rw [h_ rfl]
theorem jl (R:Nat->Nat->Int) {i j:Nat} (v:Nat->Int) (h:i≠j):l8 R j v i=R i:=by unfold l8;rw [g_ h]
theorem rQ (R:Nat->Nat->Int) {i j:Nat} (u v:Nat->Int) (h:i≠j):l8 (l8 R i u) j v=l8 (l8 R j v) i u:=by
 funext k;unfold l8;by_cases h1:k=j
 ·rw [h_ h1,g_ (by omega),h_ h1]
 ·rw [g_ h1];by_cases h2:k=i
  ·rw [h_ h2,h_ h2]
  ·rw [g_ h2,g_ h2,g_ h1]
theorem yw (R:Nat->Nat->Int) (j:Nat):l8 R j (R j)=R:=by
 funext i;unfold l8;split
 ·rename_i h;rw [h]
 ·rfl
theorem ni:∀ (m:Nat) {R S:Nat->Nat->Int},(∀ i j,i<m->j<m->R i j=S i j)->ng m R=ng m S
 | 0,_,_,_=>rfl
 | m+1,R,S,h=>by
  rw [ng,ng];refine aC λi hi=>?_;rw [h i m hi (by omega),ni m (R:=del i R) (S:=del i S) λk j hk hj=>?_];unfold del
  split
  ·exact h k j (by omega) (by omega)
  ·exact h (k+1) j (by omega) (by omega)
theorem sP (R:Nat->Nat->Int) (r:Nat) (v:Nat->Int):del r (l8 R r v)=del r R:=by
 funext k;unfold del
 split
 ·rw [jl R v (by omega)]
 ·rw [jl R v (by omega)]
theorem JU (R:Nat->Nat->Int) {i r:Nat} (v:Nat->Int) (h:r<i):del i (l8 R r v)=l8 (del i R) r v:=by
 funext k;by_cases hk:k=r
 ·rw [hk,iF];unfold del;rw [h_ h,iF]
 ·rw [jl _ v hk];unfold del
  split
  ·rw [jl _ v hk]
  ·rw [jl _ v (by omega)]
theorem JV (R:Nat->Nat->Int) {i r:Nat} (v:Nat->Int) (h:i<r):del i (l8 R r v)=l8 (del i R) (r - 1) v:=by
 funext k;by_cases hk:k=r - 1
 ·rw [hk,iF];unfold del;rw [g_ (by omega),show r - 1+1=r by omega,iF]
 ·rw [jl _ v hk];unfold del
  split
  ·rw [jl _ v (by omega)]
  ·rw [jl _ v (by omega)]
theorem p9:∀ (m:Nat) (R:Nat->Nat->Int) (r:Nat) (a b:Int) (u v:Nat->Int),r<m ->
  ng m (l8 R r (λj=>a*u j+b*v j))=a*ng m (l8 R r u)+b*ng m (l8 R r v)
 | 0,_,_,_,_,_,_,h=>by omega
 | m+1,R,r,a,b,u,v,h=>by
  rw [ng,ng,ng,<-dA,<-dA,<-zD];refine aC λi hi=>?_;by_cases hir:i=r
  ·subst hir;rw [iF,iF,iF,sP,sP,sP,abb,R_];congr 1
   ·rw [y_,r_]
   ·rw [y_,r_]
  ·have key:∀ q,q<m->(∀ x,del i (l8 R r x)=l8 (del i R) q x) ->
     Lr (i+m)*(R i m*ng m (del i (l8 R r λj=>a*u j+b*v j)))=a*(Lr (i+m)*(R i m*ng m (del i (l8 R r u))))+b*(Lr (i+m)*(R i m*ng m (del i (l8 R r v)))):=by
    intro q hq hx;rw [hx,hx,hx,p9 m (del i R) q a b u v hq];generalize ng m (l8 (del i R) q u)=X;generalize ng m (l8 (del i R) q v)=Y;rw [R_,R_,r_ (R i m) a X,r_ (R i m) b Y,r_ (Lr (i+m)) a,r_ (Lr (i+m)) b]
   rw [jl _ _ hir,jl _ _ hir,jl _ _ hir];by_cases hlt:r<i
   ·exact key r (by omega) λx=>JU R x hlt
   ·exact key (r - 1) (by omega) λx=>JV R x (by omega)
theorem Bh:∀ (m:Nat) (R:Nat->Nat->Int) (p:Nat),p+1<m->R p=R (p+1)->ng m R=0
 | 0,_,_,h,_=>by omega
 | m+1,R,p,h,he=>by
  rw [ng,JS p (p+1) (by omega) h (by omega) λi hi h1 h2=>?_]
  ·have e:del p R=del (p+1) R:=by
    funext k;unfold del;by_cases hk:k<p
    ·rw [h_ hk,h_ (by omega)]
    ·rw [g_ hk];by_cases hk2:k=p
     ·rw [h_ (by omega),hk2,he]
     ·rw [g_ (by omega)]
   rw [e,show p+1+m=(p+m)+1 by omega,PX,he,abe];omega
  ·have h0:ng m (del i R)=0:=by
    by_cases UB:i<p
    ·refine Bh m (del i R) (p - 1) (by omega) ?_;unfold del;rw [g_ (by omega),g_ (by omega),show p - 1+1=p by omega];exact he
    ·refine Bh m (del i R) p (by omega) ?_;unfold del;rw [h_ (by omega),h_ (by omega)];exact he
   rw [h0,Y_,Y_]
theorem PY (m:Nat) (R:Nat->Nat->Int) (p:Nat) (h:p+1<m) (u v:Nat->Int) :
  ng m (l8 (l8 R p u) (p+1) v)=-ng m (l8 (l8 R p v) (p+1) u):=by
 have lin:=λ(x y:Nat->Int) (r:Nat) (hr:r<m) (S:Nat->Nat->Int)=>p9 m S r 1 1 x y hr;have z:∀ x,ng m (l8 (l8 R p x) (p+1) x)=0:=λx=>Bh m _ p h (by rw [iF,jl _ _ (by omega),iF]);have e0:=z (λj=>1*u j+1*v j);rw [lin _ _ (p+1) h,rQ R _ _ (show p≠p+1 by omega),rQ R _ _ (show p≠p+1 by omega),lin _ _ p (by omega),lin _ _ p (by omega),
  <- rQ R _ _ (show p≠p+1 by omega),<-rQ R _ _ (show p≠p+1 by omega),<-rQ R _ _ (show p≠p+1 by omega),<-rQ R _ _ (show p≠p+1 by omega),z u,z v] at e0
 omega
theorem JW (m:Nat):∀ (d:Nat) (R:Nat->Nat->Int) (p q:Nat),q=p+1+d->q<m->R p=R q->ng m R=0
 | 0,R,p,q,hq,hm,he=>Bh m R p (by omega) (by rw [he,hq])
 | d+1,R,p,q,hq,hm,he=>by
  have e:R=l8 (l8 R (q - 1) (R (q - 1))) (q - 1+1) (R (q - 1+1)):=by rw [yw,yw]
  rw [e,PY m R (q - 1) (by omega)];rw [JW m d _ p (q - 1) (by omega) (by omega) ?_]
  ·rfl
  ·rw [jl _ _ (by omega),jl _ _ (by omega),jl _ _ (by omega),iF,show q - 1+1=q by omega];exact he
theorem Ls {m:Nat} {R:Nat->Nat->Int} {p q:Nat} (hpq:p≠q) (hp:p<m) (hq:q<m) (he:R p=R q):ng m R=0:=by
 by_cases h:p<q
 ·exact JW m (q - p - 1) R p q (by omega) hq he
 ·exact JW m (p - q - 1) R q p (by omega) hp he.symm
def unit (i j:Nat):Int:=if i=j then 1 else 0
theorem Cb:∀ m,ng m unit=1
 | 0=>rfl
 | m+1=>by
  rw [ng,iM m (by omega) λi _ hi=>by unfold unit;rw [g_ hi];simp];have e:ng m (del m unit)=1:=by
   rw [<-Cb m];refine ni m λi j hi _=>?_;unfold del;rw [h_ hi]
  rw [e];have e2:unit m m=1:=h_ rfl;have e3:Lr (m+m)=1:=by unfold Lr;rw [h_ (by omega)]
  rw [e2,e3];rfl
theorem Fv (m:Nat) (R:Nat->Nat->Int) (r:Nat) (hr:r<m) (c:Nat->Int) (V:Nat->Nat->Int):∀ n,
  ng m (l8 R r (λj=>sm n (λk=>c k*V k j)))=sm n (λk=>c k*ng m (l8 R r (V k)))
 | 0=>by
  have e:(λj=>sm 0 (λk=>c k*V k j))=(λj=>0*R r j+0*R r j):=by funext j;simp [sm]
  rw [e,p9 m R r 0 0 _ _ hr];simp [sm]
 | n+1=>by
  have e:(λj=>sm (n+1) (λk=>c k*V k j))=(λj=>1*sm n (λk=>c k*V k j)+c n*V n j):=by funext j;rw [sm];omega
  rw [e,p9 m R r 1 (c n) _ _ hr,Fv m R r hr c V n,sm];omega
theorem M7 (m:Nat) (R:Nat->Nat->Int) (r:Nat) (hr:r<m) (a:Int) (u:Nat->Int):ng m (l8 R r (λj=>a*u j))=a*ng m (l8 R r u):=by
 have e:(λj=>a*u j)=(λj=>a*u j+0*u j):=by funext j;omega
 rw [e,p9 m R r a 0 _ _ hr];omega
theorem JX {m:Nat} {R:Nat->Nat->Int} {s:Int} {v:Nat->Int} {c:Nat->Int} (h:∀ j,j<m->s*v j=sm m (λk=>c k*R k j)) {r:Nat} (hr:r<m) :
  s*ng m (l8 R r v)=c r*ng m R:=by
 rw [<-M7 m R r hr s v];have e:ng m (l8 R r (λj=>s*v j))=ng m (l8 R r (λj=>sm m (λk=>c k*R k j))):=by
  refine ni m λi j _ hj=>?_;unfold l8
  split
  ·exact h j hj
  ·rfl
 rw [e,Fv m R r hr c R m,iM r hr λk hk hkr=>?_,yw];rw [Ls (p:=r) (q:=k) (λe=>hkr e.symm) hr hk (by rw [iF,jl _ _ hkr]),Y_]
def Lu:Nat->Int
 | 0=>1
 | n+1=>(n+1)*Lu n
theorem xq {a b x y:Int} (ha:-x<=a∧a<=x) (hb:-y<=b∧b<=y):-(x*y)<=a*b∧a*b<=x*y:=by
 have hx:0<=x:=by omega
 have hy:0<=y:=by omega
 have h1:0<=(x - a)*(y - b):=Z_ (by omega) (by omega);have h2:0<=(x+a)*(y+b):=Z_ (by omega) (by omega);have h3:0<=(x - a)*(y+b):=Z_ (by omega) (by omega);have h4:0<=(x+a)*(y - b):=Z_ (by omega) (by omega);simp only [abL,abb,aaZ,R_] at h1 h2 h3 h4;omega
theorem zG:∀ (m:Nat) (R:Nat->Nat->Int) (B:Int),0<=B->(∀ i j,i<m->j<m->-B<=R i j∧R i j<=B)->-(Lu m*B^m)<=ng m R∧ng m R<=Lu m*B^m
 | 0,R,B,_,_=>by simp [ng,Lu]
 | m+1,R,B,hB,h=>by
  rw [ng];have hs:∀ i,i<m+1->-(B*(Lu m*B^m))<=Lr (i+m)*(R i m*ng m (del i R))∧Lr (i+m)*(R i m*ng m (del i R))<=B*(Lu m*B^m):=λi hi=>by
   have h1:=xq (h i m hi (by omega)) (zG m (del i R) B hB λk j hk hj=>by
    unfold del
    split
    ·exact h k j (by omega) (by omega)
    ·exact h (k+1) j (by omega) (by omega))
   unfold Lr
   split
   ·omega
   ·omega
  have:=PW hs;rw [Lu,aaJ];have e:(↑m+1)*Lu m*(B^m*B)=((m+1:Nat):Int)*(B*(Lu m*B^m)):=by
   rw [Int.natCast_add,y_];congr 1;rw [u_ B,<-y_]
  rw [e];exact this
structure aR where
 lines:List (Int × List Int)
 aS:List Int
 scale:Int
def aR.name (t:aR) (r:Nat):Int:=(t.lines.getD r (0,[])).1
def aR.cell (t:aR) (r j:Nat):Int:=(t.lines.getD r (0,[])).2.getD j 0
def aR.fu (t:aR) (c:Nat):Int:=t.aS.getD c 0
def aR.base (F:Int->Nat->Int) (t:aR):Nat->Nat->Int:=λi=>if i=0 then unit 0 else F (t.fu (i - 1))
structure bN (F:Int->Nat->Int) (n:Nat) (t:aR):Prop where
 aS:t.aS.length=n
 cells:∀ l∈t.lines,l.2.length=n+1
 pos:0<t.scale
 Gd:∃ e:Int,e*e=1∧ng (n+1) (t.base F)=e*t.scale
 fD:∀ r,r<t.lines.length->∀ k,k<n+1->t.scale*F (t.name r) k=sm (n+1) (λj=>t.cell r j*t.base F j k)
def aR.told (t:aR) (i r c:Nat) (sg:Int):List Int:=(List.range (t.aS.length+1)).map λj=>sg*(if j=c then t.cell i c else Int.fdiv (t.cell r c*t.cell i j - t.cell i c*t.cell r j) t.scale)
def aR.bL (t:aR) (r c:Nat) (sg:Int):List Int:=(List.range (t.aS.length+1)).map λj=>sg*(if j=c then t.scale else -t.cell r j)
def aR.swap (t:aR) (r c:Nat):aR :=
 { lines:=t.lines.mapIdx λi l=>if i=r then (t.fu c,t.bL r (c+1) (Int.sign (t.cell r (c+1)))) else (l.1,t.told i r (c+1) (Int.sign (t.cell r (c+1)))),aS:=t.aS.set c (t.name r),scale:=(t.cell r (c+1)).natAbs }
theorem bK (n:Nat) (f:Nat->Int) (j:Nat) (h:j<n):((List.range n).map f).getD j 0=f j:=by
 rw [a_,aas,abK h];rfl
theorem aR.iI (t:aR) (r c:Nat):(t.swap r c).lines.length=t.lines.length:=by simp [aR.swap]
theorem aR.Ev (t:aR) (r c:Nat):(t.swap r c).aS.length=t.aS.length:=by simp [aR.swap]
theorem aR.E8 (t:aR) (r c i:Nat) (hi:i<t.lines.length):(t.swap r c).lines.getD i (0,[])=if i=r then (t.fu c,t.bL r (c+1) (Int.sign (t.cell r (c+1)))) else (t.name i,t.told i r (c+1) (Int.sign (t.cell r (c+1)))):=by
 unfold aR.swap aR.name;simp only;rw [a_,abH,f_ hi,a_,f_ hi];simp only [Option.map_some,Option.getD_some]
theorem aR.jI (t:aR) (r c i:Nat) (hi:i<t.lines.length):(t.swap r c).name i=if i=r then t.fu c else t.name i:=by
 unfold aR.name;rw [aR.E8 t r c i hi]
 split <;> rfl
theorem aR.j5 (t:aR) (r c k:Nat) (hc:c<t.aS.length):(t.swap r c).fu k=if k=c then t.name r else t.fu k:=by
 unfold aR.swap aR.fu;simp only;rw [a_,List.getElem?_set,a_];by_cases hk:k=c
 ·subst hk;rw [h_ rfl,h_ hc,h_ rfl];rfl
 ·rw [g_ (λe=>hk e.symm),g_ hk]
theorem aR.wu (t:aR) (r c i j:Nat) (hi:i<t.lines.length) (hj:j<t.aS.length+1) :
  (t.swap r c).cell i j=Int.sign (t.cell r (c+1))*(if i=r then (if j=c+1 then t.scale else -t.cell r j) else (if j=c+1 then t.cell i (c+1) else Int.fdiv (t.cell r (c+1)*t.cell i j - t.cell i (c+1)*t.cell r j) t.scale)):=by
 conv=>lhs;unfold aR.cell
 rw [aR.E8 t r c i hi];by_cases h:i=r
 ·rw [h_ h,h_ h];unfold aR.bL;simp only;rw [bK _ _ _ hj]
 ·rw [g_ h,g_ h];unfold aR.told;simp only;rw [bK _ _ _ hj]
theorem aR.Ad (F:Int->Nat->Int) (t:aR) (r c:Nat) (hc:c<t.aS.length):(t.swap r c).base F=l8 (t.base F) (c+1) (F (t.name r)):=by
 funext i;unfold l8 aR.base;by_cases hi:i=c+1
 ·rw [h_ hi,g_ (by omega),aR.j5 t r c _ hc,h_ (by omega)]
 ·rw [g_ hi];by_cases h0:i=0
  ·rw [h_ h0,h_ h0]
  ·rw [g_ h0,g_ h0,aR.j5 t r c _ hc,g_ (by omega)]
theorem Ml {p:Int} (h:p≠0):Int.sign p*Int.sign p=1:=by
 rcases (show p<0∨0<p by omega) with h|h
 ·rw [E_ h];rfl
 ·rw [J_ h];rfl
theorem sign_mul_self (p:Int):Int.sign p*p=p.natAbs:=by
 rcases (show p<0∨p=0∨0<p by omega) with h|h|h
 ·rw [E_ h];omega
 ·subst h;rfl
 ·rw [J_ h];omega
theorem xE {a s x:Int} (hs:0<s) (h:a=s*x):Int.fdiv a s=x:=by
 rw [h,u_,Int.mul_fdiv_cancel _ (by omega)]
section
variable {F:Int->Nat->Int} {n:Nat} {t:aR}
theorem bN.RD (h:bN F n t) {r c:Nat} (hr:r<t.lines.length) (hc:c<n) (k:Nat) (hk:k<n+1) :
  t.cell r (c+1)*t.base F (c+1) k=t.scale*F (t.name r) k - sm (n+1) (λj=>if j=c+1 then 0 else t.cell r j*t.base F j k):=by
 have e:=h.fD r hr k hk;rw [fO (c+1) (by omega)] at e;omega
theorem bN.Mm (h:bN F n t) {r c i:Nat} (hr:r<t.lines.length) (hi:i<t.lines.length) (hc:c<n) (k:Nat) (hk:k<n+1) :
  (t.cell r (c+1)*t.scale)*F (t.name i) k=sm (n+1) (λj=>(if j=c+1 then t.scale*t.cell i (c+1) else t.cell r (c+1)*t.cell i j - t.cell i (c+1)*t.cell r j)*(t.swap r c).base F j k):=by
 have e1:=h.fD i hi k hk;have e2:=h.RD hr hc k hk;rw [fO (c+1) (by omega)] at e1;rw [fO (c+1) (by omega),aR.Ad F t r c (by rw [h.aS];exact hc),iF,h_ rfl,y_,e1,R_];have e3:t.cell r (c+1)*(t.cell i (c+1)*t.base F (c+1) k)=t.cell i (c+1)*(t.scale*F (t.name r) k) - t.cell i (c+1)*sm (n+1) (λj=>if j=c+1 then 0 else t.cell r j*t.base F j k):=by
  rw [r_,e2,aaZ]
 rw [e3,<-dA,<-dA];have e4:sm (n+1) (λj=>if j=c+1 then 0 else (if j=c+1 then t.scale*t.cell i (c+1) else t.cell r (c+1)*t.cell i j - t.cell i (c+1)*t.cell r j)*l8 (t.base F) (c+1) (F (t.name r)) j k)
   = sm (n+1) (λj=>t.cell r (c+1)*(if j=c+1 then 0 else t.cell i j*t.base F j k)) - sm (n+1) (λj=>t.cell i (c+1)*(if j=c+1 then 0 else t.cell r j*t.base F j k)):=by
  rw [<-zF];refine aC λj _=>?_;by_cases hj:j=c+1
  ·rw [h_ hj,h_ hj,h_ hj];omega
  ·rw [g_ hj,g_ hj,g_ hj,g_ hj,jl _ _ hj,abL,y_,y_]
 rw [e4,show t.scale*t.cell i (c+1)*F (t.name r) k=t.cell i (c+1)*(t.scale*F (t.name r) k) by rw [y_,r_]];omega
theorem bN.IX (h:bN F n t) {r c:Nat} (hr:r<t.lines.length) (hc:c<n) {e:Int} (he:ng (n+1) (t.base F)=e*t.scale):ng (n+1) ((t.swap r c).base F)=e*t.cell r (c+1):=by
 have h1:=JX (R:=t.base F) (s:=t.scale) (v:=F (t.name r)) (c:=λj=>t.cell r j) (λk hk=>h.fD r hr k hk) (r:=c+1) (by omega);rw [aR.Ad F t r c (by rw [h.aS];exact hc)];rw [he] at h1;have hp:=h.pos;refine abJ (a:=t.scale) (by omega) ?_;rw [h1,<-y_,u_,u_ (t.cell r (c+1)) e]
theorem bN.exact (h:bN F n t) {r c i:Nat} (hr:r<t.lines.length) (hi:i<t.lines.length) (hc:c<n) (hp:t.cell r (c+1)≠0) (j:Nat) (hj:j<n+1) (hjc:j≠c+1) :
  ∃ x,t.cell r (c+1)*t.cell i j - t.cell i (c+1)*t.cell r j=t.scale*x:=by
 obtain ⟨e,ee,he⟩:=h.Gd;have hd:=h.IX hr hc he;have h1:=JX (R:=(t.swap r c).base F) (s:=t.cell r (c+1)*t.scale) (v:=F (t.name i)) (λk hk=>h.Mm hr hi hc k hk) (r:=j) hj;rw [hd] at h1;rw [g_ hjc] at h1;refine ⟨e*ng (n+1) (l8 ((t.swap r c).base F) j (F (t.name i))),?_⟩;generalize ng (n+1) (l8 ((t.swap r c).base F) j (F (t.name i)))=X at *
 generalize t.cell r (c+1)*t.cell i j - t.cell i (c+1)*t.cell r j=Y at *
 refine abJ (a:=t.cell r (c+1)*e) ?_ ?_
 ·intro h0;rcases aci.1 h0 with h0|h0
  ·exact hp h0
  ·rw [h0] at ee;simp at ee
 ·have e1:t.cell r (c+1)*e*(t.scale*(e*X))=(e*e)*(t.cell r (c+1)*t.scale*X):=by
   simp only [y_,r_,u_]
  rw [e1,ee,h1,aaY];simp only [y_,r_,u_]
theorem bN.swap (h:bN F n t) {r c:Nat} (hr:r<t.lines.length) (hc:c<n) (hp:t.cell r (c+1)≠0):bN F n (t.swap r c):=by
 have hcl:=h.aS;have hsc:(t.swap r c).scale=((t.cell r (c+1)).natAbs:Int):=rfl;refine ⟨by rw [aR.Ev];exact hcl,?_,by rw [hsc];omega,?_,?_⟩
 ·intro l hl;unfold aR.swap at hl;simp only at hl;obtain ⟨i,hi,rfl⟩:=abw.1 hl;rw [List.getElem_mapIdx]
  split
  ·simp [aR.bL,hcl]
  ·simp [aR.told,hcl]
 ·obtain ⟨e,ee,he⟩:=h.Gd;refine ⟨e*Int.sign (t.cell r (c+1)),?_,?_⟩
  ·have:=Ml hp;rw [show e*Int.sign (t.cell r (c+1))*(e*Int.sign (t.cell r (c+1)))=(e*e)*(Int.sign (t.cell r (c+1))*Int.sign (t.cell r (c+1))) by simp only [y_,r_,u_],ee,this];rfl
  ·rw [h.IX hr hc he,hsc,<-sign_mul_self,y_,<-y_ (Int.sign (t.cell r (c+1))),Ml hp,aaY]
 ·intro i hi k hk;rw [aR.iI] at hi;rw [aR.jI t r c i hi,hsc,<-sign_mul_self];have hcell:∀ j,j<n+1->(t.swap r c).cell i j=_:=λj hj=>aR.wu t r c i j hi (by rw [hcl];exact hj);by_cases hir:i=r
  ·rw [h_ hir];have e1:=h.RD hr hc k hk;have e2:F (t.fu c) k=t.base F (c+1) k:=by unfold aR.base;rw [g_ (by omega)];rfl
   rw [e2,y_,e1,fO (f:=λj=>(t.swap r c).cell i j*(t.swap r c).base F j k) (c+1) (by omega),hcell (c+1) (by omega),h_ hir,h_ rfl,aR.Ad F t r c (by rw [hcl];exact hc),iF,aaZ,y_];have e3:sm (n+1) (λj=>if j=c+1 then 0 else (t.swap r c).cell i j*l8 (t.base F) (c+1) (F (t.name r)) j k)=sm (n+1) (λj=>(-Int.sign (t.cell r (c+1)))*(if j=c+1 then 0 else t.cell r j*t.base F j k)):=by
    refine aC λj hj=>?_;by_cases hjc:j=c+1
    ·rw [h_ hjc,h_ hjc];omega
    ·rw [g_ hjc,g_ hjc,hcell j hj,h_ hir,g_ hjc,jl _ _ hjc];simp only [abe,ab5,y_]
   rw [e3,dA,abe];omega
  ·rw [g_ hir];have e1:=h.Mm hr hi hc k hk;have hs:=h.pos;refine abJ (a:=t.scale) (by omega) ?_;rw [<-dA,show t.scale*(Int.sign (t.cell r (c+1))*t.cell r (c+1)*F (t.name i) k)=Int.sign (t.cell r (c+1))*((t.cell r (c+1)*t.scale)*F (t.name i) k) by simp only [y_,r_,u_],e1,<-dA];refine aC λj hj=>?_;rw [hcell j hj,g_ hir];by_cases hjc:j=c+1
   ·rw [h_ hjc,h_ hjc];simp only [y_,r_,u_]
   ·rw [g_ hjc,g_ hjc];obtain ⟨x,hx⟩:=h.exact hr hi hc hp j hj hjc;rw [hx,xE hs rfl];simp only [y_,r_,u_]
end
end Go.Proofs.YtfaljekgpnbmiaaGreat.Pl
