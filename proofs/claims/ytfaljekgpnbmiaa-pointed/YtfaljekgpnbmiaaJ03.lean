/- Joined: XDiv XWh7 XWh8. -/
import Derived.Test.YtfaljekgpnbmiaaJ02
set_option linter.unusedVariables false
set_option linter.unusedSimpArgs false
set_option maxRecDepth 100000
namespace Go.Proofs.Ytfaljekgpnbmiaa.Pl
open Go.RowKit
theorem lv_split (l:List Int) (k:Nat):lv l=pv l k+1073741824^k*lv (l.drop k):=by
 by_cases h:k≤l.length
 ·have e:=lv_append (l.take k) (l.drop k)
  rw [List.take_append_drop,List.length_take,Nat.min_eq_left h] at e
  rw [pv_take l k h];exact e
 ·rw [pv_all l k (by omega),List.drop_eq_nil_of_le (by omega)];simp [lv]
theorem lv_drop (l:List Int) (k:Nat):lv (l.drop k)=dig l k+1073741824*lv (l.drop (k+1)):=by
 by_cases h:k<l.length
 ·rw [List.drop_eq_getElem_cons h,lv,dig_lt h]
 ·rw [List.drop_eq_nil_of_le (by omega),List.drop_eq_nil_of_le (by omega),dig_ge (by omega)];rfl
theorem LimbsOk.drop {l:List Int} (h:LimbsOk l) (k:Nat):LimbsOk (l.drop k):=fun x hx=>h x (List.mem_of_mem_drop hx)
theorem drop_zero {l:List Int} (o:LimbsOk l) {k:Nat} (h:lv l<1073741824^k):lv (l.drop k)=0:=by
 have e:=lv_split l k
 have b1:=(pv_bd o k).1
 have b2:=(lv_bd (o.drop k)).1
 have hp:=pow_pos k
 rcases Int.lt_or_eq_of_le b2 with h2|h2
 ·have:1073741824^k*1≤1073741824^k*lv (l.drop k):=Int.mul_le_mul_of_nonneg_left (by omega) (by omega)
  omega
 ·exact h2.symm
theorem dig_zero {l:List Int} (o:LimbsOk l) {k t:Nat} (h:lv l<1073741824^k) (ht:k≤t):dig l t=0:=by
 have h2:lv l<1073741824^t:=Int.lt_of_lt_of_le h (pow_mono ht)
 have e:=lv_drop l t
 rw [drop_zero o h2,drop_zero o (Int.lt_of_lt_of_le h2 (pow_mono (Nat.le_succ t)))] at e
 omega
theorem lv_of_zero {l:List Int} (o:LimbsOk l) {k:Nat} (h:∀ t,k≤t→dig l t=0):lv l<1073741824^k:=by
 have e:=pv_above (a:=l) (b:=[]) (m:=k) (fun t ht=>by rw [h t ht,dig_ge (by simp)]) (max l.length k) (by omega)
 rw [pv_all l _ (by omega),pv_all [] _ (by simp),pv_all [] k (by simp)] at e
 have:=(pv_bd o k).2
 omega
theorem guess_near {U U3 c1 S v V2 c2 q:Int} (hS:0<S) (hU:U=c1+S*U3) (h1:0≤c1) (hc1:c1<S) (hv:v=c2+S*V2) (h2:0≤c2) (hc2:c2<S) (hV:1073741824≤V2) (hU0:0≤U) (hUB:U<v*1073741824) (hq0:0≤q) (hq1:q<1073741824) (hq:q*V2≤U3) (hm:∀ Q,Q<1073741824→Q*V2≤U3→Q≤q) :
  (q=U/v∨q=U/v+1)∧0≤U/v∧U/v<1073741824∧U/v*v≤U∧U<U/v*v+v:=by
 have hvp:0<v:=by
  have:S*1≤S*V2:=Int.mul_le_mul_of_nonneg_left (by omega) (by omega)
  omega
 have hd:=Int.mul_ediv_add_emod U v
 have hm0:=Int.emod_nonneg U (show v≠0 by omega)
 have hm1:=Int.emod_lt_of_pos U hvp
 have hQ0:0≤U/v:=Int.ediv_nonneg hU0 (by omega)
 have hQ1:U/v<1073741824:=Int.ediv_lt_of_lt_mul hvp (by rw [Int.mul_comm];exact hUB)
 generalize U/v=Q at *
 generalize U%v=M at *
 rw [Int.mul_comm] at hd
 have hQv:Q*v≤U:=by omega
 have hQv2:U<Q*v+v:=by omega
 refine ⟨?_,hQ0,hQ1,hQv,hQv2⟩
 have hle:Q≤q:=by
  apply hm Q hQ1
  have e1:Q*v=Q*c2+S*(Q*V2):=by rw [hv,Int.mul_add,Int.mul_left_comm]
  have e2:0≤Q*c2:=Int.mul_nonneg hQ0 h2
  rcases Int.lt_or_le U3 (Q*V2) with h|h
  ·have:S*(U3+1)≤S*(Q*V2):=Int.mul_le_mul_of_nonneg_left (by omega) (by omega)
   rw [Int.mul_add] at this
   omega
  ·exact h
 have hge:q≤Q+1:=by
  rcases Int.lt_or_le (Q+1) q with h|h
  ·exfalso
   have e1:S*(q*V2)≤S*U3:=Int.mul_le_mul_of_nonneg_left hq (by omega)
   have e2:(Q+1)*v≤(q - 1)*v:=Int.mul_le_mul_of_nonneg_right (by omega) (by omega)
   rw [Int.add_mul] at e2
   have e3:(q - 1)*v=(q - 1)*c2+S*((q - 1)*V2):=by rw [hv,Int.mul_add,Int.mul_left_comm]
   have e4:(q - 1)*c2≤(q - 1)*S:=Int.mul_le_mul_of_nonneg_left (by omega) (by omega)
   have e5:S*((q - 1)*V2)=S*(q*V2) - S*V2:=by rw [Int.sub_mul,Int.mul_sub,Int.one_mul]
   have e6:(q - 1)*S=q*S - S:=by rw [Int.sub_mul,Int.one_mul]
   have e7:q*S≤V2*S:=Int.mul_le_mul_of_nonneg_right (by omega) (by omega)
   rw [Int.mul_comm V2 S] at e7
   omega
  ·exact h
 omega
theorem wrap_zero {W c R X:Int} (hW:0<W) (h:R+W*c=X) (hR0:0≤R) (hR1:R<W) (hX0:0≤X) (hX1:X<W):R=X:=by
 have:c=0:=by
  rcases (show c<0∨c=0∨0<c by omega) with hc|hc|hc
  ·have:W*c≤W*(-1):=Int.mul_le_mul_of_nonneg_left (by omega) (by omega)
   omega
  ·exact hc
  ·have:W*1≤W*c:=Int.mul_le_mul_of_nonneg_left (by omega) (by omega)
   omega
 subst this
 omega
theorem take_turn {R P U c v W q cy s:Int} (hP:0<P) (hR:R=c+P*U) (hc0:0≤c) (hc1:c<P) (hq:q=U/v∨q=U/v+1) (h1:U/v*v≤U) (h2:U<U/v*v+v) (hW:0<W) (hPv:P*v≤W) (ht:s+W*cy=R - P*(q*v)) (hs0:0≤s) (hs1:s<W) (hcy:cy≤0) :
  (0≤cy→q=U/v∧s=R - P*(U/v*v))∧(cy<0→q=U/v+1∧∀ s2 c2,s2+W*c2=s+P*v→0≤s2→s2<W→s2=R - P*(U/v*v))∧0≤R - P*(U/v*v)∧R - P*(U/v*v)<P*v:=by
 generalize U/v=Q at *
 have a1:P*(Q*v)≤P*U:=Int.mul_le_mul_of_nonneg_left h1 (by omega)
 have a2:P*(U+1)≤P*(Q*v+v):=Int.mul_le_mul_of_nonneg_left (by omega) (by omega)
 rw [Int.mul_add,Int.mul_add] at a2
 refine ⟨fun h=>?_,fun h=>?_,by omega,by omega⟩
 ·have:cy=0:=by omega
  subst this
  rcases hq with rfl|rfl
  ·exact ⟨rfl,by omega⟩
  ·exfalso
   rw [Int.add_mul,Int.mul_add,Int.one_mul] at ht
   omega
 ·have hw:W*cy≤W*(-1):=Int.mul_le_mul_of_nonneg_left (by omega) (by omega)
  rcases hq with rfl|rfl
  ·exfalso;omega
  ·refine ⟨rfl,fun s2 c2 e e0 e1=>?_⟩
   rw [Int.add_mul,Int.mul_add,Int.one_mul] at ht
   refine wrap_zero (c:=c2+cy) hW ?_ e0 e1 (by omega) (by omega)
   rw [Int.mul_add];omega
theorem doubled_limbs {b d:List Int} {t:Int} {n:Nat} (ob:LimbsOk b) (od:LimbsOk d) (hn:b.length=n+1) (hd:lv d=lv b*t) (k:Nat) (hk:k≤29) (ht:t=2^k) (hl0:536870912≤dig b n*t) (hl1:dig b n*t<1073741824) :
  lv d<1073741824^(n+1)∧536870912≤dig d n∧1073741824^n*t≤lv d:=by
 have hp:=pow_pos n
 have hb:=lv_split b n
 have hb1:=pv_bd ob n
 have hb2:=lv_drop b n
 rw [List.drop_eq_nil_of_le (show b.length≤n+1 by omega)] at hb2
 simp only [lv,Int.mul_zero,Int.add_zero] at hb2
 rw [hb2] at hb
 have ht0:0<t:=by rw [ht];exact Int.pow_pos (by omega)
 obtain ⟨m,hm⟩:∃ m:Int,1073741824=t*m:=⟨2^(30 - k),by
  rw [ht,←Int.pow_add,show k+(30 - k)=30 by omega];rfl⟩
 have hlm:dig b n*t+t≤1073741824:=by
  have h1:t*dig b n<t*m:=by rw [←hm,Int.mul_comm];exact hl1
  have h2:dig b n<m:=Int.lt_of_mul_lt_mul_left h1 (Int.le_of_lt ht0)
  have h3:t*(dig b n+1)≤t*m:=Int.mul_le_mul_of_nonneg_left (by omega) (Int.le_of_lt ht0)
  rw [Int.mul_add,←hm,Int.mul_comm] at h3
  omega
 have e:lv d=pv b n*t+1073741824^n*(dig b n*t):=by rw [hd,hb,Int.add_mul,Int.mul_assoc]
 have f0:0≤pv b n*t:=Int.mul_nonneg hb1.1 (Int.le_of_lt ht0)
 have f1:pv b n*t<1073741824^n*t:=Int.mul_lt_mul_of_pos_right hb1.2 ht0
 have f2:1073741824^n*(dig b n*t+t)≤1073741824^n*1073741824:=Int.mul_le_mul_of_nonneg_left hlm (by omega)
 have f3:1073741824^n*536870912≤1073741824^n*(dig b n*t):=Int.mul_le_mul_of_nonneg_left hl0 (by omega)
 rw [Int.mul_add] at f2
 have g1:lv d<1073741824^(n+1):=by rw [Int.pow_succ];omega
 refine ⟨g1,?_,?_⟩
 ·have hd1:=lv_split d n
  have hd2:=lv_drop d n
  rw [drop_zero od g1] at hd2
  have hd3:=pv_bd od n
  rw [hd2] at hd1
  simp only [Int.mul_zero,Int.add_zero] at hd1
  rcases Int.lt_or_le (dig d n) 536870912 with h|h
  ·have:1073741824^n*(dig d n+1)≤1073741824^n*536870912:=Int.mul_le_mul_of_nonneg_left (by omega) (by omega)
   rw [Int.mul_add] at this
   omega
  ·exact h
 ·have h1:1≤dig b n:=by
   rcases Int.lt_or_le (dig b n) 1 with h|h
   ·have:=(ob.dig n).1
    have h0:dig b n=0:=by omega
    rw [h0] at hl0;omega
   ·exact h
  have h2:1073741824^n*(1*t)≤1073741824^n*(dig b n*t):=Int.mul_le_mul_of_nonneg_left (Int.mul_le_mul_of_nonneg_right h1 (Int.le_of_lt ht0)) (by omega)
  omega
theorem div_guess {r d:List Int} {i p:Nat} (or:LimbsOk r) (od:LimbsOk d) (hd:lv d<1073741824^(p+2)) (hf:536870912≤dig d (p+1)) (hr:lv r<lv d*1073741824^(i+1)) :
  dig r (i+p+2)≤dig d (p+1)∧∀ q,0≤q→q<1073741824→q*(dig d (p+1)*1073741824+dig d p)≤(dig r (i+p+2)*1073741824+dig r (i+p+1))*1073741824+dig r (i+p)→(∀ Q,Q<1073741824→Q*(dig d (p+1)*1073741824+dig d p)≤(dig r (i+p+2)*1073741824+dig r (i+p+1))*1073741824+dig r (i+p)→Q≤q) →
   (q=lv (r.drop i)/lv d∨q=lv (r.drop i)/lv d+1)∧0≤lv (r.drop i)/lv d∧lv (r.drop i)/lv d<1073741824∧lv (r.drop i)/lv d*lv d≤lv (r.drop i)∧lv (r.drop i)<lv (r.drop i)/lv d*lv d+lv d:=by
 have hp1:=pow_pos (i+1)
 have hpi:=pow_pos i
 have hpp:=pow_pos p
 have hr3:lv r<1073741824^(i+p+3):=by
  have:lv d*1073741824^(i+1)≤1073741824^(p+2)*1073741824^(i+1):=Int.mul_le_mul_of_nonneg_right (by omega) (by omega)
  rw [←Int.pow_add,show p+2+(i+1)=i+p+3 by omega] at this
  omega
 have d0:=drop_zero or hr3
 have r2:=lv_drop r (i+p+2)
 have r1:lv (r.drop (i+p+1))=dig r (i+p+1)+1073741824*lv (r.drop (i+p+2)):=lv_drop r (i+p+1)
 have r0:=lv_drop r (i+p)
 rw [d0] at r2
 have e0:=drop_zero od hd
 have v1:=lv_drop d (p+1)
 have v0:=lv_drop d p
 rw [e0] at v1
 have bd1:=od.dig (p+1)
 have bd0:=od.dig p
 have br2:=or.dig (i+p+2)
 have br1:=or.dig (i+p+1)
 have br0:=or.dig (i+p)
 refine ⟨?_,fun q q0 q1 hq hm=>?_⟩
 ·rcases Int.lt_or_le (dig d (p+1)) (dig r (i+p+2)) with h | h
  ·exfalso
   have h1:=lv_split r (i+p+2)
   have h2:=(pv_bd or (i+p+2)).1
   have h3:=lv_split d (p+1)
   have h4:=(pv_bd od (p+1)).2
   rw [r2] at h1
   rw [v1] at h3
   have h5:lv d<1073741824^(p+1)*(dig d (p+1)+1):=by rw [Int.mul_add];simp only [Int.mul_zero,Int.add_zero] at h3;omega
   have h6:lv d*1073741824^(i+1)≤1073741824^(p+1)*(dig d (p+1)+1)*1073741824^(i+1):=Int.mul_le_mul_of_nonneg_right (by omega) (by omega)
   rw [Int.mul_right_comm,←Int.pow_add,show p+1+(i+1)=i+p+2 by omega] at h6
   have h7:1073741824^(i+p+2)*(dig d (p+1)+1)≤1073741824^(i+p+2)*dig r (i+p+2):=Int.mul_le_mul_of_nonneg_left (by omega) (Int.le_of_lt (pow_pos _))
   simp only [Int.mul_zero,Int.add_zero] at h1
   omega
  ·exact h
 ·have eU3:lv (r.drop (i+p))=(dig r (i+p+2)*1073741824+dig r (i+p+1))*1073741824+dig r (i+p):=by omega
  have eV2:lv (d.drop p)=dig d (p+1)*1073741824+dig d p:=by omega
  rw [←eU3,←eV2] at hq
  rw [←eU3,←eV2] at hm
  have s1:=lv_split (r.drop i) p
  rw [List.drop_drop] at s1
  have s2:=lv_split d p
  have b1:=pv_bd (or.drop i) p
  have b2:=pv_bd od p
  have hU0:=(lv_bd (or.drop i)).1
  have s3:=lv_split r i
  have b3:=(pv_bd or i).1
  have hUB:lv (r.drop i)<lv d*1073741824:=by
   have h1:1073741824^i*lv (r.drop i)<1073741824^i*(lv d*1073741824):=by
    rw [Int.pow_succ,←Int.mul_assoc,Int.mul_comm (lv d),Int.mul_assoc] at hr
    omega
   exact Int.lt_of_mul_lt_mul_left h1 (Int.le_of_lt hpi)
  exact guess_near hpp s1 b1.1 b1.2 s2 b2.1 b2.2 (by omega) hU0 hUB q0 q1 hq hm
theorem div_take {r d s:List Int} {i p:Nat} {q cy:Int} (or:LimbsOk r) (os:LimbsOk s) (hdl:d.length=p+3) (hd:lv d<1073741824^(p+2)) (hr:lv r<lv d*1073741824^(i+1))
  (hq:q=lv (r.drop i)/lv d∨q=lv (r.drop i)/lv d+1) (h1:lv (r.drop i)/lv d*lv d≤lv (r.drop i)) (h2:lv (r.drop i)<lv (r.drop i)/lv d*lv d+lv d) (hcy:cy≤0)
  (ht:lv s+1073741824^(i+d.length)*cy=lv r - 1073741824^i*(q*lv d)) (htop:∀ t,i+d.length≤t→dig s t=dig r t) :
  (0≤cy→q=lv (r.drop i)/lv d∧lv s=lv r - 1073741824^i*(lv (r.drop i)/lv d*lv d)) ∧
  (cy<0→q=lv (r.drop i)/lv d+1∧∀ s2 c2,LimbsOk s2→(∀ t,i+d.length≤t→dig s2 t=dig s t)→lv s2+1073741824^(i+d.length)*c2=lv s+1073741824^i*lv d→lv s2=lv r - 1073741824^i*(lv (r.drop i)/lv d*lv d)) ∧
  lv r - 1073741824^i*(lv (r.drop i)/lv d*lv d)<lv d*1073741824^i:=by
 have hp1:=pow_pos (i+1)
 have hr3:lv r<1073741824^(i+d.length):=by
  have:lv d*1073741824^(i+1)≤1073741824^(p+2)*1073741824^(i+1):=Int.mul_le_mul_of_nonneg_right (by omega) (by omega)
  rw [←Int.pow_add,show p+2+(i+1)=i+d.length by omega] at this
  omega
 have hs3:lv s<1073741824^(i+d.length):=lv_of_zero os fun t h=>by rw [htop t h,dig_zero or hr3 h]
 have hPv:1073741824^i*lv d≤1073741824^(i+d.length):=by
  rw [Int.pow_add]
  exact Int.mul_le_mul_of_nonneg_left (by have:=pow_mono (show p+2≤d.length by omega);omega) (Int.le_of_lt (pow_pos i))
 have s3:=lv_split r i
 have b3:=pv_bd or i
 obtain ⟨t1,t2,t3,t4⟩:=take_turn (pow_pos i) s3 b3.1 b3.2 hq h1 h2 (pow_pos _) hPv ht (lv_bd os).1 hs3 hcy
 refine ⟨t1,fun h=>⟨(t2 h).1,fun s2 c2 o2 hz e=>(t2 h).2 _ c2 e (lv_bd o2).1 (lv_of_zero o2 fun t h=>by rw [hz t h,htop t h,dig_zero or hr3 h])⟩,by rw [Int.mul_comm (lv d)];exact t4⟩
theorem div_end {a b t v S R:Int} (ht:0<t) (hb:0<b) (hv:v=b*t) (h:a*t=S*v+R) (h0:0≤R) (h1:R<v):S=a/b∧(decide (R=0)=decide (a%b=0)):=by
 have e1:S*v=S*b*t:=by rw [hv,Int.mul_assoc]
 have a1:S*b≤a:=Int.le_of_mul_le_mul_right (a:=t) (by omega) ht
 have a2:a<S*b+b:=Int.lt_of_mul_lt_mul_right (a:=t) (by rw [Int.add_mul];omega) (Int.le_of_lt ht)
 have a3:=ediv_uniq' hb a1 a2
 refine ⟨a3.symm,?_⟩
 have a4:=Int.mul_ediv_add_emod a b
 rw [a3,Int.mul_comm] at a4
 have a5:R=a%b*t:=by
  rw [←a4,Int.add_mul] at h
  omega
 by_cases hz:a%b=0
 ·rw [decide_eq_true hz,decide_eq_true (by rw [a5,hz,Int.zero_mul])]
 ·rw [decide_eq_false hz,decide_eq_false (by rw [a5];intro h;rcases Int.mul_eq_zero.1 h with h | h <;> omega)]
end Go.Proofs.Ytfaljekgpnbmiaa.Pl

namespace Go.Proofs.Ytfaljekgpnbmiaa
open Go.RowKit
theorem ints_of_block {w:World} {g n:Nat} {s:List Int} (h:w.heap[g]?=some (.cells (s.map intV).toArray 3 (0,0))) (hs:s.length=n):IntsAt w (.slice (some ⟨g,0,none⟩) n n) s:=by
 subst hs
 refine ⟨_,_,rfl,fun i hi=>⟨g,0,rfl,?_⟩⟩
 rw [Nat.zero_add]
 exact cell_of_ints h hi
structure DivInv (g1 g2 g3:Nat) (w wr:World) (a':Int) (d r s:List Int) (nd nr ns k:Nat):Prop where
 bd:wr.heap[g1]?=some (.cells (d.map intV).toArray 3 (0,0))
 br:wr.heap[g2]?=some (.cells (r.map intV).toArray 3 (0,0))
 bs:wr.heap[g3]?=some (.cells (s.map intV).toArray 3 (0,0))
 bel:Below w.heap.size w wr
 okd:Pl.LimbsOk d
 okr:Pl.LimbsOk r
 oks:Pl.LimbsOk s
 ld:d.length=nd
 lr:r.length=nr
 ls:s.length=ns
 sum:a'=Pl.lv s*Pl.lv d+Pl.lv r
 low:Pl.lv r<Pl.lv d*1073741824^k
 zer:∀ t,t<k→Pl.dig s t=0
 n12:g1<g2
 n23:g2<g3
 n1:w.heap.size≤g1
section
variable {g1 g2 g3:Nat} {w wr:World} {a':Int} {d r s:List Int} {nd nr ns i p:Nat}
theorem DivInv.divisor (h:DivInv g1 g2 g3 w wr a' d r s nd nr ns (i+1)) {w':World} (ho:Only g2 wr w'):IntsAt w' (.slice (some ⟨g1,0,none⟩) nd nd) d :=
 ints_of_block ((ho.block g1 (lt_of_block h.bd) (by have:=h.n12;omega)).trans h.bd) h.ld
theorem DivInv.next (h:DivInv g1 g2 g3 w wr a' d r s nd nr ns (i+1)) (hi:i<ns) {w':World} {r':List Int} {Q:Int} (ho:Only g2 wr w') (hb:w'.heap[g2]?=some (.cells (r'.map intV).toArray 3 (0,0))) (ok:Pl.LimbsOk r') (hl:r'.length=nr) (hr:Pl.lv r'=Pl.lv r - 1073741824^i*(Q*Pl.lv d)) (hlow:Pl.lv r - 1073741824^i*(Q*Pl.lv d)<Pl.lv d*1073741824^i) (q0:0≤Q) (q1:Q<1073741824) :
  DivInv g1 g2 g3 w (w'.setCell ⟨g3,i,none⟩ (.int .i64 Q)) a' d r' (s.set i Q) nd nr ns i:=by
 have n1:=h.n12
 have n2:=h.n23
 have n3:=h.n1
 have hbs:w'.heap[g3]?=some (.cells (s.map intV).toArray 3 (0,0)):=(ho.block g3 (lt_of_block h.bs) (by omega)).trans h.bs
 refine ⟨?_,?_,?_,?_,h.okd,ok,h.oks.set _ q0 q1,h.ld,hl,by simp [h.ls],?_,?_,fun t ht=>?_,n1,n2,n3⟩
 ·rw [Below.heap_setCell _ _ _ _ (by simp;omega)];exact (ho.block g1 (lt_of_block h.bd) (by omega)).trans h.bd
 ·rw [Below.heap_setCell _ _ _ _ (by simp;omega)];exact hb
 ·rw [heap_setCell_same w' _ _ _ _ _ hbs,←map_set_cells];rfl
 ·exact (h.bel.trans (ho.below (by omega) h.bel.size)).setCell (p:=⟨g3,i,none⟩) (by simp;omega) _
 ·have:=h.ls
  rw [Pl.lv_set s i Q (by omega),h.zer i (by omega),Int.sub_zero,hr,Int.add_mul,Int.mul_assoc,h.sum]
  omega
 ·rw [hr];exact hlow
 ·rw [Pl.dig_set (by have:=h.ls;omega),if_neg (by omega)];exact h.zer t (by omega)
theorem guess_div (h:DivInv g1 g2 g3 w wr a' d r s nd nr ns (i+1)) (hnd:nd=p+3) (hnr:nr≤7500000000000) (hi:i+nd≤nr) (hd:Pl.lv d<1073741824^(p+2)) (hf:536870912≤Pl.dig d (p+1)) (nb:Nat) (hnb:nb=p+2) :
  Calls Try.prog 169 #[.slice (some ⟨g2,0,none⟩) nr nr,.slice (some ⟨g1,0,none⟩) nd nd,.int .i64 ((i:Int)+nb)] wr fun e w'=>∃ q Q:Int,e=.returned (.int .i64 q)∧w'=wr∧0≤q∧q<1073741824∧0≤Q∧Q<1073741824∧Hid (Q=Pl.lv (r.drop i)/Pl.lv d∧(q=Pl.lv (r.drop i)/Pl.lv d∨q=Pl.lv (r.drop i)/Pl.lv d+1)∧Pl.lv (r.drop i)/Pl.lv d*Pl.lv d≤Pl.lv (r.drop i)∧Pl.lv (r.drop i)<Pl.lv (r.drop i)/Pl.lv d*Pl.lv d+Pl.lv d):=by
 obtain ⟨t1,t2⟩:=Pl.div_guess h.okr h.okd hd hf h.low
 have hld:=h.ld
 have hlr:=h.lr
 have e2:d.length - 2=p+1:=by omega
 have e3:d.length - 3=p:=by omega
 have e4:i+nb=i+p+2:=by omega
 have e5:i+nb - 1=i+p+1:=by omega
 have e6:i+nb - 2=i+p:=by omega
 rw [show (i:Int)+nb=((i+nb:Nat):Int) by omega]
 refine (guess_any r d _ _ (i+nb) wr (ints_of_block h.br h.lr) (ints_of_block h.bd h.ld) (by omega) (by omega) h.okr h.okd (by omega) (by omega) (by omega) (by rw [e2];exact hf) (by rw [e2,e4];exact t1)).mono ?_
 rintro e w1 ⟨q,rfl,hw,q0,q1,hq,hm⟩
 rw [e2,e3,e5,e6,e4] at hq hm
 obtain ⟨u1,u2,u3,u4,u5⟩:=t2 q q0 q1 hq hm
 exact ⟨q,_,rfl,hw,q0,q1,u2,u3,rfl,u1,u4,u5⟩
theorem take_div (h:DivInv g1 g2 g3 w wr a' d r s nd nr ns (i+1)) (hnr:nr≤7500000000000) (hi:i+nd≤nr) (q:Int) (q0:0≤q) (q1:q<1073741824) :
  Calls Try.prog 170 #[.slice (some ⟨g2,0,none⟩) nr nr,.slice (some ⟨g1,0,none⟩) nd nd,.int .i64 q,.int .i64 i] wr fun e w'=>∃ (s:List Int) (cy:Int),e=.returned (.bool (decide (0≤cy)))∧cy≤0∧Hid (w'.heap[g2]?=some (.cells (s.map intV).toArray 3 (0,0))∧Pl.LimbsOk s∧s.length=nr∧Only g2 wr w'∧Pl.lv s+1073741824^(i+d.length)*cy=Pl.lv r - 1073741824^i*(q*Pl.lv d)∧∀ t,i+d.length≤t→Pl.dig s t=Pl.dig r t):=by
 have hld:=h.ld
 have hlr:=h.lr
 have:=take_any r d g2 (.slice (some ⟨g1,0,none⟩) nd nd) q i wr h.br (fun w1 ho=>h.divisor ho) (by omega) (by omega) h.okr h.okd q0 q1
 rw [hlr] at this
 exact this
theorem give_div (h:DivInv g1 g2 g3 w wr a' d r s nd nr ns (i+1)) (hnr:nr≤7500000000000) (hi:i+nd≤nr) {w1:World} {r1:List Int} (ho:Only g2 wr w1) (hb:w1.heap[g2]?=some (.cells (r1.map intV).toArray 3 (0,0))) (ok:Pl.LimbsOk r1) (hl:r1.length=nr) :
  Calls Try.prog 171 #[.slice (some ⟨g2,0,none⟩) nr nr,.slice (some ⟨g1,0,none⟩) nd nd,.int .i64 i] w1 fun e w'=>∃ (s:List Int) (cy:Int),e=.returned (.tuple #[])∧Hid (w'.heap[g2]?=some (.cells (s.map intV).toArray 3 (0,0))∧Pl.LimbsOk s∧s.length=nr∧Only g2 wr w'∧Pl.lv s+1073741824^(i+d.length)*cy=Pl.lv r1+1073741824^i*Pl.lv d∧∀ t,i+d.length≤t→Pl.dig s t=Pl.dig r1 t):=by
 have hld:=h.ld
 have:=giveBack_any r1 d g2 (.slice (some ⟨g1,0,none⟩) nd nd) i w1 hb (fun w2 ho2=>h.divisor (ho.trans ho2)) (by omega) (by omega) ok h.okd
 rw [hl] at this
 refine this.mono ?_
 rintro e w2 ⟨s,cy,rfl,_,_,y1,y2,y3,y4,y5,y6⟩
 exact ⟨s,cy,rfl,y1,y2,y3,ho.trans y4,y5,y6⟩
end
theorem Pl.pow2_le:∀ k:Nat,k≤29→(2:Int)^k≤536870912:=by
 intro k hk
 have:∀ k:Fin 30,(2:Int)^k.1≤536870912:=by decide
 exact this ⟨k,by omega⟩
theorem Pl.short_lt {a b:List Int} (oa:Pl.LimbsOk a) (ob:Pl.LimbsOk b) (h:a.length<b.length) (hl:Pl.dig b (b.length - 1)≠0):Pl.lv a<Pl.lv b:=by
 have h1:=ob.dig (b.length - 1)
 exact Pl.less_at oa ob (m:=b.length - 1) (fun t ht=>by rw [Pl.dig_ge (by omega),Pl.dig_ge (by omega)]) (by rw [Pl.dig_ge (by omega)];omega)
theorem Pl.lv_pos {b:List Int} (ob:Pl.LimbsOk b) (h:0<b.length) (hl:Pl.dig b (b.length - 1)≠0):0<Pl.lv b:=by
 have:=Pl.short_lt .nil ob h hl
 simpa [Pl.lv] using this
set_option maxHeartbeats 1000000 in
theorem divLimbs_short (a b:List Int) (va vb:Value) (w:World) (ha:IntsAt w va a) (hb:IntsAt w vb b) (hal:a.length≤6000000000000) (hbl:b.length≤6000000000000) (oa:Pl.LimbsOk a) (ob:Pl.LimbsOk b) (hl:Pl.dig b (b.length - 1)≠0) (hlt:a.length<b.length) :
  Calls Try.prog 129 #[va,vb] w fun e w'=>∃ v s,e=.returned (.tuple #[v,.bool (decide (Pl.lv a%Pl.lv b=0))])∧IntsOwn w.heap.size w' v s∧Pl.LimbsOk s∧s.length≤a.length∧Pl.lv s=Pl.lv a/Pl.lv b∧Below w.heap.size w w':=by
 have hZ:=hide (isZero_any a va w ha (by omega) oa)
 have hlv:=Pl.short_lt oa ob hlt hl
 have h0:=(Pl.lv_bd oa).1
 have HE:Hid (decide (Pl.lv a%Pl.lv b=0)=decide (Pl.lv a=0)∧(0:Int)=Pl.lv a/Pl.lv b):=⟨by rw [Int.emod_eq_of_lt h0 hlv],(Int.ediv_eq_zero_of_lt h0 hlv).symm⟩
 obtain ⟨ad,cap,rfl⟩:=ints_shape0 ha
 obtain ⟨ad2,cap2,rfl⟩:=ints_shape0 hb
 rw [(uh HE).1,←(uh HE).2]
 clear ha hb hlv h0 HE hl
 go_enter Try.func129,Try.ntmps129
 go_wp2_with fail
 refine (uh hZ).mono ?_
 rintro e w1 ⟨rfl,hw1⟩
 rw [hw1]
 clear hw1 w1 hZ
 go_wp2
 go_ret2
 exact ⟨.slice none 0 0,[],rfl,⟨by simp,.inl ⟨rfl,rfl⟩⟩,.nil,by simp,rfl,Below.refl _ _⟩
set_option maxHeartbeats 1000000 in
theorem divLimbs_one (a b:List Int) (va vb:Value) (w:World) (ha:IntsAt w va a) (hb:IntsAt w vb b) (hal:a.length≤6000000000000) (oa:Pl.LimbsOk a) (ob:Pl.LimbsOk b) (hl:Pl.dig b (b.length - 1)≠0) (hlt:b.length≤a.length) (hb1:b.length=1) :
  Calls Try.prog 129 #[va,vb] w fun e w'=>∃ v s,e=.returned (.tuple #[v,.bool (decide (Pl.lv a%Pl.lv b=0))])∧IntsOwn w.heap.size w' v s∧Pl.LimbsOk s∧s.length≤a.length∧Pl.lv s=Pl.lv a/Pl.lv b∧Below w.heap.size w w':=by
 have hbv:Pl.lv b=Pl.dig b 0:=by
  have e:=Pl.pv_all b 1 (by omega)
  simp [Pl.pv] at e
  omega
 have hd:=ob.dig 0
 rw [hb1] at hl
 obtain ⟨b2,o2,cap2,hv2,hcb⟩:=ints_get' hb 0 (by omega)
 rw [Nat.add_zero] at hcb
 have hD:=hide (divByLimb_any a va (Pl.dig b 0) w ha (by omega) oa (by simp at hl;omega) hd.2)
 subst hv2
 obtain ⟨ad,cap,rfl⟩:=ints_shape0 ha
 rw [hbv]
 rw [hb1] at hlt ⊢
 clear ha hb hl hbv hb1 ob
 generalize Pl.dig b 0=x at *
 go_enter Try.func129,Try.ntmps129
 go_wp2_with fail
 refine (uh hD).mono ?_
 rintro e w1 ⟨v,s,rfl,y1,y2,y3,y4,y5⟩
 have HF:Hid (IntsOwn w.heap.size w1 v s∧Pl.LimbsOk s∧s.length≤a.length∧Pl.lv s=Pl.lv a/x∧Below w.heap.size w w1):=⟨y1,y2,by omega,y4,y5⟩
 clear y1 y2 y3 y4 y5 hD
 go_wp2
 go_ret2
 exact ⟨v,s,rfl,uh HF⟩
set_option maxHeartbeats 8000000 in
theorem divLimbs_many (a b:List Int) (va vb:Value) (w:World) (ha:IntsAt w va a) (hb:IntsAt w vb b) (hal:a.length≤6000000000000) (oa:Pl.LimbsOk a) (ob:Pl.LimbsOk b) (hl:Pl.dig b (b.length - 1)≠0) (hlt:b.length≤a.length) (hb2:2≤b.length) :
  Calls Try.prog 129 #[va,vb] w fun e w'=>∃ v s,e=.returned (.tuple #[v,.bool (decide (Pl.lv a%Pl.lv b=0))])∧IntsOwn w.heap.size w' v s∧Pl.LimbsOk s∧s.length≤a.length∧Pl.lv s=Pl.lv a/Pl.lv b∧Below w.heap.size w w':=by
 obtain ⟨i0,hi,hz0,hz1,hz2⟩:=info_parts Try.infoInt
 have HL:Hid (Calls Try.prog 165 #[vb,.int .i64 ((b.length:Int) - 1)] w fun e w'=>e=.returned (.int .i64 (Pl.dig b (b.length - 1)))∧w'=w):=by
  rw [show (b.length:Int) - 1=((b.length - 1:Nat):Int) by omega];exact limb_any b vb _ w hb (by omega) (by omega)
 have HA:=hide ha
 have HB:=hide hb
 obtain ⟨ad,cap,rfl⟩:=ints_shape0 ha
 obtain ⟨ad2,cap2,rfl⟩:=ints_shape0 hb
 have hbpos:=Pl.lv_pos ob (by omega) hl
 have HQ:Hid (0<Pl.lv b∧Pl.lv a<1073741824^a.length∧∀ x,Pl.dig b (b.length - 1)=x→Pl.dig b (b.length - 2+1)=x):=⟨hbpos,(Pl.lv_bd oa).2,fun x hx=>by rw [←hx,show b.length - 2+1=b.length - 1 by omega]⟩
 have hl1:=ob.dig (b.length - 1)
 obtain ⟨p,HP⟩:∃ p,Hid (p=b.length - 2):=⟨_,rfl⟩
 obtain ⟨mq,hmq,hmq2⟩:∃ mq,a.length+1≤mq+b.length∧mq+b.length≤a.length+1:=⟨a.length+1 - b.length,by omega,by omega⟩
 obtain ⟨L,hL⟩:∃ L,Pl.dig b (b.length - 1)=L:=⟨_,rfl⟩
 rw [hL] at HL hl1 hl
 have HL2:=hide ((uh HQ).2.2 L hL)
 clear ha hb hbpos hL
 obtain ⟨res,HR⟩:∃ res,Hid (res=decide (Pl.lv a%Pl.lv b=0)):=⟨_,rfl⟩
 rw [←uh HR]
 go_enter Try.func129,Try.ntmps129
 go_wp2_with fail
 refine (uh HL).mono ?_
 rintro e w1 ⟨rfl,hw1⟩
 rw [hw1]
 clear hw1 w1 HL
 go_wp2_with fail
 go_loop [6] (fun t=>∃ (k:Nat) (tv:Int),t=.int .i64 tv∧1≤tv∧tv≤536870912∧1≤L*tv∧L*tv<1073741824∧Hid (k≤29∧tv=2^k)) (fun t=>(1073741824 - intOf t).toNat)
 case atStart=>exact ⟨0,1,rfl,by omega,by omega,by omega,by omega,by omega,rfl⟩
 case round =>
  obtain ⟨k,tv,rfl,t1,t2,t3,t4,ht⟩:=hrel
  by_cases hc:L*tv<536870912
  ·have hn:1≤tv*2∧tv*2≤536870912∧1≤L*(tv*2)∧L*(tv*2)<1073741824∧Hid (k+1≤29∧tv*2=2^(k+1)):=by
    have e1:L*(tv*2)=L*tv*2:=by rw [Int.mul_assoc]
    have h1:1*tv≤L*tv:=Int.mul_le_mul_of_nonneg_right (by omega) (by omega)
    have hk:k+1≤29:=by
     have:=(uh ht).1
     rcases (show k=29∨k+1≤29 by omega) with h|h
     ·have h2:=(uh ht).2
      rw [h] at h2
      have:(2:Int)^29=536870912:=rfl
      omega
     ·exact h
    have e2:tv*2=2^(k+1):=by rw [Int.pow_succ,←(uh ht).2]
    have:=Pl.pow2_le (k+1) hk
    exact ⟨by omega,by omega,by omega,by omega,hk,e2⟩
   obtain ⟨n1,n2,n3,n4,n5⟩:=hn
   clear ht
   go_wp2
   go_round
   case rel=>exact ⟨k+1,_,rfl,n1,n2,n3,n4,n5⟩
   case measure=>simp [intOf];omega
  ·go_wp2_with fail
   refine (scaled_any b _ tv w (uh HB) (by omega) ob (by omega) (by omega)).mono ?_
   rintro e w1 ⟨g1,d,rfl,hg1,hd1,od,hdl,hdv,hbel1⟩
   have H1:Hid (w.heap.size≤g1∧w1.heap[g1]?=some (.cells (d.map intV).toArray 3 (0,0))∧Pl.LimbsOk d∧d.length=b.length+1∧Pl.lv d=Pl.lv b*tv∧Below w.heap.size w w1):=⟨hg1,hd1,od,hdl,hdv,hbel1⟩
   have HA1:=hide ((uh HA).below hbel1)
   clear hg1 hd1 od hdl hdv hbel1 HA HB
   go_wp2_with fail
   refine (scaled_any a _ tv w1 (uh HA1) (by omega) oa (by omega) (by omega)).mono ?_
   rintro e w2 ⟨g2,r,rfl,hg2,hr1,or,hrl,hrv,hbel2⟩
   have H2:Hid (w1.heap.size≤g2∧w2.heap[g2]?=some (.cells (r.map intV).toArray 3 (0,0))∧Pl.LimbsOk r∧r.length=a.length+1∧Pl.lv r=Pl.lv a*tv∧Below w1.heap.size w1 w2):=⟨hg2,hr1,or,hrl,hrv,hbel2⟩
   clear hg2 hr1 or hrl hrv hbel2 HA1
   go_wp2_with (at_make;refine wpList_make_full _ rfl _ _ 24 rfl w2.heap.size 3 i0 (.int .i64 0) 1 Try.underlying24 hi hz0 hz1 .i64 .i64 _ _ mq rfl rfl ?e1 ?e2 ?c1 ?c2 ?c3 ?_)
   case e1=>first | rfl | omega | simp
   case e2=>first | rfl | omega | simp
   case c1=>rw [hz2];omega
   case c2=>unfold maxLen;omega
   case c3=>omega
   ·intro w3 hown hgrow
    have H3:Hid (∃ r s,DivInv g1 g2 w2.heap.size w w3 (Pl.lv a*tv) d r s (b.length+1) (a.length+1) mq mq)∧Hid (p+2=b.length∧Pl.lv d<1073741824^(p+2)∧536870912≤Pl.dig d (p+1)∧Pl.lv d=Pl.lv b*tv):=by
     obtain ⟨x1,x2,x3,x4,x5,x6⟩:=uh H1
     obtain ⟨y1,y2,y3,y4,y5,y6⟩:=uh H2
     have hp:=uh HP
     have hL2:=uh HL2
     rw [←hp] at hL2
     obtain ⟨z1,z2,z3⟩:=Pl.doubled_limbs (n:=p+1) ob x3 (by omega) x5 k (uh ht).1 (uh ht).2 (by rw [hL2];omega) (by rw [hL2];omega)
     have hb3:Below w2.heap.size w2 w3:=(Below.refl _ _).grown hgrow (Nat.le_refl _) (by intro k hk;cases hk)
     have hblk:w3.heap[w2.heap.size]?=some (.cells ((List.replicate mq (0:Int)).map intV).toArray 3 (0,0)):=by
      have:=block_of_own hown;rw [made_int] at this
      rw [this];simp [rowOf]
     have k1:w2.heap[g1]?=some (.cells (d.map intV).toArray 3 (0,0)):=(y6.block g1 (lt_of_block x2)).trans x2
     have n1:=lt_of_block x2
     have n2:=lt_of_block y2
     refine ⟨⟨r,List.replicate mq 0,(hb3.block g1 (lt_of_block k1)).trans k1,(hb3.block g2 n2).trans y2,hblk,?_,x3,y3,fun x hx=>?_,x4,y4,by simp,?_,?_,fun t _=>?_,by omega,n2,x1⟩,by omega,z1,z2,x5⟩
     ·exact (x6.trans (y6.mono x6.size)).trans (hb3.mono (Nat.le_trans x6.size y6.size))
     ·rw [(List.mem_replicate.1 hx).2];omega
     ·have:=Pl.lv_zeros [] mq;simp [Pl.lv] at this;rw [this,y5];simp
     ·rw [y5]
      have f1:Pl.lv a*tv<1073741824^a.length*tv:=Int.mul_lt_mul_of_pos_right (uh HQ).2.1 (by omega)
      have f2:1073741824^(p+1)*tv*1073741824^mq≤Pl.lv d*1073741824^mq:=Int.mul_le_mul_of_nonneg_right z3 (Int.le_of_lt (Pl.pow_pos _))
      rw [Int.mul_right_comm,←Int.pow_add,show p+1+mq=a.length by omega] at f2
      omega
     ·unfold Pl.dig;rw [List.getD_eq_getElem?_getD,List.getElem?_replicate];split <;> rfl
    obtain ⟨H3,H4⟩:=H3
    clear hown hgrow H1 H2 HP HL2 hl hl1 t3 t4 hc
    go_wp2_with fail
    go_loopw [11] (fun i wr=>∃ k:Nat,k≤mq∧i=.int .i64 ((k:Int) - 1)∧Hid (∃ r s,DivInv g1 g2 w2.heap.size w wr (Pl.lv a*tv) d r s (b.length+1) (a.length+1) mq k)) (fun i _=>(intOf i+1).toNat)
    case atStart=>exact ⟨mq,Nat.le_refl _,rfl,H3⟩
    case round =>
     obtain ⟨k,hk,rfl,hh⟩:=hrel
     clear H3
     obtain ⟨r',s',hD⟩:=uh hh
     have HD:=hide hD
     clear hD hh
     by_cases h0:0<k
     ·obtain ⟨j,rfl⟩:∃ j,k=j+1:=⟨k - 1,by omega⟩
      have ej:((j+1:Nat):Int) - 1=(j:Int):=by omega
      rw [ej]
      clear ej
      go_wp2_with fail
      refine (guess_div (p:=p) (uh HD) (by have:=(uh H4).1;omega) (by omega) (by omega) (uh H4).2.1 (uh H4).2.2.1 b.length (by have:=(uh H4).1;omega)).mono ?_
      rintro e w4 ⟨q,Q,rfl,hw4,q0,q1,Q0,Q1,hq⟩
      rw [hw4]
      clear hw4 w4
      go_wp2_with fail
      refine (take_div (uh HD) (by omega) (by omega) q q0 q1).mono ?_
      rintro e w5 ⟨r2,cy,rfl,hcy,h5⟩
      have hgs:w5.cell? ⟨w2.heap.size,j,none⟩=some (.int .i64 (Pl.dig s' j))∧w5.frozen? ⟨w2.heap.size,j,none⟩=false:=by
       have hD:=uh HD
       have n2:=hD.n23
       have hbs:=((uh h5).2.2.2.1.block w2.heap.size (lt_of_block hD.bs) (by omega)).trans hD.bs
       exact ⟨cell_of_ints hbs (by have:=hD.ls;omega),freeOf hbs _⟩
      by_cases hc0:0≤cy
      ·rw [decide_eq_true hc0]
       have HN:Hid (DivInv g1 g2 w2.heap.size w (w5.setCell ⟨w2.heap.size,j,none⟩ (.int .i64 q)) (Pl.lv a*tv) d r2 (s'.set j q) (b.length+1) (a.length+1) mq j):=by
        have hD:=uh HD
        obtain ⟨x1,x2,x3,x4⟩:=uh hq
        obtain ⟨y1,y2,y3,y4,y5,y6⟩:=uh h5
        obtain ⟨u1,u2,u3⟩:=Pl.div_take (p:=p) hD.okr y2 (by have:=hD.ld;have:=(uh H4).1;omega) (uh H4).2.1 hD.low x2 x3 x4 hcy y5 y6
        obtain ⟨v1,v2⟩:=u1 hc0
        rw [←v1] at v2 u3
        exact hD.next (by omega) y4 y1 y2 y3 v2 u3 q0 q1
       obtain ⟨hgs1,hgs2⟩:=hgs
       clear HD hq h5 hcy hc0
       generalize Pl.dig s' j=y at *
       go_wp2
       go_roundw
       case rel=>exact ⟨j,by omega,rfl,_,_,uh HN⟩
       case measure=>simp [intOf]
      ·rw [decide_eq_false hc0]
       have HG:Hid (Calls Try.prog 171 #[.slice (some ⟨g2,0,none⟩) (a.length+1) (a.length+1),.slice (some ⟨g1,0,none⟩) (b.length+1) (b.length+1),.int .i64 j] w5 fun e w'=>e=.returned (.tuple #[])∧1≤q∧(∃ y,w'.cell? ⟨w2.heap.size,j,none⟩=some (.int .i64 y))∧w'.frozen? ⟨w2.heap.size,j,none⟩=false∧Hid (∃ r3,DivInv g1 g2 w2.heap.size w (w'.setCell ⟨w2.heap.size,j,none⟩ (.int .i64 (q - 1))) (Pl.lv a*tv) d r3 (s'.set j (q - 1)) (b.length+1) (a.length+1) mq j)):=by
        have hD:=uh HD
        obtain ⟨x1,x2,x3,x4⟩:=uh hq
        obtain ⟨y1,y2,y3,y4,y5,y6⟩:=uh h5
        obtain ⟨u1,u2,u3⟩:=Pl.div_take (p:=p) hD.okr y2 (by have:=hD.ld;have:=(uh H4).1;omega) (uh H4).2.1 hD.low x2 x3 x4 hcy y5 y6
        obtain ⟨v1,v2⟩:=u2 (by omega)
        rw [←x1] at v1 v2 u3
        have eQ:Q=q - 1:=by omega
        rw [eQ] at v2 u3
        refine (give_div hD (by omega) (by omega) y4 y1 y2 y3).mono ?_
        rintro e w6 ⟨r3,c3,rfl,h6⟩
        obtain ⟨z1,z2,z3,z4,z5,z6⟩:=uh h6
        have n2:=hD.n23
        have hbs:=(z4.block w2.heap.size (lt_of_block hD.bs) (by omega)).trans hD.bs
        exact ⟨rfl,by omega,⟨_,cell_of_ints hbs (by have:=hD.ls;omega)⟩,freeOf hbs _,r3,hD.next (by omega) z4 z1 z2 z3 (v2 r3 c3 z2 z6 z5) u3 (by omega) (by omega)⟩
       clear HD hq h5 hgs hcy hc0
       go_wp2_with fail
       refine (uh HG).mono ?_
       rintro e w6 ⟨rfl,hq1',⟨y,hcy⟩,hfz,HN⟩
       clear HG
       go_wp2
       go_roundw
       case rel =>
        obtain ⟨r3,hN⟩:=uh HN
        exact ⟨j,by omega,rfl,r3,_,hN⟩
       case measure=>simp [intOf]
     ·have hk0:k=0:=by omega
      subst hk0
      rw [show ((0:Nat):Int) - 1=-1 from rfl]
      have HZ:Hid (Calls Try.prog 166 #[.slice (some ⟨g2,0,none⟩) (a.length+1) (a.length+1)] wr fun e w'=>e=.returned (.bool res)∧w'=wr)∧Hid (IntsOwn w.heap.size wr (.slice (some ⟨w2.heap.size,0,none⟩) mq mq) s'∧Pl.LimbsOk s'∧s'.length≤a.length∧Pl.lv s'=Pl.lv a/Pl.lv b∧Below w.heap.size w wr):=by
       have hD:=uh HD
       have hlr:=hD.lr
       have hls:=hD.ls
       have hlow:=hD.low
       rw [Int.pow_zero,Int.mul_one] at hlow
       obtain ⟨e1,e2⟩:=Pl.div_end (show 0<tv by omega) (uh HQ).1 (uh H4).2.2.2 hD.sum (Pl.lv_bd hD.okr).1 hlow
       have hz:=isZero_any r' _ wr (ints_of_block hD.br hlr) (by omega) hD.okr
       rw [e2,←uh HR] at hz
       have n1:=hD.n12
       have n2:=hD.n23
       have n3:=hD.n1
       exact ⟨hz,own_of_ints hD.bs hls (by omega) (by omega),hD.oks,by omega,e1,hD.bel⟩
      obtain ⟨HZ,HF⟩:=HZ
      clear HD
      go_wp2_with fail
      refine (uh HZ).mono ?_
      rintro e w4 ⟨rfl,hw4⟩
      rw [hw4]
      clear hw4 w4 HZ
      go_wp2
      go_ret2
      exact ⟨_,s',rfl,uh HF⟩
theorem divLimbs_any (a b:List Int) (va vb:Value) (w:World) (ha:IntsAt w va a) (hb:IntsAt w vb b) (hal:a.length≤6000000000000) (hbl:b.length≤6000000000000) (oa:Pl.LimbsOk a) (ob:Pl.LimbsOk b) (hb0:0<b.length) (hl:Pl.dig b (b.length - 1)≠0) :
  Calls Try.prog 129 #[va,vb] w fun e w'=>∃ v s,e=.returned (.tuple #[v,.bool (decide (Pl.lv a%Pl.lv b=0))])∧IntsOwn w.heap.size w' v s∧Pl.LimbsOk s∧s.length≤a.length∧Pl.lv s=Pl.lv a/Pl.lv b∧Below w.heap.size w w':=by
 by_cases h1:a.length<b.length
 ·exact divLimbs_short a b va vb w ha hb hal hbl oa ob hl h1
 ·by_cases h2:b.length=1
  ·exact divLimbs_one a b va vb w ha hb hal oa ob hl (by omega) h2
  ·exact divLimbs_many a b va vb w ha hb hal oa ob hl (by omega) (by omega)
end Go.Proofs.Ytfaljekgpnbmiaa
