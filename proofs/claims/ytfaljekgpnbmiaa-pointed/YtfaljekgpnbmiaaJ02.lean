/- Joined: XWh3 XWh4 XWh5 XWh6. -/
import Derived.Test.YtfaljekgpnbmiaaJ01
set_option linter.unusedVariables false
set_option linter.unusedSimpArgs false
set_option maxRecDepth 100000
namespace Go.Proofs.Ytfaljekgpnbmiaa
open Go.RowKit
theorem Pl.pv_above {a b:List Int} {m:Nat} (h:∀ t,m≤t→Pl.dig a t=Pl.dig b t):∀ n,m≤n→Pl.pv a n - Pl.pv b n=Pl.pv a m - Pl.pv b m:=by
 intro n hn
 obtain ⟨k,rfl⟩:∃ k,n=m+k:=⟨n - m,by omega⟩
 induction k with
 | zero=>rfl
 | succ k ih =>
  have:=ih (by omega)
  rw [←Nat.add_assoc,Pl.pv,Pl.pv,h (m+k) (by omega)]
  omega
theorem Pl.less_at {a b:List Int} (oa:Pl.LimbsOk a) (ob:Pl.LimbsOk b) {m:Nat} (h:∀ t,m+1≤t→Pl.dig a t=Pl.dig b t) (hlt:Pl.dig a m<Pl.dig b m):Pl.lv a<Pl.lv b:=by
 have e:=Pl.pv_above h (max (max a.length b.length) (m+1)) (by omega)
 rw [Pl.pv_all a _ (by omega),Pl.pv_all b _ (by omega),Pl.pv,Pl.pv] at e
 have b1:=Pl.pv_bd oa m
 have b2:=Pl.pv_bd ob m
 have hp:=Pl.pow_pos m
 have:1073741824^m*(Pl.dig a m+1)≤1073741824^m*Pl.dig b m:=Int.mul_le_mul_of_nonneg_left (by omega) (by omega)
 rw [Int.mul_add] at this
 omega
set_option maxHeartbeats 2000000 in
theorem isLess_any (a b:List Int) (va vb:Value) (w:World) (ha:IntsAt w va a) (hb:IntsAt w vb b) (hal:a.length≤7500000000000) (hbl:b.length≤7500000000000) (oa:Pl.LimbsOk a) (ob:Pl.LimbsOk b) :
  Calls Try.prog 127 #[va,vb] w fun e w'=>e=.returned (.bool (decide (Pl.lv a<Pl.lv b)))∧w'=w:=by
 have hLo:=hide (longer_any a b va vb w ha hb (by omega) (by omega))
 have HA:=hide (fun k (hk:k≤30000000000000)=>limb_any a va k w ha (by omega) hk)
 have HB:=hide (fun k (hk:k≤30000000000000)=>limb_any b vb k w hb (by omega) hk)
 obtain ⟨ad,cap,rfl⟩:=ints_shape0 ha
 obtain ⟨ad2,cap2,rfl⟩:=ints_shape0 hb
 have HM:Hid (a.length≤max a.length b.length∧b.length≤max a.length b.length):=⟨by omega,by omega⟩
 obtain ⟨m,hm⟩:∃ m,m=max a.length b.length:=⟨_,rfl⟩
 have hm5:m≤7500000000000:=by omega
 rw [←hm] at hLo HM
 clear ha hb hm
 obtain ⟨res,hres⟩:∃ res,res=decide (Pl.lv a<Pl.lv b):=⟨_,rfl⟩
 rw [←hres]
 have HR:=hide hres
 clear hres
 go_enter Try.func127,Try.ntmps127
 go_wp2_with fail
 refine (uh hLo).mono ?_
 rintro e w1 ⟨rfl,hw1⟩
 rw [hw1]
 clear hw1 w1 hLo
 go_wp2_with fail
 go_loop [5] (fun i=>∃ k:Nat,k≤m∧i=.int .i64 ((k:Int) - 1)∧Hid (∀ t,k≤t→Pl.dig a t=Pl.dig b t)) (fun i=>(intOf i+1).toNat)
 case atStart=>exact ⟨m,Nat.le_refl _,rfl,fun t ht=>by rw [Pl.dig_ge (by have:=(uh HM).1;omega),Pl.dig_ge (by have:=(uh HM).2;omega)]⟩
 case round =>
  obtain ⟨k,hk,rfl,hz⟩:=hrel
  by_cases h0:0<k
  ·obtain ⟨j,rfl⟩:∃ j,k=j+1:=⟨k - 1,by omega⟩
   have hA:=hide (uh HA j (by omega))
   have hB:=hide (uh HB j (by omega))
   have ej:((j+1:Nat):Int) - 1=(j:Int):=by omega
   rw [ej]
   by_cases he:Pl.dig a j=Pl.dig b j
   ·have HZ:Hid (∀ t,j≤t→Pl.dig a t=Pl.dig b t):=fun t ht=>by
     by_cases h:t=j
     ·subst h;exact he
     ·exact uh hz t (by omega)
    rw [he] at hA
    generalize Pl.dig b j=y at *
    clear hz he ej
    go_wp2_with fail
    refine (uh hA).mono ?_
    rintro e w2 ⟨rfl,hw2⟩
    rw [hw2]
    clear hw2 w2 hA
    go_wp2_with fail
    refine (uh hB).mono ?_
    rintro e w2 ⟨rfl,hw2⟩
    rw [hw2]
    clear hw2 w2 hB
    go_wp2
    go_round
    case rel=>exact ⟨j,by omega,rfl,HZ⟩
    case measure=>simp [intOf]
   ·have HR2:Hid (res=decide (Pl.dig a j<Pl.dig b j)):=by
     show res=decide (Pl.dig a j<Pl.dig b j)
     rw [uh HR]
     by_cases hlt:Pl.dig a j<Pl.dig b j
     ·rw [decide_eq_true hlt,decide_eq_true (Pl.less_at oa ob (uh hz) hlt)]
     ·have:=Pl.less_at ob oa (fun t ht=>(uh hz t ht).symm) (show Pl.dig b j<Pl.dig a j by omega)
      rw [decide_eq_false hlt,decide_eq_false (by omega)]
    have hnt:(Pl.dig a j != Pl.dig b j)=true:=by simpa using he
    generalize Pl.dig a j=x at *
    generalize Pl.dig b j=y at *
    clear hz he ej HR
    go_wp2_with fail
    refine (uh hA).mono ?_
    rintro e w2 ⟨rfl,hw2⟩
    rw [hw2]
    clear hw2 w2 hA
    go_wp2_with fail
    refine (uh hB).mono ?_
    rintro e w2 ⟨rfl,hw2⟩
    rw [hw2]
    clear hw2 w2 hB
    go_wp2
    go_ret
    exact ⟨ret_bool (uh HR2).symm,rfl⟩
  ·have hk0:k=0:=by omega
   subst hk0
   have HR2:Hid (res=false):=by
    show res=false
    rw [uh HR,decide_eq_false]
    have e:=Pl.pv_above (uh hz) m (Nat.zero_le _)
    rw [Pl.pv_all a _ (uh HM).1,Pl.pv_all b _ (uh HM).2] at e
    simp [Pl.pv] at e
    omega
   clear hz HR
   go_wp2
   go_ret
   exact ⟨ret_bool (uh HR2).symm,rfl⟩
set_option maxHeartbeats 1000000 in
theorem isZero_any (l:List Int) (v:Value) (w:World) (h:IntsAt w v l) (hl:l.length≤15000000000000) (o:Pl.LimbsOk l) :
  Calls Try.prog 166 #[v] w fun e w'=>e=.returned (.bool (decide (Pl.lv l=0)))∧w'=w:=by
 have hT:=hide (trimmed_any l v w h hl)
 obtain ⟨ad,cap,rfl⟩:=ints_shape0 h
 clear h
 go_enter Try.func166,Try.ntmps166
 go_wp2_with fail
 refine (uh hT).mono ?_
 rintro e w1 ⟨⟨n,rfl,ht⟩,hw1⟩
 rw [hw1]
 have HE:Hid (decide (Pl.lv l=0)=((n:Int) == 0)):=by
  show decide (Pl.lv l=0)=((n:Int) == 0)
  by_cases h0:n=0
  ·subst h0
   have e:=Pl.pv_above (a:=l) (b:=[]) (m:=0) (fun t ht2=>by rw [ht.2.1 t ht2,Pl.dig_ge (by simp)]) l.length (Nat.zero_le _)
   rw [Pl.pv_all l _ (Nat.le_refl _),Pl.pv_all [] _ (Nat.zero_le _)] at e
   simp [Pl.pv,Pl.lv] at e
   simp [e,Hid]
  ·have hd:=ht.2.2 (by omega)
   have h1:=o.dig (n - 1)
   have h2:Pl.lv []<Pl.lv l:=Pl.less_at .nil o (m:=n - 1) (fun t ht2=>by rw [ht.2.1 t (by omega),Pl.dig_ge (by simp)]) (by rw [Pl.dig_ge (by simp)];omega)
   have h3:Pl.lv l≠0:=by simp [Pl.lv] at h2;omega
   rw [decide_eq_false h3]
   simp;omega
 clear hw1 w1 hT ht
 go_wp2
 go_ret
 exact ⟨ret_bool (uh HE).symm,rfl⟩
set_option maxHeartbeats 2000000 in
theorem scaled_any (a:List Int) (va:Value) (times:Int) (w:World) (ha:IntsAt w va a) (hal:a.length≤7500000000000) (oa:Pl.LimbsOk a) (ht0:0≤times) (ht1:times<1073741824) :
  Calls Try.prog 168 #[va,.int .i64 times] w fun e w'=>∃ g s,e=.returned (.slice (some ⟨g,0,none⟩) (a.length+1) (a.length+1))∧w.heap.size≤g∧w'.heap[g]?=some (.cells (s.map intV).toArray 3 (0,0))∧Pl.LimbsOk s∧s.length=a.length+1∧Pl.lv s=Pl.lv a*times∧Below w.heap.size w w':=by
 obtain ⟨i0,hi,hz0,hz1,hz2⟩:=info_parts Try.infoInt
 have HA:=hide (fun w1 (h:Below w.heap.size w w1) k (hk:k≤30000000000000)=>limb_any a va k w1 (ha.below h) (by omega) hk)
 obtain ⟨ad,cap,rfl⟩:=ints_shape0 ha
 clear ha
 go_enter Try.func168,Try.ntmps168
 go_wp2_with (at_make;refine wpList_make_full _ rfl _ _ 24 rfl w.heap.size 3 i0 (.int .i64 0) 1 Try.underlying24 hi hz0 hz1 .i64 .i64 _ _ (a.length+1) rfl rfl ?e1 ?e2 ?c1 ?c2 ?c3 ?_)
 case e1=>first | rfl | omega | simp
 case e2=>first | rfl | omega | simp
 case c1=>rw [hz2];omega
 case c2=>unfold maxLen;omega
 case c3=>omega
 ·intro w1 hown hgrow
  have hb1:Below w.heap.size w w1:=(Below.refl _ _).grown hgrow (Nat.le_refl _) (by intro k hk;cases hk)
  have hblk:w1.heap[w.heap.size]?=some (.cells (rowOf [] (a.length+1)).toArray 3 (0,0)):=by
   have:=block_of_own hown;rw [made_int] at this;exact this
  have H1:Hid (w1.heap[w.heap.size]?=some (.cells (rowOf [] (a.length+1)).toArray 3 (0,0))∧Below w.heap.size w w1):=⟨hblk,hb1⟩
  clear hown hgrow hblk hb1
  go_wp2_with fail
  go_loopw [6,7] (fun c i wr=>∃ (k:Nat) (s:List Int) (cy:Int),k≤a.length+1∧s.length=k∧i=.int .i64 k∧c=.int .i64 cy∧0≤cy∧cy<1073741824∧Hid (wr.heap[w.heap.size]?=some (.cells (rowOf s (a.length+1)).toArray 3 (0,0))∧Below w.heap.size w wr∧Pl.LimbsOk s∧Pl.lv s+1073741824^k*cy=Pl.pv a k*times)) (fun _ i _=>a.length+1 - (intOf i).toNat)
  case atStart=>exact ⟨0,[],0,by omega,rfl,rfl,rfl,by omega,by omega,(uh H1).1,(uh H1).2,Pl.LimbsOk.nil,by simp [Pl.lv,Pl.pv]⟩
  case round =>
   obtain ⟨k,s,cy,hk,hsk,rfl,rfl,hc0,hc1,hh⟩:=hrel
   have HSK:=hide hsk
   clear H1
   by_cases hlt:k<a.length+1
   ·obtain ⟨q1,q2,q3,q4⟩:=uh hh
    have hA:=hide (uh HA wr q2 k (by omega))
    have da:=oa.dig k
    obtain ⟨u,hcu⟩:=cell_row (k:=k) q1 (by omega) hlt
    have hfr:wr.frozen? ⟨w.heap.size,k,none⟩=false:=freeOf q1 _
    have hm1:0≤Pl.dig a k*times:=Int.mul_nonneg da.1 ht0
    have hm2:Pl.dig a k*times≤1073741823*1073741823:=Int.mul_le_mul (by omega) (by omega) ht0 (by omega)
    have hwx:wrap64 (Pl.dig a k*times)=Pl.dig a k*times:=by unfold wrap64;omega
    obtain ⟨XY,hXY⟩:∃ XY,XY=Pl.dig a k*times:=⟨_,rfl⟩
    rw [←hXY] at hm1 hm2
    have hwx2:wrap64 (Pl.dig a k*times)=XY:=by rw [hwx,hXY]
    have e1:Pl.pv a (k+1)*times=Pl.pv a k*times+1073741824^k*XY:=by rw [Pl.pv,Int.add_mul,Int.mul_assoc,hXY]
    have hst:=Pl.carry_step (1073741824^k) (cy+XY)
    have hmk:=Pl.mask_i64 (cy+XY) (by omega) (by omega)
    obtain ⟨D,hD⟩:∃ D,D=(cy+XY)%1073741824:=⟨_,rfl⟩
    have hD2:0≤D∧D<1073741824:=by omega
    have HN:Hid ((wr.setCell ⟨w.heap.size,k,none⟩ (.int .i64 D)).heap[w.heap.size]?=some (.cells (rowOf (s++[D]) (a.length+1)).toArray 3 (0,0))∧Below w.heap.size w (wr.setCell ⟨w.heap.size,k,none⟩ (.int .i64 D))∧Pl.LimbsOk (s++[D])∧Pl.lv (s++[D])+1073741824^(k+1)*((cy+XY)/1073741824)=Pl.pv a (k+1)*times):=by
     refine ⟨?_,q2.setCell (p:=⟨w.heap.size,k,none⟩) (Nat.le_refl _) _,q3.append (.cons hD2.1 hD2.2 .nil),?_⟩
     ·rw [heap_setCell_same wr _ _ _ _ _ q1]
      have:=rowOf_set s (a.length+1) D (by omega)
      rw [hsk] at this
      rw [←this];rfl
     ·rw [Pl.lv_snoc,hsk,e1,Int.pow_succ,hD]
      rw [Int.mul_add] at hst
      omega
    rw [←hD] at hmk
    generalize Pl.dig a k=x at *
    clear q1 q2 q3 q4 hh e1 hst hD hsk hwx hXY
    go_wp2_with fail
    refine (uh hA).mono ?_
    rintro e w2 ⟨rfl,hw2⟩
    rw [hw2]
    clear hw2 w2 hA
    go_wp2
    go_roundw
    case rel=>exact ⟨k+1,s++[D],_,by omega,by have:=uh HSK;simp [this],by go_num,rfl,by omega,by omega,HN⟩
    case measure=>simp [intOf];omega
   ·obtain ⟨q1,q2,q3,q4⟩:=uh hh
    have hkk:k=a.length+1:=by omega
    have HF:Hid (wr.heap[w.heap.size]?=some (.cells (s.map intV).toArray 3 (0,0))∧Pl.LimbsOk s∧s.length=a.length+1∧Pl.lv s=Pl.lv a*times∧Below w.heap.size w wr):=by
     refine ⟨?_,q3,by omega,?_,q2⟩
     ·rw [show a.length+1=s.length by omega,rowOf_full] at q1;exact q1
     ·rw [hkk,Pl.pv_all a (a.length+1) (by omega)] at q4
      have ba:=Pl.lv_bd oa
      have bs:=Pl.lv_bd q3
      have hp:=Pl.pow_pos a.length
      rw [Int.pow_succ] at q4
      have h3:Pl.lv a*times≤Pl.lv a*1073741824:=Int.mul_le_mul_of_nonneg_left (by omega) ba.1
      have h2:cy=0:=by
       rcases (show cy=0∨1≤cy by omega) with h|h
       ·exact h
       ·have:1073741824^a.length*1073741824*1≤1073741824^a.length*1073741824*cy:=Int.mul_le_mul_of_nonneg_left h (by omega)
        omega
      rw [h2] at q4
      omega
    clear q1 q2 q3 q4 hh hsk hkk
    go_wp2
    go_ret
    exact ⟨_,s,rfl,Nat.le_refl _,uh HF⟩
theorem Pl.div_step {P d r x L R q s:Int} (h:L*d+P*1073741824*r=R) (hq:d*q+s=r*1073741824+x):(L+P*q)*d+P*s=R+P*x:=by
 have:P*(d*q+s)=P*(r*1073741824+x):=by rw [hq]
 rw [Int.mul_add,Int.mul_add] at this
 rw [Int.add_mul,Int.mul_assoc P q d,Int.mul_comm q d]
 rw [Int.mul_assoc,Int.mul_comm 1073741824 r] at h
 omega
set_option maxHeartbeats 2000000 in
theorem divByLimb_any (a:List Int) (va:Value) (d:Int) (w:World) (ha:IntsAt w va a) (hal:a.length≤7500000000000) (oa:Pl.LimbsOk a) (hd0:0<d) (hd1:d<1073741824) :
  Calls Try.prog 167 #[va,.int .i64 d] w fun e w'=>∃ v s,e=.returned (.tuple #[v,.bool (decide (Pl.lv a%d=0))])∧IntsOwn w.heap.size w' v s∧Pl.LimbsOk s∧s.length=a.length∧Pl.lv s=Pl.lv a/d∧Below w.heap.size w w':=by
 obtain ⟨i0,hi,hz0,hz1,hz2⟩:=info_parts Try.infoInt
 have HA:=hide ha
 obtain ⟨ad,cap,rfl⟩:=ints_shape0 ha
 clear ha
 go_enter Try.func167,Try.ntmps167
 go_wp2_with (at_make;refine wpList_make_full _ rfl _ _ 24 rfl w.heap.size 3 i0 (.int .i64 0) 1 Try.underlying24 hi hz0 hz1 .i64 .i64 _ _ (a.length) rfl rfl ?e1 ?e2 ?c1 ?c2 ?c3 ?_)
 case e1=>first | rfl | omega | simp
 case e2=>first | rfl | omega | simp
 case c1=>rw [hz2];omega
 case c2=>unfold maxLen;omega
 case c3=>omega
 ·intro w1 hown hgrow
  have hb1:Below w.heap.size w w1:=(Below.refl _ _).grown hgrow (Nat.le_refl _) (by intro k hk;cases hk)
  have hblk:w1.heap[w.heap.size]?=some (.cells ((List.replicate a.length (0:Int)).map intV).toArray 3 (0,0)):=by
   have:=block_of_own hown;rw [made_int] at this
   rw [this];simp [rowOf]
  have H1:Hid (w1.heap[w.heap.size]?=some (.cells ((List.replicate a.length (0:Int)).map intV).toArray 3 (0,0))∧Below w.heap.size w w1):=⟨hblk,hb1⟩
  clear hown hgrow hblk hb1
  go_wp2_with fail
  go_loopw [7,8] (fun r i wr=>∃ (k:Nat) (s:List Int) (rs:Int),k≤a.length∧i=.int .i64 ((k:Int) - 1)∧r=.int .i64 rs∧0≤rs∧rs<d∧Hid (s.length=a.length∧wr.heap[w.heap.size]?=some (.cells (s.map intV).toArray 3 (0,0))∧Below w.heap.size w wr∧Pl.LimbsOk s∧Pl.lv s*d+1073741824^k*rs=Pl.lv a - Pl.pv a k∧∀ t,t<k→Pl.dig s t=0)) (fun _ i _=>(intOf i+1).toNat)
  case atStart =>
   refine ⟨a.length,_,0,Nat.le_refl _,rfl,rfl,by omega,hd0,by simp,(uh H1).1,(uh H1).2,fun x hx=>?_,?_,fun t _=>?_⟩
   ·rw [(List.mem_replicate.1 hx).2];omega
   ·have:=Pl.lv_zeros [] a.length;simp [Pl.lv] at this;rw [this,Pl.pv_all a _ (Nat.le_refl _)];simp
   ·unfold Pl.dig;rw [List.getD_eq_getElem?_getD,List.getElem?_replicate];split <;> rfl
  case round =>
   obtain ⟨k,s,rs,hk,rfl,rfl,hr0,hr1,hh⟩:=hrel
   clear H1
   by_cases h0:0<k
   ·obtain ⟨j,rfl⟩:∃ j,k=j+1:=⟨k - 1,by omega⟩
    obtain ⟨q1,q2,q3,q4,q5,q6⟩:=uh hh
    have hlt:j<a.length:=by omega
    obtain ⟨b1,o1,cp1,hv1,hca0⟩:=ints_get' (uh HA) j hlt
    obtain ⟨rfl,_,rfl⟩:ad=some ⟨b1,o1,none⟩∧True∧cp1=cap:=by simp only [Value.slice.injEq] at hv1;exact ⟨hv1.1,trivial,hv1.2.2.symm⟩
    clear hv1
    have ej:((j+1:Nat):Int) - 1=(j:Int):=by omega
    rw [ej]
    have da:=oa.dig j
    have hca:=cell_kept q3 hca0
    have hcp:=cell_of_ints q2 (k:=j) (by omega)
    have hfr:wr.frozen? ⟨w.heap.size,j,none⟩=false:=freeOf q2 _
    have hdv:=Int.mul_ediv_add_emod (rs*1073741824+Pl.dig a j) d
    have hq0:0≤(rs*1073741824+Pl.dig a j)/d:=Int.ediv_nonneg (by omega) (by omega)
    have hq1:(rs*1073741824+Pl.dig a j)/d<1073741824:=Int.ediv_lt_of_lt_mul hd0 (by
     have:(rs+1)*1073741824≤d*1073741824:=Int.mul_le_mul_of_nonneg_right (by omega) (by omega)
     rw [Int.add_mul] at this
     rw [Int.mul_comm];omega)
    have hs0:=Int.emod_nonneg (rs*1073741824+Pl.dig a j) (show d≠0 by omega)
    have hs1:=Int.emod_lt_of_pos (rs*1073741824+Pl.dig a j) hd0
    have hq5:Pl.lv s*d+1073741824^j*1073741824*rs=Pl.lv a - Pl.pv a (j+1):=by rw [←Int.pow_succ];exact q5
    have hst:=Pl.div_step (P:=1073741824^j) (x:=Pl.dig a j) (q:=(rs*1073741824+Pl.dig a j)/d) (s:=(rs*1073741824+Pl.dig a j)%d) hq5 hdv
    obtain ⟨Q,hQ⟩:∃ Q,Q=(rs*1073741824+Pl.dig a j)/d:=⟨_,rfl⟩
    have HN:Hid ((s.set j Q).length=a.length∧(wr.setCell ⟨w.heap.size,j,none⟩ (.int .i64 Q)).heap[w.heap.size]?=some (.cells ((s.set j Q).map intV).toArray 3 (0,0))∧Below w.heap.size w (wr.setCell ⟨w.heap.size,j,none⟩ (.int .i64 Q))∧Pl.LimbsOk (s.set j Q)∧Pl.lv (s.set j Q)*d+1073741824^j*((rs*1073741824+Pl.dig a j)%d)=Pl.lv a - Pl.pv a j∧∀ t,t<j→Pl.dig (s.set j Q) t=0):=by
     rw [←hQ] at hq0 hq1 hst
     refine ⟨by simp [q1],?_,q3.setCell (p:=⟨w.heap.size,j,none⟩) (Nat.le_refl _) _,q4.set _ hq0 hq1,?_,fun t ht=>?_⟩
     ·rw [heap_setCell_same wr _ _ _ _ _ q2]
      rw [←map_set_cells];rfl
     ·rw [Pl.lv_set s j Q (by omega),q6 j (by omega),Int.sub_zero,hst,Pl.pv]
      omega
     ·rw [Pl.dig_set (by omega),if_neg (by omega)];exact q6 t (by omega)
    rw [hQ] at HN
    generalize Pl.dig a j=x at *
    generalize Pl.dig s j=y at *
    clear q1 q2 q3 q4 q5 q6 hq5 hh hst hdv hQ hca0 ej
    go_wp2
    go_roundw
    case rel=>exact ⟨j,_,_,by omega,rfl,rfl,hs0,hs1,HN⟩
    case measure=>simp [intOf]
   ·have hk0:k=0:=by omega
    subst hk0
    obtain ⟨q1,q2,q3,q4,q5,q6⟩:=uh hh
    simp only [Pl.pv,Int.pow_zero,Int.one_mul,Int.sub_zero] at q5
    have hdiv:Pl.lv s=Pl.lv a/d∧rs=Pl.lv a%d:=by
     have e:=Int.mul_ediv_add_emod (Pl.lv a) d
     have hs0:=Int.emod_nonneg (Pl.lv a) (show d≠0 by omega)
     have hs1:=Int.emod_lt_of_pos (Pl.lv a) hd0
     have h1:Pl.lv a/d=Pl.lv s:=Pl.ediv_uniq' hd0 (by omega) (by omega)
     refine ⟨h1.symm,?_⟩
     rw [h1,Int.mul_comm] at e
     omega
    have HE:Hid (decide (Pl.lv a%d=0)=(rs == 0)):=by
     show decide (Pl.lv a%d=0)=(rs == 0)
     rw [←hdiv.2];rfl
    have HF:Hid (IntsOwn w.heap.size wr (.slice (some ⟨w.heap.size,0,none⟩) a.length a.length) s∧Pl.LimbsOk s∧s.length=a.length∧Pl.lv s=Pl.lv a/d∧Below w.heap.size w wr) :=
     ⟨own_of_ints q2 q1 (Nat.le_refl _) (by omega),q4,q1,hdiv.1,q3⟩
    clear q1 q2 q3 q4 q5 q6 hh hdiv
    rw [show ((0:Nat):Int) - 1=-1 from rfl]
    go_wp2
    go_ret2
    exact ⟨.slice (some ⟨w.heap.size,0,none⟩) a.length a.length,s,by rw [uh HE];rfl,uh HF⟩
theorem Pl.take_step {P c p m L R:Int} (h:L+P*c=R):L+P*((c+(p+m))%1073741824 - p)+P*1073741824*((c+(p+m))/1073741824)=R+P*m:=by
 have:=Pl.carry_step P (c+(p+m))
 rw [Int.mul_add,Int.mul_add] at this
 rw [Int.mul_sub]
 omega
theorem only_drewN {g:Nat} {w w':World} (h:Only g w w') (n:Nat):Only g w (w'.drewN n):=h.trans (.of_below (below_drewN (Below.refl _ _) n))
set_option maxHeartbeats 4000000 in
theorem take_any (r d:List Int) (g:Nat) (vd:Value) (q:Int) (from':Nat) (w:World) (hr:w.heap[g]?=some (.cells (r.map intV).toArray 3 (0,0))) (hd:∀ w1,Only g w w1→IntsAt w1 vd d) (hl:from'+d.length≤r.length) (hrl:r.length≤7500000000000) (or:Pl.LimbsOk r) (od:Pl.LimbsOk d) (hq0:0≤q) (hq1:q<1073741824) :
  Calls Try.prog 170 #[.slice (some ⟨g,0,none⟩) r.length r.length,vd,.int .i64 q,.int .i64 from'] w fun e w'=>∃ (s:List Int) (cy:Int),e=.returned (.bool (decide (0≤cy)))∧cy≤0∧w'.heap[g]?=some (.cells (s.map intV).toArray 3 (0,0))∧Pl.LimbsOk s∧s.length=r.length∧Only g w w'∧Pl.lv s+1073741824^(from'+d.length)*cy=Pl.lv r - 1073741824^from'*(q*Pl.lv d)∧∀ t,from'+d.length≤t→Pl.dig s t=Pl.dig r t:=by
 have HD:=hide (fun w1 h k (hk:k≤30000000000000)=>limb_any d vd k w1 (hd w1 h) (by omega) hk)
 obtain ⟨ad,cap,rfl⟩:=ints_shape0 (hd w (.of_below (Below.refl _ _)))
 have HR:=hide hr
 clear hd hr
 go_enter Try.func170,Try.ntmps170
 go_wp2_with fail
 go_loopw [9,10] (fun c i wr=>∃ (k:Nat) (s:List Int) (cy:Int),k≤d.length∧i=.int .i64 k∧c=.int .i64 cy∧-1073741824≤cy∧cy≤0∧Hid (s.length=r.length∧wr.heap[g]?=some (.cells (s.map intV).toArray 3 (0,0))∧Only g w wr∧Pl.LimbsOk s∧Pl.lv s+1073741824^(from'+k)*cy=Pl.lv r - 1073741824^from'*(q*Pl.pv d k)∧∀ t,from'+k≤t→Pl.dig s t=Pl.dig r t)) (fun _ i _=>d.length - (intOf i).toNat)
 case atStart=>exact ⟨0,r,0,by omega,rfl,rfl,by omega,by omega,rfl,uh HR,.of_below (Below.refl _ _),or,by simp [Pl.pv],fun _ _=>rfl⟩
 case round =>
  obtain ⟨k,s,cy,hk,rfl,rfl,hc0,hc1,hh⟩:=hrel
  clear HR
  obtain ⟨q1,q2,q3,q4,q5,q6⟩:=uh hh
  by_cases hlt:k<d.length
  ·have hA:Hid (∀ n,Calls Try.prog 165 #[.slice ad d.length cap,.int .i64 k] (wr.drewN n) fun e w'=>e=.returned (.int .i64 (Pl.dig d k))∧w'=wr.drewN n):=fun n=>uh HD _ (only_drewN q3 n) k (by omega)
   have hfk:from'+k<r.length:=by omega
   have hcp:=cell_of_ints q2 (k:=from'+k) (by omega)
   have hfr:wr.frozen? ⟨g,from'+k,none⟩=false:=freeOf q2 _
   have dd:=od.dig k
   have dp:=q4.dig (from'+k)
   have hm1:0≤q*Pl.dig d k:=Int.mul_nonneg hq0 dd.1
   have hm2:q*Pl.dig d k≤1073741823*1073741823:=Int.mul_le_mul (by omega) (by omega) dd.1 (by omega)
   have hst:=Pl.take_step (m:=- (q*Pl.dig d k)) (p:=Pl.dig s (from'+k)) q5
   have hwx:wrap64 (q*Pl.dig d k)=q*Pl.dig d k:=by unfold wrap64;omega
   obtain ⟨XY,hXY⟩:∃ XY,XY=q*Pl.dig d k:=⟨_,rfl⟩
   rw [←hXY] at hm1 hm2 hst
   have hwx2:wrap64 (q*Pl.dig d k)=XY:=by rw [hwx,hXY]
   rw [show cy+(Pl.dig s (from'+k)+-XY)=cy+(Pl.dig s (from'+k) - XY) by omega] at hst
   have hmk:=Pl.mask_i64 (cy+(Pl.dig s (from'+k) - XY)) (by omega) (by omega)
   obtain ⟨D,hD⟩:∃ D,D=(cy+(Pl.dig s (from'+k) - XY))%1073741824:=⟨_,rfl⟩
   have hD2:0≤D∧D<1073741824:=by omega
   have HN:Hid (∀ n,(s.set (from'+k) D).length=r.length∧((wr.drewN n).setCell ⟨g,from'+k,none⟩ (.int .i64 D)).heap[g]?=some (.cells ((s.set (from'+k) D).map intV).toArray 3 (0,0))∧Only g w ((wr.drewN n).setCell ⟨g,from'+k,none⟩ (.int .i64 D))∧Pl.LimbsOk (s.set (from'+k) D)∧Pl.lv (s.set (from'+k) D)+1073741824^(from'+(k+1))*((cy+(Pl.dig s (from'+k) - XY))/1073741824)=Pl.lv r - 1073741824^from'*(q*Pl.pv d (k+1))∧∀ t,from'+(k+1)≤t→Pl.dig (s.set (from'+k) D) t=Pl.dig r t):=by
    intro n
    refine ⟨by simp [q1],?_,(only_drewN q3 n).setCell _ _,q4.set _ hD2.1 hD2.2,?_,fun t ht=>?_⟩
    ·rw [heap_setCell_same (wr.drewN n) _ _ _ _ _ q2]
     rw [←map_set_cells];rfl
    ·rw [Pl.lv_set s (from'+k) D (by omega),hD,←Nat.add_assoc,Int.pow_succ,hst,Pl.pv,Int.mul_add,Int.mul_add,hXY,Int.pow_add,Int.mul_left_comm q,Int.mul_assoc (1073741824^from'),Int.mul_neg,Int.mul_neg]
     omega
    ·rw [Pl.dig_set (by omega),if_neg (by omega)];exact q6 t (by omega)
   rw [←hD] at hmk
   generalize Pl.dig s (from'+k)=pd at *
   generalize Pl.dig d k=y at *
   clear hh q1 q2 q3 q4 q5 q6 hst hwx hXY hD
   go_wp2_with fail
   go_quiet ((go_at_call 165;exact Calls.quiet_of_same (uh hA _)))
   go_wp2
   go_roundw
   case rel=>exact ⟨k+1,_,_,by omega,by go_num,rfl,by omega,by omega,uh HN _⟩
   case measure=>simp [intOf];omega
  ·have hkk:k=d.length:=by omega
   have HF:Hid (cy≤0∧wr.heap[g]?=some (.cells (s.map intV).toArray 3 (0,0))∧Pl.LimbsOk s∧s.length=r.length∧Only g w wr∧Pl.lv s+1073741824^(from'+d.length)*cy=Pl.lv r - 1073741824^from'*(q*Pl.lv d)∧∀ t,from'+d.length≤t→Pl.dig s t=Pl.dig r t):=by
    subst hkk
    rw [Pl.pv_all d _ (Nat.le_refl _)] at q5
    exact ⟨hc1,q2,q4,q1,q3,q5,q6⟩
   clear q1 q2 q3 q4 q5 q6 hh hkk
   go_wp2
   go_ret
   exact ⟨s,cy,rfl,uh HF⟩
set_option maxHeartbeats 4000000 in
theorem giveBack_any (r d:List Int) (g:Nat) (vd:Value) (from':Nat) (w:World) (hr:w.heap[g]?=some (.cells (r.map intV).toArray 3 (0,0))) (hd:∀ w1,Only g w w1→IntsAt w1 vd d) (hl:from'+d.length≤r.length) (hrl:r.length≤7500000000000) (or:Pl.LimbsOk r) (od:Pl.LimbsOk d) :
  Calls Try.prog 171 #[.slice (some ⟨g,0,none⟩) r.length r.length,vd,.int .i64 from'] w fun e w'=>∃ (s:List Int) (cy:Int),e=.returned (.tuple #[])∧0≤cy∧cy≤1∧w'.heap[g]?=some (.cells (s.map intV).toArray 3 (0,0))∧Pl.LimbsOk s∧s.length=r.length∧Only g w w'∧Pl.lv s+1073741824^(from'+d.length)*cy=Pl.lv r+1073741824^from'*Pl.lv d∧∀ t,from'+d.length≤t→Pl.dig s t=Pl.dig r t:=by
 have HD:=hide (fun w1 h k (hk:k≤30000000000000)=>limb_any d vd k w1 (hd w1 h) (by omega) hk)
 obtain ⟨ad,cap,rfl⟩:=ints_shape0 (hd w (.of_below (Below.refl _ _)))
 have HR:=hide hr
 clear hd hr
 go_enter Try.func171,Try.ntmps171
 go_wp2_with fail
 go_loopw [6,7] (fun c i wr=>∃ (k:Nat) (s:List Int) (cy:Int),k≤d.length∧i=.int .i64 k∧c=.int .i64 cy∧0≤cy∧cy≤1∧Hid (s.length=r.length∧wr.heap[g]?=some (.cells (s.map intV).toArray 3 (0,0))∧Only g w wr∧Pl.LimbsOk s∧Pl.lv s+1073741824^(from'+k)*cy=Pl.lv r+1073741824^from'*Pl.pv d k∧∀ t,from'+k≤t→Pl.dig s t=Pl.dig r t)) (fun _ i _=>d.length - (intOf i).toNat)
 case atStart=>exact ⟨0,r,0,by omega,rfl,rfl,by omega,by omega,rfl,uh HR,.of_below (Below.refl _ _),or,by simp [Pl.pv],fun _ _=>rfl⟩
 case round =>
  obtain ⟨k,s,cy,hk,rfl,rfl,hc0,hc1,hh⟩:=hrel
  clear HR
  obtain ⟨q1,q2,q3,q4,q5,q6⟩:=uh hh
  by_cases hlt:k<d.length
  ·have hA:Hid (∀ n,Calls Try.prog 165 #[.slice ad d.length cap,.int .i64 k] (wr.drewN n) fun e w'=>e=.returned (.int .i64 (Pl.dig d k))∧w'=wr.drewN n):=fun n=>uh HD _ (only_drewN q3 n) k (by omega)
   have hfk:from'+k<r.length:=by omega
   have hcp:=cell_of_ints q2 (k:=from'+k) (by omega)
   have hfr:wr.frozen? ⟨g,from'+k,none⟩=false:=freeOf q2 _
   have dd:=od.dig k
   have dp:=q4.dig (from'+k)
   have hst:=Pl.take_step (m:=Pl.dig d k) (p:=Pl.dig s (from'+k)) q5
   have hmk:=Pl.mask_i64 (cy+(Pl.dig s (from'+k)+Pl.dig d k)) (by omega) (by omega)
   obtain ⟨D,hD⟩:∃ D,D=(cy+(Pl.dig s (from'+k)+Pl.dig d k))%1073741824:=⟨_,rfl⟩
   have hD2:0≤D∧D<1073741824:=by omega
   have HN:Hid (∀ n,(s.set (from'+k) D).length=r.length∧((wr.drewN n).setCell ⟨g,from'+k,none⟩ (.int .i64 D)).heap[g]?=some (.cells ((s.set (from'+k) D).map intV).toArray 3 (0,0))∧Only g w ((wr.drewN n).setCell ⟨g,from'+k,none⟩ (.int .i64 D))∧Pl.LimbsOk (s.set (from'+k) D)∧Pl.lv (s.set (from'+k) D)+1073741824^(from'+(k+1))*((cy+(Pl.dig s (from'+k)+Pl.dig d k))/1073741824)=Pl.lv r+1073741824^from'*Pl.pv d (k+1)∧∀ t,from'+(k+1)≤t→Pl.dig (s.set (from'+k) D) t=Pl.dig r t):=by
    intro n
    refine ⟨by simp [q1],?_,(only_drewN q3 n).setCell _ _,q4.set _ hD2.1 hD2.2,?_,fun t ht=>?_⟩
    ·rw [heap_setCell_same (wr.drewN n) _ _ _ _ _ q2]
     rw [←map_set_cells];rfl
    ·rw [Pl.lv_set s (from'+k) D (by omega),hD,←Nat.add_assoc,Int.pow_succ,hst,Pl.pv,Int.mul_add,Int.pow_add,Int.mul_assoc (1073741824^from')]
     omega
    ·rw [Pl.dig_set (by omega),if_neg (by omega)];exact q6 t (by omega)
   rw [←hD] at hmk
   generalize Pl.dig s (from'+k)=pd at *
   generalize Pl.dig d k=y at *
   clear hh q1 q2 q3 q4 q5 q6 hst hD
   go_wp2_with fail
   go_quiet ((go_at_call 165;exact Calls.quiet_of_same (uh hA _)))
   go_wp2
   go_roundw
   case rel=>exact ⟨k+1,_,_,by omega,by go_num,rfl,by omega,by omega,uh HN _⟩
   case measure=>simp [intOf];omega
  ·have hkk:k=d.length:=by omega
   have HF:Hid (0≤cy∧cy≤1∧wr.heap[g]?=some (.cells (s.map intV).toArray 3 (0,0))∧Pl.LimbsOk s∧s.length=r.length∧Only g w wr∧Pl.lv s+1073741824^(from'+d.length)*cy=Pl.lv r+1073741824^from'*Pl.lv d∧∀ t,from'+d.length≤t→Pl.dig s t=Pl.dig r t):=by
    subst hkk
    rw [Pl.pv_all d _ (Nat.le_refl _)] at q5
    exact ⟨hc0,hc1,q2,q4,q1,q3,q5,q6⟩
   clear q1 q2 q3 q4 q5 q6 hh hkk
   go_wp2
   go_end0
   exact ⟨s,cy,rfl,uh HF⟩
def Pl.Guess (f y x z q r:Int):Prop:=0≤q∧0≤r∧q*f+r=x∧∀ Q,Q<1073741824→Q*(f*1073741824+y)≤x*1073741824+z→Q≤q
theorem Pl.Guess.start {f y x z:Int} (hf:0<f) (hx:0≤x) (hy:0≤y) (hz:z<1073741824):Pl.Guess f y x z (x/f) (x%f):=by
 refine ⟨Int.ediv_nonneg hx (Int.le_of_lt hf),Int.emod_nonneg _ (by omega),by rw [Int.mul_comm];exact Int.mul_ediv_add_emod x f,fun Q hQ h=>?_⟩
 apply Int.le_ediv_of_mul_le hf
 by_cases h0:Q≤0
 ·have:=Int.mul_nonneg (show 0≤-Q by omega) (Int.le_of_lt hf)
  rw [Int.neg_mul] at this
  omega
 ·have h1:0≤Q*y:=Int.mul_nonneg (by omega) hy
  rw [Int.mul_add,←Int.mul_assoc] at h
  omega
theorem Pl.Guess.down {f y x z q r:Int} (h:Pl.Guess f y x z q r) (hf:0<f) (hz:0≤z) (hc:q≥1073741824∨q*y > r*1073741824+z):Pl.Guess f y x z (q - 1) (r+f)∧1≤q:=by
 obtain ⟨h0,h1,h2,h3⟩:=h
 have hq:1≤q:=by
  rcases hc with hc|hc
  ·omega
  ·rcases Int.lt_or_eq_of_le h0 with h | h
   ·omega
   ·rw [←h,Int.zero_mul] at hc;omega
 refine ⟨⟨by omega,by omega,by rw [Int.sub_mul];omega,fun Q hQ hl=>?_⟩,hq⟩
 have hle:=h3 Q hQ hl
 rcases hc with hc|hc
 ·omega
 ·rcases Int.lt_or_eq_of_le hle with h | h
  ·omega
  ·subst h
   have e:(Q*f+r)*1073741824+z=Q*(f*1073741824)+r*1073741824+z:=by rw [Int.add_mul,Int.mul_assoc]
   rw [←h2,e,Int.mul_add] at hl
   omega
theorem Pl.Guess.stop {f y x z q r:Int} (h:Pl.Guess f y x z q r) (hy:y<1073741824) (hy0:0≤y) (hz:0≤z) (hx:x<(f+1)*1073741824) (hf:0<f) (hc:r≥1073741824∨(q<1073741824∧q*y≤r*1073741824+z)):0≤q∧q<1073741824∧q*(f*1073741824+y)≤x*1073741824+z:=by
 obtain ⟨h0,h1,h2,h3⟩:=h
 have hq:q<1073741824:=by
  rcases hc with hc|hc
  ·rcases Int.lt_or_le q 1073741824 with h | h
   ·exact h
   ·have:1073741824*f≤q*f:=Int.mul_le_mul_of_nonneg_right h (Int.le_of_lt hf)
    rw [Int.add_mul] at hx
    omega
  ·exact hc.1
 refine ⟨h0,hq,?_⟩
 have e:(q*f+r)*1073741824+z=q*(f*1073741824)+r*1073741824+z:=by rw [Int.add_mul,Int.mul_assoc]
 rw [←h2,e,Int.mul_add]
 rcases hc with hc|hc
 ·have h4:q*y≤1073741823*1073741823:=Int.mul_le_mul (by omega) (by omega) hy0 (by omega)
  omega
 ·omega
set_option maxHeartbeats 4000000 in
theorem guess_any (r d:List Int) (vr vd:Value) (top:Nat) (w:World) (hr:IntsAt w vr r) (hd:IntsAt w vd d) (hrl:r.length≤7500000000000) (hdl:d.length≤7500000000000) (or:Pl.LimbsOk r) (od:Pl.LimbsOk d) (ht:2≤top) (ht2:top≤7500000000000) (hd3:3≤d.length) (hf:536870912≤Pl.dig d (d.length - 2)) (hx:Pl.dig r top≤Pl.dig d (d.length - 2)) :
  Calls Try.prog 169 #[vr,vd,.int .i64 top] w fun e w'=>∃ q:Int,e=.returned (.int .i64 q)∧w'=w∧0≤q∧q<1073741824∧q*(Pl.dig d (d.length - 2)*1073741824+Pl.dig d (d.length - 3))≤(Pl.dig r top*1073741824+Pl.dig r (top - 1))*1073741824+Pl.dig r (top - 2)∧∀ Q,Q<1073741824→Q*(Pl.dig d (d.length - 2)*1073741824+Pl.dig d (d.length - 3))≤(Pl.dig r top*1073741824+Pl.dig r (top - 1))*1073741824+Pl.dig r (top - 2)→Q≤q:=by
 have HD1:Hid (Calls Try.prog 165 #[vd,.int .i64 ((d.length:Int) - 1 - 1)] w fun e w'=>e=.returned (.int .i64 (Pl.dig d (d.length - 2)))∧w'=w):=by
  rw [show (d.length:Int) - 1 - 1=((d.length - 2:Nat):Int) by omega];exact limb_any d vd _ w hd (by omega) (by omega)
 have HD2:Hid (Calls Try.prog 165 #[vd,.int .i64 ((d.length:Int) - 1 - 2)] w fun e w'=>e=.returned (.int .i64 (Pl.dig d (d.length - 3)))∧w'=w):=by
  rw [show (d.length:Int) - 1 - 2=((d.length - 3:Nat):Int) by omega];exact limb_any d vd _ w hd (by omega) (by omega)
 have HR0:Hid (Calls Try.prog 165 #[vr,.int .i64 (top:Int)] w fun e w'=>e=.returned (.int .i64 (Pl.dig r top))∧w'=w):=limb_any r vr _ w hr (by omega) (by omega)
 have HR1:Hid (Calls Try.prog 165 #[vr,.int .i64 ((top:Int) - 1)] w fun e w'=>e=.returned (.int .i64 (Pl.dig r (top - 1)))∧w'=w):=by
  rw [show (top:Int) - 1=((top - 1:Nat):Int) by omega];exact limb_any r vr _ w hr (by omega) (by omega)
 have HR2:Hid (Calls Try.prog 165 #[vr,.int .i64 ((top:Int) - 2)] w fun e w'=>e=.returned (.int .i64 (Pl.dig r (top - 2)))∧w'=w):=by
  rw [show (top:Int) - 2=((top - 2:Nat):Int) by omega];exact limb_any r vr _ w hr (by omega) (by omega)
 obtain ⟨ad,cap,rfl⟩:=ints_shape0 hr
 obtain ⟨ad2,cap2,rfl⟩:=ints_shape0 hd
 have b1:=od.dig (d.length - 2)
 have b2:=od.dig (d.length - 3)
 have b3:=or.dig top
 have b4:=or.dig (top - 1)
 have b5:=or.dig (top - 2)
 clear hr hd or od
 generalize Pl.dig d (d.length - 2)=f at *
 generalize Pl.dig d (d.length - 3)=y at *
 generalize Pl.dig r top=x1 at *
 generalize Pl.dig r (top - 1)=x0 at *
 generalize Pl.dig r (top - 2)=z at *
 obtain ⟨x,hx0⟩:∃ x,x=x1*1073741824+x0:=⟨_,rfl⟩
 rw [←hx0]
 have hG:=Pl.Guess.start (f:=f) (y:=y) (x:=x) (z:=z) (by omega) (by omega) (by omega) (by omega)
 have hxx:x<(f+1)*1073741824:=by omega
 have hq1:x/f<2147483648:=Int.ediv_lt_of_lt_mul (by omega) (by
  have:2147483648*536870912≤2147483648*f:=Int.mul_le_mul_of_nonneg_left hf (by omega)
  omega)
 have hq0:=hG.1
 have hr0:=hG.2.1
 have hr1:=Int.emod_lt_of_pos x (show 0<f by omega)
 have HG:=hide hG
 clear hG
 go_enter Try.func169,Try.ntmps169
 go_wp2_with fail
 refine (uh HD1).mono ?_
 rintro e w1 ⟨rfl,hw1⟩
 rw [hw1]
 clear hw1 w1 HD1
 go_wp2_with fail
 refine (uh HR0).mono ?_
 rintro e w1 ⟨rfl,hw1⟩
 rw [hw1]
 clear hw1 w1 HR0
 go_wp2_with fail
 refine (uh HR1).mono ?_
 rintro e w1 ⟨rfl,hw1⟩
 rw [hw1]
 clear hw1 w1 HR1
 go_wp2_with fail
 rw [←hx0]
 clear hx0
 go_loopw [10,11] (fun qv rv wr=>∃ q rr:Int,qv=.int .i64 q∧rv=.int .i64 rr∧wr=w∧q<2147483648∧0≤q∧0≤rr∧rr<2147483648∧Hid (Pl.Guess f y x z q rr)) (fun qv _ _=>(intOf qv).toNat)
 case atStart=>exact ⟨_,_,rfl,rfl,rfl,hq1,hq0,hr0,by omega,HG⟩
 case round =>
  obtain ⟨q,rr,rfl,rfl,hwr,c1,c2,c3,c4,hg⟩:=hrel
  rw [hwr]
  clear hwr wr
  clear HG hq1 hq0 hr0 hr1
  by_cases k1:rr<1073741824
  ·by_cases k2:1073741824≤q
   ·have HN:=hide ((uh hg).down (by omega) (by omega) (.inl k2)).1
    clear hg
    go_wp2
    go_roundw
    case rel=>exact ⟨_,_,rfl,rfl,trivial,by omega,by omega,by omega,by omega,HN⟩
    case measure=>simp [intOf];omega
   ·have m1:0≤q*y:=Int.mul_nonneg c2 b2.1
    have m2:q*y≤1073741823*1073741823:=Int.mul_le_mul (by omega) (by omega) b2.1 (by omega)
    by_cases k3:rr*1073741824+z<q*y
    ·have HN:=hide ((uh hg).down (by omega) (by omega) (.inr k3))
     have hq1:=(uh HN).2
     clear hg
     go_wp2_with fail
     refine (uh HD2).mono ?_
     rintro e w1 ⟨rfl,hw1⟩
     rw [hw1]
     clear hw1 w1 HD2
     go_wp2_with fail
     refine (uh HR2).mono ?_
     rintro e w1 ⟨rfl,hw1⟩
     rw [hw1]
     clear hw1 w1 HR2
     go_wp2
     go_roundw
     case rel=>exact ⟨_,_,rfl,rfl,trivial,by omega,by omega,by omega,by omega,(uh HN).1⟩
     case measure=>simp [intOf];omega
    ·have HE:=hide ((uh hg).stop b2.2 b2.1 b5.1 hxx (by omega) (.inr ⟨by omega,by omega⟩))
     have HL:=hide (uh hg).2.2.2
     clear hg
     go_wp2_with fail
     refine (uh HD2).mono ?_
     rintro e w1 ⟨rfl,hw1⟩
     rw [hw1]
     clear hw1 w1 HD2
     go_wp2_with fail
     refine (uh HR2).mono ?_
     rintro e w1 ⟨rfl,hw1⟩
     rw [hw1]
     clear hw1 w1 HR2
     go_wp2
     go_ret
     exact ⟨q,rfl,rfl,(uh HE).1,(uh HE).2.1,(uh HE).2.2,uh HL⟩
  ·have HE:=hide ((uh hg).stop b2.2 b2.1 b5.1 hxx (by omega) (.inl (by omega)))
   have HL:=hide (uh hg).2.2.2
   clear hg
   go_wp2
   go_ret
   exact ⟨q,rfl,rfl,(uh HE).1,(uh HE).2.1,(uh HE).2.2,uh HL⟩
end Go.Proofs.Ytfaljekgpnbmiaa
