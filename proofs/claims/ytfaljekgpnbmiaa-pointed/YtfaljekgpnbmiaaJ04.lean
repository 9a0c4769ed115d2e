/- Joined: XInt1 XInt2 XInt3 XInt4. -/
import Derived.Test.YtfaljekgpnbmiaaJ03
set_option linter.unusedVariables false
set_option linter.unusedSimpArgs false
set_option maxRecDepth 100000
namespace Go.Proofs.Ytfaljekgpnbmiaa
open Go.RowKit
def WhAt (P:Nat→Prop) (w:World) (v:Value) (n:Int):Prop :=
 (v=.agg #[.int .i64 n,.slice none 0 0]∧-4611686018427387904<n∧n<4611686018427387904) ∨
 ∃ l b off cap cs sg,v=.agg #[.int .i64 sg,.slice (some ⟨b,off,none⟩) l.length cap]∧P b∧w.heap[b]?=some (.cells cs 3 (0,0))∧(∀ i,i<l.length→cs[off+i]?=some (intV (Pl.dig l i)))∧Pl.LimbsOk l∧0<l.length∧Pl.dig l (l.length - 1)≠0∧(sg=1∨sg=-1)∧n=sg*Pl.lv l∧4611686018427387904≤Pl.lv l
theorem WhAt.keep {P:Nat→Prop} {w w':World} {v:Value} {n:Int} (h:WhAt P w v n) (hb:KeepT 3 w w'):WhAt P w' v n:=by
 rcases h with h|⟨l,b,off,cap,cs,sg,h1,h2,h3,h4⟩
 ·exact .inl h
 ·exact .inr ⟨l,b,off,cap,cs,sg,h1,h2,(hb b _ h3).trans h3,h4⟩
theorem WhAt.below {P:Nat→Prop} {w w':World} {v:Value} {n:Int} (h:WhAt P w v n) (hb:Below w.heap.size w w'):WhAt P w' v n:=h.keep (.of_below hb)
theorem ints_of_cells {w:World} {l:List Int} {b off cap:Nat} {cs:Array Value} (h3:w.heap[b]?=some (.cells cs 3 (0,0))) (h4:∀ i,i<l.length→cs[off+i]?=some (intV (Pl.dig l i))):IntsAt w (.slice (some ⟨b,off,none⟩) l.length cap) l :=
 ⟨_,_,rfl,fun i hi=>⟨b,off,rfl,by rw [cellsOf h3];exact h4 i hi⟩⟩
theorem WhAt.head {P:Nat→Prop} {w:World} {v:Value} {n:Int} (h:WhAt P w v n):∃ x ad m cap,v=.agg #[.int .i64 x,.slice ad m cap]∧(x<0↔n<0)∧(0<x↔0<n)∧-4611686018427387904<x∧x<4611686018427387904∧WhAt P w (.agg #[.int .i64 (-x),.slice ad m cap]) (-n):=by
 rcases h with ⟨rfl,h1,h2⟩|⟨l,b,off,cap,cs,sg,rfl,hP,hb,hc,h3,h4,h5,h6,h7,h8⟩
 ·exact ⟨n,none,0,0,rfl,Iff.rfl,Iff.rfl,h1,h2,.inl ⟨rfl,by omega,by omega⟩⟩
 ·refine ⟨sg,_,_,cap,rfl,?_,?_,by omega,by omega,.inr ⟨l,b,off,cap,cs,-sg,rfl,hP,hb,hc,h3,h4,h5,by omega,by rw [h7,Int.neg_mul],h8⟩⟩
  ·rcases h6 with rfl | rfl <;> omega
  ·rcases h6 with rfl | rfl <;> omega
theorem slot_of {w1:World} {g:Nat} (h:w1.heap[g]?=some (.cells #[.int .i64 0,.slice none 0 0] 82 (0,0))):w1.cell? ⟨g,0,none⟩=some (.int .i64 0)∧w1.cell? ⟨g,1,none⟩=some (.slice none 0 0)∧w1.frozen? ⟨g,0,none⟩=false∧w1.frozen? ⟨g,1,none⟩=false :=
 ⟨by rw [cellsOf h];rfl,by rw [cellsOf h];rfl,freeOf h 0,freeOf h 1⟩
theorem keep_slot {w1:World} {g:Nat} (h:w1.heap[g]?=some (.cells #[.int .i64 0,.slice none 0 0] 82 (0,0))) (u v:Value):KeepT 3 w1 ((w1.setCell ⟨g,0,none⟩ u).setCell ⟨g,1,none⟩ v):=by
 intro k cs hk
 have hne:k≠g:=by
  intro e;subst e;rw [h] at hk;simp at hk
 rw [Below.heap_setCell _ _ _ _ (by simpa using hne),Below.heap_setCell _ _ _ _ (by simpa using hne)]
theorem slot_two (w:World) (o1 o2:Obj):((w.alloc o1).alloc o2).heap[w.heap.size+1]?=some o2:=by
 show ((w.heap.push o1).push o2)[w.heap.size+1]?=some o2
 rw [Array.getElem?_push,if_pos (by simp)]
theorem slot_set {w1:World} {g:Nat} (h:w1.heap[g]?=some (.cells #[.int .i64 0,.slice none 0 0] 82 (0,0))) (u v:Value):((w1.setCell ⟨g,0,none⟩ u).setCell ⟨g,1,none⟩ v).cell? ⟨g,0,none⟩=some u∧((w1.setCell ⟨g,0,none⟩ u).setCell ⟨g,1,none⟩ v).cell? ⟨g,1,none⟩=some v:=by
 have h1:=heap_setCell_same w1 g 0 _ _ u h
 have h2:=heap_setCell_same (w1.setCell ⟨g,0,none⟩ u) g 1 _ _ v h1
 exact ⟨by rw [cellsOf h2];rfl,by rw [cellsOf h2];rfl⟩
theorem Pl.len_le {l:List Int} (o:Pl.LimbsOk l) (h0:0<l.length) (h:Pl.dig l (l.length - 1)≠0):1073741824^(l.length - 1)≤Pl.lv l:=by
 have h1:=Pl.lv_split l (l.length - 1)
 have h2:=Pl.lv_drop l (l.length - 1)
 rw [List.drop_eq_nil_of_le (show l.length≤l.length - 1+1 by omega)] at h2
 simp only [Pl.lv,Int.mul_zero,Int.add_zero] at h2
 have h3:=(Pl.pv_bd o (l.length - 1)).1
 have h4:=o.dig (l.length - 1)
 have h5:1073741824^(l.length - 1)*1≤1073741824^(l.length - 1)*Pl.dig l (l.length - 1):=Int.mul_le_mul_of_nonneg_left (by omega) (Int.le_of_lt (Pl.pow_pos _))
 rw [h2] at h1
 omega
theorem Pl.len_bound {l:List Int} (o:Pl.LimbsOk l) (h0:0<l.length) (h:Pl.dig l (l.length - 1)≠0) {K:Nat} (hK:Pl.lv l<1073741824^K):l.length≤K:=by
 rcases Nat.lt_or_ge K l.length with hlt|hge
 ·have:=Pl.len_le o h0 h
  have:=Pl.pow_mono (show K≤l.length - 1 by omega)
  omega
 ·exact hge
set_option maxHeartbeats 1000000 in
theorem Sign_any (P:Nat→Prop) (v:Value) (n:Int) (w:World) (h:WhAt P w v n) :
  Calls Try.prog 81 #[v] w fun e w'=>e=.returned (.int .i64 (Int.sign n))∧Below w.heap.size w w':=by
 obtain ⟨x,ad,m,cap,rfl,h1,h2,h3,h4,_⟩:=h.head
 clear h
 rcases (show n<0∨0<n∨n=0 by omega) with hn|hn|hn
 ·rw [Int.sign_eq_neg_one_of_neg hn]
  have hx:=h1.2 hn
  clear h1 h2 hn
  go_enter Try.func81,Try.ntmps81
  go_wp2
  go_ret
  exact ⟨rfl,(Below.refl _ _).alloc (Nat.le_refl _) _⟩
 ·rw [Int.sign_eq_one_of_pos hn]
  have hx:=h2.2 hn
  clear h1 h2 hn
  go_enter Try.func81,Try.ntmps81
  go_wp2
  go_ret
  exact ⟨rfl,(Below.refl _ _).alloc (Nat.le_refl _) _⟩
 ·subst hn
  have hx:x=0:=by omega
  subst hx
  clear h1 h2
  go_enter Try.func81,Try.ntmps81
  go_wp2
  go_ret
  exact ⟨rfl,(Below.refl _ _).alloc (Nat.le_refl _) _⟩
set_option maxHeartbeats 1000000 in
theorem Neg_any (P:Nat→Prop) (v:Value) (n:Int) (w:World) (h:WhAt P w v n) :
  Calls Try.prog 61 #[v] w fun e w'=>∃ v',e=.returned v'∧WhAt P w' v' (-n)∧Below w.heap.size w w':=by
 obtain ⟨x,ad,m,cap,rfl,h1,h2,h3,h4,h5⟩:=h.head
 have HW:=hide h5
 clear h h1 h2 h5
 go_enter Try.func61,Try.ntmps61
 go_wp2
 have hb:∀ o1 o2,Below w.heap.size w ((w.alloc o1).alloc o2):=fun o1 o2=>((Below.refl _ w).alloc (Nat.le_refl _) o1).alloc (by simp) o2
 exact bodyPost_ret (v:=.agg #[.int .i64 (-x),.slice ad m cap]) (by simp [results,Try.results61,go_sem]) rfl ⟨_,rfl,(uh HW).below (hb _ _),hb _ _⟩
set_option maxHeartbeats 1000000 in
theorem Abs_any (P:Nat→Prop) (v:Value) (n:Int) (w:World) (h:WhAt P w v n) :
  Calls Try.prog 152 #[v] w fun e w'=>∃ v',e=.returned v'∧WhAt P w' v' (if n<0 then -n else n)∧Below w.heap.size w w':=by
 have HW:=hide h
 obtain ⟨x,ad,m,cap,rfl,h1,h2,h3,h4,_⟩:=h.head
 clear h h2
 have hb:∀ o1 o2,Below w.heap.size w ((w.alloc o1).alloc o2):=fun o1 o2=>((Below.refl _ w).alloc (Nat.le_refl _) o1).alloc (by simp) o2
 by_cases hn:n<0
 ·rw [if_pos hn]
  have hx:=h1.2 hn
  have hN:=hide (fun o1 o2=>Neg_any P _ n _ ((uh HW).below (hb o1 o2)))
  have HB:=hide hb
  clear h1 hn hb
  go_enter Try.func152,Try.ntmps152
  go_wp2_with fail
  refine (uh hN _ _).mono ?_
  rintro e w1 ⟨v',rfl,hv,hw1⟩
  obtain ⟨x2,ad2,m2,cap2,rfl,_⟩:=hv.head
  have hblk:w1.heap[w.heap.size+1]?=some (.cells #[.int .i64 0,.slice none 0 0] 82 (0,0)):=by
   rw [hw1.block _ (by simp)];exact slot_two _ _ _
  obtain ⟨c0,c1,f0,f1⟩:=slot_of hblk
  have HF:Hid (WhAt P ((w1.setCell ⟨w.heap.size+1,0,none⟩ (.int .i64 x2)).setCell ⟨w.heap.size+1,1,none⟩ (.slice ad2 m2 cap2)) (.agg #[.int .i64 x2,.slice ad2 m2 cap2]) (-n)∧Below w.heap.size w ((w1.setCell ⟨w.heap.size+1,0,none⟩ (.int .i64 x2)).setCell ⟨w.heap.size+1,1,none⟩ (.slice ad2 m2 cap2))) :=
   ⟨hv.keep (keep_slot hblk _ _),((((uh HB) _ _).trans (hw1.mono (by simp;omega))).setCell (p:=⟨w.heap.size+1,0,none⟩) (by simp) _).setCell (p:=⟨w.heap.size+1,1,none⟩) (by simp) _⟩
  have HS:=hide (slot_set hblk (.int .i64 x2) (.slice ad2 m2 cap2))
  clear hv hw1 hN hblk
  go_wp2
  exact bodyPost_ret (v:=.agg #[.int .i64 x2,.slice ad2 m2 cap2]) (by simp [results,Try.results152,go_sem,(uh HS).1,(uh HS).2]) rfl ⟨_,rfl,uh HF⟩
 ·rw [if_neg hn]
  have hx:¬ x<0:=fun h=>hn (h1.1 h)
  have HB:=hide hb
  clear h1 hn hb
  go_enter Try.func152,Try.ntmps152
  go_wp2
  exact bodyPost_ret (v:=.agg #[.int .i64 x,.slice ad m cap]) (by simp [results,Try.results152,go_sem]) rfl ⟨_,rfl,(uh HW).below (uh HB _ _),uh HB _ _⟩
set_option maxHeartbeats 1000000 in
theorem Small_any (P:Nat→Prop) (v:Value) (n:Int) (w:World) (h:WhAt P w v n) :
  Calls Try.prog 44 #[v] w fun e w'=>e=.returned (if -4611686018427387904<n∧n<4611686018427387904 then .tuple #[.int .i64 n,.bool true] else .tuple #[.int .i64 0,.bool false])∧Below w.heap.size w w':=by
 rcases h with ⟨rfl,h1,h2⟩|⟨l,b,off,cap,cs,sg,rfl,hP,hb,hc,h3,h4,h5,h6,h7,h8⟩
 ·rw [if_pos ⟨h1,h2⟩]
  go_enter Try.func44,Try.ntmps44
  go_wp2
  go_ret2
  exact ⟨rfl,(Below.refl _ _).alloc (Nat.le_refl _) _⟩
 ·rw [if_neg (by rcases h6 with rfl | rfl <;> omega)]
  clear hP hb hc h3 h5 h6 h7 h8
  go_enter Try.func44,Try.ntmps44
  go_wp2
  go_ret2
  exact ⟨rfl,(Below.refl _ _).alloc (Nat.le_refl _) _⟩
theorem Pl.trim_lv {l:List Int} {n:Nat} (h:Pl.TrimOf l n):Pl.lv (l.take n)=Pl.lv l:=by
 have e:=Pl.lv_append (l.take n) (l.drop n)
 rw [List.take_append_drop] at e
 have:∀ k,n≤k→Pl.lv (l.drop k)=0:=by
  intro k hk
  by_cases hkl:k<l.length
  ·obtain ⟨j,hj⟩:∃ j,j=l.length - k:=⟨_,rfl⟩
   induction j generalizing k with
   | zero=>omega
   | succ j ih =>
    rw [Pl.lv_drop l k,h.2.1 k hk]
    by_cases h2:k+1<l.length
    ·rw [ih (k+1) (by omega) h2 (by omega)];rfl
    ·rw [List.drop_eq_nil_of_le (by omega)];rfl
  ·rw [List.drop_eq_nil_of_le (by omega)];rfl
 rw [this n (Nat.le_refl _)] at e
 omega
theorem Pl.dig_take {l:List Int} {n i:Nat} (h:i<n):Pl.dig (l.take n) i=Pl.dig l i:=by
 unfold Pl.dig
 rw [List.getD_eq_getElem?_getD,List.getD_eq_getElem?_getD,List.getElem?_take]
 simp [h]
theorem Pl.lv_nonneg_drop {l:List Int} (o:Pl.LimbsOk l) (k:Nat):0≤Pl.lv (l.drop k):=(Pl.lv_bd (o.drop k)).1
theorem Pl.lv_drop_le {l:List Int} (o:Pl.LimbsOk l) (k:Nat):Pl.lv (l.drop k)≤Pl.lv l:=by
 have h1:=Pl.lv_split l k
 have h2:=(Pl.pv_bd o k).1
 have h3:=Pl.lv_nonneg_drop o k
 have h4:1*Pl.lv (l.drop k)≤1073741824^k*Pl.lv (l.drop k):=Int.mul_le_mul_of_nonneg_right (by have:=Pl.pow_pos k;omega) h3
 omega
theorem big_of {P:Nat→Prop} {w:World} {l:List Int} {sg:Int} {g n cap:Nat} {cur:Array Value} (hP:P g) (hg:w.heap[g]?=some (.cells cur 3 (0,0))) (hc:∀ i,i<l.length→cur[0+i]?=some (intV (Pl.dig l i))) (o:Pl.LimbsOk l) (ht:Pl.TrimOf l n) (h0:0<n) (hs:sg=1∨sg=-1) (hb:4611686018427387904≤Pl.lv l) :
  WhAt P w (.agg #[.int .i64 sg,.slice (some ⟨g,0,none⟩) n cap]) (sg*Pl.lv l):=by
 have hn:=ht.1
 have hl:(l.take n).length=n:=by simp;omega
 refine .inr ⟨l.take n,g,0,cap,cur,sg,by rw [hl],hP,hg,fun i hi=>?_,o.take n,by omega,?_,hs,by rw [Pl.trim_lv ht],by rw [Pl.trim_lv ht];exact hb⟩
 ·rw [hl] at hi
  rw [hc i (by omega),Pl.dig_take hi]
 ·rw [hl,Pl.dig_take (by omega)];exact ht.2.2 h0
theorem Pl.trim_big {l:List Int} {n:Nat} (o:Pl.LimbsOk l) (ht:Pl.TrimOf l n) (h:3<n∨(n=3∧4≤Pl.dig l 2)):4611686018427387904≤Pl.lv l:=by
 rcases h with h|⟨rfl,h⟩
 ·have h1:=ht.2.2 (by omega)
  have h2:=Pl.lv_split l (n - 1)
  have h3:=(Pl.pv_bd o (n - 1)).1
  have h4:=Pl.lv_drop l (n - 1)
  have h5:=Pl.lv_nonneg_drop o (n - 1+1)
  have h6:=o.dig (n - 1)
  have h7:=Pl.pow_mono (show 3≤n - 1 by omega)
  have h8:1073741824^(n - 1)*1≤1073741824^(n - 1)*Pl.lv (l.drop (n - 1)):=Int.mul_le_mul_of_nonneg_left (by omega) (by omega)
  have h9:(1073741824:Int)^3=1237940039285380274899124224:=rfl
  omega
 ·have h2:=Pl.lv_split l 2
  have h3:=(Pl.pv_bd o 2).1
  have h4:Pl.lv (l.drop 2)=Pl.dig l 2+1073741824*Pl.lv (l.drop 3):=Pl.lv_drop l 2
  have h5:=Pl.lv_nonneg_drop o 3
  have h9:(1073741824:Int)^2=1152921504606846976:=rfl
  rw [h9] at h2
  omega
theorem Pl.trim_small {l:List Int} {n:Nat} (o:Pl.LimbsOk l) (ht:Pl.TrimOf l n) (h:n<3∨(n=3∧Pl.dig l 2<4)):Pl.lv l<4611686018427387904:=by
 have h9:(1073741824:Int)^2=1152921504606846976:=rfl
 have h3:=(Pl.pv_bd o 2).2
 have e:=Pl.lv_split l 2
 have h4:Pl.lv (l.drop 2)<4:=by
  have h5:Pl.lv (l.drop 3)=0:=by
   have e1:=Pl.lv_split l n
   have e2:=Pl.trim_lv ht
   rw [←Pl.pv_take l n ht.1] at e2
   have h8:1073741824^n*Pl.lv (l.drop n)=0:=by omega
   have h6:Pl.lv (l.drop n)=0:=by
    rcases Int.mul_eq_zero.1 h8 with h|h
    ·have:=Pl.pow_pos n;omega
    ·exact h
   have h7:=Pl.lv_drop_le (o.drop n) (3 - n)
   rw [List.drop_drop,show n+(3 - n)=3 by omega] at h7
   have:=Pl.lv_nonneg_drop o 3
   omega
  have h6:=Pl.lv_drop l 2
  rw [h5] at h6
  rcases h with h|h
  ·rw [ht.2.1 2 (by omega)] at h6;omega
  ·omega
 rw [h9] at e h3
 omega
theorem slot_one (w:World) (o:Obj):(w.alloc o).heap[w.heap.size]?=some o:=by
 show (w.heap.push o)[w.heap.size]?=some o
 rw [Array.getElem?_push,if_pos rfl]
set_option maxHeartbeats 2000000 in
theorem made_any (P:Nat→Prop) (sg:Int) (l:List Int) (v:Value) (B:Nat) (w:World) (ho:IntsOwn B w v l) (hP:∀ b,B≤b→P b) (o:Pl.LimbsOk l) (hl:l.length≤13500000000000) (hs:(sg=1∨sg=-1)∨(sg=0∧Pl.lv l=0)) :
  Calls Try.prog 125 #[.int .i64 sg,v] w fun e w'=>∃ v',e=.returned v'∧WhAt P w' v' (sg*Pl.lv l)∧Below w.heap.size w w':=by
 have hat:=ints_own ho
 have hT:=hide (fun o1=>trimmed_any l v (w.alloc o1) (hat.below ((Below.refl _ w).alloc (Nat.le_refl _) o1)) (by omega))
 have HB:Hid (∀ o1,Below w.heap.size w (w.alloc o1)):=fun o1=>(Below.refl _ w).alloc (Nat.le_refl _) o1
 have HA:=hide hat
 have HO:=hide ho
 obtain ⟨ad,cap,rfl⟩:=ints_shape0 hat
 clear hat ho
 go_enter Try.func125,Try.ntmps125
 go_wp2_with fail
 refine (uh hT _).mono ?_
 rintro e w1 ⟨⟨n,rfl,ht⟩,hw1⟩
 rw [hw1]
 clear hw1 w1 hT
 have hnl:=ht.1
 have HT:=hide ht
 clear ht
 by_cases hbig:3<n∨(n=3∧4≤Pl.dig l 2)
 ·have hlv:=Pl.trim_big o (uh HT) hbig
  have hs2:sg=1∨sg=-1:=by rcases hs with h | h <;> omega
  obtain ⟨g,cp,cur,hv,hBg,hgg,hle,hcur⟩:∃ g cp cur,Value.slice ad l.length cap=.slice (some ⟨g,0,none⟩) l.length cp∧B≤g∧w.heap[g]?=some (.cells cur 3 (0,0))∧l.length≤cp∧∀ i,i<l.length→cur[0+i]?=some (intV (Pl.dig l i)):=by
   have ho:=uh HO
   have hat:=uh HA
   rcases ho.2 with ⟨h1,hn⟩|⟨g,cp,cur,h1,hb,hgg,hle,hm,hcs,htk⟩
   ·omega
   ·refine ⟨g,cp,cur,h1,hb,hgg,hle,fun i hi=>?_⟩
    obtain ⟨b1,o1,c1,hv1,hc1⟩:=ints_get' hat i hi
    rw [h1] at hv1
    simp only [Value.slice.injEq,Option.some.injEq,Addr.mk.injEq] at hv1
    obtain ⟨⟨rfl,rfl,_⟩,_⟩:=hv1
    rw [←cellsOf hgg];exact hc1
  simp only [Value.slice.injEq,true_and] at hv
  obtain ⟨rfl,rfl⟩:=hv
  have HW:Hid (∀ o1,WhAt P (w.alloc o1) (.agg #[.int .i64 sg,.slice (some ⟨g,0,none⟩) n cap]) (sg*Pl.lv l)):=fun o1=>(big_of (hP g hBg) hgg hcur o (uh HT) (by omega) hs2 hlv).below (uh HB o1)
  have HC:Hid (2<l.length→∀ o1,(w.alloc o1).cell? ⟨g,2,none⟩=some (.int .i64 (Pl.dig l 2))):=fun h2 o1=>by
   rw [(uh HB o1).cell (show g<w.heap.size from lt_of_block hgg),cellsOf hgg]
   have:=hcur 2 h2
   rwa [Nat.zero_add] at this
  clear hgg hcur hBg hlv HT HA HO o
  by_cases h3:3<n
  ·clear HC hbig
   go_wp2
   exact bodyPost_ret (v:=.agg #[.int .i64 sg,.slice (some ⟨g,0,none⟩) n cap]) (by simp [results,Try.results125,go_sem]) rfl ⟨_,rfl,uh HW _,uh HB _⟩
  ·obtain ⟨rfl,h4⟩:=hbig.resolve_left h3
   have hc:=uh HC (by omega) (.cells #[.int .i64 0,.slice none 0 0] 82)
   clear HC hbig
   generalize Pl.dig l 2=y at *
   go_wp2
   exact bodyPost_ret (v:=.agg #[.int .i64 sg,.slice (some ⟨g,0,none⟩) 3 cap]) (by simp [results,Try.results125,go_sem]) rfl ⟨_,rfl,uh HW _,uh HB _⟩
 ·have hlv:=Pl.trim_small o (uh HT) (by omega)
  have hlv0:=(Pl.lv_bd o).1
  have hn3:n≤3:=by omega
  have HZ:Hid (Pl.lv (l.drop n)=0):=by
   have e1:=Pl.lv_split l n
   have e2:=Pl.trim_lv (uh HT)
   rw [←Pl.pv_take l n hnl] at e2
   have h8:1073741824^n*Pl.lv (l.drop n)=0:=by omega
   rcases Int.mul_eq_zero.1 h8 with h|h
   ·have:=Pl.pow_pos n;omega
   ·exact h
  have HAS:=hide ((uh HA).below (uh HB (.cells #[.int .i64 0,.slice none 0 0] 82)))
  clear HO HA HT hP
  by_cases h3:n=3
  ·have hn1:((n:Int) == 3)=true:=by simp [h3]
   have hy:Pl.dig l 2<4:=by omega
   obtain ⟨b1,o1,cp1,hv1,hca2⟩:=ints_get' (uh HAS) 2 (by omega)
   obtain ⟨rfl,_,rfl⟩:ad=some ⟨b1,o1,none⟩∧True∧cp1=cap:=by simp only [Value.slice.injEq] at hv1;exact ⟨hv1.1,trivial,hv1.2.2.symm⟩
   have hl3:2<l.length:=by omega
   generalize hyy:Pl.dig l 2=y at *
   clear hv1 hbig h3 hyy
   go_wp2_with fail
   go_loop [6,7] (fun vv iv=>∃ (k:Nat) (x:Int),k≤n∧vv=.int .i64 x∧iv=.int .i64 ((k:Int) - 1)∧0≤x∧x<4611686018427387904∧Hid (x=Pl.lv (l.drop k))) (fun _ iv=>(intOf iv+1).toNat)
   case atStart=>exact ⟨n,0,Nat.le_refl _,rfl,rfl,by omega,by omega,(uh HZ).symm⟩
   case round =>
    obtain ⟨k,x,hk,rfl,rfl,x0,x1,hx⟩:=hrel
    by_cases h0:0<k
    ·obtain ⟨j,rfl⟩:∃ j,k=j+1:=⟨k - 1,by omega⟩
     have hjl:j<l.length:=by omega
     obtain ⟨b2,o2,cp2,hv1,hca0⟩:=ints_get' (uh HAS) j hjl
     obtain ⟨⟨rfl,rfl⟩,_,rfl⟩:(b1=b2∧o1=o2)∧True∧cp1=cp2:=by simp only [Value.slice.injEq,Option.some.injEq,Addr.mk.injEq,true_and,and_true] at hv1;exact ⟨hv1.1,trivial,hv1.2⟩
     clear hv1
     have ej:((j+1:Nat):Int) - 1=(j:Int):=by omega
     rw [ej]
     have dj:=o.dig j
     have hbd:x*1073741824+Pl.dig l j=Pl.lv (l.drop j):=by rw [uh hx,Pl.lv_drop l j];omega
     have hb2:=Pl.lv_drop_le o j
     have hb3:=Pl.lv_nonneg_drop o j
     have HN:Hid (x*1073741824+Pl.dig l j=Pl.lv (l.drop j)):=hbd
     have hb4:x*1073741824+Pl.dig l j<4611686018427387904:=by omega
     have hb5:0≤x*1073741824+Pl.dig l j:=by omega
     generalize Pl.dig l j=y at *
     clear hx hbd hb2 hb3 ej
     go_wp2
     go_round
     case rel=>exact ⟨j,_,by omega,rfl,rfl,hb5,hb4,HN⟩
     case measure=>simp [intOf]
    ·have hk0:k=0:=by omega
     subst hk0
     rw [show ((0:Nat):Int) - 1=-1 from rfl]
     have HX:Hid (x=Pl.lv l):=uh hx
     have hm:-4611686018427387904<sg*x∧sg*x<4611686018427387904:=by
      rcases hs with (rfl|rfl) | ⟨rfl,_⟩ <;> omega
     have hm1:=hm.1
     have hm2:=hm.2
     clear hx hm
     go_wp2
     exact bodyPost_ret (v:=.agg #[.int .i64 (sg*x),.slice none 0 0]) (by simp [results,Try.results125,go_sem]) rfl ⟨_,rfl,.inl ⟨by rw [uh HX],by rw [←uh HX];exact hm1,by rw [←uh HX];exact hm2⟩,uh HB _⟩
  ·have hn1:((n:Int) == 3)=false:=by simp;omega
   clear hbig h3
   go_wp2_with fail
   go_loop [6,7] (fun vv iv=>∃ (k:Nat) (x:Int),k≤n∧vv=.int .i64 x∧iv=.int .i64 ((k:Int) - 1)∧0≤x∧x<4611686018427387904∧Hid (x=Pl.lv (l.drop k))) (fun _ iv=>(intOf iv+1).toNat)
   case atStart=>exact ⟨n,0,Nat.le_refl _,rfl,rfl,by omega,by omega,(uh HZ).symm⟩
   case round =>
    obtain ⟨k,x,hk,rfl,rfl,x0,x1,hx⟩:=hrel
    by_cases h0:0<k
    ·obtain ⟨j,rfl⟩:∃ j,k=j+1:=⟨k - 1,by omega⟩
     have hjl:j<l.length:=by omega
     obtain ⟨b1,o1,cp1,hv1,hca0⟩:=ints_get' (uh HAS) j hjl
     obtain ⟨rfl,_,rfl⟩:ad=some ⟨b1,o1,none⟩∧True∧cp1=cap:=by simp only [Value.slice.injEq] at hv1;exact ⟨hv1.1,trivial,hv1.2.2.symm⟩
     clear hv1
     have ej:((j+1:Nat):Int) - 1=(j:Int):=by omega
     rw [ej]
     have dj:=o.dig j
     have hbd:x*1073741824+Pl.dig l j=Pl.lv (l.drop j):=by rw [uh hx,Pl.lv_drop l j];omega
     have hb2:=Pl.lv_drop_le o j
     have hb3:=Pl.lv_nonneg_drop o j
     have HN:Hid (x*1073741824+Pl.dig l j=Pl.lv (l.drop j)):=hbd
     have hb4:x*1073741824+Pl.dig l j<4611686018427387904:=by omega
     have hb5:0≤x*1073741824+Pl.dig l j:=by omega
     generalize Pl.dig l j=y at *
     clear hx hbd hb2 hb3 ej
     go_wp2
     go_round
     case rel=>exact ⟨j,_,by omega,rfl,rfl,hb5,hb4,HN⟩
     case measure=>simp [intOf]
    ·have hk0:k=0:=by omega
     subst hk0
     rw [show ((0:Nat):Int) - 1=-1 from rfl]
     have HX:Hid (x=Pl.lv l):=uh hx
     have hm:-4611686018427387904<sg*x∧sg*x<4611686018427387904:=by
      rcases hs with (rfl|rfl) | ⟨rfl,_⟩ <;> omega
     have hm1:=hm.1
     have hm2:=hm.2
     clear hx hm
     go_wp2
     exact bodyPost_ret (v:=.agg #[.int .i64 (sg*x),.slice none 0 0]) (by simp [results,Try.results125,go_sem]) rfl ⟨_,rfl,.inl ⟨by rw [uh HX],by rw [←uh HX];exact hm1,by rw [←uh HX];exact hm2⟩,uh HB _⟩
theorem one_news_int {w:World} (x:Value):∀ j u,[x][j]?=some u→(w.alloc (.cells #[x] 3)).cell? ((⟨w.heap.size,0,none⟩:Addr).add j)=some u:=by
 intro j u hj
 match j,hj with
 | 0,hj=>simp at hj;subst hj;simp [Addr.add]
theorem one_cell_int (t:Int):∀ u∈[intV t],u.oneCell'=true:=by intro u hu;simp at hu;subst hu;rfl
theorem ints_grown {B:Nat} {w1:World} {v':Value} {l:List Int} {t:Int} (h:w1.ownsRow B 3 1 v' (l.length+1) (l.map intV++[intV t])):IntsOwn B w1 v' (l++[t]):=by
 unfold IntsOwn;simpa using h
def Pl.Peeled (m x:Int) (acc:List Int):Prop:=Pl.LimbsOk acc∧0≤x∧Pl.lv acc+1073741824^acc.length*x=m∧(x=0→0<acc.length→Pl.dig acc (acc.length - 1)≠0)
theorem Pl.Peeled.next {m x:Int} {acc:List Int} (h:Pl.Peeled m x acc) (hx:0<x):Pl.Peeled m (x/1073741824) (acc++[x%1073741824]):=by
 obtain ⟨h1,h2,h3,h4⟩:=h
 refine ⟨h1.append (.cons (by omega) (by omega) .nil),by omega,?_,fun hz _=>?_⟩
 ·rw [Pl.lv_snoc,List.length_append,List.length_singleton,Int.pow_succ]
  have:=Pl.carry_step (1073741824^acc.length) x
  omega
 ·rw [List.length_append,List.length_singleton,Nat.add_sub_cancel]
  unfold Pl.dig
  rw [List.getD_eq_getElem?_getD,List.getElem?_append_right (Nat.le_refl _)]
  simp
  omega
theorem Pl.Peeled.short {m x:Int} {acc:List Int} (h:Pl.Peeled m x acc) (hx:0<x) (hm:m≤9223372036854775808):acc.length≤2:=by
 obtain ⟨h1,h2,h3,h4⟩:=h
 rcases Nat.lt_or_ge 2 acc.length with hlt|hge
 ·have h5:=Pl.pow_mono (show 3≤acc.length by omega)
  have h6:1073741824^acc.length*1≤1073741824^acc.length*x:=Int.mul_le_mul_of_nonneg_left (by omega) (by have:=Pl.pow_pos acc.length;omega)
  have h7:=(Pl.lv_bd h1).1
  have h9:(1073741824:Int)^3=1237940039285380274899124224:=rfl
  omega
 ·omega
set_option maxHeartbeats 2000000 in
theorem parts_any (P:Nat→Prop) (v:Value) (n:Int) (w:World) (h:WhAt P w v n) :
  Calls Try.prog 124 #[v] w fun e w'=>∃ sl l,e=.returned sl∧IntsAt w' sl l∧Pl.LimbsOk l∧Pl.lv l=n.natAbs∧(0<l.length→Pl.dig l (l.length - 1)≠0)∧Below w.heap.size w w':=by
 have hb0:∀ o1,Below w.heap.size w (w.alloc o1):=fun o1=>(Below.refl _ w).alloc (Nat.le_refl _) o1
 rcases h with ⟨rfl,h1,h2⟩|⟨l,b,off,cap,cs,sg,rfl,hP,hb,hc,h3,h4,h5,h6,h7,h8⟩
 ·obtain ⟨i0,hi,hz0,hz1,hz2⟩:=info_parts Try.infoInt
  have HB:=hide hb0
  clear hb0
  obtain ⟨m,HM,hm0,hm1⟩:∃ m:Int,Hid (m=n.natAbs)∧0≤m∧m<4611686018427387904:=⟨_,rfl,by omega,by omega⟩
  rw [←uh HM]
  have hP0:Pl.Peeled m m []:=⟨.nil,hm0,by simp [Pl.lv],fun _ h=>by simp at h⟩
  have HP:=hide hP0
  clear hP0
  by_cases hn:n<0
  ·have hmn:m=-n:=by have:=uh HM;omega
   have HP:Hid (Pl.Peeled m (-n) []):=by rw [←hmn];exact uh HP
   clear hmn HM
   go_enter Try.func124,Try.ntmps124
   go_wp2_with fail
   go_loopw [3,4] (fun rv sv wr=>∃ (x:Int) (acc:List Int),rv=.int .i64 x∧0≤x∧x<4611686018427387904∧acc.length≤3∧IntsOwn w.heap.size wr sv acc∧Below w.heap.size w wr∧Hid (Pl.Peeled m x acc)) (fun rv _ _=>(intOf rv).toNat)
   case atStart=>exact ⟨_,[],rfl,by omega,by omega,by simp,World.ownsRow_nil _ _ _ _,uh HB _,HP⟩
   case round =>
    obtain ⟨x,acc,rfl,x0,x1,hal,hown,hbel,hpl⟩:=hrel
    clear HP HB
    by_cases hx:0<x
    ·have ha2:=(uh hpl).short hx (by omega)
     have HN:=hide ((uh hpl).next hx)
     clear hpl
     go_wp2_with (at_builtin;refine wpList_append_own _ rfl _ _ 24 rfl w.heap.size 3 i0 (.int .i64 0) 1 8 Try.underlying24 hi hz0 hz1 hz2 rfl (by decide) _ _ _ rfl (World.ownsRow.alloc hown _) ⟨_,0,none⟩ 1 1 [intV (x%1073741824)] rfl rfl ?c1 (one_cell_int _) ?c3 ?c4 ?c5 ?_)
     case c1=>exact one_news_int (intV _)
     case c3=>unfold maxLen;omega
     case c4=>omega
     case c5=>have:=hbel.size;simp;omega
     ·intro v' w2 hown' hgrow _
      have hA:=ints_grown hown'
      have hB:=(hbel.alloc hbel.size (Obj.cells #[Value.int .i64 (x%1073741824)] 3)).grown hgrow (by have:=hbel.size;simp;omega) (own_base hown)
      clear hown' hgrow hown hbel
      go_wp2
      go_roundw
      case rel=>exact ⟨_,_,rfl,by omega,by omega,by simp;omega,hA,hB,HN⟩
      case measure=>simp [intOf];omega
    ·have hx0:x=0:=by omega
     have HF:Hid (∀ v3,IntsOwn w.heap.size wr v3 acc→IntsAt wr v3 acc∧Pl.LimbsOk acc∧Pl.lv acc=m∧(0<acc.length→Pl.dig acc (acc.length - 1)≠0)∧Below w.heap.size w wr):=by
      obtain ⟨p1,p2,p3,p4⟩:=uh hpl
      exact fun v3 ho=>⟨ints_own ho,p1,by rw [hx0,Int.mul_zero] at p3;omega,p4 hx0,hbel⟩
     clear hpl hbel
     go_wp2
     go_ret
     exact ⟨_,rfl,acc,uh HF _ hown⟩
  ·have hmn:m=n:=by have:=uh HM;omega
   have HP:Hid (Pl.Peeled m n []):=by rw [←hmn];exact uh HP
   clear hmn HM
   go_enter Try.func124,Try.ntmps124
   go_wp2_with fail
   go_loopw [3,4] (fun rv sv wr=>∃ (x:Int) (acc:List Int),rv=.int .i64 x∧0≤x∧x<4611686018427387904∧acc.length≤3∧IntsOwn w.heap.size wr sv acc∧Below w.heap.size w wr∧Hid (Pl.Peeled m x acc)) (fun rv _ _=>(intOf rv).toNat)
   case atStart=>exact ⟨_,[],rfl,by omega,by omega,by simp,World.ownsRow_nil _ _ _ _,uh HB _,HP⟩
   case round =>
    obtain ⟨x,acc,rfl,x0,x1,hal,hown,hbel,hpl⟩:=hrel
    clear HP HB
    by_cases hx:0<x
    ·have ha2:=(uh hpl).short hx (by omega)
     have HN:=hide ((uh hpl).next hx)
     clear hpl
     go_wp2_with (at_builtin;refine wpList_append_own _ rfl _ _ 24 rfl w.heap.size 3 i0 (.int .i64 0) 1 8 Try.underlying24 hi hz0 hz1 hz2 rfl (by decide) _ _ _ rfl (World.ownsRow.alloc hown _) ⟨_,0,none⟩ 1 1 [intV (x%1073741824)] rfl rfl ?c1 (one_cell_int _) ?c3 ?c4 ?c5 ?_)
     case c1=>exact one_news_int (intV _)
     case c3=>unfold maxLen;omega
     case c4=>omega
     case c5=>have:=hbel.size;simp;omega
     ·intro v' w2 hown' hgrow _
      have hA:=ints_grown hown'
      have hB:=(hbel.alloc hbel.size (Obj.cells #[Value.int .i64 (x%1073741824)] 3)).grown hgrow (by have:=hbel.size;simp;omega) (own_base hown)
      clear hown' hgrow hown hbel
      go_wp2
      go_roundw
      case rel=>exact ⟨_,_,rfl,by omega,by omega,by simp;omega,hA,hB,HN⟩
      case measure=>simp [intOf];omega
    ·have hx0:x=0:=by omega
     have HF:Hid (∀ v3,IntsOwn w.heap.size wr v3 acc→IntsAt wr v3 acc∧Pl.LimbsOk acc∧Pl.lv acc=m∧(0<acc.length→Pl.dig acc (acc.length - 1)≠0)∧Below w.heap.size w wr):=by
      obtain ⟨p1,p2,p3,p4⟩:=uh hpl
      exact fun v3 ho=>⟨ints_own ho,p1,by rw [hx0,Int.mul_zero] at p3;omega,p4 hx0,hbel⟩
     clear hpl hbel
     go_wp2
     go_ret
     exact ⟨_,rfl,acc,uh HF _ hown⟩
 ·have HF:Hid (∀ o1,IntsAt (w.alloc o1) (.slice (some ⟨b,off,none⟩) l.length cap) l∧Pl.LimbsOk l∧Pl.lv l=n.natAbs∧(0<l.length→Pl.dig l (l.length - 1)≠0)∧Below w.heap.size w (w.alloc o1)):=fun o1 =>
   ⟨(ints_of_cells hb hc).below (hb0 o1),h3,by rcases h6 with rfl | rfl <;> omega,fun _=>h5,hb0 o1⟩
  clear hb0 hP hb hc h3 h5 h6 h7 h8
  go_enter Try.func124,Try.ntmps124
  go_wp2
  go_ret
  exact ⟨_,l,rfl,uh HF _⟩
theorem big_of_own {P:Nat→Prop} {w:World} {l:List Int} {v:Value} {B:Nat} {sg:Int} (ho:IntsOwn B w v l) (hP:∀ b,B≤b→P b) (o:Pl.LimbsOk l) (h0:0<l.length) (hl:Pl.dig l (l.length - 1)≠0) (hs:sg=1∨sg=-1) (hb:4611686018427387904≤Pl.lv l) :
  WhAt P w (.agg #[.int .i64 sg,v]) (sg*Pl.lv l):=by
 have hat:=ints_own ho
 rcases ho.2 with ⟨h1,hn⟩|⟨g,cp,cur,h1,hg,hgg,hle,hm,hcs,htk⟩
 ·omega
 ·subst h1
  refine .inr ⟨l,g,0,cp,cur,sg,rfl,hP g hg,hgg,fun i hi=>?_,o,h0,hl,hs,rfl,hb⟩
  obtain ⟨b1,o1,c1,hv1,hc1⟩:=ints_get' hat i hi
  simp only [Value.slice.injEq,Option.some.injEq,Addr.mk.injEq] at hv1
  obtain ⟨⟨rfl,rfl,_⟩,_⟩:=hv1
  rw [←cellsOf hgg];exact hc1
set_option maxHeartbeats 2000000 in
theorem Of_any (P:Nat→Prop) (v:Int) (w:World) (hP:∀ b,w.heap.size≤b→P b) (hv0:-9223372036854775808≤v) (hv1:v≤9223372036854775807) :
  Calls Try.prog 63 #[.int .i64 v] w fun e w'=>∃ v',e=.returned v'∧WhAt P w' v' v∧Below w.heap.size w w':=by
 have HB:Hid (∀ o1,Below w.heap.size w (w.alloc o1)):=fun o1=>(Below.refl _ w).alloc (Nat.le_refl _) o1
 by_cases hs:-4611686018427387904<v∧v<4611686018427387904
 ·obtain ⟨h1,h2⟩:=hs
  go_enter Try.func63,Try.ntmps63
  go_wp2
  exact bodyPost_ret (v:=.agg #[.int .i64 v,.slice none 0 0]) (by simp [results,Try.results63,go_sem]) rfl ⟨_,rfl,.inl ⟨rfl,h1,h2⟩,uh HB _⟩
 ·obtain ⟨i0,hi,hz0,hz1,hz2⟩:=info_parts Try.infoInt
  obtain ⟨m,HM,hm0,hm1⟩:∃ m:Int,Hid (m=v.natAbs)∧4611686018427387904≤m∧m≤9223372036854775808:=⟨_,rfl,by omega,by omega⟩
  have HP:Hid (Pl.Peeled m m []):=⟨.nil,by omega,by simp [Pl.lv],fun _ h=>by simp at h⟩
  by_cases hpos:0<v
  ·have hvb:4611686018427387904≤v:=by omega
   have hmn:m=v:=by have:=uh HM;omega
   have HP:Hid (Pl.Peeled m (- -v) []):=by rw [Int.neg_neg,←hmn];exact uh HP
   have HE:Hid (v=1*m):=by rw [Hid,hmn];omega
   clear hmn HM
   go_enter Try.func63,Try.ntmps63
   go_wp2_with fail
   go_loopw [4,5] (fun rv sv wr=>∃ (x:Int) (acc:List Int) (ad:Option Addr) (cp:Nat),rv=.int .i64 x∧sv=.slice ad acc.length cp∧x≤0∧-9223372036854775808≤x∧acc.length≤3∧IntsOwn (w.heap.size+1) wr (.slice ad acc.length cp) acc∧Below (w.heap.size+1) (w.alloc (.cells #[.int .i64 0,.slice none 0 0] 82)) wr∧Hid (Pl.Peeled m (-x) acc)) (fun rv _ _=>(-(intOf rv)).toNat)
   case atStart=>exact ⟨_,[],none,0,rfl,rfl,by omega,by omega,by simp,World.ownsRow_nil _ _ _ _,Below.refl _ _,HP⟩
   case round =>
    obtain ⟨x,acc,ad,cp,rfl,rfl,x0,x1,hal,hown,hbel,hpl⟩:=hrel
    clear HP
    have hsz:=hbel.size
    rw [World.size_alloc] at hsz
    by_cases hx:x<0
    ·have ha2:=(uh hpl).short (by omega) hm1
     have hq0:=((uh hpl).next (by omega)).2.1
     have HN:Hid (Pl.Peeled m (- -(-x/1073741824)) (acc++[-x%1073741824])):=by rw [Int.neg_neg];exact (uh hpl).next (by omega)
     have htd:Int.tdiv x 1073741824=-((-x)/1073741824):=by
      rw [←Int.tdiv_eq_ediv_of_nonneg (show 0≤-x by omega),Int.neg_tdiv,Int.neg_neg]
     have htm:Int.tmod x 1073741824=-((-x)%1073741824):=by
      rw [←Int.tmod_eq_emod_of_nonneg (show 0≤-x by omega),Int.neg_tmod,Int.neg_neg]
     clear hpl
     go_wp2_with (at_builtin;refine wpList_append_own _ rfl _ _ 24 rfl (w.heap.size+1) 3 i0 (.int .i64 0) 1 8 Try.underlying24 hi hz0 hz1 hz2 rfl (by decide) _ _ _ rfl (World.ownsRow.alloc hown _) ⟨_,0,none⟩ 1 1 [intV (-x%1073741824)] rfl rfl ?c1 (one_cell_int _) ?c3 ?c4 ?c5 ?_)
     case c1=>exact one_news_int (intV _)
     case c3=>unfold maxLen;omega
     case c4=>omega
     case c5=>simp;omega
     ·intro v' w2 hown' hgrow _
      have hA:=ints_grown hown'
      have hB:=(hbel.alloc (by omega) (Obj.cells #[Value.int .i64 (-x%1073741824)] 3)).grown hgrow (by simp;omega) (own_base hown)
      obtain ⟨ad2,cp2,rfl⟩:=ints_shape0 (ints_own hA)
      clear hown' hgrow hown hbel htm
      go_wp2
      go_roundw
      case rel=>exact ⟨_,acc++[-x%1073741824],ad2,cp2,rfl,rfl,by omega,by omega,by simp;omega,hA,hB,HN⟩
      case measure=>simp [intOf];omega
    ·have hx0:x=0:=by omega
     have hblk:wr.heap[w.heap.size]?=some (.cells #[.int .i64 0,.slice none 0 0] 82 (0,0)):=by
      rw [hbel.block _ (by omega)];exact slot_one _ _
     obtain ⟨c0,c1,f0,f1⟩:=slot_of hblk
     have HF:Hid (WhAt P ((wr.setCell ⟨w.heap.size,0,none⟩ (.int .i64 (1))).setCell ⟨w.heap.size,1,none⟩ (.slice ad acc.length cp)) (.agg #[.int .i64 (1),.slice ad acc.length cp]) v∧Below w.heap.size w ((wr.setCell ⟨w.heap.size,0,none⟩ (.int .i64 (1))).setCell ⟨w.heap.size,1,none⟩ (.slice ad acc.length cp))):=by
      obtain ⟨p1,p2,p3,p4⟩:=uh hpl
      have hlv:Pl.lv acc=m:=by rw [hx0] at p3;simp at p3;exact p3
      have hl0:0<acc.length:=by
       rcases Nat.eq_zero_or_pos acc.length with h|h
       ·rw [List.eq_nil_of_length_eq_zero h] at hlv;simp [Pl.lv] at hlv;omega
       ·exact h
      have hW:=big_of_own (sg:=1) hown (fun b hb=>hP b (by omega)) p1 hl0 (p4 (by omega) hl0) (by omega) (by omega)
      rw [hlv,←uh HE] at hW
      exact ⟨hW.keep (keep_slot hblk _ _),(((uh HB _).trans (hbel.mono (by omega))).setCell (p:=⟨w.heap.size,0,none⟩) (by simp) _).setCell (p:=⟨w.heap.size,1,none⟩) (by simp) _⟩
     have HS:=hide (slot_set hblk (.int .i64 (1)) (.slice ad acc.length cp))
     clear hpl hbel hown hblk HB
     go_wp2
     exact bodyPost_ret (v:=.agg #[.int .i64 (1),.slice ad acc.length cp]) (by simp [results,Try.results63,go_sem,(uh HS).1,(uh HS).2]) rfl ⟨_,rfl,uh HF⟩
  ·have hvb:v≤-4611686018427387904:=by omega
   have hmn:m=-v:=by have:=uh HM;omega
   have HP:Hid (Pl.Peeled m (-v) []):=by rw [←hmn];exact uh HP
   have HE:Hid (v=-1*m):=by rw [Hid,hmn];omega
   clear hmn HM
   go_enter Try.func63,Try.ntmps63
   go_wp2_with fail
   go_loopw [4,5] (fun rv sv wr=>∃ (x:Int) (acc:List Int) (ad:Option Addr) (cp:Nat),rv=.int .i64 x∧sv=.slice ad acc.length cp∧x≤0∧-9223372036854775808≤x∧acc.length≤3∧IntsOwn (w.heap.size+1) wr (.slice ad acc.length cp) acc∧Below (w.heap.size+1) (w.alloc (.cells #[.int .i64 0,.slice none 0 0] 82)) wr∧Hid (Pl.Peeled m (-x) acc)) (fun rv _ _=>(-(intOf rv)).toNat)
   case atStart=>exact ⟨_,[],none,0,rfl,rfl,by omega,by omega,by simp,World.ownsRow_nil _ _ _ _,Below.refl _ _,HP⟩
   case round =>
    obtain ⟨x,acc,ad,cp,rfl,rfl,x0,x1,hal,hown,hbel,hpl⟩:=hrel
    clear HP
    have hsz:=hbel.size
    rw [World.size_alloc] at hsz
    by_cases hx:x<0
    ·have ha2:=(uh hpl).short (by omega) hm1
     have hq0:=((uh hpl).next (by omega)).2.1
     have HN:Hid (Pl.Peeled m (- -(-x/1073741824)) (acc++[-x%1073741824])):=by rw [Int.neg_neg];exact (uh hpl).next (by omega)
     have htd:Int.tdiv x 1073741824=-((-x)/1073741824):=by
      rw [←Int.tdiv_eq_ediv_of_nonneg (show 0≤-x by omega),Int.neg_tdiv,Int.neg_neg]
     have htm:Int.tmod x 1073741824=-((-x)%1073741824):=by
      rw [←Int.tmod_eq_emod_of_nonneg (show 0≤-x by omega),Int.neg_tmod,Int.neg_neg]
     clear hpl
     go_wp2_with (at_builtin;refine wpList_append_own _ rfl _ _ 24 rfl (w.heap.size+1) 3 i0 (.int .i64 0) 1 8 Try.underlying24 hi hz0 hz1 hz2 rfl (by decide) _ _ _ rfl (World.ownsRow.alloc hown _) ⟨_,0,none⟩ 1 1 [intV (-x%1073741824)] rfl rfl ?c1 (one_cell_int _) ?c3 ?c4 ?c5 ?_)
     case c1=>exact one_news_int (intV _)
     case c3=>unfold maxLen;omega
     case c4=>omega
     case c5=>simp;omega
     ·intro v' w2 hown' hgrow _
      have hA:=ints_grown hown'
      have hB:=(hbel.alloc (by omega) (Obj.cells #[Value.int .i64 (-x%1073741824)] 3)).grown hgrow (by simp;omega) (own_base hown)
      obtain ⟨ad2,cp2,rfl⟩:=ints_shape0 (ints_own hA)
      clear hown' hgrow hown hbel htm
      go_wp2
      go_roundw
      case rel=>exact ⟨_,acc++[-x%1073741824],ad2,cp2,rfl,rfl,by omega,by omega,by simp;omega,hA,hB,HN⟩
      case measure=>simp [intOf];omega
    ·have hx0:x=0:=by omega
     have hblk:wr.heap[w.heap.size]?=some (.cells #[.int .i64 0,.slice none 0 0] 82 (0,0)):=by
      rw [hbel.block _ (by omega)];exact slot_one _ _
     obtain ⟨c0,c1,f0,f1⟩:=slot_of hblk
     have HF:Hid (WhAt P ((wr.setCell ⟨w.heap.size,0,none⟩ (.int .i64 (-1))).setCell ⟨w.heap.size,1,none⟩ (.slice ad acc.length cp)) (.agg #[.int .i64 (-1),.slice ad acc.length cp]) v∧Below w.heap.size w ((wr.setCell ⟨w.heap.size,0,none⟩ (.int .i64 (-1))).setCell ⟨w.heap.size,1,none⟩ (.slice ad acc.length cp))):=by
      obtain ⟨p1,p2,p3,p4⟩:=uh hpl
      have hlv:Pl.lv acc=m:=by rw [hx0] at p3;simp at p3;exact p3
      have hl0:0<acc.length:=by
       rcases Nat.eq_zero_or_pos acc.length with h|h
       ·rw [List.eq_nil_of_length_eq_zero h] at hlv;simp [Pl.lv] at hlv;omega
       ·exact h
      have hW:=big_of_own (sg:=-1) hown (fun b hb=>hP b (by omega)) p1 hl0 (p4 (by omega) hl0) (by omega) (by omega)
      rw [hlv,←uh HE] at hW
      exact ⟨hW.keep (keep_slot hblk _ _),(((uh HB _).trans (hbel.mono (by omega))).setCell (p:=⟨w.heap.size,0,none⟩) (by simp) _).setCell (p:=⟨w.heap.size,1,none⟩) (by simp) _⟩
     have HS:=hide (slot_set hblk (.int .i64 (-1)) (.slice ad acc.length cp))
     clear hpl hbel hown hblk HB
     go_wp2
     exact bodyPost_ret (v:=.agg #[.int .i64 (-1),.slice ad acc.length cp]) (by simp [results,Try.results63,go_sem,(uh HS).1,(uh HS).2]) rfl ⟨_,rfl,uh HF⟩
end Go.Proofs.Ytfaljekgpnbmiaa
