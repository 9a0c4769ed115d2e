/- Joined: XInt10 XInt11. -/
import Derived.Test.YtfaljekgpnbmiaaJ07
set_option linter.unusedVariables false
set_option linter.unusedSimpArgs false
set_option maxRecDepth 100000
namespace Go.Proofs.Ytfaljekgpnbmiaa
open Go.RowKit
theorem Pl.fdiv_tdiv (a b:Int) (hb:b≠0):Int.fdiv a b=if a.tmod b≠0∧¬ (a<0↔b<0) then a.tdiv b - 1 else a.tdiv b:=by
 rw [Int.fdiv_eq_tdiv]
 by_cases hd:b∣a
 ·rw [if_pos hd,if_neg (fun h=>h.1 (Int.tmod_eq_zero_of_dvd hd))];omega
 ·rw [if_neg hd]
  have hm:a.tmod b≠0:=fun h=>hd (Int.dvd_of_tmod_eq_zero h)
  have hs:b<0→b.sign=-1:=Int.sign_eq_neg_one_of_neg
  have hs2:0<b→b.sign=1:=Int.sign_eq_one_of_pos
  by_cases h1:a<0 <;> by_cases h2:b<0 <;> simp [hm,h1,h2] <;> omega
set_option maxHeartbeats 1000000 in
theorem Div_small (P:Nat→Prop) (a b:Int) (w:World) (ha:-4611686018427387904<a∧a<4611686018427387904) (hb:-4611686018427387904<b∧b<4611686018427387904) (hb0:b≠0) :
  Calls Try.prog 91 #[.agg #[.int .i64 a,.slice none 0 0],.agg #[.int .i64 b,.slice none 0 0]] w fun e w'=>∃ v',e=.returned v'∧WhAt P w' v' (Int.fdiv a b)∧Below w.heap.size w w':=by
 have hy0:(b == 0)=false:=by simpa using hb0
 have hn:=Int.natAbs_tdiv_le_natAbs a b
 have hF:=hide (Pl.fdiv_tdiv a b hb0)
 have hq0:Hid (a.tdiv b=-4611686018427387903→¬ (a.tmod b≠0∧¬ (a<0↔b<0))):=by
  intro hq hc
  have hd:=Int.mul_tdiv_add_tmod a b
  rw [hq] at hd hn
  have hn':a.natAbs=4611686018427387903:=by omega
  have hb1:b=1∨b=-1∨(2≤b∨b≤-2):=by omega
  rcases hb1 with h|h|h
  ·rw [h] at hc;exact hc.1 (by rw [Int.tmod_one])
  ·rw [h] at hc;exact hc.1 (by rw [Int.tmod_neg,Int.tmod_one])
  ·have e1:(a.tdiv b).natAbs=a.natAbs/b.natAbs:=Int.natAbs_tdiv a b
   have e2:a.natAbs/b.natAbs≤a.natAbs/2:=Nat.div_le_div_left (by omega) (by omega)
   omega
 generalize hQ:a.tdiv b=q at *
 generalize hM:a.tmod b=r at *
 have hw1:wrap64 q=q:=by unfold wrap64;omega
 have hw2:wrap64 (q - 1)=q - 1:=by unfold wrap64;omega
 have HB:=hide (show -4611686018427387904<q∧q<4611686018427387904 by omega)
 by_cases hr:r=0
 ·have hR:Hid (Int.fdiv a b=q):=by unfold Hid;rw [uh hF,if_neg (fun h=>h.1 hr)]
  subst hr
  clear hF hq0 hn
  go_enter Try.func91,Try.ntmps91
  go_wp2_with fail
  exact bodyPost_ret (v:=.agg #[.int .i64 q,.slice none 0 0]) (by simp [results,Try.results91,go_sem]) rfl ⟨_,rfl,.inl ⟨by rw [uh hR],by rw [uh hR];exact (uh HB).1,by rw [uh hR];exact (uh HB).2⟩,below_three w _ _ _⟩
 ·rcases (show (a<0∧b<0)∨(¬ a<0∧¬ b<0)∨(a<0∧¬ b<0)∨(¬ a<0∧b<0) by omega) with ⟨hsx,hsy⟩ | ⟨hsx,hsy⟩ | ⟨hsx,hsy⟩ | ⟨hsx,hsy⟩
  ·have hdx:decide (a<0)=true:=by simp;omega
   have hdy:decide (b<0)=true:=by simp;omega
   have hR:Hid (Int.fdiv a b=q):=by unfold Hid;rw [uh hF,if_neg (fun h=>h.2 ⟨fun h1=>by omega,fun h1=>by omega⟩)]
   have HB2:=hide (show -4611686018427387904<q∧q<4611686018427387904 by have:=uh hq0;have:=uh HB;omega)
   clear hF hq0 hn hsx hsy
   go_enter Try.func91,Try.ntmps91
   go_wp2_with fail
   exact bodyPost_ret (v:=.agg #[.int .i64 (q),.slice none 0 0]) (by simp [results,Try.results91,go_sem]) rfl ⟨_,rfl,.inl ⟨by rw [uh hR],by rw [uh hR];exact (uh HB2).1,by rw [uh hR];exact (uh HB2).2⟩,below_three w _ _ _⟩
  ·have hdx:decide (a<0)=false:=by simp;omega
   have hdy:decide (b<0)=false:=by simp;omega
   have hR:Hid (Int.fdiv a b=q):=by unfold Hid;rw [uh hF,if_neg (fun h=>h.2 ⟨fun h1=>by omega,fun h1=>by omega⟩)]
   have HB2:=hide (show -4611686018427387904<q∧q<4611686018427387904 by have:=uh hq0;have:=uh HB;omega)
   clear hF hq0 hn hsx hsy
   go_enter Try.func91,Try.ntmps91
   go_wp2_with fail
   exact bodyPost_ret (v:=.agg #[.int .i64 (q),.slice none 0 0]) (by simp [results,Try.results91,go_sem]) rfl ⟨_,rfl,.inl ⟨by rw [uh hR],by rw [uh hR];exact (uh HB2).1,by rw [uh hR];exact (uh HB2).2⟩,below_three w _ _ _⟩
  ·have hdx:decide (a<0)=true:=by simp;omega
   have hdy:decide (b<0)=false:=by simp;omega
   have hR:Hid (Int.fdiv a b=q - 1):=by unfold Hid;rw [uh hF,if_pos ⟨hr,fun h=>by omega⟩]
   have HB2:=hide (show -4611686018427387904<q - 1∧q - 1<4611686018427387904 by have:=uh hq0;have:=uh HB;omega)
   clear hF hq0 hn hsx hsy
   go_enter Try.func91,Try.ntmps91
   go_wp2_with fail
   exact bodyPost_ret (v:=.agg #[.int .i64 (q - 1),.slice none 0 0]) (by simp [results,Try.results91,go_sem]) rfl ⟨_,rfl,.inl ⟨by rw [uh hR],by rw [uh hR];exact (uh HB2).1,by rw [uh hR];exact (uh HB2).2⟩,below_three w _ _ _⟩
  ·have hdx:decide (a<0)=false:=by simp;omega
   have hdy:decide (b<0)=true:=by simp;omega
   have hR:Hid (Int.fdiv a b=q - 1):=by unfold Hid;rw [uh hF,if_pos ⟨hr,fun h=>by omega⟩]
   have HB2:=hide (show -4611686018427387904<q - 1∧q - 1<4611686018427387904 by have:=uh hq0;have:=uh HB;omega)
   clear hF hq0 hn hsx hsy
   go_enter Try.func91,Try.ntmps91
   go_wp2_with fail
   exact bodyPost_ret (v:=.agg #[.int .i64 (q - 1),.slice none 0 0]) (by simp [results,Try.results91,go_sem]) rfl ⟨_,rfl,.inl ⟨by rw [uh hR],by rw [uh hR];exact (uh HB2).1,by rw [uh hR];exact (uh HB2).2⟩,below_three w _ _ _⟩
theorem Div_zero (P:Nat→Prop) (a:Int) (va vb:Value) (w:World) (ha:WhAt P w va a) (hb:WhAt P w vb 0) :
  Calls Try.prog 91 #[va,vb] w fun e w'=>∃ v',e=.returned v'∧WhAt P w' v' (Int.fdiv a 0)∧Below w.heap.size w w':=by
 obtain ⟨x,ad,m,cap,rfl,_⟩:=ha.head2
 obtain ⟨y,ad2,m2,cap2,rfl,hy1,hy2,_⟩:=hb.head2
 obtain rfl:y=0:=by omega
 clear ha hb hy1 hy2
 go_enter Try.func91,Try.ntmps91
 go_wp2_with fail
 exact bodyPost_ret (v:=.agg #[.int .i64 0,.slice none 0 0]) (by simp [results,Try.results91,go_sem]) rfl ⟨_,rfl,.inl ⟨by simp,by simp,by simp⟩,below_three w _ _ _⟩
theorem Div_any (P:Nat→Prop) (K:Nat) (a b:Int) (va vb:Value) (w:World) (hP:∀ b,w.heap.size≤b→P b) (ha:WhAt P w va a) (hb:WhAt P w vb b) (hK:K≤1500000000000) (hA:(a.natAbs:Int)<1073741824^K) (hB:(b.natAbs:Int)<1073741824^K) :
  Calls Try.prog 91 #[va,vb] w fun e w'=>∃ v',e=.returned v'∧WhAt P w' v' (Int.fdiv a b)∧Below w.heap.size w w':=by
 by_cases hb0:b=0
 ·subst hb0;exact Div_zero P a va vb w ha hb
 ·by_cases h:(-4611686018427387904<a∧a<4611686018427387904)∧(-4611686018427387904<b∧b<4611686018427387904)
  ·rw [ha.fits h.1,hb.fits h.2];exact Div_small P a b w h.1 h.2 hb0
  ·exact Div_big P K a b va vb w hP ha hb hK hA hB hb0 h
theorem int_cells {w : World} {g : Nat} {u v : Value} (h : w.heap[g]? = some (.cells #[u, v] 82 (0, 0))) : w.cell? ⟨g, 0, none⟩ = some u ∧ w.cell? ⟨g, 1, none⟩ = some v ∧ w.frozen? ⟨g, 0, none⟩ = false ∧ w.frozen? ⟨g, 1, none⟩ = false :=
  ⟨by rw [cellsOf h]; rfl, by rw [cellsOf h]; rfl, freeOf h 0, freeOf h 1⟩
theorem int_sets {w : World} {g : Nat} {u v : Value} (h : w.heap[g]? = some (.cells #[u, v] 82 (0, 0))) (p q : Value) : ((w.setCell ⟨g, 0, none⟩ p).setCell ⟨g, 1, none⟩ q).heap[g]? = some (.cells #[p, q] 82 (0, 0)) := by
  have h1 := heap_setCell_same w g 0 _ _ p h
  rw [heap_setCell_same _ g 1 _ _ q h1]; rfl
theorem int_far {w : World} {g k : Nat} (h : k ≠ g) (p q : Value) : ((w.setCell ⟨g, 0, none⟩ p).setCell ⟨g, 1, none⟩ q).heap[k]? = w.heap[k]? := by
  rw [Below.heap_setCell _ _ _ _ h, Below.heap_setCell _ _ _ _ h]
theorem Pl.gcd_step {X Y : Int} (hX : 0 ≤ X) (hY : 0 < Y) : 0 ≤ Int.fdiv X Y ∧ 0 ≤ Int.fdiv X Y * Y ∧ Int.fdiv X Y * Y ≤ X ∧ Int.fdiv X Y ≤ X ∧ 0 ≤ X - Int.fdiv X Y * Y ∧ X - Int.fdiv X Y * Y < Y ∧ Int.gcd Y (X - Int.fdiv X Y * Y) = Int.gcd X Y := by
  rw [Int.fdiv_eq_ediv_of_nonneg _ (by omega)]
  have d1 := Int.mul_ediv_add_emod X Y
  have d2 := Int.emod_nonneg X (show Y ≠ 0 by omega)
  have d3 := Int.emod_lt_of_pos X hY
  have d4 : 0 ≤ X / Y := Int.ediv_nonneg hX (by omega)
  have d5 : X / Y ≤ X := Int.ediv_le_self _ hX
  have e : X - X / Y * Y = X % Y := by rw [Int.mul_comm (X / Y)]; omega
  have d6 := Int.mul_nonneg d4 (show 0 ≤ Y by omega)
  rw [e]
  refine ⟨d4, d6, by rw [Int.mul_comm]; omega, d5, d2, d3, ?_⟩
  rw [← e, Int.mul_comm, Int.gcd_sub_mul_left_right, Int.gcd_comm]
def GcdAt (P : Nat → Prop) (w : World) (o1 o2 o3 : Obj) (gx gy K G0 k : Nat) (wr : World) : Prop := ∃ (X Y p q : Int) (ap aq : Option Addr) (mp cp mq cq : Nat),
  wr.heap[gx]? = some (.cells #[.int .i64 p, .slice ap mp cp] 82 (0, 0)) ∧ WhAt P wr (.agg #[.int .i64 p, .slice ap mp cp]) X ∧ wr.heap[gy]? = some (.cells #[.int .i64 q, .slice aq mq cq] 82 (0, 0)) ∧ WhAt P wr (.agg #[.int .i64 q, .slice aq mq cq]) Y ∧
  0 ≤ X ∧ Y = k ∧ (X.natAbs : Int) < 1073741824 ^ K ∧ (Y.natAbs : Int) < 1073741824 ^ K ∧ Int.gcd X Y = G0 ∧ Past w o1 o2 o3 wr
theorem held6 {w0 w' : World} {g1 g2 g3 : Nat} {a b c d e f : Value} (h1 : w0.heap[g1]? = some (.cells #[a, b] 82 (0, 0))) (h2 : w0.heap[g2]? = some (.cells #[c, d] 82 (0, 0))) (h3 : w0.heap[g3]? = some (.cells #[e, f] 82 (0, 0))) (h : Since w0 w') :
    w'.cell? ⟨g1, 0, none⟩ = some a ∧ w'.cell? ⟨g1, 1, none⟩ = some b ∧ w'.cell? ⟨g2, 0, none⟩ = some c ∧ w'.cell? ⟨g2, 1, none⟩ = some d ∧ w'.cell? ⟨g3, 0, none⟩ = some e ∧ w'.cell? ⟨g3, 1, none⟩ = some f := by
  obtain ⟨a1, a2, _⟩ := int_cells (Below.same h _ _ h1)
  obtain ⟨b1, b2, _⟩ := int_cells (Below.same h _ _ h2)
  obtain ⟨c1, c2, _⟩ := int_cells (Below.same h _ _ h3)
  exact ⟨a1, a2, b1, b2, c1, c2⟩
def FreshIn (w0 : World) (g : Nat) (w1 : World) : Prop := w0.heap.size ≤ g ∧ w1.heap[g]? = some (.cells #[.int .i64 0, .slice none 0 0] 82 (0, 0))
theorem Since.sets2 {w0 w1 : World} (h : Since w0 w1) {g : Nat} (hg : w0.heap.size ≤ g) (p q : Value) : Since w0 ((w1.setCell ⟨g, 0, none⟩ p).setCell ⟨g, 1, none⟩ q) :=
  (Below.setCell (p := ⟨g, 0, none⟩) h hg p).setCell (p := ⟨g, 1, none⟩) hg q
theorem GcdAt.next {P : Nat → Prop} {w : World} {o1 o2 o3 : Obj} {gx gy K G0 : Nat} {W : World} {u1 u2 v1 v2 : Value} {q r : Int} {aq ar : Option Addr} {mq cq mr cr : Nat} {Y Z : Int} (bx : W.heap[gx]? = some (.cells #[u1, u2] 82 (0, 0))) (by_ : W.heap[gy]? = some (.cells #[v1, v2] 82 (0, 0))) (hne : gx ≠ gy)
    (hgx : (((w.alloc o1).alloc o2).alloc o3).heap.size ≤ gx) (hgy : (((w.alloc o1).alloc o2).alloc o3).heap.size ≤ gy) (hY : WhAt P W (.agg #[.int .i64 q, .slice aq mq cq]) Y) (hR : WhAt P W (.agg #[.int .i64 r, .slice ar mr cr]) Z) (hp : Past w o1 o2 o3 W) (y0 : 0 ≤ Y) (z0 : 0 ≤ Z) (yb : (Y.natAbs : Int) < 1073741824 ^ K) (zb : (Z.natAbs : Int) < 1073741824 ^ K) (hg : Int.gcd Y Z = G0) :
    GcdAt P w o1 o2 o3 gx gy K G0 Z.toNat ((((W.setCell ⟨gx, 0, none⟩ (.int .i64 q)).setCell ⟨gx, 1, none⟩ (.slice aq mq cq)).setCell ⟨gy, 0, none⟩ (.int .i64 r)).setCell ⟨gy, 1, none⟩ (.slice ar mr cr)) := by
  have b2 := int_sets bx (.int .i64 q) (.slice aq mq cq)
  have b3 : ((W.setCell ⟨gx, 0, none⟩ (.int .i64 q)).setCell ⟨gx, 1, none⟩ (.slice aq mq cq)).heap[gy]? = _ := (int_far (fun e => hne e.symm) _ _).trans by_
  exact ⟨Y, Z, q, r, aq, ar, mq, cq, mr, cr, (int_far hne _ _).trans b2, (hY.sets bx _ _).sets b3 _ _, int_sets b3 _ _, (hR.sets bx _ _).sets b3 _ _, y0, by omega, yb, zb, hg, Past.sets (Past.sets hp hgx _ _) hgy _ _⟩
theorem gcd_set {P : Nat → Prop} {w : World} {o1 o2 o3 : Obj} {gx gy K G0 : Nat} {W4 w6 : World} {u1 u2 v1 v2 : Value} {q r : Int} {aq ar : Option Addr} {mq cq mr cr : Nat} {Y Z : Int} {g : Nat} (hG : FreshIn W4 g w6) (hS : Since W4 w6) (bx : W4.heap[gx]? = some (.cells #[u1, u2] 82 (0, 0))) (by_ : W4.heap[gy]? = some (.cells #[v1, v2] 82 (0, 0))) (hne : gx ≠ gy)
    (hgx : (((w.alloc o1).alloc o2).alloc o3).heap.size ≤ gx) (hgy : (((w.alloc o1).alloc o2).alloc o3).heap.size ≤ gy) (hY : WhAt P W4 (.agg #[.int .i64 q, .slice aq mq cq]) Y) (hR : WhAt P w6 (.agg #[.int .i64 r, .slice ar mr cr]) Z) (hp : Past w o1 o2 o3 W4) (y0 : 0 ≤ Y) (z0 : 0 ≤ Z) (yb : (Y.natAbs : Int) < 1073741824 ^ K) (zb : (Z.natAbs : Int) < 1073741824 ^ K) (hg : Int.gcd Y Z = G0) :
    (w6.cell? ⟨gx, 0, none⟩ = some u1 ∧ w6.cell? ⟨gx, 1, none⟩ = some u2 ∧ w6.cell? ⟨gy, 0, none⟩ = some v1 ∧ w6.cell? ⟨gy, 1, none⟩ = some v2 ∧ w6.frozen? ⟨gx, 0, none⟩ = false ∧ w6.frozen? ⟨gx, 1, none⟩ = false ∧ w6.frozen? ⟨gy, 0, none⟩ = false ∧ w6.frozen? ⟨gy, 1, none⟩ = false) ∧ (g ≠ gx ∧ gx ≠ g ∧ g ≠ gy ∧ gy ≠ g) ∧ Hid (GcdAt P w o1 o2 o3 gx gy K G0 Z.toNat ((((((w6.setCell ⟨g, 0, none⟩ (.int .i64 r)).setCell ⟨g, 1, none⟩ (.slice ar mr cr)).setCell ⟨gx, 0, none⟩ (.int .i64 q)).setCell ⟨gx, 1, none⟩ (.slice aq mq cq)).setCell ⟨gy, 0, none⟩ (.int .i64 r)).setCell ⟨gy, 1, none⟩ (.slice ar mr cr))) := by
  have h1 := Below.same hS _ _ bx
  have h2 := Below.same hS _ _ by_
  obtain ⟨a1, a2, a3, a4⟩ := int_cells h1
  obtain ⟨b1, b2, b3, b4⟩ := int_cells h2
  have l1 := lt_of_block bx
  have l2 := lt_of_block by_
  have l3 := hG.1
  have n1 : gx ≠ g := by omega
  have n2 : gy ≠ g := by omega
  have hp6 : Past w o1 o2 o3 w6 := Past.step hp hS
  refine ⟨⟨a1, a2, b1, b2, a3, a4, b3, b4⟩, ⟨by omega, n1, by omega, n2⟩, ?_⟩
  exact GcdAt.next ((int_far n1 _ _).trans h1) ((int_far n2 _ _).trans h2) hne hgx hgy ((hY.below hS).sets hG.2 _ _) (hR.sets hG.2 _ _) (Past.sets hp6 (Nat.le_trans (Below.size hp) l3) _ _) y0 z0 yb zb hg
theorem gcd_alloc {P : Nat → Prop} {w : World} {o1 o2 o3 : Obj} {gx gy K G0 : Nat} {W4 w6 : World} {u1 u2 v1 v2 : Value} {q r : Int} {aq ar : Option Addr} {mq cq mr cr : Nat} {Y Z : Int} (hS : Since W4 w6) (bx : W4.heap[gx]? = some (.cells #[u1, u2] 82 (0, 0))) (by_ : W4.heap[gy]? = some (.cells #[v1, v2] 82 (0, 0))) (hne : gx ≠ gy)
    (hgx : (((w.alloc o1).alloc o2).alloc o3).heap.size ≤ gx) (hgy : (((w.alloc o1).alloc o2).alloc o3).heap.size ≤ gy) (hY : WhAt P W4 (.agg #[.int .i64 q, .slice aq mq cq]) Y) (hR : WhAt P w6 (.agg #[.int .i64 r, .slice ar mr cr]) Z) (hp : Past w o1 o2 o3 W4) (y0 : 0 ≤ Y) (z0 : 0 ≤ Z) (yb : (Y.natAbs : Int) < 1073741824 ^ K) (zb : (Z.natAbs : Int) < 1073741824 ^ K) (hg : Int.gcd Y Z = G0) :
    ((w6.alloc (.cells #[.int .i64 r, .slice ar mr cr] 82)).cell? ⟨gx, 0, none⟩ = some u1 ∧ (w6.alloc (.cells #[.int .i64 r, .slice ar mr cr] 82)).cell? ⟨gx, 1, none⟩ = some u2 ∧ (w6.alloc (.cells #[.int .i64 r, .slice ar mr cr] 82)).cell? ⟨gy, 0, none⟩ = some v1 ∧ (w6.alloc (.cells #[.int .i64 r, .slice ar mr cr] 82)).cell? ⟨gy, 1, none⟩ = some v2 ∧ (w6.alloc (.cells #[.int .i64 r, .slice ar mr cr] 82)).frozen? ⟨gx, 0, none⟩ = false ∧ (w6.alloc (.cells #[.int .i64 r, .slice ar mr cr] 82)).frozen? ⟨gx, 1, none⟩ = false ∧ (w6.alloc (.cells #[.int .i64 r, .slice ar mr cr] 82)).frozen? ⟨gy, 0, none⟩ = false ∧ (w6.alloc (.cells #[.int .i64 r, .slice ar mr cr] 82)).frozen? ⟨gy, 1, none⟩ = false) ∧ (w6.heap.size ≠ gx ∧ gx ≠ w6.heap.size ∧ w6.heap.size ≠ gy ∧ gy ≠ w6.heap.size) ∧ Hid (GcdAt P w o1 o2 o3 gx gy K G0 Z.toNat (((((w6.alloc (.cells #[.int .i64 r, .slice ar mr cr] 82)).setCell ⟨gx, 0, none⟩ (.int .i64 q)).setCell ⟨gx, 1, none⟩ (.slice aq mq cq)).setCell ⟨gy, 0, none⟩ (.int .i64 r)).setCell ⟨gy, 1, none⟩ (.slice ar mr cr))) := by
  have hal : Below w6.heap.size w6 (w6.alloc (.cells #[.int .i64 r, .slice ar mr cr] 82)) := (Below.refl _ _).alloc (Nat.le_refl _) _
  have h1 := Below.same hal _ _ (Below.same hS _ _ bx)
  have h2 := Below.same hal _ _ (Below.same hS _ _ by_)
  obtain ⟨a1, a2, a3, a4⟩ := int_cells h1
  obtain ⟨b1, b2, b3, b4⟩ := int_cells h2
  have hp6 : Past w o1 o2 o3 w6 := Past.step hp hS
  have l1 := lt_of_block bx
  have l2 := lt_of_block by_
  have l3 := Below.size hS
  refine ⟨⟨a1, a2, b1, b2, a3, a4, b3, b4⟩, ⟨by omega, by omega, by omega, by omega⟩, ?_⟩
  exact GcdAt.next h1 h2 hne hgx hgy ((hY.below hS).below hal) (hR.below hal) (Past.step hp6 hal) y0 z0 yb zb hg
set_option maxHeartbeats 2000000 in
theorem Gcd_any (P : Nat → Prop) (K : Nat) (a b : Int) (va vb : Value) (w : World) (hP : ∀ b, w.heap.size ≤ b → P b) (ha : WhAt P w va a) (hb : WhAt P w vb b) (hK : K ≤ 1500000000000) (hA : (a.natAbs : Int) < 1073741824 ^ K) (hB : (b.natAbs : Int) < 1073741824 ^ K) :
    Calls Try.prog 113 #[va, vb] w fun e w' => ∃ v', e = .returned v' ∧ WhAt P w' v' (Int.gcd a b) ∧ Below w.heap.size w w' := by
  have HAa := hide (fun w1 (h : Below w.heap.size w w1) => Abs_any P va a w1 (ha.below h))
  have HAb := hide (fun w1 (h : Below w.heap.size w w1) => Abs_any P vb b w1 (hb.below h))
  obtain ⟨x, ad, m, cap, rfl, _⟩ := ha.head2
  obtain ⟨y, ad2, m2, cap2, rfl, _⟩ := hb.head2
  clear ha hb
  go_enter Try.func113, Try.ntmps113
  go_wp2_with fail
  refine (uh HAa _ (below_three w _ _ _)).mono ?_
  rintro e w1 ⟨v1, rfl, hv1, hw1⟩
  have HW1 : Hid (Past w (.cells #[.int .i64 x, .slice ad m cap] 82) (.cells #[.int .i64 y, .slice ad2 m2 cap2] 82) (.cells #[.int .i64 0, .slice none 0 0] 82) w1) := Past.step (Past.refl w _ _ _) hw1
  have HV1 := hide hv1
  obtain ⟨x1, ad1, m1, cap1, rfl, _⟩ := hv1.head
  obtain ⟨j1, j2, j3, j4⟩ := Past.held (Past.alloc (uh HW1) (.cells #[.int .i64 x1, .slice ad1 m1 cap1] 82))
  clear hv1 hw1
  go_wp2_with fail
  refine (uh HAb _ (Past.below (o1 := .cells #[.int .i64 x, .slice ad m cap] 82) (o2 := .cells #[.int .i64 y, .slice ad2 m2 cap2] 82) (o3 := .cells #[.int .i64 0, .slice none 0 0] 82) (by repeat (first | exact uh HW1 | refine Past.drew ?_ | refine Past.alloc ?_ _)))).mono ?_
  rintro e w2 ⟨v2, rfl, hv2, hw2⟩
  obtain ⟨x2, ad3, m3, cap3, rfl, _⟩ := hv2.head
  have hsz1 := Below.size (uh HW1)
  have hsz2 := hw2.size
  have HI : Hid (GcdAt P w (.cells #[.int .i64 x, .slice ad m cap] 82) (.cells #[.int .i64 y, .slice ad2 m2 cap2] 82) (.cells #[.int .i64 0, .slice none 0 0] 82) w1.heap.size w2.heap.size K (Int.gcd a b) b.natAbs (w2.alloc (.cells #[.int .i64 x2, .slice ad3 m3 cap3] 82))) := by
    have hal : Below w2.heap.size w2 (w2.alloc (.cells #[.int .i64 x2, .slice ad3 m3 cap3] 82)) := (Below.refl _ _).alloc (Nat.le_refl _) _
    have hal1 : Below w1.heap.size w1 (w1.alloc (.cells #[.int .i64 x1, .slice ad1 m1 cap1] 82)) := (Below.refl _ _).alloc (Nat.le_refl _) _
    refine ⟨if a < 0 then -a else a, if b < 0 then -b else b, x1, x2, ad1, ad3, m1, cap1, m3, cap3, ?_, ?_, slot_one w2 _, hv2.below hal, ?_, ?_, ?_, ?_, ?_, ?_⟩
    · exact Below.same hal _ _ (Below.same hw2 _ _ (slot_one w1 _))
    · exact (((uh HV1).below hal1).below hw2).below hal
    · split <;> omega
    · split <;> omega
    · split <;> omega
    · split <;> omega
    · split <;> split <;> simp
    · exact Past.alloc (Past.step (Past.alloc (uh HW1) _) hw2) _
  have hgx : (((w.alloc (.cells #[.int .i64 x, .slice ad m cap] 82)).alloc (.cells #[.int .i64 y, .slice ad2 m2 cap2] 82)).alloc (.cells #[.int .i64 0, .slice none 0 0] 82)).heap.size ≤ w1.heap.size := hsz1
  have hgy : w1.heap.size < w2.heap.size := by simp at hsz2; omega
  have hsz0 : w.heap.size + 3 ≤ w1.heap.size := by simpa using hgx
  have hne : w1.heap.size ≠ w2.heap.size := by omega
  have hne2 : w2.heap.size ≠ w1.heap.size := by omega
  have hgy2 := Nat.le_trans hgx (Nat.le_of_lt hgy)
  clear hv2 hw2 HV1 HW1 HAa HAb j1 j2 j3 j4 hsz1 hsz2
  go_wp2_with fail
  generalize w1.heap.size = gx at *
  generalize hG2 : w2.heap.size = gy at *
  go_loopg [] b.natAbs (fun k wr => GcdAt P w (.cells #[.int .i64 x, .slice ad m cap] 82) (.cells #[.int .i64 y, .slice ad2 m2 cap2] 82) (.cells #[.int .i64 0, .slice none 0 0] 82) gx gy K (Int.gcd a b) k wr)
  case atStart => exact uh HI
  case round =>
    obtain ⟨X, Y, p, q, ap, aq, mp, cp, mq, cq, bx, hX, by_, hY, x0, hk, xb, yb, hg, hpast⟩ := hrel
    obtain ⟨q', aq', mq', cq', he, hq1, hq2, _⟩ := hY.head2
    cases he
    obtain ⟨cx0, cx1, fx0, fx1⟩ := int_cells bx
    obtain ⟨cy0, cy1, fy0, fy1⟩ := int_cells by_
    by_cases hq0 : q = 0
    · have hY0 : Y = 0 := by omega
      obtain ⟨x5, ad5, m5, cap5, he, c0, c1, f0, f1, HF⟩ := result_slot (below_three w (.cells #[.int .i64 x, .slice ad m cap] 82) (.cells #[.int .i64 y, .slice ad2 m2 cap2] 82) (.cells #[.int .i64 0, .slice none 0 0] 82)) hpast (slot_three w _ _ _) (by omega) hX
      cases he
      have hR : Hid ((Int.gcd a b : Int) = X) := by unfold Hid; rw [← hg, hY0, Int.gcd_zero_right]; omega
      subst hq0
      clear hX hY bx by_ hpast hg hq1 hq2 hk HI xb yb hY0
      go_wp2
      exact bodyPost_ret (v := .agg #[.int .i64 p, .slice ap mp cp]) (by simp [results, Try.results113, go_sem, (uh HF).2.2.1, (uh HF).2.2.2]) rfl ⟨_, rfl, by rw [uh hR]; exact (uh HF).1, (uh HF).2.1⟩
    · have hYp : 0 < Y := by omega
      have HST := hide (Pl.gcd_step x0 hYp)
      have hqt : (q != 0) = true := by simpa using hq0
      have HD := hide (Div_any P K X Y _ _ wr (fun b hb => hP b (by have := (Past.below hpast).size; omega)) hX hY hK xb yb)
      have HN : Hid (((Int.fdiv X Y).natAbs : Int) < 1073741824 ^ K ∧ (Y.natAbs : Int) < 1073741824 ^ K ∧ (X.natAbs : Int) < 1073741824 ^ K ∧ ((Int.fdiv X Y * Y).natAbs : Int) < 1073741824 ^ K ∧ ((X - Int.fdiv X Y * Y).natAbs : Int) < 1073741824 ^ K) := by
        obtain ⟨z1, z2, z3, z4, z5, z6, _⟩ := uh HST
        exact ⟨by omega, yb, xb, by omega, by omega⟩
      have HO := hide (And.intro bx (And.intro hX (And.intro by_ (And.intro hY (And.intro x0 (And.intro hk (And.intro hg hpast)))))))
      clear bx hX by_ hY x0 hk hg hpast xb yb hq1 hq2 hq0 HI hYp
      go_wp2_with fail
      refine (uh HD).mono ?_
      rintro e w3 ⟨v3, rfl, hv3, hw3⟩
      obtain ⟨x3, ad4, m4, cap4, rfl, _⟩ := hv3.head
      have hal : Below w3.heap.size w3 (w3.alloc (.cells #[.int .i64 x3, .slice ad4 m4 cap4] 82)) := (Below.refl _ _).alloc (Nat.le_refl _) _
      have B4 := hide (And.intro (Below.same hal _ _ (Below.same hw3 _ _ (uh HO).1)) (And.intro (Below.same hal _ _ (Below.same hw3 _ _ (uh HO).2.2.1)) (slot_one w3 (.cells #[.int .i64 x3, .slice ad4 m4 cap4] 82))))
      have HV4 := hide (hv3.below hal)
      have HX4 := hide (((uh HO).2.1.below hw3).below hal)
      have HY4 := hide (((uh HO).2.2.2.1.below hw3).below hal)
      have HP4 : Hid (Past w (.cells #[.int .i64 x, .slice ad m cap] 82) (.cells #[.int .i64 y, .slice ad2 m2 cap2] 82) (.cells #[.int .i64 0, .slice none 0 0] 82) (w3.alloc (.cells #[.int .i64 x3, .slice ad4 m4 cap4] 82))) := Past.alloc (Past.step (uh HO).2.2.2.2.2.2.2 hw3) _
      have hs4 : w.heap.size ≤ (w3.alloc (.cells #[.int .i64 x3, .slice ad4 m4 cap4] 82)).heap.size := (Past.below (uh HP4)).size
      obtain ⟨kx0, kx1, ky0, ky1, kq0, kq1⟩ := held6 (uh B4).1 (uh B4).2.1 (uh B4).2.2 (Since.refl _)
      clear hv3 hw3 hal HD cx0 cx1 fx0 fx1 cy0 cy1 fy0 fy1
      go_wp2_with fail
      go_region_held (fun w' => w'.cell? ⟨gx, 0, none⟩ = some (.int .i64 p) ∧ w'.cell? ⟨gx, 1, none⟩ = some (.slice ap mp cp) ∧ w'.cell? ⟨gy, 0, none⟩ = some (.int .i64 q) ∧ w'.cell? ⟨gy, 1, none⟩ = some (.slice aq mq cq) ∧ w'.cell? ⟨w3.heap.size, 0, none⟩ = some (.int .i64 x3) ∧ w'.cell? ⟨w3.heap.size, 1, none⟩ = some (.slice ad4 m4 cap4)) (first | exact held6 (uh B4).1 (uh B4).2.1 (uh B4).2.2 (Since.sets2 (uh HS6) (uh HG).1 _ _) | exact held6 (w0 := w3.alloc (.cells #[.int .i64 x3, .slice ad4 m4 cap4] 82)) (uh B4).1 (uh B4).2.1 (uh B4).2.2 (by repeat (first | exact uh HS6 | exact uh HS5 | exact Since.refl _ | refine Since.drew ?_ | refine Since.alloc ?_ _))) (first
        | (go_at_call 93; refine (Mul_any P K (Int.fdiv X Y) Y _ _ _ (fun b hb => hP b (Nat.le_trans hs4 (Nat.le_trans (Below.size (show Since (w3.alloc (.cells #[.int .i64 x3, .slice ad4 m4 cap4] 82)) _ from (by repeat (first | exact Since.refl _ | refine Since.drew ?_ | refine Since.alloc ?_ _)))) hb))) ((uh HV4).below (show Since _ _ from (by repeat (first | exact Since.refl _ | refine Since.drew ?_ | refine Since.alloc ?_ _)))) ((uh HY4).below (show Since _ _ from (by repeat (first | exact Since.refl _ | refine Since.drew ?_ | refine Since.alloc ?_ _)))) hK (uh HN).1 (uh HN).2.1).mono ?_; rintro e w5 ⟨v5, rfl, hv5, hw5⟩; have HS5 : Hid (Since (w3.alloc (.cells #[.int .i64 x3, .slice ad4 m4 cap4] 82)) w5) := Since.step (by repeat (first | exact Since.refl _ | refine Since.drew ?_ | refine Since.alloc ?_ _)) hw5; have HK5 := hide (Below.same hw5); have HV5 := hide hv5; obtain ⟨x5, ad5, m5, cap5, rfl, _⟩ := hv5.head; clear hv5 hw5)
        | (go_at_call 92; refine (Sub_any P K X (Int.fdiv X Y * Y) _ _ _ (fun b hb => hP b (Nat.le_trans hs4 (Nat.le_trans (Below.size (show Since (w3.alloc (.cells #[.int .i64 x3, .slice ad4 m4 cap4] 82)) _ from (by repeat (first | exact uh HS5 | refine Since.drew ?_ | refine Since.alloc ?_ _)))) hb))) ((uh HX4).below (show Since (w3.alloc (.cells #[.int .i64 x3, .slice ad4 m4 cap4] 82)) _ from (by repeat (first | exact uh HS5 | refine Since.drew ?_ | refine Since.alloc ?_ _)))) ((uh HV5).below (show Since w5 _ from (by repeat (first | exact Since.refl _ | refine Since.drew ?_ | refine Since.alloc ?_ _)))) hK (uh HN).2.2.1 (uh HN).2.2.2.1).mono ?_; rintro e w6 ⟨v6, rfl, hv6, hw6⟩; have HS6 : Hid (Since (w3.alloc (.cells #[.int .i64 x3, .slice ad4 m4 cap4] 82)) w6) := Since.step (by repeat (first | exact uh HS5 | refine Since.drew ?_ | refine Since.alloc ?_ _)) hw6; have HK6 := hide (Below.same hw6); have HV6 := hide hv6; obtain ⟨x6, ad6, m6, cap6, rfl, _⟩ := hv6.head
           (first
            | (have HG : Hid (FreshIn (w3.alloc (.cells #[.int .i64 x3, .slice ad4 m4 cap4] 82)) w5.heap.size w6) := ⟨Below.size (uh HS5), uh HK6 _ _ (slot_one w5 (.cells #[.int .i64 0, .slice none 0 0] 82))⟩
               obtain ⟨gc0, gc1, gf0, gf1⟩ := slot_of (uh HG).2)
            | (have HG : Hid (FreshIn (w3.alloc (.cells #[.int .i64 x3, .slice ad4 m4 cap4] 82)) (w3.heap.size + 1) w6) := ⟨Nat.le_of_eq (by simp), by have h := uh HK6 _ _ (uh HK5 _ _ (slot_one (w3.alloc (.cells #[.int .i64 x3, .slice ad4 m4 cap4] 82)).drew (.cells #[.int .i64 0, .slice none 0 0] 82))); rwa [show (w3.alloc (.cells #[.int .i64 x3, .slice ad4 m4 cap4] 82)).drew.heap.size = w3.heap.size + 1 by simp] at h⟩
               obtain ⟨gc0, gc1, gf0, gf1⟩ := slot_of (uh HG).2)
            | skip)
           clear hv6 hw6))
      all_goals
        have hY1 : 0 ≤ Y := by have := (uh HO).2.2.2.2.2.1; omega
        first
          | (rename Hid (FreshIn _ _ _) => HGG; obtain ⟨⟨a1, a2, a3, a4, a5, a6, a7, a8⟩, ⟨n1, n2, n3, n4⟩, HF⟩ := gcd_set (uh HGG) (uh HS6) (uh B4).1 (uh B4).2.1 hne hgx hgy2 (uh HY4) (uh HV6) (uh HP4) (by omega) (uh HST).2.2.2.2.1 (uh HN).2.1 (uh HN).2.2.2.2 ((uh HST).2.2.2.2.2.2.trans (uh HO).2.2.2.2.2.2.1))
          | (obtain ⟨⟨a1, a2, a3, a4, a5, a6, a7, a8⟩, ⟨n1, n2, n3, n4⟩, HF⟩ := gcd_alloc (uh HS6) (uh B4).1 (uh B4).2.1 hne hgx hgy2 (uh HY4) (uh HV6) (uh HP4) (by omega) (uh HST).2.2.2.2.1 (uh HN).2.1 (uh HN).2.2.2.2 ((uh HST).2.2.2.2.2.2.trans (uh HO).2.2.2.2.2.2.1))
        have HM : Hid ((X - Int.fdiv X Y * Y).toNat < gk) := by
          have h1 := (uh HST).2.2.2.2.2.1
          have h2 := (uh HO).2.2.2.2.2.1
          have h3 := (uh HST).2.2.2.2.1
          unfold Hid
          omega
        clear HO HN HST HP4 HX4 HY4 HV4 HV5 HV6
        go_wp2
        go_roundg (X - Int.fdiv X Y * Y).toNat
        case measure => exact uh HM
        case rel => exact uh HF
end Go.Proofs.Ytfaljekgpnbmiaa
