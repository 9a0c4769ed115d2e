/- Joined: XInt10 XInt11 XMem1 XMem2. -/
import Derived.Test.YtgaafamcajcifaaGreatK04
import Derived.Test.YtgaafamcajcifaaGreatK15
set_option linter.unusedVariables false
set_option linter.unusedSimpArgs false
set_option maxRecDepth 100000
namespace Go.Proofs.YtgaafamcajcifaaGreat
open Go.RowKit
theorem Pl.ML (a b:Int) (hb:b≠0):Int.fdiv a b=if a.tmod b≠0∧¬ (a<0↔b<0) then a.tdiv b - 1 else a.tdiv b:=by
 rw [Int.fdiv_eq_tdiv];by_cases hd:b∣a
 ·rw [h_ hd,g_ (λh=>h.1 (Int.tmod_eq_zero_of_dvd hd))];omega
 ·rw [g_ hd];have hm:a.tmod b≠0:=λh=>hd (Int.dvd_of_tmod_eq_zero h);have hs:b<0->b.sign=-1:=E_;have hs2:0<b->b.sign=1:=J_;by_cases h1:a<0 <;> by_cases h2:b<0 <;> simp [hm,h1,h2] <;> omega
set_option maxHeartbeats 1000000 in
theorem MM (P:Nat->Prop) (a b:Int) (w:World) (ha:-4611686018427387904<a∧a<4611686018427387904) (hb:-4611686018427387904<b∧b<4611686018427387904) (hb0:b≠0) :
  Calls Tryz.prog 56 #[.agg #[.int .i64 a,.slice none 0 0],.agg #[.int .i64 b,.slice none 0 0]] w λe w'=>∃ v',e=.returned v'∧aj P w' v' (Int.fdiv a b)∧Below w.heap.size w w':=by
 have hy0:(b == 0)=false:=by simpa using hb0
 have hn:=Int.natAbs_tdiv_le_natAbs a b;have hF:=af (Pl.ML a b hb0);have hq0:Hid (a.tdiv b=-4611686018427387903->¬ (a.tmod b≠0∧¬ (a<0↔b<0))):=by
  intro hq hc;have hd:=Int.mul_tdiv_add_tmod a b;rw [hq] at hd hn;have hn':a.natAbs=4611686018427387903:=by omega
  have hb1:b=1∨b=-1∨(2<=b∨b<=-2):=by omega
  rcases hb1 with h|h|h
  ·rw [h] at hc;exact hc.1 (by rw [Int.tmod_one])
  ·rw [h] at hc;exact hc.1 (by rw [Int.tmod_neg,Int.tmod_one])
  ·have e1:(a.tdiv b).natAbs=a.natAbs/b.natAbs:=Int.natAbs_tdiv a b;have e2:a.natAbs/b.natAbs<=a.natAbs/2:=Nat.div_le_div_left (by omega) (by omega);omega
 generalize hQ:a.tdiv b=q at *
 generalize hM:a.tmod b=r at *
 have hw1:wrap64 q=q:=by unfold wrap64;omega
 have hw2:wrap64 (q - 1)=q - 1:=by unfold wrap64;omega
 have HB:=af (show -4611686018427387904<q∧q<4611686018427387904 by omega);by_cases hr:r=0
 ·have hR:Hid (Int.fdiv a b=q):=by unfold Hid;rw [uh hF,g_ (λh=>h.1 hr)]
  subst hr;clear hF hq0 hn;go_enter Tryz.func56,Tryz.ntmps56;go_wp2_with fail;exact t_ (v:=.agg #[.int .i64 q,.slice none 0 0]) (by simp [results,Tryz.results56,go_sem]) rfl ⟨_,rfl,.inl ⟨by rw [uh hR],by rw [uh hR];exact (uh HB).1,by rw [uh hR];exact (uh HB).2⟩,ay w _ _ _⟩
 ·rcases (show (a<0∧b<0)∨(¬ a<0∧¬ b<0)∨(a<0∧¬ b<0)∨(¬ a<0∧b<0) by omega) with ⟨hsx,hsy⟩ | ⟨hsx,hsy⟩ | ⟨hsx,hsy⟩ | ⟨hsx,hsy⟩
  ·have Ps:decide (a<0)=true:=by simp;omega
   have hdy:decide (b<0)=true:=by simp;omega
   have hR:Hid (Int.fdiv a b=q):=by unfold Hid;rw [uh hF,g_ (λh=>h.2 ⟨λh1=>by omega,λh1=>by omega⟩)]
   have HB2:=af (show -4611686018427387904<q∧q<4611686018427387904 by have:=uh hq0;have:=uh HB;omega);clear hF hq0 hn hsx hsy;go_enter Tryz.func56,Tryz.ntmps56;go_wp2_with fail;exact t_ (v:=.agg #[.int .i64 (q),.slice none 0 0]) (by simp [results,Tryz.results56,go_sem]) rfl ⟨_,rfl,.inl ⟨by rw [uh hR],by rw [uh hR];exact (uh HB2).1,by rw [uh hR];exact (uh HB2).2⟩,ay w _ _ _⟩
  ·have Ps:decide (a<0)=false:=by simp;omega
   have hdy:decide (b<0)=false:=by simp;omega
   have hR:Hid (Int.fdiv a b=q):=by unfold Hid;rw [uh hF,g_ (λh=>h.2 ⟨λh1=>by omega,λh1=>by omega⟩)]
   have HB2:=af (show -4611686018427387904<q∧q<4611686018427387904 by have:=uh hq0;have:=uh HB;omega);clear hF hq0 hn hsx hsy;go_enter Tryz.func56,Tryz.ntmps56;go_wp2_with fail;exact t_ (v:=.agg #[.int .i64 (q),.slice none 0 0]) (by simp [results,Tryz.results56,go_sem]) rfl ⟨_,rfl,.inl ⟨by rw [uh hR],by rw [uh hR];exact (uh HB2).1,by rw [uh hR];exact (uh HB2).2⟩,ay w _ _ _⟩
  ·have Ps:decide (a<0)=true:=by simp;omega
   have hdy:decide (b<0)=false:=by simp;omega
   have hR:Hid (Int.fdiv a b=q - 1):=by unfold Hid;rw [uh hF,h_ ⟨hr,λh=>by omega⟩]
   have HB2:=af (show -4611686018427387904<q - 1∧q - 1<4611686018427387904 by have:=uh hq0;have:=uh HB;omega);clear hF hq0 hn hsx hsy;go_enter Tryz.func56,Tryz.ntmps56;go_wp2_with fail;exact t_ (v:=.agg #[.int .i64 (q - 1),.slice none 0 0]) (by simp [results,Tryz.results56,go_sem]) rfl ⟨_,rfl,.inl ⟨by rw [uh hR],by rw [uh hR];exact (uh HB2).1,by rw [uh hR];exact (uh HB2).2⟩,ay w _ _ _⟩
  ·have Ps:decide (a<0)=false:=by simp;omega
   have hdy:decide (b<0)=true:=by simp;omega
   have hR:Hid (Int.fdiv a b=q - 1):=by unfold Hid;rw [uh hF,h_ ⟨hr,λh=>by omega⟩]
   have HB2:=af (show -4611686018427387904<q - 1∧q - 1<4611686018427387904 by have:=uh hq0;have:=uh HB;omega);clear hF hq0 hn hsx hsy;go_enter Tryz.func56,Tryz.ntmps56;go_wp2_with fail;exact t_ (v:=.agg #[.int .i64 (q - 1),.slice none 0 0]) (by simp [results,Tryz.results56,go_sem]) rfl ⟨_,rfl,.inl ⟨by rw [uh hR],by rw [uh hR];exact (uh HB2).1,by rw [uh hR];exact (uh HB2).2⟩,ay w _ _ _⟩
theorem Pt (P:Nat->Prop) (a:Int) (va vb:Value) (w:World) (ha:aj P w va a) (hb:aj P w vb 0) :
  Calls Tryz.prog 56 #[va,vb] w λe w'=>∃ v',e=.returned v'∧aj P w' v' (Int.fdiv a 0)∧Below w.heap.size w w':=by
 obtain ⟨x,ad,m,cap,rfl,_⟩:=ha.oK;obtain ⟨y,fH,m2,cap2,rfl,hy1,hy2,_⟩:=hb.oK;obtain rfl:y=0:=by omega
 clear ha hb hy1 hy2;go_enter Tryz.func56,Tryz.ntmps56;go_wp2_with fail;exact t_ (v:=.agg #[.int .i64 0,.slice none 0 0]) (by simp [results,Tryz.results56,go_sem]) rfl ⟨_,rfl,.inl ⟨by simp,by simp,by simp⟩,ay w _ _ _⟩
theorem lu (P:Nat->Prop) (K:Nat) (a b:Int) (va vb:Value) (w:World) (hP:∀ b,w.heap.size<=b->P b) (ha:aj P w va a) (hb:aj P w vb b) (hK:K<=1500000000000) (hA:(a.natAbs:Int)<1073741824^K) (hB:(b.natAbs:Int)<1073741824^K) :
  Calls Tryz.prog 56 #[va,vb] w λe w'=>∃ v',e=.returned v'∧aj P w' v' (Int.fdiv a b)∧Below w.heap.size w w':=by
 by_cases hb0:b=0
 ·subst hb0;exact Pt P a va vb w ha hb
 ·by_cases h:(-4611686018427387904<a∧a<4611686018427387904)∧(-4611686018427387904<b∧b<4611686018427387904)
  ·rw [ha.fits h.1,hb.fits h.2];exact MM P a b w h.1 h.2 hb0
  ·exact RY P K a b va vb w hP ha hb hK hA hB hb0 h
theorem au {w : World} {g : Nat} {u v : Value} (h : w.heap[g]? = some (.cells #[u, v] 78 (0, 0))) : w.cell? ⟨g, 0, none⟩ = some u ∧ w.cell? ⟨g, 1, none⟩ = some v ∧ w.frozen? ⟨g, 0, none⟩ = false ∧ w.frozen? ⟨g, 1, none⟩ = false :=
  ⟨by rw [cellsOf h]; rfl, by rw [cellsOf h]; rfl, aH h 0, aH h 1⟩
theorem jU {w : World} {g : Nat} {u v : Value} (h : w.heap[g]? = some (.cells #[u, v] 78 (0, 0))) (p q : Value) : ((w.setCell ⟨g, 0, none⟩ p).setCell ⟨g, 1, none⟩ q).heap[g]? = some (.cells #[p, q] 78 (0, 0)) := by
  have h1 := j_ w g 0 _ _ p h;rw [j_ _ g 1 _ _ q h1]; rfl
theorem jN {w : World} {g k : Nat} (h : k ≠ g) (p q : Value) : ((w.setCell ⟨g, 0, none⟩ p).setCell ⟨g, 1, none⟩ q).heap[k]? = w.heap[k]? := by
  rw [l_ _ _ _ _ h, l_ _ _ _ _ h]
theorem Pl.Pv {X Y : Int} (hX : 0 <= X) (hY : 0 < Y) : 0 <= Int.fdiv X Y ∧ 0 <= Int.fdiv X Y * Y ∧ Int.fdiv X Y * Y <= X ∧ Int.fdiv X Y <= X ∧ 0 <= X - Int.fdiv X Y * Y ∧ X - Int.fdiv X Y * Y < Y ∧ Int.gcd Y (X - Int.fdiv X Y * Y) = Int.gcd X Y := by
  rw [S_ _ (by omega)];have d1 := aay X Y;have d2 := aaS X (show Y ≠ 0 by omega);have d3 := aaT X hY;have d4 : 0 <= X / Y := abl hX (by omega);have d5 : X / Y <= X := abo _ hX;have e : X - X / Y * Y = X % Y := by rw [u_ (X / Y)]; omega
  have d6 := Y_ d4 (show 0 <= Y by omega);rw [e];refine ⟨d4, d6, by rw [u_]; omega, d5, d2, d3, ?_⟩;rw [<- e, u_, Int.gcd_sub_mul_left_right, Int.gcd_comm]
def Aj (P : Nat -> Prop) (w : World) (o1 o2 o3 : Obj) (gx gy K G0 k : Nat) (wr : World) : Prop := ∃ (X Y p q : Int) (ap aq : Option Addr) (mp cp mq cq : Nat),
  wr.heap[gx]? = some (.cells #[.int .i64 p, .slice ap mp cp] 78 (0, 0)) ∧ aj P wr (.agg #[.int .i64 p, .slice ap mp cp]) X ∧ wr.heap[gy]? = some (.cells #[.int .i64 q, .slice aq mq cq] 78 (0, 0)) ∧ aj P wr (.agg #[.int .i64 q, .slice aq mq cq]) Y ∧
  0 <= X ∧ Y = k ∧ (X.natAbs : Int) < 1073741824 ^ K ∧ (Y.natAbs : Int) < 1073741824 ^ K ∧ Int.gcd X Y = G0 ∧ aJ w o1 o2 o3 wr
theorem Px {w0 w' : World} {g1 g2 g3 : Nat} {a b c d e f : Value} (h1 : w0.heap[g1]? = some (.cells #[a, b] 78 (0, 0))) (h2 : w0.heap[g2]? = some (.cells #[c, d] 78 (0, 0))) (h3 : w0.heap[g3]? = some (.cells #[e, f] 78 (0, 0))) (h : bu w0 w') :
    w'.cell? ⟨g1, 0, none⟩ = some a ∧ w'.cell? ⟨g1, 1, none⟩ = some b ∧ w'.cell? ⟨g2, 0, none⟩ = some c ∧ w'.cell? ⟨g2, 1, none⟩ = some d ∧ w'.cell? ⟨g3, 0, none⟩ = some e ∧ w'.cell? ⟨g3, 1, none⟩ = some f := by
  obtain ⟨a1, a2, _⟩ := au (Below.same h _ _ h1);obtain ⟨b1, b2, _⟩ := au (Below.same h _ _ h2);obtain ⟨c1, c2, _⟩ := au (Below.same h _ _ h3);exact ⟨a1, a2, b1, b2, c1, c2⟩
def vX (w0 : World) (g : Nat) (w1 : World) : Prop := w0.heap.size <= g ∧ w1.heap[g]? = some (.cells #[.int .i64 0, .slice none 0 0] 78 (0, 0))
theorem bu.Yk {w0 w1 : World} (h : bu w0 w1) {g : Nat} (hg : w0.heap.size <= g) (p q : Value) : bu w0 ((w1.setCell ⟨g, 0, none⟩ p).setCell ⟨g, 1, none⟩ q) :=
  (B_ (p := ⟨g, 0, none⟩) h hg p).setCell (p := ⟨g, 1, none⟩) hg q
theorem Aj.next {P : Nat -> Prop} {w : World} {o1 o2 o3 : Obj} {gx gy K G0 : Nat} {W : World} {u1 u2 v1 v2 : Value} {q r : Int} {aq ar : Option Addr} {mq cq mr cr : Nat} {Y Z : Int} (bx : W.heap[gx]? = some (.cells #[u1, u2] 78 (0, 0))) (Oi : W.heap[gy]? = some (.cells #[v1, v2] 78 (0, 0))) (hne : gx ≠ gy)
    (hgx : (((w.alloc o1).alloc o2).alloc o3).heap.size <= gx) (Vq : (((w.alloc o1).alloc o2).alloc o3).heap.size <= gy) (hY : aj P W (.agg #[.int .i64 q, .slice aq mq cq]) Y) (hR : aj P W (.agg #[.int .i64 r, .slice ar mr cr]) Z) (hp : aJ w o1 o2 o3 W) (y0 : 0 <= Y) (z0 : 0 <= Z) (yb : (Y.natAbs : Int) < 1073741824 ^ K) (zb : (Z.natAbs : Int) < 1073741824 ^ K) (hg : Int.gcd Y Z = G0) :
    Aj P w o1 o2 o3 gx gy K G0 Z.toNat ((((W.setCell ⟨gx, 0, none⟩ (.int .i64 q)).setCell ⟨gx, 1, none⟩ (.slice aq mq cq)).setCell ⟨gy, 0, none⟩ (.int .i64 r)).setCell ⟨gy, 1, none⟩ (.slice ar mr cr)) := by
  have b2 := jU bx (.int .i64 q) (.slice aq mq cq);have b3 : ((W.setCell ⟨gx, 0, none⟩ (.int .i64 q)).setCell ⟨gx, 1, none⟩ (.slice aq mq cq)).heap[gy]? = _ := (jN (λe => hne e.symm) _ _).trans Oi;exact ⟨Y, Z, q, r, aq, ar, mq, cq, mr, cr, (jN hne _ _).trans b2, (hY.kE bx _ _).kE b3 _ _, jU b3 _ _, (hR.kE bx _ _).kE b3 _ _, y0, by omega, yb, zb, hg, aJ.kE (aJ.kE hp hgx _ _) Vq _ _⟩
theorem RZ {P : Nat -> Prop} {w : World} {o1 o2 o3 : Obj} {gx gy K G0 : Nat} {W4 w6 : World} {u1 u2 v1 v2 : Value} {q r : Int} {aq ar : Option Addr} {mq cq mr cr : Nat} {Y Z : Int} {g : Nat} (hG : vX W4 g w6) (hS : bu W4 w6) (bx : W4.heap[gx]? = some (.cells #[u1, u2] 78 (0, 0))) (Oi : W4.heap[gy]? = some (.cells #[v1, v2] 78 (0, 0))) (hne : gx ≠ gy)
    (hgx : (((w.alloc o1).alloc o2).alloc o3).heap.size <= gx) (Vq : (((w.alloc o1).alloc o2).alloc o3).heap.size <= gy) (hY : aj P W4 (.agg #[.int .i64 q, .slice aq mq cq]) Y) (hR : aj P w6 (.agg #[.int .i64 r, .slice ar mr cr]) Z) (hp : aJ w o1 o2 o3 W4) (y0 : 0 <= Y) (z0 : 0 <= Z) (yb : (Y.natAbs : Int) < 1073741824 ^ K) (zb : (Z.natAbs : Int) < 1073741824 ^ K) (hg : Int.gcd Y Z = G0) :
    (w6.cell? ⟨gx, 0, none⟩ = some u1 ∧ w6.cell? ⟨gx, 1, none⟩ = some u2 ∧ w6.cell? ⟨gy, 0, none⟩ = some v1 ∧ w6.cell? ⟨gy, 1, none⟩ = some v2 ∧ w6.frozen? ⟨gx, 0, none⟩ = false ∧ w6.frozen? ⟨gx, 1, none⟩ = false ∧ w6.frozen? ⟨gy, 0, none⟩ = false ∧ w6.frozen? ⟨gy, 1, none⟩ = false) ∧ (g ≠ gx ∧ gx ≠ g ∧ g ≠ gy ∧ gy ≠ g) ∧ Hid (Aj P w o1 o2 o3 gx gy K G0 Z.toNat ((((((w6.setCell ⟨g, 0, none⟩ (.int .i64 r)).setCell ⟨g, 1, none⟩ (.slice ar mr cr)).setCell ⟨gx, 0, none⟩ (.int .i64 q)).setCell ⟨gx, 1, none⟩ (.slice aq mq cq)).setCell ⟨gy, 0, none⟩ (.int .i64 r)).setCell ⟨gy, 1, none⟩ (.slice ar mr cr))) := by
  have h1 := Below.same hS _ _ bx;have h2 := Below.same hS _ _ Oi;obtain ⟨a1, a2, a3, a4⟩ := au h1;obtain ⟨b1, b2, b3, b4⟩ := au h2;have l1 := z_ bx;have l2 := z_ Oi;have l3 := hG.1;have n1 : gx ≠ g := by omega
  have n2 : gy ≠ g := by omega
  have hp6 : aJ w o1 o2 o3 w6 := aJ.step hp hS;refine ⟨⟨a1, a2, b1, b2, a3, a4, b3, b4⟩, ⟨by omega, n1, by omega, n2⟩, ?_⟩;exact Aj.next ((jN n1 _ _).trans h1) ((jN n2 _ _).trans h2) hne hgx Vq ((hY.below hS).kE hG.2 _ _) (hR.kE hG.2 _ _) (aJ.kE hp6 (w_ (Below.size hp) l3) _ _) y0 z0 yb zb hg
theorem MN {P : Nat -> Prop} {w : World} {o1 o2 o3 : Obj} {gx gy K G0 : Nat} {W4 w6 : World} {u1 u2 v1 v2 : Value} {q r : Int} {aq ar : Option Addr} {mq cq mr cr : Nat} {Y Z : Int} (hS : bu W4 w6) (bx : W4.heap[gx]? = some (.cells #[u1, u2] 78 (0, 0))) (Oi : W4.heap[gy]? = some (.cells #[v1, v2] 78 (0, 0))) (hne : gx ≠ gy)
    (hgx : (((w.alloc o1).alloc o2).alloc o3).heap.size <= gx) (Vq : (((w.alloc o1).alloc o2).alloc o3).heap.size <= gy) (hY : aj P W4 (.agg #[.int .i64 q, .slice aq mq cq]) Y) (hR : aj P w6 (.agg #[.int .i64 r, .slice ar mr cr]) Z) (hp : aJ w o1 o2 o3 W4) (y0 : 0 <= Y) (z0 : 0 <= Z) (yb : (Y.natAbs : Int) < 1073741824 ^ K) (zb : (Z.natAbs : Int) < 1073741824 ^ K) (hg : Int.gcd Y Z = G0) :
    ((w6.alloc (.cells #[.int .i64 r, .slice ar mr cr] 78)).cell? ⟨gx, 0, none⟩ = some u1 ∧ (w6.alloc (.cells #[.int .i64 r, .slice ar mr cr] 78)).cell? ⟨gx, 1, none⟩ = some u2 ∧ (w6.alloc (.cells #[.int .i64 r, .slice ar mr cr] 78)).cell? ⟨gy, 0, none⟩ = some v1 ∧ (w6.alloc (.cells #[.int .i64 r, .slice ar mr cr] 78)).cell? ⟨gy, 1, none⟩ = some v2 ∧ (w6.alloc (.cells #[.int .i64 r, .slice ar mr cr] 78)).frozen? ⟨gx, 0, none⟩ = false ∧ (w6.alloc (.cells #[.int .i64 r, .slice ar mr cr] 78)).frozen? ⟨gx, 1, none⟩ = false ∧ (w6.alloc (.cells #[.int .i64 r, .slice ar mr cr] 78)).frozen? ⟨gy, 0, none⟩ = false ∧ (w6.alloc (.cells #[.int .i64 r, .slice ar mr cr] 78)).frozen? ⟨gy, 1, none⟩ = false) ∧ (w6.heap.size ≠ gx ∧ gx ≠ w6.heap.size ∧ w6.heap.size ≠ gy ∧ gy ≠ w6.heap.size) ∧ Hid (Aj P w o1 o2 o3 gx gy K G0 Z.toNat (((((w6.alloc (.cells #[.int .i64 r, .slice ar mr cr] 78)).setCell ⟨gx, 0, none⟩ (.int .i64 q)).setCell ⟨gx, 1, none⟩ (.slice aq mq cq)).setCell ⟨gy, 0, none⟩ (.int .i64 r)).setCell ⟨gy, 1, none⟩ (.slice ar mr cr))) := by
  have hal : Below w6.heap.size w6 (w6.alloc (.cells #[.int .i64 r, .slice ar mr cr] 78)) := (n_ _ _).alloc (d_ _) _;have h1 := Below.same hal _ _ (Below.same hS _ _ bx);have h2 := Below.same hal _ _ (Below.same hS _ _ Oi);obtain ⟨a1, a2, a3, a4⟩ := au h1;obtain ⟨b1, b2, b3, b4⟩ := au h2;have hp6 : aJ w o1 o2 o3 w6 := aJ.step hp hS;have l1 := z_ bx;have l2 := z_ Oi;have l3 := Below.size hS;refine ⟨⟨a1, a2, b1, b2, a3, a4, b3, b4⟩, ⟨by omega, by omega, by omega, by omega⟩, ?_⟩;exact Aj.next h1 h2 hne hgx Vq ((hY.below hS).below hal) (hR.below hal) (aJ.step hp6 hal) y0 z0 yb zb hg
set_option maxHeartbeats 2000000 in
theorem R4 (P : Nat -> Prop) (K : Nat) (a b : Int) (va vb : Value) (w : World) (hP : ∀ b, w.heap.size <= b -> P b) (ha : aj P w va a) (hb : aj P w vb b) (hK : K <= 1500000000000) (hA : (a.natAbs : Int) < 1073741824 ^ K) (hB : (b.natAbs : Int) < 1073741824 ^ K) :
    Calls Tryz.prog 63 #[va, vb] w λe w' => ∃ v', e = .returned v' ∧ aj P w' v' (Int.gcd a b) ∧ Below w.heap.size w w' := by
  have HAa := af (λw1 (h : Below w.heap.size w w1) => sZ P va a w1 (ha.below h));have HAb := af (λw1 (h : Below w.heap.size w w1) => sZ P vb b w1 (hb.below h));obtain ⟨x, ad, m, cap, rfl, _⟩ := ha.oK;obtain ⟨y, fH, m2, cap2, rfl, _⟩ := hb.oK;clear ha hb;go_enter Tryz.func63, Tryz.ntmps63;go_wp2_with fail;refine (uh HAa _ (ay w _ _ _)).mono ?_;rintro e w1 ⟨v1, rfl, hv1, hw1⟩;have HW1 : Hid (aJ w (.cells #[.int .i64 x, .slice ad m cap] 78) (.cells #[.int .i64 y, .slice fH m2 cap2] 78) (.cells #[.int .i64 0, .slice none 0 0] 78) w1) := aJ.step (aJ.refl w _ _ _) hw1;have wP := af hv1;obtain ⟨x1, Rl, m1, iQ, rfl, _⟩ := hv1.head;obtain ⟨j1, j2, j3, j4⟩ := aJ.held (aJ.alloc (uh HW1) (.cells #[.int .i64 x1, .slice Rl m1 iQ] 78));clear hv1 hw1;go_wp2_with fail;refine (uh HAb _ (aJ.below (o1 := .cells #[.int .i64 x, .slice ad m cap] 78) (o2 := .cells #[.int .i64 y, .slice fH m2 cap2] 78) (o3 := .cells #[.int .i64 0, .slice none 0 0] 78) (by repeat (first | exact uh HW1 | refine aJ.drew ?_ | refine aJ.alloc ?_ _)))).mono ?_
  rintro e w2 ⟨v2, rfl, hv2, hw2⟩;obtain ⟨x2, Dv, m3, qI, rfl, _⟩ := hv2.head;have hsz1 := Below.size (uh HW1);have hsz2 := hw2.size;have HI : Hid (Aj P w (.cells #[.int .i64 x, .slice ad m cap] 78) (.cells #[.int .i64 y, .slice fH m2 cap2] 78) (.cells #[.int .i64 0, .slice none 0 0] 78) w1.heap.size w2.heap.size K (Int.gcd a b) b.natAbs (w2.alloc (.cells #[.int .i64 x2, .slice Dv m3 qI] 78))) := by
    have hal : Below w2.heap.size w2 (w2.alloc (.cells #[.int .i64 x2, .slice Dv m3 qI] 78)) := (n_ _ _).alloc (d_ _) _;have DN : Below w1.heap.size w1 (w1.alloc (.cells #[.int .i64 x1, .slice Rl m1 iQ] 78)) := (n_ _ _).alloc (d_ _) _;refine ⟨if a < 0 then -a else a, if b < 0 then -b else b, x1, x2, Rl, Dv, m1, iQ, m3, qI, ?_, ?_, aG w2 _, hv2.below hal, ?_, ?_, ?_, ?_, ?_, ?_⟩
    · exact Below.same hal _ _ (Below.same hw2 _ _ (aG w1 _))
    · exact (((uh wP).below DN).below hw2).below hal
    · split <;> omega
    · split <;> omega
    · split <;> omega
    · split <;> omega
    · split <;> split <;> simp
    · exact aJ.alloc (aJ.step (aJ.alloc (uh HW1) _) hw2) _
  have hgx : (((w.alloc (.cells #[.int .i64 x, .slice ad m cap] 78)).alloc (.cells #[.int .i64 y, .slice fH m2 cap2] 78)).alloc (.cells #[.int .i64 0, .slice none 0 0] 78)).heap.size <= w1.heap.size := hsz1;have Vq : w1.heap.size < w2.heap.size := by simp at hsz2; omega
  have hsz0 : w.heap.size + 3 <= w1.heap.size := by simpa using hgx
  have hne : w1.heap.size ≠ w2.heap.size := by omega
  have hne2 : w2.heap.size ≠ w1.heap.size := by omega
  have Yl := w_ hgx (abv Vq);clear hv2 hw2 wP HW1 HAa HAb j1 j2 j3 j4 hsz1 hsz2;go_wp2_with fail;generalize w1.heap.size = gx at *
  generalize hG2 : w2.heap.size = gy at *
  go_loopg [] b.natAbs (λk wr => Aj P w (.cells #[.int .i64 x, .slice ad m cap] 78) (.cells #[.int .i64 y, .slice fH m2 cap2] 78) (.cells #[.int .i64 0, .slice none 0 0] 78) gx gy K (Int.gcd a b) k wr)
  case atStart => exact uh HI
  case round =>
    obtain ⟨X, Y, p, q, ap, aq, mp, cp, mq, cq, bx, hX, Oi, hY, x0, hk, xb, yb, hg, hpast⟩ := hrel;obtain ⟨q', aq', mq', cq', he, hq1, hq2, _⟩ := hY.oK;cases he;obtain ⟨cx0, cx1, fx0, fx1⟩ := au bx;obtain ⟨cy0, cy1, fy0, fy1⟩ := au Oi;by_cases hq0 : q = 0
    · have hY0 : Y = 0 := by omega
      obtain ⟨x5, JL, m5, cap5, he, c0, c1, f0, f1, HF⟩ := aY (ay w (.cells #[.int .i64 x, .slice ad m cap] 78) (.cells #[.int .i64 y, .slice fH m2 cap2] 78) (.cells #[.int .i64 0, .slice none 0 0] 78)) hpast (bn w _ _ _) (by omega) hX;cases he;have hR : Hid ((Int.gcd a b : Int) = X) := by unfold Hid; rw [<- hg, hY0, Int.gcd_zero_right]; omega
      subst hq0;clear hX hY bx Oi hpast hg hq1 hq2 hk HI xb yb hY0;go_wp2;exact t_ (v := .agg #[.int .i64 p, .slice ap mp cp]) (by simp [results, Tryz.results63, go_sem, (uh HF).2.2.1, (uh HF).2.2.2]) rfl ⟨_, rfl, by rw [uh hR]; exact (uh HF).1, (uh HF).2.1⟩
    · have hYp : 0 < Y := by omega
      have HST := af (Pl.Pv x0 hYp);have hqt : (q != 0) = true := by simpa using hq0
      have HD := af (lu P K X Y _ _ wr (λb hb => hP b (by have := (aJ.below hpast).size; omega)) hX hY hK xb yb);have HN : Hid (((Int.fdiv X Y).natAbs : Int) < 1073741824 ^ K ∧ (Y.natAbs : Int) < 1073741824 ^ K ∧ (X.natAbs : Int) < 1073741824 ^ K ∧ ((Int.fdiv X Y * Y).natAbs : Int) < 1073741824 ^ K ∧ ((X - Int.fdiv X Y * Y).natAbs : Int) < 1073741824 ^ K) := by
        obtain ⟨z1, z2, z3, z4, z5, z6, _⟩ := uh HST;exact ⟨by omega, yb, xb, by omega, by omega⟩
      have HO := af (x_ bx (x_ hX (x_ Oi (x_ hY (x_ x0 (x_ hk (x_ hg hpast)))))));clear bx hX Oi hY x0 hk hg hpast xb yb hq1 hq2 hq0 HI hYp;go_wp2_with fail;refine (uh HD).mono ?_;rintro e w3 ⟨v3, rfl, hv3, hw3⟩;obtain ⟨x3, jW, m4, cap4, rfl, _⟩ := hv3.head;have hal : Below w3.heap.size w3 (w3.alloc (.cells #[.int .i64 x3, .slice jW m4 cap4] 78)) := (n_ _ _).alloc (d_ _) _;have B4 := af (x_ (Below.same hal _ _ (Below.same hw3 _ _ (uh HO).1)) (x_ (Below.same hal _ _ (Below.same hw3 _ _ (uh HO).2.2.1)) (aG w3 (.cells #[.int .i64 x3, .slice jW m4 cap4] 78))));have DR := af (hv3.below hal);have HX4 := af (((uh HO).2.1.below hw3).below hal);have HY4 := af (((uh HO).2.2.2.1.below hw3).below hal);have Py : Hid (aJ w (.cells #[.int .i64 x, .slice ad m cap] 78) (.cells #[.int .i64 y, .slice fH m2 cap2] 78) (.cells #[.int .i64 0, .slice none 0 0] 78) (w3.alloc (.cells #[.int .i64 x3, .slice jW m4 cap4] 78))) := aJ.alloc (aJ.step (uh HO).2.2.2.2.2.2.2 hw3) _;have hs4 : w.heap.size <= (w3.alloc (.cells #[.int .i64 x3, .slice jW m4 cap4] 78)).heap.size := (aJ.below (uh Py)).size;obtain ⟨kx0, kx1, ky0, ky1, kq0, kq1⟩ := Px (uh B4).1 (uh B4).2.1 (uh B4).2.2 (bu.refl _);clear hv3 hw3 hal HD cx0 cx1 fx0 fx1 cy0 cy1 fy0 fy1;go_wp2_with fail
      go_region_held (λw' => w'.cell? ⟨gx, 0, none⟩ = some (.int .i64 p) ∧ w'.cell? ⟨gx, 1, none⟩ = some (.slice ap mp cp) ∧ w'.cell? ⟨gy, 0, none⟩ = some (.int .i64 q) ∧ w'.cell? ⟨gy, 1, none⟩ = some (.slice aq mq cq) ∧ w'.cell? ⟨w3.heap.size, 0, none⟩ = some (.int .i64 x3) ∧ w'.cell? ⟨w3.heap.size, 1, none⟩ = some (.slice jW m4 cap4)) (first | exact Px (uh B4).1 (uh B4).2.1 (uh B4).2.2 (bu.Yk (uh KJ) (uh HG).1 _ _) | exact Px (w0 := w3.alloc (.cells #[.int .i64 x3, .slice jW m4 cap4] 78)) (uh B4).1 (uh B4).2.1 (uh B4).2.2 (by repeat (first | exact uh KJ | exact uh MO | exact bu.refl _ | refine bu.drew ?_ | refine bu.alloc ?_ _))) (first
        | (go_at_call 58; refine (eD P K (Int.fdiv X Y) Y _ _ _ (λb hb => hP b (w_ hs4 (w_ (Below.size (show bu (w3.alloc (.cells #[.int .i64 x3, .slice jW m4 cap4] 78)) _ from (by repeat (first | exact bu.refl _ | refine bu.drew ?_ | refine bu.alloc ?_ _)))) hb))) ((uh DR).below (show bu _ _ from (by repeat (first | exact bu.refl _ | refine bu.drew ?_ | refine bu.alloc ?_ _)))) ((uh HY4).below (show bu _ _ from (by repeat (first | exact bu.refl _ | refine bu.drew ?_ | refine bu.alloc ?_ _)))) hK (uh HN).1 (uh HN).2.1).mono ?_; rintro e w5 ⟨v5, rfl, hv5, pK⟩; have MO : Hid (bu (w3.alloc (.cells #[.int .i64 x3, .slice jW m4 cap4] 78)) w5) := bu.step (by repeat (first | exact bu.refl _ | refine bu.drew ?_ | refine bu.alloc ?_ _)) pK; have Vr := af (Below.same pK); have HV5 := af hv5; obtain ⟨x5, JL, m5, cap5, rfl, _⟩ := hv5.head; clear hv5 pK)
        | (go_at_call 57; refine (kF P K X (Int.fdiv X Y * Y) _ _ _ (λb hb => hP b (w_ hs4 (w_ (Below.size (show bu (w3.alloc (.cells #[.int .i64 x3, .slice jW m4 cap4] 78)) _ from (by repeat (first | exact uh MO | refine bu.drew ?_ | refine bu.alloc ?_ _)))) hb))) ((uh HX4).below (show bu (w3.alloc (.cells #[.int .i64 x3, .slice jW m4 cap4] 78)) _ from (by repeat (first | exact uh MO | refine bu.drew ?_ | refine bu.alloc ?_ _)))) ((uh HV5).below (show bu w5 _ from (by repeat (first | exact bu.refl _ | refine bu.drew ?_ | refine bu.alloc ?_ _)))) hK (uh HN).2.2.1 (uh HN).2.2.2.1).mono ?_; rintro e w6 ⟨v6, rfl, hv6, uB⟩; have KJ : Hid (bu (w3.alloc (.cells #[.int .i64 x3, .slice jW m4 cap4] 78)) w6) := bu.step (by repeat (first | exact uh MO | refine bu.drew ?_ | refine bu.alloc ?_ _)) uB; have Oj := af (Below.same uB); have wI := af hv6; obtain ⟨x6, ad6, m6, cap6, rfl, _⟩ := hv6.head
           (first
            | (have HG : Hid (vX (w3.alloc (.cells #[.int .i64 x3, .slice jW m4 cap4] 78)) w5.heap.size w6) := ⟨Below.size (uh MO), uh Oj _ _ (aG w5 (.cells #[.int .i64 0, .slice none 0 0] 78))⟩
               obtain ⟨Vt, Vu, Vv, Vw⟩ := fT (uh HG).2)
            | (have HG : Hid (vX (w3.alloc (.cells #[.int .i64 x3, .slice jW m4 cap4] 78)) (w3.heap.size + 1) w6) := ⟨Nat.le_of_eq (by simp), by have h := uh Oj _ _ (uh Vr _ _ (aG (w3.alloc (.cells #[.int .i64 x3, .slice jW m4 cap4] 78)).drew (.cells #[.int .i64 0, .slice none 0 0] 78))); rwa [show (w3.alloc (.cells #[.int .i64 x3, .slice jW m4 cap4] 78)).drew.heap.size = w3.heap.size + 1 by simp] at h⟩
               obtain ⟨Vt, Vu, Vv, Vw⟩ := fT (uh HG).2)
            | skip)
           clear hv6 uB))
      all_goals
        have hY1 : 0 <= Y := by have := (uh HO).2.2.2.2.2.1; omega
        first
          | (rename Hid (vX _ _ _) => HGG; obtain ⟨⟨a1, a2, a3, a4, a5, a6, a7, a8⟩, ⟨n1, n2, n3, n4⟩, HF⟩ := RZ (uh HGG) (uh KJ) (uh B4).1 (uh B4).2.1 hne hgx Yl (uh HY4) (uh wI) (uh Py) (by omega) (uh HST).2.2.2.2.1 (uh HN).2.1 (uh HN).2.2.2.2 ((uh HST).2.2.2.2.2.2.trans (uh HO).2.2.2.2.2.2.1))
          | (obtain ⟨⟨a1, a2, a3, a4, a5, a6, a7, a8⟩, ⟨n1, n2, n3, n4⟩, HF⟩ := MN (uh KJ) (uh B4).1 (uh B4).2.1 hne hgx Yl (uh HY4) (uh wI) (uh Py) (by omega) (uh HST).2.2.2.2.1 (uh HN).2.1 (uh HN).2.2.2.2 ((uh HST).2.2.2.2.2.2.trans (uh HO).2.2.2.2.2.2.1))
        have HM : Hid ((X - Int.fdiv X Y * Y).toNat < gk) := by
          have h1 := (uh HST).2.2.2.2.2.1;have h2 := (uh HO).2.2.2.2.2.1;have h3 := (uh HST).2.2.2.2.1;unfold Hid;omega
        clear HO HN HST Py HX4 HY4 DR HV5 wI;go_wp2;go_roundg (X - Int.fdiv X Y * Y).toNat
        case measure => exact uh HM
        case rel => exact uh HF
def aD (P:Nat->Prop) (w:World) (v:Value) (l:List Int):Prop:=∃ ad cap,v=.slice ad l.length cap∧l.length<=cap∧∀ i,(hi:i<l.length)->∃ g off x a m c,ad=some ⟨g,off,none⟩ ∧
 w.cell? ⟨g,off+i*2,none⟩=some (.int .i64 x)∧w.cell? ⟨g,off+i*2+1,none⟩=some (.slice a m c)∧aj P w (.agg #[.int .i64 x,.slice a m c]) l[i]∧P g∧∃ cs,w.heap[g]?=some (.cells cs 78 (0,0))
def Uj (P:Nat->Prop) (w w':World):Prop:=∀ (k:Nat) (cur:Array Value),P k->w.heap[k]?=some (Obj.cells cur 3 (0,0))->w'.heap[k]?=w.heap[k]?
theorem aj.ql {P:Nat->Prop} {w w':World} {v:Value} {n:Int} (h:aj P w v n) (hb:Uj P w w'):aj P w' v n:=by
 rcases h with h|⟨l,b,off,cap,cs,sg,h1,h2,h3,h4⟩
 ·exact .inl h
 ·exact .inr ⟨l,b,off,cap,cs,sg,h1,h2,(hb b _ h2 h3).trans h3,h4⟩
theorem aj.mono {P P':Nat->Prop} {w:World} {v:Value} {n:Int} (h:aj P w v n) (hP:∀ b,b<w.heap.size->P b->P' b):aj P' w v n:=by
 rcases h with h|⟨l,b,off,cap,cs,sg,h1,h2,h3,h4⟩
 ·exact .inl h
 ·exact .inr ⟨l,b,off,cap,cs,sg,h1,hP b (z_ h3) h2,h3,h4⟩
def Zi (T:TypeId):Prop:=T=3∨T=78∨T=69
def Holds (P:Nat->Prop) (w w':World):Prop:=∀ (k:Nat) (cs:Array Value) (T:TypeId),Zi T->P k->w.heap[k]?=some (.cells cs T (0,0))->w'.heap[k]?=w.heap[k]?
theorem Holds.xJ {P:Nat->Prop} {w w':World} (h:Holds P w w'):Uj P w w':=λk cs hk hc=>h k cs _ (.inl rfl) hk hc
theorem Holds.aX {P:Nat->Prop} {w w':World} (h:Below w.heap.size w w'):Holds P w w':=λk cs T _ _ hk=>h.block k (z_ hk)
theorem aD.holds {P:Nat->Prop} {w w':World} {v:Value} {l:List Int} (h:aD P w v l) (hb:Holds P w w'):aD P w' v l:=by
 obtain ⟨ad,cap,rfl,hc,h⟩:=h;refine ⟨ad,cap,rfl,hc,λi hi=>?_⟩;obtain ⟨g,off,x,a,m,c,e,c1,c2,hw,hp,cs,hcs⟩:=h i hi;have hs:=hb g cs _ (.inr (.inl rfl)) hp hcs;exact ⟨g,off,x,a,m,c,e,by rw [cellsOf (hs.trans hcs),<-cellsOf hcs];exact c1,by rw [cellsOf (hs.trans hcs),<-cellsOf hcs];exact c2,hw.ql hb.xJ,hp,cs,hs.trans hcs⟩
theorem aD.below {P:Nat->Prop} {w w':World} {v:Value} {l:List Int} (h:aD P w v l) (hb:Below w.heap.size w w'):aD P w' v l:=h.holds (.aX hb)
theorem aD.mono {P P':Nat->Prop} {w:World} {v:Value} {l:List Int} (h:aD P w v l) (hP:∀ b,b<w.heap.size->P b->P' b):aD P' w v l:=by
 obtain ⟨ad,cap,rfl,hc,h⟩:=h;refine ⟨ad,cap,rfl,hc,λi hi=>?_⟩;obtain ⟨g,off,x,a,m,c,e,c1,c2,hw,hp,cs,hcs⟩:=h i hi;exact ⟨g,off,x,a,m,c,e,c1,c2,hw.mono hP,hP g (z_ hcs) hp,cs,hcs⟩
def Bv (P:Nat->Prop) (w:World) (v:Value) (l:List (Int × List Int)):Prop:=∃ ad cap,v=.slice ad l.length cap∧∀ i,(hi:i<l.length)->∃ g off u,ad=some ⟨g,off,none⟩ ∧
 w.cell? ⟨g,off+i*2,none⟩=some (.int .i64 l[i].1)∧w.cell? ⟨g,off+i*2+1,none⟩=some u∧aD P w u l[i].2
theorem Bv.below {P:Nat->Prop} {w w':World} {v:Value} {l:List (Int × List Int)} (h:Bv P w v l) (hb:Below w.heap.size w w'):Bv P w' v l:=by
 obtain ⟨ad,cap,rfl,h⟩:=h;refine ⟨ad,cap,rfl,λi hi=>?_⟩;obtain ⟨g,off,u,e,c1,c2,hw⟩:=h i hi;exact ⟨g,off,u,e,by rw [hb.cell (aav c1)];exact c1,by rw [hb.cell (aav c2)];exact c2,hw.below hb⟩
structure rY (P:Nat->Prop) (w:World) (b:Nat) (t:Pl.aR):Prop where
 lines:∃ v,w.cell? ⟨b,0,none⟩=some v∧Bv P w v t.lines
 aS:∃ v,w.cell? ⟨b,1,none⟩=some v∧bI w v t.aS
 scale:∃ x a m c,w.cell? ⟨b,2,none⟩=some (.int .i64 x)∧w.cell? ⟨b,3,none⟩=some (.slice a m c)∧aj P w (.agg #[.int .i64 x,.slice a m c]) t.scale
theorem rY.below {P:Nat->Prop} {w w':World} {b:Nat} {t:Pl.aR} (h:rY P w b t) (hb:Below w.heap.size w w'):rY P w' b t:=by
 obtain ⟨⟨v1,a1,a2⟩,⟨v2,b1,b2⟩,⟨x,a,m,c,c1,c2,c3⟩⟩:=h;exact ⟨⟨v1,by rw [hb.cell (aav a1)];exact a1,a2.below hb⟩,⟨v2,by rw [hb.cell (aav b1)];exact b1,b2.below hb⟩,⟨x,a,m,c,by rw [hb.cell (aav c1)];exact c1,by rw [hb.cell (aav c2)];exact c2,c3.below hb⟩⟩
theorem wz (w:World) (o1 o2:Obj):Below w.heap.size w ((w.alloc o1).alloc o2):=((n_ _ w).alloc (d_ _) o1).alloc (by simp) o2
theorem FQ (w:World) (o1 o2:Obj):((w.alloc o1).alloc o2).heap[w.heap.size+1]?=some o2:=by
 have:=aG (w.alloc o1) o2;rwa [H_] at this
set_option maxHeartbeats 1000000 in
theorem tO (P:Nat->Prop) (a sg:Int) (va:Value) (w:World) (ha:aj P w va a) (hs:sg=1∨sg=-1) :
  Calls Tryz.prog 106 #[va,.int .i64 sg] w λe w'=>∃ v',e=.returned v'∧aj P w' v' (sg*a)∧Below w.heap.size w w':=by
 have HN:=af (λw1 (h:Below w.heap.size w w1)=>lF P va a w1 (ha.below h));have HA:=af ha;obtain ⟨x,ad,m,cap,rfl,_⟩:=ha.oK;clear ha;go_enter Tryz.func106,Tryz.ntmps106;rcases hs with rfl|rfl
 ·go_wp2_with fail;exact t_ (v:=.agg #[.int .i64 x,.slice ad m cap]) (by simp [results,Tryz.results106,go_sem]) rfl ⟨_,rfl,by rw [aaH];exact (uh HA).below (wz w _ _),wz w _ _⟩
 ·go_wp2_with fail;refine (uh HN _ (wz w _ _)).mono ?_;rintro e w1 ⟨v',rfl,hv,hw1⟩;obtain ⟨x4,jW,m4,cap4,rfl,c0,c1,f0,f1,HF⟩:=aY (wz w (.cells #[.int .i64 x,.slice ad m cap] 78) (.cells #[.int .i64 0,.slice none 0 0] 78)) hw1 (FQ w _ _) (by omega) hv;clear hv hw1 HN HA;go_wp2;exact t_ (v:=.agg #[.int .i64 x4,.slice jW m4 cap4]) (by simp [results,Tryz.results106,go_sem,(uh HF).2.2.1,(uh HF).2.2.2]) rfl ⟨_,rfl,by rw [show -1*a=-a by omega];exact (uh HF).1,(uh HF).2.1⟩
set_option maxHeartbeats 1000000 in
theorem jP (P:Nat->Prop) (b:Nat) (t:Pl.aR) (w:World) (h:rY P w b t) (hlen:t.lines.length<=1000) (hcl:∀ l∈t.lines,l.2.length<=1000) {r j:Nat} (hr:r<t.lines.length) (hj:j<(t.lines.getD r (0,[])).2.length) :
  Calls Tryz.prog 87 #[.pointer (some ⟨b,0,none⟩),.int .i64 r,.int .i64 j] w λe w'=>∃ v',e=.returned v'∧aj P w' v' (t.cell r j)∧Below w.heap.size w w':=by
 obtain ⟨⟨vl,k0,ad,cap,rfl,hl⟩,_,_⟩:=h;obtain ⟨g,off,u,rfl,c1,c2,⟨fH,cap2,rfl,_,hrow⟩⟩:=hl r hr;have er:t.lines.getD r (0,[])=t.lines[r]:=by rw [a_,f_ hr];rfl
 rw [er] at hj;obtain ⟨g2,akD,x,a,m,c,rfl,d1,d2,hw,_⟩:=hrow j hj;have hl2:=hcl _ (aak hr);have hR:t.lines[r].2[j]=t.cell r j:=by
  unfold Pl.aR.cell;rw [er,a_,f_ hj];rfl
 rw [hR] at hw;have HW:=af hw;clear hl hrow hw hR er hcl;generalize t.lines[r].2.length=n2 at *
 generalize t.lines[r].1=nm at *
 generalize t.lines.length=n1 at *
 have hal:Below w.heap.size w (w.alloc (.cells #[.int .i64 0,.slice none 0 0] 78)):=(n_ _ w).alloc (d_ _) _;have k0':=(hal.cell (aav k0)).trans k0;have c1':=(hal.cell (aav c1)).trans c1;have c2':=(hal.cell (aav c2)).trans c2;have d1':=(hal.cell (aav d1)).trans d1;have d2':=(hal.cell (aav d2)).trans d2;clear hal k0 c1 c2 d1 d2;have t1:decide ((r:Int)<0)=false:=by simp
 have t2:decide (n1<=r)=false:=by simp;omega
 have t3:decide ((j:Int)<0)=false:=by simp
 have t4:decide (n2<=j)=false:=by simp;omega
 go_enter Tryz.func87,Tryz.ntmps87;go_wp2_with fail;exact t_ (v:=.agg #[.int .i64 x,.slice a m c]) (by simp [results,Tryz.results87,go_sem]) rfl ⟨_,rfl,(uh HW).below ((n_ _ w).alloc (d_ _) _),(n_ _ w).alloc (d_ _) _⟩
def og (P:Nat->Prop) (w:World) (g n:Nat) (l:List Int):Prop:=∃ cs:Array Value,w.heap[g]?=some (.cells cs 78 (0,0))∧cs.size=2*n∧l.length<=n∧∀ i,(hi:i<l.length)->∃ x a m c,cs[i*2]?=some (.int .i64 x)∧cs[i*2+1]?=some (.slice a m c)∧aj P w (.agg #[.int .i64 x,.slice a m c]) l[i]
theorem og.row {P:Nat->Prop} {w:World} {g n:Nat} {l:List Int} (h:og P w g n l) (hn:l.length=n) (hp:P g):aD P w (.slice (some ⟨g,0,none⟩) n n) l:=by
 obtain ⟨cs,hb,_,_,hc⟩:=h;refine ⟨_,n,by rw [hn],by omega,λi hi=>?_⟩;obtain ⟨x,a,m,c,h1,h2,h3⟩:=hc i hi;exact ⟨g,0,x,a,m,c,rfl,by rw [cellsOf hb,M_];exact h1,by rw [cellsOf hb,M_];exact h2,h3,hp,cs,hb⟩
theorem og.below {P:Nat->Prop} {w w':World} {g n:Nat} {l:List Int} (h:og P w g n l) (hb:Below w.heap.size w w'):og P w' g n l:=by
 obtain ⟨cs,h1,h2,h3,h4⟩:=h;refine ⟨cs,Below.same hb _ _ h1,h2,h3,λi hi=>?_⟩;obtain ⟨x,a,m,c,d1,d2,d3⟩:=h4 i hi;exact ⟨x,a,m,c,d1,d2,d3.below hb⟩
theorem og.add {P:Nat->Prop} {w:World} {g n:Nat} {l:List Int} (h:og P w g n l) (hl:l.length<n) {x:Int} {a:Option Addr} {m c:Nat} {v:Int} (hv:aj P w (.agg #[.int .i64 x,.slice a m c]) v) :
  og P ((w.setCell ⟨g,l.length*2,none⟩ (.int .i64 x)).setCell ⟨g,l.length*2+1,none⟩ (.slice a m c)) g n (l++[v]):=by
 obtain ⟨cs,h1,h2,h3,h4⟩:=h;have b1:=j_ w g (l.length*2) _ _ (.int .i64 x) h1;have b2:=j_ _ g (l.length*2+1) _ _ (.slice a m c) b1;have hk:aA 3 w ((w.setCell ⟨g,l.length*2,none⟩ (.int .i64 x)).setCell ⟨g,l.length*2+1,none⟩ (.slice a m c)):=(aA.setCell h1 (by decide) _ _).trans (aA.setCell b1 (by decide) _ _);refine ⟨_,b2,by simp [h2],by simp;omega,λi hi=>?_⟩;by_cases hlt:i<l.length
 ·obtain ⟨x',a',m',c',d1,d2,d3⟩:=h4 i hlt;refine ⟨x',a',m',c',?_,?_,?_⟩
  ·rw [K_ (by omega),K_ (by omega)];exact d1
  ·rw [K_ (by omega),K_ (by omega)];exact d2
  ·rw [List.getElem_append_left hlt];exact d3.bW hk
 ·have e:i=l.length:=by simp at hi;omega
  subst e;refine ⟨x,a,m,c,?_,?_,?_⟩
  ·rw [K_ (by omega),P_ (by omega)]
  ·rw [P_ (by simp;omega)]
  ·rw [List.getElem_append_right (d_ _)]
   simpa using hv.bW hk
end Go.Proofs.YtgaafamcajcifaaGreat
