/- Joined: XInt9. -/
import Derived.Test.YtfaljekgpnbmiaaGreatJ14
set_option linter.unusedVariables false
set_option linter.unusedSimpArgs false
set_option maxRecDepth 100000
namespace Go.Proofs.YtfaljekgpnbmiaaGreat
open Go.RowKit
def bz (w w' : World) : Prop := Below w.heap.size w w'
theorem bz.refl (w : World) : bz w w := n_ _ _
theorem bz.drew {w w' : World} (h : bz w w') : bz w w'.drew := aaQ h
theorem bz.alloc {w w' : World} (h : bz w w') (o : Obj) : bz w (w'.alloc o) := Below.alloc h (acy h) o
theorem bz.step {w w' w2 : World} (h : bz w w') (h2 : Below w'.heap.size w' w2) : bz w w2 := abt h (h2.mono (acy h))
theorem bz.own {w w' : World} (h : bz w w') {B : Nat} {v : Value} {l : List Int} (ho : aI B w v l) : aI B w' v l := aW ho (.aX h)
theorem Below.same {w w' : World} (h : Below w.heap.size w w') : ∀ (g : Nat) (o : Obj), w.heap[g]? = some o -> w'.heap[g]? = some o := λg o hg => by
  rw [h.block g (by
    rcases acO g w.heap.size with h1 | h1
    · exact h1
    · rw [acv h1] at hg; cases hg)]
  exact hg
def mU (w : World) (o1 o2 o3 : Obj) (g : Nat) (w1 : World) : Prop := (((w.alloc o1).alloc o2).alloc o3).heap.size <= g ∧ w1.heap[g]? = some (.cells #[.int .i64 0, .slice none 0 0] 168 (0, 0))
theorem mU.mk {w : World} {o1 o2 o3 : Obj} {w0 w1 : World} {g : Nat} (h : aJ w o1 o2 o3 w0) (hg : w0.heap.size <= g) (hw : w1.heap[g]? = some (.cells #[.int .i64 0, .slice none 0 0] 168 (0, 0))) : mU w o1 o2 o3 g w1 := ⟨w_ (acy h) hg, hw⟩
theorem mU.ne {w : World} {o1 o2 o3 : Obj} {g : Nat} {w1 : World} (h : mU w o1 o2 o3 g w1) : g ≠ w.heap.size ∧ g ≠ w.heap.size + 1 ∧ g ≠ w.heap.size + 1 + 1 ∧ w.heap.size ≠ g ∧ w.heap.size + 1 ≠ g ∧ w.heap.size + 1 + 1 ≠ g := by
  have h1 := h.1;simp at h1;omega
theorem aJ.kG {w : World} {o1 o2 o3 : Obj} {w1 : World} (h : aJ w o1 o2 o3 w1) {g : Nat} (hg : (((w.alloc o1).alloc o2).alloc o3).heap.size <= g) (p q : Value) : aJ w o1 o2 o3 ((w1.setCell ⟨g, 0, none⟩ p).setCell ⟨g, 1, none⟩ q) :=
  (B_ (p := ⟨g, 0, none⟩) h hg p).setCell (p := ⟨g, 1, none⟩) hg q
theorem aj.kG {P : Nat -> Prop} {w1 : World} {v : Value} {n : Int} (h : aj P w1 v n) {g : Nat} {cs : Array Value} (hg : w1.heap[g]? = some (.cells cs 168 (0, 0))) (p q : Value) : aj P ((w1.setCell ⟨g, 0, none⟩ p).setCell ⟨g, 1, none⟩ q) v n :=
  h.bX ((aA.setCell hg (by decide) 0 p).trans (aA.setCell (j_ w1 g 0 _ _ p hg) (by decide) 1 q))
theorem aJ.alloc {w : World} {o1 o2 o3 : Obj} {w1 : World} (h : aJ w o1 o2 o3 w1) (o : Obj) : aJ w o1 o2 o3 (w1.alloc o) := aJ.step h ((n_ _ _).alloc (d_ _) _)
theorem Pl.Ct {l : List Int} {n : Int} (h : Pl.lv l = n.natAbs) (hl : 0 < l.length -> Pl.aT l (l.length - 1) ≠ 0) (hn : n ≠ 0) : 0 < l.length ∧ Pl.aT l (l.length - 1) ≠ 0 := by
  rcases acw l.length with h0 | h0
  · have : l = [] := aaD h0;subst this;have : (n.natAbs : Int) = 0 := by rw [<- h]; rfl
    omega
  · exact ⟨h0, hl h0⟩
theorem Pl.tJ {a b mP : Int} {K : Nat} (hs : -1 <= mP ∧ mP <= 1) (hA : (a.natAbs : Int) < 1073741824 ^ K) (hb : b ≠ 0) : ((mP * ((a.natAbs : Int) / b.natAbs)).natAbs : Int) < 1073741824 ^ K := by
  have h1 : (a.natAbs : Int) / b.natAbs <= a.natAbs := abV _ (by omega);have h2 : 0 <= (a.natAbs : Int) / b.natAbs := abO (by omega) (by omega);rcases (show mP = -1 ∨ mP = 0 ∨ mP = 1 by omega) with h | h | h <;> rw [h] <;> omega
theorem Pl.dU {b : Int} {K : Nat} (hb : b ≠ 0) (hB : (b.natAbs : Int) < 1073741824 ^ K) : ((1 : Int).natAbs : Int) < 1073741824 ^ K := by
  have : (1 : Int) <= b.natAbs := by omega
  have e : ((1 : Int).natAbs : Int) = 1 := rfl;rw [e];rcases acw K with h | h
  · subst h; simp at hB; omega
  · obtain ⟨k, rfl⟩ : ∃ k, K = k + 1 := ⟨K - 1, by omega⟩;rw [aaJ];have : (0 : Int) < 1073741824 ^ k := Int.pow_pos (by decide);omega
theorem Pl.FI {a b k : Int} (hb : 0 < b) (h1 : k * b <= a) (h2 : a < (k + 1) * b) : Int.fdiv a b = k := by
  rw [T_ _ (by omega)];have e1 := Int.le_ediv_of_mul_le hb h1;have e2 := acZ hb h2;omega
theorem Pl.rV (a b : Int) (hb : 0 < b) : Int.fdiv a b = if (a.natAbs : Int) % b.natAbs = 0 ∨ (a < 0 ↔ b < 0) then Int.sign a * Int.sign b * ((a.natAbs : Int) / b.natAbs) else Int.sign a * Int.sign b * ((a.natAbs : Int) / b.natAbs) - 1 := by
  have eb : (b.natAbs : Int) = b := by omega
  rw [eb, J_ hb, adr];have d1 := aaz (a.natAbs : Int) b;have d2 := abh (a.natAbs : Int) (show b ≠ 0 by omega);have d3 := abj (a.natAbs : Int) hb;generalize (a.natAbs : Int) / b = q at *
  generalize (a.natAbs : Int) % b = r at *
  rw [u_] at d1;rcases (show a < 0 ∨ 0 <= a by omega) with h | h
  · rw [E_ h];by_cases hr : r = 0
    · rw [h_ (.inl hr)];refine Pl.FI hb ?_ ?_
      · rw [show -1 * q * b = -(q * b) by rw [abe, aaY, abe]]; omega
      · rw [abb, show -1 * q * b = -(q * b) by rw [abe, aaY, abe]]; omega
    · rw [g_ (λhc => by rcases hc with hc | hc <;> omega)]
      refine Pl.FI hb ?_ ?_
      · rw [abL, show -1 * q * b = -(q * b) by rw [abe, aaY, abe]]; omega
      · rw [show -1 * q - 1 + 1 = -1 * q by omega, show -1 * q * b = -(q * b) by rw [abe, aaY, abe]]; omega
  · rw [h_ (.inr ⟨λ_ => by omega, λ_ => by omega⟩)];rcases (show a = 0 ∨ 0 < a by omega) with h0 | h0
    · subst h0;simp
    · rw [J_ h0, aaY];refine Pl.FI hb ?_ ?_
      · omega
      · rw [abb]; omega
theorem Pl.FJ (a b : Int) (hb : b ≠ 0) : Int.fdiv a b = if (a.natAbs : Int) % b.natAbs = 0 ∨ (a < 0 ↔ b < 0) then Int.sign a * Int.sign b * ((a.natAbs : Int) / b.natAbs) else Int.sign a * Int.sign b * ((a.natAbs : Int) / b.natAbs) - 1 := by
  rcases (show b < 0 ∨ 0 < b by omega) with h | h
  · by_cases ha : a = 0
    · subst ha; simp
    · have e := Pl.rV (-a) (-b) (by omega);rw [Int.neg_fdiv_neg, Int.natAbs_neg, Int.natAbs_neg, Int.sign_neg, Int.sign_neg, Int.neg_mul_neg] at e;rw [e];have hc : (-a < 0 ↔ -b < 0) ↔ (a < 0 ↔ b < 0) := by constructor <;> intro h <;> constructor <;> intro h1 <;> omega
      simp only [hc]
  · exact Pl.rV a b h
set_option maxHeartbeats 2000000 in
theorem SY (P : Nat -> Prop) (K : Nat) (a b : Int) (va vb : Value) (w : World) (hP : ∀ b, w.heap.size <= b -> P b) (ha : aj P w va a) (hb : aj P w vb b) (hK : K <= 1500000000000) (hA : (a.natAbs : Int) < 1073741824 ^ K) (hB : (b.natAbs : Int) < 1073741824 ^ K) (hb0 : b ≠ 0) (hbig : ¬ ((-4611686018427387904 < a ∧ a < 4611686018427387904) ∧ (-4611686018427387904 < b ∧ b < 4611686018427387904))) :
    Calls Tryz.prog 224 #[va, vb] w λe w' => ∃ v', e = .returned v' ∧ aj P w' v' (Int.fdiv a b) ∧ Below w.heap.size w w' := by
  have I9 := af (λo1 o2 o3 => jH P va a (((w.alloc o1).alloc o2).alloc o3) (ha.below (ay w o1 o2 o3)));have Gj := af (λw1 (h : Below w.heap.size w w1) => bZ P va a w1 (ha.below h));have Gl := af (λw1 (h : Below w.heap.size w w1) => bZ P vb b w1 (hb.below h));have Wn : Hid (∀ t : Int, t = (a.natAbs : Int) / b.natAbs -> (Int.sign a * Int.sign b = 1 ∨ Int.sign a * Int.sign b = -1) ∨ (Int.sign a * Int.sign b = 0 ∧ t = 0)) := λt ht => by
    rcases Pl.wm a b with h | ⟨h1, h2⟩
    · exact .inl h
    · refine .inr ⟨h1, ?_⟩;rcases aci.1 h2 with h | h
      · rw [ht, h]; simp
      · exact absurd h (by omega)
  have FH : -1 <= Int.sign a * Int.sign b ∧ Int.sign a * Int.sign b <= 1 := by rcases Pl.wm a b with (h | h) | ⟨h, _⟩ <;> omega
  have O8 := af (Pl.FJ a b hb0);obtain ⟨sa, hsa⟩ : ∃ sa, Int.sign a = sa := ⟨_, rfl⟩;obtain ⟨sb, hsb⟩ : ∃ sb, Int.sign b = sb := ⟨_, rfl⟩;rw [hsa] at Gj;rw [hsb] at Gl;rw [hsa, hsb] at Wn FH O8;obtain ⟨mP, hab⟩ : ∃ mP, sa * sb = mP := ⟨_, rfl⟩;rw [hab] at FH O8;have HQ : Hid (∀ t : Int, t = (a.natAbs : Int) / b.natAbs -> (mP = 1 ∨ mP = -1) ∨ (mP = 0 ∧ t = 0)) := by rw [<- hab]; exact uh Wn
  have hwp : wrap64 (sa * sb) = mP := by rw [hab]; unfold wrap64; omega
  have hws : IntKind.i64.wrap mP = mP := by rcases (show mP = -1 ∨ mP = 0 ∨ mP = 1 by omega) with h | h | h <;> rw [h] <;> decide
  clear hsa hsb Wn;obtain ⟨x, ad, m, cap, rfl, hx1, hx2, hx3, hx4, hx5⟩ := ha.oN;obtain ⟨y, fJ, m2, cap2, rfl, hy1, hy2, hy3, hy4, DW⟩ := hb.oN;have hy0 : (y == 0) = false := by simp; omega
  have wh := af (x_ hx1 hy1);clear hx1 hx2 hy1 hy2;by_cases hm : m = 0
  · have hm0 : m2 ≠ 0 := λh => hbig ⟨by have := (hx5 hm).1; omega, by have := (DW h).1; omega⟩;have hm1 : ((m : Int) == 0) = true := by simp [hm]
    have hm2 : ((m2 : Int) == 0) = false := by simp; omega
    clear hm hm0 hx5 DW;go_enter Tryz.func224, Tryz.ntmps224;go_wp2_with fail;refine (uh I9 _ _ _).mono ?_;rintro e w1 ⟨sl1, l1, rfl, hi1, o1, v1, z1, hw1⟩;have Es := af (jH P _ b w1 ((hb.below (ay w _ _ _)).below hw1));have hlen1 := Pl.fZ o1 v1 z1 hA;have jw := af (x_ o1 v1);obtain ⟨Sb, iT, rfl⟩ := az hi1;have HI1 := af hi1;have HW1 := af hw1;obtain ⟨k1, k2⟩ := bY hw1 (jr w _ _ _);clear hi1 o1 v1 z1 hw1 I9;go_wp2_with fail;refine (uh Es).mono ?_;rintro e w2 ⟨sl2, l2, rfl, hi2, o2, v2, z2, hw2⟩;have Et := Pl.fZ o2 v2 z2 hB;have iV := af (x_ o2 v2);obtain ⟨ND, Eu, rfl⟩ := az hi2;have lW := af ((uh HI1).below hw2);have HL2 := af hi2;have HW2 : Hid (aJ w (.cells #[.int .i64 x, .slice ad m cap] 168) (.cells #[.int .i64 y, .slice fJ m2 cap2] 168) (.cells #[.int .i64 0, .slice none 0 0] 168) w2) := aJ.step (w1 := w1) (uh HW1) hw2;obtain ⟨k3, k4⟩ := bY (uh HW2) (nQ w _ _ _);obtain ⟨k5, k6⟩ := bY (uh HW2) (jr w _ _ _);clear k1 k2;have Y2 : Hid (0 < l2.length ∧ Pl.aT l2 (l2.length - 1) ≠ 0) := Pl.Ct v2 z2 hb0;clear hi2 o2 v2 z2 hw2 HI1 HW1 Es;go_wp2_with fail;refine (yN l1 l2 _ _ _ (uh lW) (uh HL2) (by omega) (by omega) (uh jw).1 (uh iV).1 (uh Y2).1 (uh Y2).2).mono ?_;rintro e w3 ⟨v3, s, rfl, ho3, os, ls, hs, hw3⟩;generalize Y3 : decide (Pl.lv l1 % Pl.lv l2 = 0) = ev;have Y4 := af Y3;have HM := af (x_ ho3 (x_ os (x_ ls hs)));have HW3 : Hid (aJ w (.cells #[.int .i64 x, .slice ad m cap] 168) (.cells #[.int .i64 y, .slice fJ m2 cap2] 168) (.cells #[.int .i64 0, .slice none 0 0] 168) w3) := aJ.step (uh HW2) hw3;obtain ⟨Dx, qK, rfl⟩ := az (cZ ho3);have HB3 : Hid (bz w3 w3) := bz.refl w3;clear ho3 os ls hs hw3 Y3;go_wp2_with fail
    go_region_held (λw' => w'.cell? ⟨w.heap.size, 0, none⟩ = some (.int .i64 x) ∧ w'.cell? ⟨w.heap.size, 1, none⟩ = some (.slice ad m cap) ∧ w'.cell? ⟨w.heap.size + 1, 0, none⟩ = some (.int .i64 y) ∧ w'.cell? ⟨w.heap.size + 1, 1, none⟩ = some (.slice fJ m2 cap2)) (first | exact aJ.held (aJ.kG (uh wS) (uh HG).1 _ _) | exact aJ.held (o3 := .cells #[.int .i64 0, .slice none 0 0] 168) (by repeat (first | exact uh wS | exact uh yM | exact uh xD | exact uh HW3 | refine aJ.drew ?_ | refine aJ.alloc ?_ _))) (first
      | (go_at_call_of 214 (Value.agg #[Value.int .i64 x, Value.slice ad m cap]); refine (uh Gj _ (aJ.below (o1 := .cells #[.int .i64 x, .slice ad m cap] 168) (o2 := .cells #[.int .i64 y, .slice fJ m2 cap2] 168) (o3 := .cells #[.int .i64 0, .slice none 0 0] 168) (by repeat (first | exact uh HW3 | refine aJ.drew ?_ | refine aJ.alloc ?_ _)))).mono ?_; rintro e w4 ⟨rfl, hw4⟩; have xD : Hid (aJ w (.cells #[.int .i64 x, .slice ad m cap] 168) (.cells #[.int .i64 y, .slice fJ m2 cap2] 168) (.cells #[.int .i64 0, .slice none 0 0] 168) w4) := aJ.step (by repeat (first | exact uh HW3 | refine aJ.drew ?_ | refine aJ.alloc ?_ _)) hw4; have jQ : Hid (bz w3 w4) := bz.step (by repeat (first | exact uh HB3 | exact bz.refl _ | refine bz.drew ?_ | refine bz.alloc ?_ _)) hw4; have HK4 := af (Below.same hw4); clear hw4)
      | (go_at_call_of 214 (Value.agg #[Value.int .i64 y, Value.slice fJ m2 cap2]); refine (uh Gl _ (aJ.below (o1 := .cells #[.int .i64 x, .slice ad m cap] 168) (o2 := .cells #[.int .i64 y, .slice fJ m2 cap2] 168) (o3 := .cells #[.int .i64 0, .slice none 0 0] 168) (by repeat (first | exact uh xD | refine aJ.drew ?_ | refine aJ.alloc ?_ _)))).mono ?_; rintro e w5 ⟨rfl, pO⟩; have yM : Hid (aJ w (.cells #[.int .i64 x, .slice ad m cap] 168) (.cells #[.int .i64 y, .slice fJ m2 cap2] 168) (.cells #[.int .i64 0, .slice none 0 0] 168) w5) := aJ.step (by repeat (first | exact uh xD | refine aJ.drew ?_ | refine aJ.alloc ?_ _)) pO; have jB : Hid (bz w3 w5) := bz.step (by repeat (first | exact uh jQ | exact bz.refl _ | refine bz.drew ?_ | refine bz.alloc ?_ _)) pO; have V8 := af (Below.same pO); clear pO)
      | (go_at_call 277; (try rw [hws]); refine (fU P mP s _ w2.heap.size _ (bz.own (by repeat (first | exact uh jB | exact bz.refl _ | refine bz.drew ?_ | refine bz.alloc ?_ _)) (uh HM).1) (λb hb => hP b (by have := (aJ.below (uh HW2)).size; omega)) (uh HM).2.1 (by have := (uh HM).2.2.1; omega) (uh HQ _ (by rw [(uh HM).2.2.2, (uh jw).2, (uh iV).2]))).mono ?_; rintro e w6 ⟨v', rfl, hv, uD⟩; have wS : Hid (aJ w (.cells #[.int .i64 x, .slice ad m cap] 168) (.cells #[.int .i64 y, .slice fJ m2 cap2] 168) (.cells #[.int .i64 0, .slice none 0 0] 168) w6) := aJ.step (by repeat (first | exact uh yM | refine aJ.drew ?_ | refine aJ.alloc ?_ _)) uD; have O7 := af (Below.same uD); rw [show mP * Pl.lv s = mP * ((a.natAbs : Int) / b.natAbs) by rw [(uh HM).2.2.2, (uh jw).2, (uh iV).2]] at hv; have yO := af hv; obtain ⟨x4, jY, m4, cap4, rfl, _⟩ := hv.head
         (first
          | (have HG : Hid (mU w (.cells #[.int .i64 x, .slice ad m cap] 168) (.cells #[.int .i64 y, .slice fJ m2 cap2] 168) (.cells #[.int .i64 0, .slice none 0 0] 168) w5.heap.size w6) := mU.mk (uh yM) (d_ _) (uh O7 _ _ (aG w5 (.cells #[.int .i64 0, .slice none 0 0] 168)))
             obtain ⟨V9, We, Wh, Wi⟩ := fV (uh HG).2)
          | (have HG : Hid (mU w (.cells #[.int .i64 x, .slice ad m cap] 168) (.cells #[.int .i64 y, .slice fJ m2 cap2] 168) (.cells #[.int .i64 0, .slice none 0 0] 168) w4.heap.size w6) := mU.mk (uh xD) (d_ _) (uh O7 _ _ (uh V8 _ _ (aG w4 (.cells #[.int .i64 0, .slice none 0 0] 168))))
             obtain ⟨V9, We, Wh, Wi⟩ := fV (uh HG).2)
          | (have HG : Hid (mU w (.cells #[.int .i64 x, .slice ad m cap] 168) (.cells #[.int .i64 y, .slice fJ m2 cap2] 168) (.cells #[.int .i64 0, .slice none 0 0] 168) w3.heap.size w6) := mU.mk (uh HW3) (d_ _) (uh O7 _ _ (uh V8 _ _ (uh HK4 _ _ (aG w3.drew (.cells #[.int .i64 0, .slice none 0 0] 168)))))
             obtain ⟨V9, We, Wh, Wi⟩ := fV (uh HG).2)
          | skip)
         clear hv uD))
    all_goals
      first
        | (have A8 := af (aJ.kG (uh wS) (uh HG).1 (.int .i64 x4) (.slice jY m4 cap4))
           have FK := af ((uh yO).kG (uh HG).2 (.int .i64 x4) (.slice jY m4 cap4));obtain ⟨n1, n2, n3, n4, n5, n6⟩ := mU.ne (uh HG);obtain ⟨j1, j2, j3, j4⟩ := aJ.held (uh wS);obtain ⟨x6, ad6, m6, cap6, he0, c0, c1, f0, f1, Sc⟩ := aY (ay w (.cells #[.int .i64 x, .slice ad m cap] 168) (.cells #[.int .i64 y, .slice fJ m2 cap2] 168) (.cells #[.int .i64 0, .slice none 0 0] 168)) (uh wS) (bq w _ _ _) (by omega) (uh yO);cases he0;clear Sc)
        | (have A8 := af (aJ.alloc (uh wS) (.cells #[.int .i64 x4, .slice jY m4 cap4] 168))
           have FK := af ((uh yO).below ((n_ _ w6).alloc (d_ _) (.cells #[.int .i64 x4, .slice jY m4 cap4] 168)));obtain ⟨j1, j2, j3, j4⟩ := aJ.held (uh A8);obtain ⟨x6, ad6, m6, cap6, he0, c0, c1, f0, f1, Sc⟩ := aY (ay w (.cells #[.int .i64 x, .slice ad m cap] 168) (.cells #[.int .i64 y, .slice fJ m2 cap2] 168) (.cells #[.int .i64 0, .slice none 0 0] 168)) (uh A8) (bq w _ _ _) (by omega) (uh FK);cases he0;clear Sc)
      have hlv : Pl.lv l1 % Pl.lv l2 = (a.natAbs : Int) % b.natAbs := by rw [(uh jw).2, (uh iV).2]
      cases ev with
      | true =>
        have hev : Pl.lv l1 % Pl.lv l2 = 0 := aa0 (uh Y4);have hR : Int.fdiv a b = mP * ((a.natAbs : Int) / b.natAbs) := by rw [uh O8, h_ (.inl (by rw [<- hlv]; exact hev))]
        clear hev hlv;obtain ⟨x5, Ki, m5, cap5, he, _, _, _, _, HF⟩ := aY (ay w (.cells #[.int .i64 x, .slice ad m cap] 168) (.cells #[.int .i64 y, .slice fJ m2 cap2] 168) (.cells #[.int .i64 0, .slice none 0 0] 168)) (uh A8) (bq w _ _ _) (by omega) (uh FK);cases he;clear HM wS yO jB jQ yM xD HW3 lW HL2 Gj Gl;go_wp2;exact t_ (v := .agg #[.int .i64 x4, .slice jY m4 cap4]) (by simp [results, Tryz.results224, go_sem, (uh HF).2.2.1, (uh HF).2.2.2]) rfl ⟨_, rfl, by rw [hR]; exact (uh HF).1, (uh HF).2.1⟩
      | false =>
        have hev : ¬ Pl.lv l1 % Pl.lv l2 = 0 := of_decide_eq_false (uh Y4);rcases (show (x < 0 ∧ y < 0) ∨ (¬ x < 0 ∧ ¬ y < 0) ∨ (x < 0 ∧ ¬ y < 0) ∨ (¬ x < 0 ∧ y < 0) by omega) with ⟨hsx, hsy⟩ | ⟨hsx, hsy⟩ | ⟨hsx, hsy⟩ | ⟨hsx, hsy⟩
        · have Qk : decide (x < 0) = true := by simp; omega
          have hdy : decide (y < 0) = true := by simp; omega
          have hR : Int.fdiv a b = mP * ((a.natAbs : Int) / b.natAbs) := by
            have hx1 := (uh wh).1;have hy1 := (uh wh).2;rw [uh O8, h_ (.inr ⟨λh => by omega, λh => by omega⟩)]
          clear hev hlv hsx hsy;obtain ⟨x5, Ki, m5, cap5, he, _, _, _, _, HF⟩ := aY (ay w (.cells #[.int .i64 x, .slice ad m cap] 168) (.cells #[.int .i64 y, .slice fJ m2 cap2] 168) (.cells #[.int .i64 0, .slice none 0 0] 168)) (uh A8) (bq w _ _ _) (by omega) (uh FK);cases he;clear HM wS yO jB jQ yM xD HW3 lW HL2 Gj Gl;go_wp2;exact t_ (v := .agg #[.int .i64 x4, .slice jY m4 cap4]) (by simp [results, Tryz.results224, go_sem, (uh HF).2.2.1, (uh HF).2.2.2]) rfl ⟨_, rfl, by rw [hR]; exact (uh HF).1, (uh HF).2.1⟩
        · have Qk : decide (x < 0) = false := by simp; omega
          have hdy : decide (y < 0) = false := by simp; omega
          have hR : Int.fdiv a b = mP * ((a.natAbs : Int) / b.natAbs) := by
            have hx1 := (uh wh).1;have hy1 := (uh wh).2;rw [uh O8, h_ (.inr ⟨λh => by omega, λh => by omega⟩)]
          clear hev hlv hsx hsy;obtain ⟨x5, Ki, m5, cap5, he, _, _, _, _, HF⟩ := aY (ay w (.cells #[.int .i64 x, .slice ad m cap] 168) (.cells #[.int .i64 y, .slice fJ m2 cap2] 168) (.cells #[.int .i64 0, .slice none 0 0] 168)) (uh A8) (bq w _ _ _) (by omega) (uh FK);cases he;clear HM wS yO jB jQ yM xD HW3 lW HL2 Gj Gl;go_wp2;exact t_ (v := .agg #[.int .i64 x4, .slice jY m4 cap4]) (by simp [results, Tryz.results224, go_sem, (uh HF).2.2.1, (uh HF).2.2.2]) rfl ⟨_, rfl, by rw [hR]; exact (uh HF).1, (uh HF).2.1⟩
        · have Qk : decide (x < 0) = true := by simp; omega
          have hdy : decide (y < 0) = false := by simp; omega
          have hR : Int.fdiv a b = mP * ((a.natAbs : Int) / b.natAbs) - 1 := by
            have hx1 := (uh wh).1;have hy1 := (uh wh).2;rw [uh O8, g_ (λh => by
            rcases h with h | h
            · exact hev (by rw [hlv]; exact h)
            · omega)]
          have HN := af (Pl.tJ FH hA hb0);have Qs := af (Pl.dU hb0 hB);clear hev hlv hsx hsy;clear HM wS yO jB jQ yM xD HW3 lW HL2 Gj Gl;go_wp2_with fail;refine (kH P K (mP * ((a.natAbs : Int) / b.natAbs)) 1 _ _ _ (λb hb => hP b (by have := (aJ.below (uh A8)).size; omega)) (uh FK) (.inl ⟨rfl, by decide, by decide⟩) hK (uh HN) (uh Qs)).mono ?_;rintro e w8 ⟨v8, rfl, sU, hw8⟩;rw [<- hR] at sU;obtain ⟨x5, Ki, m5, cap5, rfl, c0', c1', f0', Uw, HF⟩ := aY (ay w (.cells #[.int .i64 x, .slice ad m cap] 168) (.cells #[.int .i64 y, .slice fJ m2 cap2] 168) (.cells #[.int .i64 0, .slice none 0 0] 168)) (aJ.step (uh A8) hw8) (bq w _ _ _) (by omega) sU;clear sU hw8 FK A8;go_wp2;exact t_ (v := .agg #[.int .i64 x5, .slice Ki m5 cap5]) (by simp [results, Tryz.results224, go_sem, (uh HF).2.2.1, (uh HF).2.2.2]) rfl ⟨_, rfl, (uh HF).1, (uh HF).2.1⟩
        · have Qk : decide (x < 0) = false := by simp; omega
          have hdy : decide (y < 0) = true := by simp; omega
          have hR : Int.fdiv a b = mP * ((a.natAbs : Int) / b.natAbs) - 1 := by
            have hx1 := (uh wh).1;have hy1 := (uh wh).2;rw [uh O8, g_ (λh => by
            rcases h with h | h
            · exact hev (by rw [hlv]; exact h)
            · omega)]
          have HN := af (Pl.tJ FH hA hb0);have Qs := af (Pl.dU hb0 hB);clear hev hlv hsx hsy;clear HM wS yO jB jQ yM xD HW3 lW HL2 Gj Gl;go_wp2_with fail;refine (kH P K (mP * ((a.natAbs : Int) / b.natAbs)) 1 _ _ _ (λb hb => hP b (by have := (aJ.below (uh A8)).size; omega)) (uh FK) (.inl ⟨rfl, by decide, by decide⟩) hK (uh HN) (uh Qs)).mono ?_;rintro e w8 ⟨v8, rfl, sU, hw8⟩;rw [<- hR] at sU;obtain ⟨x5, Ki, m5, cap5, rfl, c0', c1', f0', Uw, HF⟩ := aY (ay w (.cells #[.int .i64 x, .slice ad m cap] 168) (.cells #[.int .i64 y, .slice fJ m2 cap2] 168) (.cells #[.int .i64 0, .slice none 0 0] 168)) (aJ.step (uh A8) hw8) (bq w _ _ _) (by omega) sU;clear sU hw8 FK A8;go_wp2;exact t_ (v := .agg #[.int .i64 x5, .slice Ki m5 cap5]) (by simp [results, Tryz.results224, go_sem, (uh HF).2.2.1, (uh HF).2.2.2]) rfl ⟨_, rfl, (uh HF).1, (uh HF).2.1⟩
  · have hm1 : ((m : Int) == 0) = false := by simp; omega
    clear hm hx5 DW;go_enter Tryz.func224, Tryz.ntmps224;go_wp2_with fail;refine (uh I9 _ _ _).mono ?_;rintro e w1 ⟨sl1, l1, rfl, hi1, o1, v1, z1, hw1⟩;have Es := af (jH P _ b w1 ((hb.below (ay w _ _ _)).below hw1));have hlen1 := Pl.fZ o1 v1 z1 hA;have jw := af (x_ o1 v1);obtain ⟨Sb, iT, rfl⟩ := az hi1;have HI1 := af hi1;have HW1 := af hw1;obtain ⟨k1, k2⟩ := bY hw1 (jr w _ _ _);clear hi1 o1 v1 z1 hw1 I9;go_wp2_with fail;refine (uh Es).mono ?_;rintro e w2 ⟨sl2, l2, rfl, hi2, o2, v2, z2, hw2⟩;have Et := Pl.fZ o2 v2 z2 hB;have iV := af (x_ o2 v2);obtain ⟨ND, Eu, rfl⟩ := az hi2;have lW := af ((uh HI1).below hw2);have HL2 := af hi2;have HW2 : Hid (aJ w (.cells #[.int .i64 x, .slice ad m cap] 168) (.cells #[.int .i64 y, .slice fJ m2 cap2] 168) (.cells #[.int .i64 0, .slice none 0 0] 168) w2) := aJ.step (w1 := w1) (uh HW1) hw2;obtain ⟨k3, k4⟩ := bY (uh HW2) (nQ w _ _ _);obtain ⟨k5, k6⟩ := bY (uh HW2) (jr w _ _ _);clear k1 k2;have Y2 : Hid (0 < l2.length ∧ Pl.aT l2 (l2.length - 1) ≠ 0) := Pl.Ct v2 z2 hb0;clear hi2 o2 v2 z2 hw2 HI1 HW1 Es;go_wp2_with fail;refine (yN l1 l2 _ _ _ (uh lW) (uh HL2) (by omega) (by omega) (uh jw).1 (uh iV).1 (uh Y2).1 (uh Y2).2).mono ?_;rintro e w3 ⟨v3, s, rfl, ho3, os, ls, hs, hw3⟩;generalize Y3 : decide (Pl.lv l1 % Pl.lv l2 = 0) = ev;have Y4 := af Y3;have HM := af (x_ ho3 (x_ os (x_ ls hs)));have HW3 : Hid (aJ w (.cells #[.int .i64 x, .slice ad m cap] 168) (.cells #[.int .i64 y, .slice fJ m2 cap2] 168) (.cells #[.int .i64 0, .slice none 0 0] 168) w3) := aJ.step (uh HW2) hw3;obtain ⟨Dx, qK, rfl⟩ := az (cZ ho3);have HB3 : Hid (bz w3 w3) := bz.refl w3;clear ho3 os ls hs hw3 Y3;go_wp2_with fail
    go_region_held (λw' => w'.cell? ⟨w.heap.size, 0, none⟩ = some (.int .i64 x) ∧ w'.cell? ⟨w.heap.size, 1, none⟩ = some (.slice ad m cap) ∧ w'.cell? ⟨w.heap.size + 1, 0, none⟩ = some (.int .i64 y) ∧ w'.cell? ⟨w.heap.size + 1, 1, none⟩ = some (.slice fJ m2 cap2)) (first | exact aJ.held (aJ.kG (uh wS) (uh HG).1 _ _) | exact aJ.held (o3 := .cells #[.int .i64 0, .slice none 0 0] 168) (by repeat (first | exact uh wS | exact uh yM | exact uh xD | exact uh HW3 | refine aJ.drew ?_ | refine aJ.alloc ?_ _))) (first
      | (go_at_call_of 214 (Value.agg #[Value.int .i64 x, Value.slice ad m cap]); refine (uh Gj _ (aJ.below (o1 := .cells #[.int .i64 x, .slice ad m cap] 168) (o2 := .cells #[.int .i64 y, .slice fJ m2 cap2] 168) (o3 := .cells #[.int .i64 0, .slice none 0 0] 168) (by repeat (first | exact uh HW3 | refine aJ.drew ?_ | refine aJ.alloc ?_ _)))).mono ?_; rintro e w4 ⟨rfl, hw4⟩; have xD : Hid (aJ w (.cells #[.int .i64 x, .slice ad m cap] 168) (.cells #[.int .i64 y, .slice fJ m2 cap2] 168) (.cells #[.int .i64 0, .slice none 0 0] 168) w4) := aJ.step (by repeat (first | exact uh HW3 | refine aJ.drew ?_ | refine aJ.alloc ?_ _)) hw4; have jQ : Hid (bz w3 w4) := bz.step (by repeat (first | exact uh HB3 | exact bz.refl _ | refine bz.drew ?_ | refine bz.alloc ?_ _)) hw4; have HK4 := af (Below.same hw4); clear hw4)
      | (go_at_call_of 214 (Value.agg #[Value.int .i64 y, Value.slice fJ m2 cap2]); refine (uh Gl _ (aJ.below (o1 := .cells #[.int .i64 x, .slice ad m cap] 168) (o2 := .cells #[.int .i64 y, .slice fJ m2 cap2] 168) (o3 := .cells #[.int .i64 0, .slice none 0 0] 168) (by repeat (first | exact uh xD | refine aJ.drew ?_ | refine aJ.alloc ?_ _)))).mono ?_; rintro e w5 ⟨rfl, pO⟩; have yM : Hid (aJ w (.cells #[.int .i64 x, .slice ad m cap] 168) (.cells #[.int .i64 y, .slice fJ m2 cap2] 168) (.cells #[.int .i64 0, .slice none 0 0] 168) w5) := aJ.step (by repeat (first | exact uh xD | refine aJ.drew ?_ | refine aJ.alloc ?_ _)) pO; have jB : Hid (bz w3 w5) := bz.step (by repeat (first | exact uh jQ | exact bz.refl _ | refine bz.drew ?_ | refine bz.alloc ?_ _)) pO; have V8 := af (Below.same pO); clear pO)
      | (go_at_call 277; (try rw [hws]); refine (fU P mP s _ w2.heap.size _ (bz.own (by repeat (first | exact uh jB | exact bz.refl _ | refine bz.drew ?_ | refine bz.alloc ?_ _)) (uh HM).1) (λb hb => hP b (by have := (aJ.below (uh HW2)).size; omega)) (uh HM).2.1 (by have := (uh HM).2.2.1; omega) (uh HQ _ (by rw [(uh HM).2.2.2, (uh jw).2, (uh iV).2]))).mono ?_; rintro e w6 ⟨v', rfl, hv, uD⟩; have wS : Hid (aJ w (.cells #[.int .i64 x, .slice ad m cap] 168) (.cells #[.int .i64 y, .slice fJ m2 cap2] 168) (.cells #[.int .i64 0, .slice none 0 0] 168) w6) := aJ.step (by repeat (first | exact uh yM | refine aJ.drew ?_ | refine aJ.alloc ?_ _)) uD; have O7 := af (Below.same uD); rw [show mP * Pl.lv s = mP * ((a.natAbs : Int) / b.natAbs) by rw [(uh HM).2.2.2, (uh jw).2, (uh iV).2]] at hv; have yO := af hv; obtain ⟨x4, jY, m4, cap4, rfl, _⟩ := hv.head
         (first
          | (have HG : Hid (mU w (.cells #[.int .i64 x, .slice ad m cap] 168) (.cells #[.int .i64 y, .slice fJ m2 cap2] 168) (.cells #[.int .i64 0, .slice none 0 0] 168) w5.heap.size w6) := mU.mk (uh yM) (d_ _) (uh O7 _ _ (aG w5 (.cells #[.int .i64 0, .slice none 0 0] 168)))
             obtain ⟨V9, We, Wh, Wi⟩ := fV (uh HG).2)
          | (have HG : Hid (mU w (.cells #[.int .i64 x, .slice ad m cap] 168) (.cells #[.int .i64 y, .slice fJ m2 cap2] 168) (.cells #[.int .i64 0, .slice none 0 0] 168) w4.heap.size w6) := mU.mk (uh xD) (d_ _) (uh O7 _ _ (uh V8 _ _ (aG w4 (.cells #[.int .i64 0, .slice none 0 0] 168))))
             obtain ⟨V9, We, Wh, Wi⟩ := fV (uh HG).2)
          | (have HG : Hid (mU w (.cells #[.int .i64 x, .slice ad m cap] 168) (.cells #[.int .i64 y, .slice fJ m2 cap2] 168) (.cells #[.int .i64 0, .slice none 0 0] 168) w3.heap.size w6) := mU.mk (uh HW3) (d_ _) (uh O7 _ _ (uh V8 _ _ (uh HK4 _ _ (aG w3.drew (.cells #[.int .i64 0, .slice none 0 0] 168)))))
             obtain ⟨V9, We, Wh, Wi⟩ := fV (uh HG).2)
          | skip)
         clear hv uD))
    all_goals
      first
        | (have A8 := af (aJ.kG (uh wS) (uh HG).1 (.int .i64 x4) (.slice jY m4 cap4))
           have FK := af ((uh yO).kG (uh HG).2 (.int .i64 x4) (.slice jY m4 cap4));obtain ⟨n1, n2, n3, n4, n5, n6⟩ := mU.ne (uh HG);obtain ⟨j1, j2, j3, j4⟩ := aJ.held (uh wS);obtain ⟨x6, ad6, m6, cap6, he0, c0, c1, f0, f1, Sc⟩ := aY (ay w (.cells #[.int .i64 x, .slice ad m cap] 168) (.cells #[.int .i64 y, .slice fJ m2 cap2] 168) (.cells #[.int .i64 0, .slice none 0 0] 168)) (uh wS) (bq w _ _ _) (by omega) (uh yO);cases he0;clear Sc)
        | (have A8 := af (aJ.alloc (uh wS) (.cells #[.int .i64 x4, .slice jY m4 cap4] 168))
           have FK := af ((uh yO).below ((n_ _ w6).alloc (d_ _) (.cells #[.int .i64 x4, .slice jY m4 cap4] 168)));obtain ⟨j1, j2, j3, j4⟩ := aJ.held (uh A8);obtain ⟨x6, ad6, m6, cap6, he0, c0, c1, f0, f1, Sc⟩ := aY (ay w (.cells #[.int .i64 x, .slice ad m cap] 168) (.cells #[.int .i64 y, .slice fJ m2 cap2] 168) (.cells #[.int .i64 0, .slice none 0 0] 168)) (uh A8) (bq w _ _ _) (by omega) (uh FK);cases he0;clear Sc)
      have hlv : Pl.lv l1 % Pl.lv l2 = (a.natAbs : Int) % b.natAbs := by rw [(uh jw).2, (uh iV).2]
      cases ev with
      | true =>
        have hev : Pl.lv l1 % Pl.lv l2 = 0 := aa0 (uh Y4);have hR : Int.fdiv a b = mP * ((a.natAbs : Int) / b.natAbs) := by rw [uh O8, h_ (.inl (by rw [<- hlv]; exact hev))]
        clear hev hlv;obtain ⟨x5, Ki, m5, cap5, he, _, _, _, _, HF⟩ := aY (ay w (.cells #[.int .i64 x, .slice ad m cap] 168) (.cells #[.int .i64 y, .slice fJ m2 cap2] 168) (.cells #[.int .i64 0, .slice none 0 0] 168)) (uh A8) (bq w _ _ _) (by omega) (uh FK);cases he;clear HM wS yO jB jQ yM xD HW3 lW HL2 Gj Gl;go_wp2;exact t_ (v := .agg #[.int .i64 x4, .slice jY m4 cap4]) (by simp [results, Tryz.results224, go_sem, (uh HF).2.2.1, (uh HF).2.2.2]) rfl ⟨_, rfl, by rw [hR]; exact (uh HF).1, (uh HF).2.1⟩
      | false =>
        have hev : ¬ Pl.lv l1 % Pl.lv l2 = 0 := of_decide_eq_false (uh Y4);rcases (show (x < 0 ∧ y < 0) ∨ (¬ x < 0 ∧ ¬ y < 0) ∨ (x < 0 ∧ ¬ y < 0) ∨ (¬ x < 0 ∧ y < 0) by omega) with ⟨hsx, hsy⟩ | ⟨hsx, hsy⟩ | ⟨hsx, hsy⟩ | ⟨hsx, hsy⟩
        · have Qk : decide (x < 0) = true := by simp; omega
          have hdy : decide (y < 0) = true := by simp; omega
          have hR : Int.fdiv a b = mP * ((a.natAbs : Int) / b.natAbs) := by
            have hx1 := (uh wh).1;have hy1 := (uh wh).2;rw [uh O8, h_ (.inr ⟨λh => by omega, λh => by omega⟩)]
          clear hev hlv hsx hsy;obtain ⟨x5, Ki, m5, cap5, he, _, _, _, _, HF⟩ := aY (ay w (.cells #[.int .i64 x, .slice ad m cap] 168) (.cells #[.int .i64 y, .slice fJ m2 cap2] 168) (.cells #[.int .i64 0, .slice none 0 0] 168)) (uh A8) (bq w _ _ _) (by omega) (uh FK);cases he;clear HM wS yO jB jQ yM xD HW3 lW HL2 Gj Gl;go_wp2;exact t_ (v := .agg #[.int .i64 x4, .slice jY m4 cap4]) (by simp [results, Tryz.results224, go_sem, (uh HF).2.2.1, (uh HF).2.2.2]) rfl ⟨_, rfl, by rw [hR]; exact (uh HF).1, (uh HF).2.1⟩
        · have Qk : decide (x < 0) = false := by simp; omega
          have hdy : decide (y < 0) = false := by simp; omega
          have hR : Int.fdiv a b = mP * ((a.natAbs : Int) / b.natAbs) := by
            have hx1 := (uh wh).1;have hy1 := (uh wh).2;rw [uh O8, h_ (.inr ⟨λh => by omega, λh => by omega⟩)]
          clear hev hlv hsx hsy;obtain ⟨x5, Ki, m5, cap5, he, _, _, _, _, HF⟩ := aY (ay w (.cells #[.int .i64 x, .slice ad m cap] 168) (.cells #[.int .i64 y, .slice fJ m2 cap2] 168) (.cells #[.int .i64 0, .slice none 0 0] 168)) (uh A8) (bq w _ _ _) (by omega) (uh FK);cases he;clear HM wS yO jB jQ yM xD HW3 lW HL2 Gj Gl;go_wp2;exact t_ (v := .agg #[.int .i64 x4, .slice jY m4 cap4]) (by simp [results, Tryz.results224, go_sem, (uh HF).2.2.1, (uh HF).2.2.2]) rfl ⟨_, rfl, by rw [hR]; exact (uh HF).1, (uh HF).2.1⟩
        · have Qk : decide (x < 0) = true := by simp; omega
          have hdy : decide (y < 0) = false := by simp; omega
          have hR : Int.fdiv a b = mP * ((a.natAbs : Int) / b.natAbs) - 1 := by
            have hx1 := (uh wh).1;have hy1 := (uh wh).2;rw [uh O8, g_ (λh => by
            rcases h with h | h
            · exact hev (by rw [hlv]; exact h)
            · omega)]
          have HN := af (Pl.tJ FH hA hb0);have Qs := af (Pl.dU hb0 hB);clear hev hlv hsx hsy;clear HM wS yO jB jQ yM xD HW3 lW HL2 Gj Gl;go_wp2_with fail;refine (kH P K (mP * ((a.natAbs : Int) / b.natAbs)) 1 _ _ _ (λb hb => hP b (by have := (aJ.below (uh A8)).size; omega)) (uh FK) (.inl ⟨rfl, by decide, by decide⟩) hK (uh HN) (uh Qs)).mono ?_;rintro e w8 ⟨v8, rfl, sU, hw8⟩;rw [<- hR] at sU;obtain ⟨x5, Ki, m5, cap5, rfl, c0', c1', f0', Uw, HF⟩ := aY (ay w (.cells #[.int .i64 x, .slice ad m cap] 168) (.cells #[.int .i64 y, .slice fJ m2 cap2] 168) (.cells #[.int .i64 0, .slice none 0 0] 168)) (aJ.step (uh A8) hw8) (bq w _ _ _) (by omega) sU;clear sU hw8 FK A8;go_wp2;exact t_ (v := .agg #[.int .i64 x5, .slice Ki m5 cap5]) (by simp [results, Tryz.results224, go_sem, (uh HF).2.2.1, (uh HF).2.2.2]) rfl ⟨_, rfl, (uh HF).1, (uh HF).2.1⟩
        · have Qk : decide (x < 0) = false := by simp; omega
          have hdy : decide (y < 0) = true := by simp; omega
          have hR : Int.fdiv a b = mP * ((a.natAbs : Int) / b.natAbs) - 1 := by
            have hx1 := (uh wh).1;have hy1 := (uh wh).2;rw [uh O8, g_ (λh => by
            rcases h with h | h
            · exact hev (by rw [hlv]; exact h)
            · omega)]
          have HN := af (Pl.tJ FH hA hb0);have Qs := af (Pl.dU hb0 hB);clear hev hlv hsx hsy;clear HM wS yO jB jQ yM xD HW3 lW HL2 Gj Gl;go_wp2_with fail;refine (kH P K (mP * ((a.natAbs : Int) / b.natAbs)) 1 _ _ _ (λb hb => hP b (by have := (aJ.below (uh A8)).size; omega)) (uh FK) (.inl ⟨rfl, by decide, by decide⟩) hK (uh HN) (uh Qs)).mono ?_;rintro e w8 ⟨v8, rfl, sU, hw8⟩;rw [<- hR] at sU;obtain ⟨x5, Ki, m5, cap5, rfl, c0', c1', f0', Uw, HF⟩ := aY (ay w (.cells #[.int .i64 x, .slice ad m cap] 168) (.cells #[.int .i64 y, .slice fJ m2 cap2] 168) (.cells #[.int .i64 0, .slice none 0 0] 168)) (aJ.step (uh A8) hw8) (bq w _ _ _) (by omega) sU;clear sU hw8 FK A8;go_wp2;exact t_ (v := .agg #[.int .i64 x5, .slice Ki m5 cap5]) (by simp [results, Tryz.results224, go_sem, (uh HF).2.2.1, (uh HF).2.2.2]) rfl ⟨_, rfl, (uh HF).1, (uh HF).2.1⟩
end Go.Proofs.YtfaljekgpnbmiaaGreat
