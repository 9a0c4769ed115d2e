/- Joined: XInt9. -/
import Derived.Test.YtgaafamcajcifaaGreatK14
set_option linter.unusedVariables false
set_option linter.unusedSimpArgs false
set_option maxRecDepth 100000
namespace Go.Proofs.YtgaafamcajcifaaGreat
open Go.RowKit
def bu (w w' : World) : Prop := Below w.heap.size w w'
theorem bu.refl (w : World) : bu w w := n_ _ _
theorem bu.drew {w w' : World} (h : bu w w') : bu w w'.drew := aaF h
theorem bu.alloc {w w' : World} (h : bu w w') (o : Obj) : bu w (w'.alloc o) := Below.alloc h (Below.size h) o
theorem bu.step {w w' w2 : World} (h : bu w w') (h2 : Below w'.heap.size w' w2) : bu w w2 := aa2 h (h2.mono (Below.size h))
theorem bu.own {w w' : World} (h : bu w w') {B : Nat} {v : Value} {l : List Int} (ho : aI B w v l) : aI B w' v l := aW ho (.aX h)
theorem Below.same {w w' : World} (h : Below w.heap.size w w') : ∀ (g : Nat) (o : Obj), w.heap[g]? = some o -> w'.heap[g]? = some o := λg o hg => by
  rw [h.block g (by
    rcases Nat.lt_or_ge g w.heap.size with h1 | h1
    · exact h1
    · rw [Array.getElem?_eq_none h1] at hg; cases hg)]
  exact hg
def mP (w : World) (o1 o2 o3 : Obj) (g : Nat) (w1 : World) : Prop := (((w.alloc o1).alloc o2).alloc o3).heap.size <= g ∧ w1.heap[g]? = some (.cells #[.int .i64 0, .slice none 0 0] 78 (0, 0))
theorem mP.mk {w : World} {o1 o2 o3 : Obj} {w0 w1 : World} {g : Nat} (h : aJ w o1 o2 o3 w0) (hg : w0.heap.size <= g) (hw : w1.heap[g]? = some (.cells #[.int .i64 0, .slice none 0 0] 78 (0, 0))) : mP w o1 o2 o3 g w1 := ⟨w_ (Below.size h) hg, hw⟩
theorem mP.ne {w : World} {o1 o2 o3 : Obj} {g : Nat} {w1 : World} (h : mP w o1 o2 o3 g w1) : g ≠ w.heap.size ∧ g ≠ w.heap.size + 1 ∧ g ≠ w.heap.size + 1 + 1 ∧ w.heap.size ≠ g ∧ w.heap.size + 1 ≠ g ∧ w.heap.size + 1 + 1 ≠ g := by
  have h1 := h.1;simp at h1;omega
theorem aJ.kE {w : World} {o1 o2 o3 : Obj} {w1 : World} (h : aJ w o1 o2 o3 w1) {g : Nat} (hg : (((w.alloc o1).alloc o2).alloc o3).heap.size <= g) (p q : Value) : aJ w o1 o2 o3 ((w1.setCell ⟨g, 0, none⟩ p).setCell ⟨g, 1, none⟩ q) :=
  (B_ (p := ⟨g, 0, none⟩) h hg p).setCell (p := ⟨g, 1, none⟩) hg q
theorem aj.kE {P : Nat -> Prop} {w1 : World} {v : Value} {n : Int} (h : aj P w1 v n) {g : Nat} {cs : Array Value} (hg : w1.heap[g]? = some (.cells cs 78 (0, 0))) (p q : Value) : aj P ((w1.setCell ⟨g, 0, none⟩ p).setCell ⟨g, 1, none⟩ q) v n :=
  h.bW ((aA.setCell hg (by decide) 0 p).trans (aA.setCell (j_ w1 g 0 _ _ p hg) (by decide) 1 q))
theorem aJ.alloc {w : World} {o1 o2 o3 : Obj} {w1 : World} (h : aJ w o1 o2 o3 w1) (o : Obj) : aJ w o1 o2 o3 (w1.alloc o) := aJ.step h ((n_ _ _).alloc (d_ _) _)
theorem Pl.Cr {l : List Int} {n : Int} (h : Pl.lv l = n.natAbs) (hl : 0 < l.length -> Pl.aT l (l.length - 1) ≠ 0) (hn : n ≠ 0) : 0 < l.length ∧ Pl.aT l (l.length - 1) ≠ 0 := by
  rcases abO l.length with h0 | h0
  · have : l = [] := aaz h0;subst this;have : (n.natAbs : Int) = 0 := by rw [<- h]; rfl
    omega
  · exact ⟨h0, hl h0⟩
theorem Pl.tF {a b mK : Int} {K : Nat} (hs : -1 <= mK ∧ mK <= 1) (hA : (a.natAbs : Int) < 1073741824 ^ K) (hb : b ≠ 0) : ((mK * ((a.natAbs : Int) / b.natAbs)).natAbs : Int) < 1073741824 ^ K := by
  have h1 : (a.natAbs : Int) / b.natAbs <= a.natAbs := abo _ (by omega);have h2 : 0 <= (a.natAbs : Int) / b.natAbs := abl (by omega) (by omega);rcases (show mK = -1 ∨ mK = 0 ∨ mK = 1 by omega) with h | h | h <;> rw [h] <;> omega
theorem Pl.dR {b : Int} {K : Nat} (hb : b ≠ 0) (hB : (b.natAbs : Int) < 1073741824 ^ K) : ((1 : Int).natAbs : Int) < 1073741824 ^ K := by
  have : (1 : Int) <= b.natAbs := by omega
  have e : ((1 : Int).natAbs : Int) = 1 := rfl;rw [e];rcases abO K with h | h
  · subst h; simp at hB; omega
  · obtain ⟨k, rfl⟩ : ∃ k, K = k + 1 := ⟨K - 1, by omega⟩;rw [aaC];have : (0 : Int) < 1073741824 ^ k := Int.pow_pos (by decide);omega
theorem Pl.FB {a b k : Int} (hb : 0 < b) (h1 : k * b <= a) (h2 : a < (k + 1) * b) : Int.fdiv a b = k := by
  rw [S_ _ (by omega)];have e1 := Int.le_ediv_of_mul_le hb h1;have e2 := Int.ediv_lt_of_lt_mul hb h2;omega
theorem Pl.rT (a b : Int) (hb : 0 < b) : Int.fdiv a b = if (a.natAbs : Int) % b.natAbs = 0 ∨ (a < 0 ↔ b < 0) then Int.sign a * Int.sign b * ((a.natAbs : Int) / b.natAbs) else Int.sign a * Int.sign b * ((a.natAbs : Int) / b.natAbs) - 1 := by
  have eb : (b.natAbs : Int) = b := by omega
  rw [eb, J_ hb, Int.mul_one];have d1 := aay (a.natAbs : Int) b;have d2 := aaS (a.natAbs : Int) (show b ≠ 0 by omega);have d3 := aaT (a.natAbs : Int) hb;generalize (a.natAbs : Int) / b = q at *
  generalize (a.natAbs : Int) % b = r at *
  rw [u_] at d1;rcases (show a < 0 ∨ 0 <= a by omega) with h | h
  · rw [E_ h];by_cases hr : r = 0
    · rw [h_ (.inl hr)];refine Pl.FB hb ?_ ?_
      · rw [show -1 * q * b = -(q * b) by rw [aaP, aaH, aaP]]; omega
      · rw [aaN, show -1 * q * b = -(q * b) by rw [aaP, aaH, aaP]]; omega
    · rw [g_ (λhc => by rcases hc with hc | hc <;> omega)]
      refine Pl.FB hb ?_ ?_
      · rw [abh, show -1 * q * b = -(q * b) by rw [aaP, aaH, aaP]]; omega
      · rw [show -1 * q - 1 + 1 = -1 * q by omega, show -1 * q * b = -(q * b) by rw [aaP, aaH, aaP]]; omega
  · rw [h_ (.inr ⟨λ_ => by omega, λ_ => by omega⟩)];rcases (show a = 0 ∨ 0 < a by omega) with h0 | h0
    · subst h0;simp
    · rw [J_ h0, aaH];refine Pl.FB hb ?_ ?_
      · omega
      · rw [aaN]; omega
theorem Pl.FC (a b : Int) (hb : b ≠ 0) : Int.fdiv a b = if (a.natAbs : Int) % b.natAbs = 0 ∨ (a < 0 ↔ b < 0) then Int.sign a * Int.sign b * ((a.natAbs : Int) / b.natAbs) else Int.sign a * Int.sign b * ((a.natAbs : Int) / b.natAbs) - 1 := by
  rcases (show b < 0 ∨ 0 < b by omega) with h | h
  · by_cases ha : a = 0
    · subst ha; simp
    · have e := Pl.rT (-a) (-b) (by omega);rw [Int.neg_fdiv_neg, Int.natAbs_neg, Int.natAbs_neg, Int.sign_neg, Int.sign_neg, Int.neg_mul_neg] at e;rw [e];have hc : (-a < 0 ↔ -b < 0) ↔ (a < 0 ↔ b < 0) := by constructor <;> intro h <;> constructor <;> intro h1 <;> omega
      simp only [hc]
  · exact Pl.rT a b h
set_option maxHeartbeats 2000000 in
theorem RY (P : Nat -> Prop) (K : Nat) (a b : Int) (va vb : Value) (w : World) (hP : ∀ b, w.heap.size <= b -> P b) (ha : aj P w va a) (hb : aj P w vb b) (hK : K <= 1500000000000) (hA : (a.natAbs : Int) < 1073741824 ^ K) (hB : (b.natAbs : Int) < 1073741824 ^ K) (hb0 : b ≠ 0) (hbig : ¬ ((-4611686018427387904 < a ∧ a < 4611686018427387904) ∧ (-4611686018427387904 < b ∧ b < 4611686018427387904))) :
    Calls Tryz.prog 56 #[va, vb] w λe w' => ∃ v', e = .returned v' ∧ aj P w' v' (Int.fdiv a b) ∧ Below w.heap.size w w' := by
  have I4 := af (λo1 o2 o3 => jF P va a (((w.alloc o1).alloc o2).alloc o3) (ha.below (ay w o1 o2 o3)));have Gd := af (λw1 (h : Below w.heap.size w w1) => bY P va a w1 (ha.below h));have Gf := af (λw1 (h : Below w.heap.size w w1) => bY P vb b w1 (hb.below h));have VA : Hid (∀ t : Int, t = (a.natAbs : Int) / b.natAbs -> (Int.sign a * Int.sign b = 1 ∨ Int.sign a * Int.sign b = -1) ∨ (Int.sign a * Int.sign b = 0 ∧ t = 0)) := λt ht => by
    rcases Pl.vZ a b with h | ⟨h1, h2⟩
    · exact .inl h
    · refine .inr ⟨h1, ?_⟩;rcases abG.1 h2 with h | h
      · rw [ht, h]; simp
      · exact absurd h (by omega)
  have Fz : -1 <= Int.sign a * Int.sign b ∧ Int.sign a * Int.sign b <= 1 := by rcases Pl.vZ a b with (h | h) | ⟨h, _⟩ <;> omega
  have Ol := af (Pl.FC a b hb0);obtain ⟨sa, hsa⟩ : ∃ sa, Int.sign a = sa := ⟨_, rfl⟩;obtain ⟨sb, hsb⟩ : ∃ sb, Int.sign b = sb := ⟨_, rfl⟩;rw [hsa] at Gd;rw [hsb] at Gf;rw [hsa, hsb] at VA Fz Ol;obtain ⟨mK, hab⟩ : ∃ mK, sa * sb = mK := ⟨_, rfl⟩;rw [hab] at Fz Ol;have HQ : Hid (∀ t : Int, t = (a.natAbs : Int) / b.natAbs -> (mK = 1 ∨ mK = -1) ∨ (mK = 0 ∧ t = 0)) := by rw [<- hab]; exact uh VA
  have hwp : wrap64 (sa * sb) = mK := by rw [hab]; unfold wrap64; omega
  have hws : IntKind.i64.wrap mK = mK := by rcases (show mK = -1 ∨ mK = 0 ∨ mK = 1 by omega) with h | h | h <;> rw [h] <;> decide
  clear hsa hsb VA;obtain ⟨x, ad, m, cap, rfl, hx1, hx2, hx3, hx4, hx5⟩ := ha.oK;obtain ⟨y, fH, m2, cap2, rfl, hy1, hy2, hy3, hy4, DT⟩ := hb.oK;have hy0 : (y == 0) = false := by simp; omega
  have vY := af (x_ hx1 hy1);clear hx1 hx2 hy1 hy2;by_cases hm : m = 0
  · have hm0 : m2 ≠ 0 := λh => hbig ⟨by have := (hx5 hm).1; omega, by have := (DT h).1; omega⟩;have hm1 : ((m : Int) == 0) = true := by simp [hm]
    have hm2 : ((m2 : Int) == 0) = false := by simp; omega
    clear hm hm0 hx5 DT;go_enter Tryz.func56, Tryz.ntmps56;go_wp2_with fail;refine (uh I4 _ _ _).mono ?_;rintro e w1 ⟨sl1, l1, rfl, hi1, o1, v1, z1, hw1⟩;have Eo := af (jF P _ b w1 ((hb.below (ay w _ _ _)).below hw1));have hlen1 := Pl.fU o1 v1 z1 hA;have jq := af (x_ o1 v1);obtain ⟨Rl, iQ, rfl⟩ := az hi1;have HI1 := af hi1;have HW1 := af hw1;obtain ⟨k1, k2⟩ := bX hw1 (jo w _ _ _);clear hi1 o1 v1 z1 hw1 I4;go_wp2_with fail;refine (uh Eo).mono ?_;rintro e w2 ⟨sl2, l2, rfl, hi2, o2, v2, z2, hw2⟩;have Ep := Pl.fU o2 v2 z2 hB;have iT := af (x_ o2 v2);obtain ⟨MS, Er, rfl⟩ := az hi2;have lU := af ((uh HI1).below hw2);have HL2 := af hi2;have HW2 : Hid (aJ w (.cells #[.int .i64 x, .slice ad m cap] 78) (.cells #[.int .i64 y, .slice fH m2 cap2] 78) (.cells #[.int .i64 0, .slice none 0 0] 78) w2) := aJ.step (w1 := w1) (uh HW1) hw2;obtain ⟨k3, k4⟩ := bX (uh HW2) (nN w _ _ _);obtain ⟨k5, k6⟩ := bX (uh HW2) (jo w _ _ _);clear k1 k2;have Yn : Hid (0 < l2.length ∧ Pl.aT l2 (l2.length - 1) ≠ 0) := Pl.Cr v2 z2 hb0;clear hi2 o2 v2 z2 hw2 HI1 HW1 Eo;go_wp2_with fail;refine (yL l1 l2 _ _ _ (uh lU) (uh HL2) (by omega) (by omega) (uh jq).1 (uh iT).1 (uh Yn).1 (uh Yn).2).mono ?_;rintro e w3 ⟨v3, s, rfl, ho3, os, ls, hs, hw3⟩;generalize Yo : decide (Pl.lv l1 % Pl.lv l2 = 0) = ev;have Yp := af Yo;have HM := af (x_ ho3 (x_ os (x_ ls hs)));have HW3 : Hid (aJ w (.cells #[.int .i64 x, .slice ad m cap] 78) (.cells #[.int .i64 y, .slice fH m2 cap2] 78) (.cells #[.int .i64 0, .slice none 0 0] 78) w3) := aJ.step (uh HW2) hw3;obtain ⟨Dv, qI, rfl⟩ := az (cO ho3);have HB3 : Hid (bu w3 w3) := bu.refl w3;clear ho3 os ls hs hw3 Yo;go_wp2_with fail
    go_region_held (λw' => w'.cell? ⟨w.heap.size, 0, none⟩ = some (.int .i64 x) ∧ w'.cell? ⟨w.heap.size, 1, none⟩ = some (.slice ad m cap) ∧ w'.cell? ⟨w.heap.size + 1, 0, none⟩ = some (.int .i64 y) ∧ w'.cell? ⟨w.heap.size + 1, 1, none⟩ = some (.slice fH m2 cap2)) (first | exact aJ.held (aJ.kE (uh wQ) (uh HG).1 _ _) | exact aJ.held (o3 := .cells #[.int .i64 0, .slice none 0 0] 78) (by repeat (first | exact uh wQ | exact uh yK | exact uh xB | exact uh HW3 | refine aJ.drew ?_ | refine aJ.alloc ?_ _))) (first
      | (go_at_call_of 46 (Value.agg #[Value.int .i64 x, Value.slice ad m cap]); refine (uh Gd _ (aJ.below (o1 := .cells #[.int .i64 x, .slice ad m cap] 78) (o2 := .cells #[.int .i64 y, .slice fH m2 cap2] 78) (o3 := .cells #[.int .i64 0, .slice none 0 0] 78) (by repeat (first | exact uh HW3 | refine aJ.drew ?_ | refine aJ.alloc ?_ _)))).mono ?_; rintro e w4 ⟨rfl, hw4⟩; have xB : Hid (aJ w (.cells #[.int .i64 x, .slice ad m cap] 78) (.cells #[.int .i64 y, .slice fH m2 cap2] 78) (.cells #[.int .i64 0, .slice none 0 0] 78) w4) := aJ.step (by repeat (first | exact uh HW3 | refine aJ.drew ?_ | refine aJ.alloc ?_ _)) hw4; have jO : Hid (bu w3 w4) := bu.step (by repeat (first | exact uh HB3 | exact bu.refl _ | refine bu.drew ?_ | refine bu.alloc ?_ _)) hw4; have HK4 := af (Below.same hw4); clear hw4)
      | (go_at_call_of 46 (Value.agg #[Value.int .i64 y, Value.slice fH m2 cap2]); refine (uh Gf _ (aJ.below (o1 := .cells #[.int .i64 x, .slice ad m cap] 78) (o2 := .cells #[.int .i64 y, .slice fH m2 cap2] 78) (o3 := .cells #[.int .i64 0, .slice none 0 0] 78) (by repeat (first | exact uh xB | refine aJ.drew ?_ | refine aJ.alloc ?_ _)))).mono ?_; rintro e w5 ⟨rfl, pK⟩; have yK : Hid (aJ w (.cells #[.int .i64 x, .slice ad m cap] 78) (.cells #[.int .i64 y, .slice fH m2 cap2] 78) (.cells #[.int .i64 0, .slice none 0 0] 78) w5) := aJ.step (by repeat (first | exact uh xB | refine aJ.drew ?_ | refine aJ.alloc ?_ _)) pK; have jy : Hid (bu w3 w5) := bu.step (by repeat (first | exact uh jO | exact bu.refl _ | refine bu.drew ?_ | refine bu.alloc ?_ _)) pK; have Vr := af (Below.same pK); clear pK)
      | (go_at_call 75; (try rw [hws]); refine (fQ P mK s _ w2.heap.size _ (bu.own (by repeat (first | exact uh jy | exact bu.refl _ | refine bu.drew ?_ | refine bu.alloc ?_ _)) (uh HM).1) (λb hb => hP b (by have := (aJ.below (uh HW2)).size; omega)) (uh HM).2.1 (by have := (uh HM).2.2.1; omega) (uh HQ _ (by rw [(uh HM).2.2.2, (uh jq).2, (uh iT).2]))).mono ?_; rintro e w6 ⟨v', rfl, hv, uB⟩; have wQ : Hid (aJ w (.cells #[.int .i64 x, .slice ad m cap] 78) (.cells #[.int .i64 y, .slice fH m2 cap2] 78) (.cells #[.int .i64 0, .slice none 0 0] 78) w6) := aJ.step (by repeat (first | exact uh yK | refine aJ.drew ?_ | refine aJ.alloc ?_ _)) uB; have Oj := af (Below.same uB); rw [show mK * Pl.lv s = mK * ((a.natAbs : Int) / b.natAbs) by rw [(uh HM).2.2.2, (uh jq).2, (uh iT).2]] at hv; have yM := af hv; obtain ⟨x4, jW, m4, cap4, rfl, _⟩ := hv.head
         (first
          | (have HG : Hid (mP w (.cells #[.int .i64 x, .slice ad m cap] 78) (.cells #[.int .i64 y, .slice fH m2 cap2] 78) (.cells #[.int .i64 0, .slice none 0 0] 78) w5.heap.size w6) := mP.mk (uh yK) (d_ _) (uh Oj _ _ (aG w5 (.cells #[.int .i64 0, .slice none 0 0] 78)))
             obtain ⟨Vt, Vu, Vv, Vw⟩ := fT (uh HG).2)
          | (have HG : Hid (mP w (.cells #[.int .i64 x, .slice ad m cap] 78) (.cells #[.int .i64 y, .slice fH m2 cap2] 78) (.cells #[.int .i64 0, .slice none 0 0] 78) w4.heap.size w6) := mP.mk (uh xB) (d_ _) (uh Oj _ _ (uh Vr _ _ (aG w4 (.cells #[.int .i64 0, .slice none 0 0] 78))))
             obtain ⟨Vt, Vu, Vv, Vw⟩ := fT (uh HG).2)
          | (have HG : Hid (mP w (.cells #[.int .i64 x, .slice ad m cap] 78) (.cells #[.int .i64 y, .slice fH m2 cap2] 78) (.cells #[.int .i64 0, .slice none 0 0] 78) w3.heap.size w6) := mP.mk (uh HW3) (d_ _) (uh Oj _ _ (uh Vr _ _ (uh HK4 _ _ (aG w3.drew (.cells #[.int .i64 0, .slice none 0 0] 78)))))
             obtain ⟨Vt, Vu, Vv, Vw⟩ := fT (uh HG).2)
          | skip)
         clear hv uB))
    all_goals
      first
        | (have AZ := af (aJ.kE (uh wQ) (uh HG).1 (.int .i64 x4) (.slice jW m4 cap4))
           have FD := af ((uh yM).kE (uh HG).2 (.int .i64 x4) (.slice jW m4 cap4));obtain ⟨n1, n2, n3, n4, n5, n6⟩ := mP.ne (uh HG);obtain ⟨j1, j2, j3, j4⟩ := aJ.held (uh wQ);obtain ⟨x6, ad6, m6, cap6, he0, c0, c1, f0, f1, Rm⟩ := aY (ay w (.cells #[.int .i64 x, .slice ad m cap] 78) (.cells #[.int .i64 y, .slice fH m2 cap2] 78) (.cells #[.int .i64 0, .slice none 0 0] 78)) (uh wQ) (bn w _ _ _) (by omega) (uh yM);cases he0;clear Rm)
        | (have AZ := af (aJ.alloc (uh wQ) (.cells #[.int .i64 x4, .slice jW m4 cap4] 78))
           have FD := af ((uh yM).below ((n_ _ w6).alloc (d_ _) (.cells #[.int .i64 x4, .slice jW m4 cap4] 78)));obtain ⟨j1, j2, j3, j4⟩ := aJ.held (uh AZ);obtain ⟨x6, ad6, m6, cap6, he0, c0, c1, f0, f1, Rm⟩ := aY (ay w (.cells #[.int .i64 x, .slice ad m cap] 78) (.cells #[.int .i64 y, .slice fH m2 cap2] 78) (.cells #[.int .i64 0, .slice none 0 0] 78)) (uh AZ) (bn w _ _ _) (by omega) (uh FD);cases he0;clear Rm)
      have hlv : Pl.lv l1 % Pl.lv l2 = (a.natAbs : Int) % b.natAbs := by rw [(uh jq).2, (uh iT).2]
      cases ev with
      | true =>
        have hev : Pl.lv l1 % Pl.lv l2 = 0 := aaJ (uh Yp);have hR : Int.fdiv a b = mK * ((a.natAbs : Int) / b.natAbs) := by rw [uh Ol, h_ (.inl (by rw [<- hlv]; exact hev))]
        clear hev hlv;obtain ⟨x5, JL, m5, cap5, he, _, _, _, _, HF⟩ := aY (ay w (.cells #[.int .i64 x, .slice ad m cap] 78) (.cells #[.int .i64 y, .slice fH m2 cap2] 78) (.cells #[.int .i64 0, .slice none 0 0] 78)) (uh AZ) (bn w _ _ _) (by omega) (uh FD);cases he;clear HM wQ yM jy jO yK xB HW3 lU HL2 Gd Gf;go_wp2;exact t_ (v := .agg #[.int .i64 x4, .slice jW m4 cap4]) (by simp [results, Tryz.results56, go_sem, (uh HF).2.2.1, (uh HF).2.2.2]) rfl ⟨_, rfl, by rw [hR]; exact (uh HF).1, (uh HF).2.1⟩
      | false =>
        have hev : ¬ Pl.lv l1 % Pl.lv l2 = 0 := of_decide_eq_false (uh Yp);rcases (show (x < 0 ∧ y < 0) ∨ (¬ x < 0 ∧ ¬ y < 0) ∨ (x < 0 ∧ ¬ y < 0) ∨ (¬ x < 0 ∧ y < 0) by omega) with ⟨hsx, hsy⟩ | ⟨hsx, hsy⟩ | ⟨hsx, hsy⟩ | ⟨hsx, hsy⟩
        · have Ps : decide (x < 0) = true := by simp; omega
          have hdy : decide (y < 0) = true := by simp; omega
          have hR : Int.fdiv a b = mK * ((a.natAbs : Int) / b.natAbs) := by
            have hx1 := (uh vY).1;have hy1 := (uh vY).2;rw [uh Ol, h_ (.inr ⟨λh => by omega, λh => by omega⟩)]
          clear hev hlv hsx hsy;obtain ⟨x5, JL, m5, cap5, he, _, _, _, _, HF⟩ := aY (ay w (.cells #[.int .i64 x, .slice ad m cap] 78) (.cells #[.int .i64 y, .slice fH m2 cap2] 78) (.cells #[.int .i64 0, .slice none 0 0] 78)) (uh AZ) (bn w _ _ _) (by omega) (uh FD);cases he;clear HM wQ yM jy jO yK xB HW3 lU HL2 Gd Gf;go_wp2;exact t_ (v := .agg #[.int .i64 x4, .slice jW m4 cap4]) (by simp [results, Tryz.results56, go_sem, (uh HF).2.2.1, (uh HF).2.2.2]) rfl ⟨_, rfl, by rw [hR]; exact (uh HF).1, (uh HF).2.1⟩
        · have Ps : decide (x < 0) = false := by simp; omega
          have hdy : decide (y < 0) = false := by simp; omega
          have hR : Int.fdiv a b = mK * ((a.natAbs : Int) / b.natAbs) := by
            have hx1 := (uh vY).1;have hy1 := (uh vY).2;rw [uh Ol, h_ (.inr ⟨λh => by omega, λh => by omega⟩)]
          clear hev hlv hsx hsy;obtain ⟨x5, JL, m5, cap5, he, _, _, _, _, HF⟩ := aY (ay w (.cells #[.int .i64 x, .slice ad m cap] 78) (.cells #[.int .i64 y, .slice fH m2 cap2] 78) (.cells #[.int .i64 0, .slice none 0 0] 78)) (uh AZ) (bn w _ _ _) (by omega) (uh FD);cases he;clear HM wQ yM jy jO yK xB HW3 lU HL2 Gd Gf;go_wp2;exact t_ (v := .agg #[.int .i64 x4, .slice jW m4 cap4]) (by simp [results, Tryz.results56, go_sem, (uh HF).2.2.1, (uh HF).2.2.2]) rfl ⟨_, rfl, by rw [hR]; exact (uh HF).1, (uh HF).2.1⟩
        · have Ps : decide (x < 0) = true := by simp; omega
          have hdy : decide (y < 0) = false := by simp; omega
          have hR : Int.fdiv a b = mK * ((a.natAbs : Int) / b.natAbs) - 1 := by
            have hx1 := (uh vY).1;have hy1 := (uh vY).2;rw [uh Ol, g_ (λh => by
            rcases h with h | h
            · exact hev (by rw [hlv]; exact h)
            · omega)]
          have HN := af (Pl.tF Fz hA hb0);have PH := af (Pl.dR hb0 hB);clear hev hlv hsx hsy;clear HM wQ yM jy jO yK xB HW3 lU HL2 Gd Gf;go_wp2_with fail;refine (kF P K (mK * ((a.natAbs : Int) / b.natAbs)) 1 _ _ _ (λb hb => hP b (by have := (aJ.below (uh AZ)).size; omega)) (uh FD) (.inl ⟨rfl, by decide, by decide⟩) hK (uh HN) (uh PH)).mono ?_;rintro e w8 ⟨v8, rfl, sQ, hw8⟩;rw [<- hR] at sQ;obtain ⟨x5, JL, m5, cap5, rfl, c0', c1', f0', TI, HF⟩ := aY (ay w (.cells #[.int .i64 x, .slice ad m cap] 78) (.cells #[.int .i64 y, .slice fH m2 cap2] 78) (.cells #[.int .i64 0, .slice none 0 0] 78)) (aJ.step (uh AZ) hw8) (bn w _ _ _) (by omega) sQ;clear sQ hw8 FD AZ;go_wp2;exact t_ (v := .agg #[.int .i64 x5, .slice JL m5 cap5]) (by simp [results, Tryz.results56, go_sem, (uh HF).2.2.1, (uh HF).2.2.2]) rfl ⟨_, rfl, (uh HF).1, (uh HF).2.1⟩
        · have Ps : decide (x < 0) = false := by simp; omega
          have hdy : decide (y < 0) = true := by simp; omega
          have hR : Int.fdiv a b = mK * ((a.natAbs : Int) / b.natAbs) - 1 := by
            have hx1 := (uh vY).1;have hy1 := (uh vY).2;rw [uh Ol, g_ (λh => by
            rcases h with h | h
            · exact hev (by rw [hlv]; exact h)
            · omega)]
          have HN := af (Pl.tF Fz hA hb0);have PH := af (Pl.dR hb0 hB);clear hev hlv hsx hsy;clear HM wQ yM jy jO yK xB HW3 lU HL2 Gd Gf;go_wp2_with fail;refine (kF P K (mK * ((a.natAbs : Int) / b.natAbs)) 1 _ _ _ (λb hb => hP b (by have := (aJ.below (uh AZ)).size; omega)) (uh FD) (.inl ⟨rfl, by decide, by decide⟩) hK (uh HN) (uh PH)).mono ?_;rintro e w8 ⟨v8, rfl, sQ, hw8⟩;rw [<- hR] at sQ;obtain ⟨x5, JL, m5, cap5, rfl, c0', c1', f0', TI, HF⟩ := aY (ay w (.cells #[.int .i64 x, .slice ad m cap] 78) (.cells #[.int .i64 y, .slice fH m2 cap2] 78) (.cells #[.int .i64 0, .slice none 0 0] 78)) (aJ.step (uh AZ) hw8) (bn w _ _ _) (by omega) sQ;clear sQ hw8 FD AZ;go_wp2;exact t_ (v := .agg #[.int .i64 x5, .slice JL m5 cap5]) (by simp [results, Tryz.results56, go_sem, (uh HF).2.2.1, (uh HF).2.2.2]) rfl ⟨_, rfl, (uh HF).1, (uh HF).2.1⟩
  · have hm1 : ((m : Int) == 0) = false := by simp; omega
    clear hm hx5 DT;go_enter Tryz.func56, Tryz.ntmps56;go_wp2_with fail;refine (uh I4 _ _ _).mono ?_;rintro e w1 ⟨sl1, l1, rfl, hi1, o1, v1, z1, hw1⟩;have Eo := af (jF P _ b w1 ((hb.below (ay w _ _ _)).below hw1));have hlen1 := Pl.fU o1 v1 z1 hA;have jq := af (x_ o1 v1);obtain ⟨Rl, iQ, rfl⟩ := az hi1;have HI1 := af hi1;have HW1 := af hw1;obtain ⟨k1, k2⟩ := bX hw1 (jo w _ _ _);clear hi1 o1 v1 z1 hw1 I4;go_wp2_with fail;refine (uh Eo).mono ?_;rintro e w2 ⟨sl2, l2, rfl, hi2, o2, v2, z2, hw2⟩;have Ep := Pl.fU o2 v2 z2 hB;have iT := af (x_ o2 v2);obtain ⟨MS, Er, rfl⟩ := az hi2;have lU := af ((uh HI1).below hw2);have HL2 := af hi2;have HW2 : Hid (aJ w (.cells #[.int .i64 x, .slice ad m cap] 78) (.cells #[.int .i64 y, .slice fH m2 cap2] 78) (.cells #[.int .i64 0, .slice none 0 0] 78) w2) := aJ.step (w1 := w1) (uh HW1) hw2;obtain ⟨k3, k4⟩ := bX (uh HW2) (nN w _ _ _);obtain ⟨k5, k6⟩ := bX (uh HW2) (jo w _ _ _);clear k1 k2;have Yn : Hid (0 < l2.length ∧ Pl.aT l2 (l2.length - 1) ≠ 0) := Pl.Cr v2 z2 hb0;clear hi2 o2 v2 z2 hw2 HI1 HW1 Eo;go_wp2_with fail;refine (yL l1 l2 _ _ _ (uh lU) (uh HL2) (by omega) (by omega) (uh jq).1 (uh iT).1 (uh Yn).1 (uh Yn).2).mono ?_;rintro e w3 ⟨v3, s, rfl, ho3, os, ls, hs, hw3⟩;generalize Yo : decide (Pl.lv l1 % Pl.lv l2 = 0) = ev;have Yp := af Yo;have HM := af (x_ ho3 (x_ os (x_ ls hs)));have HW3 : Hid (aJ w (.cells #[.int .i64 x, .slice ad m cap] 78) (.cells #[.int .i64 y, .slice fH m2 cap2] 78) (.cells #[.int .i64 0, .slice none 0 0] 78) w3) := aJ.step (uh HW2) hw3;obtain ⟨Dv, qI, rfl⟩ := az (cO ho3);have HB3 : Hid (bu w3 w3) := bu.refl w3;clear ho3 os ls hs hw3 Yo;go_wp2_with fail
    go_region_held (λw' => w'.cell? ⟨w.heap.size, 0, none⟩ = some (.int .i64 x) ∧ w'.cell? ⟨w.heap.size, 1, none⟩ = some (.slice ad m cap) ∧ w'.cell? ⟨w.heap.size + 1, 0, none⟩ = some (.int .i64 y) ∧ w'.cell? ⟨w.heap.size + 1, 1, none⟩ = some (.slice fH m2 cap2)) (first | exact aJ.held (aJ.kE (uh wQ) (uh HG).1 _ _) | exact aJ.held (o3 := .cells #[.int .i64 0, .slice none 0 0] 78) (by repeat (first | exact uh wQ | exact uh yK | exact uh xB | exact uh HW3 | refine aJ.drew ?_ | refine aJ.alloc ?_ _))) (first
      | (go_at_call_of 46 (Value.agg #[Value.int .i64 x, Value.slice ad m cap]); refine (uh Gd _ (aJ.below (o1 := .cells #[.int .i64 x, .slice ad m cap] 78) (o2 := .cells #[.int .i64 y, .slice fH m2 cap2] 78) (o3 := .cells #[.int .i64 0, .slice none 0 0] 78) (by repeat (first | exact uh HW3 | refine aJ.drew ?_ | refine aJ.alloc ?_ _)))).mono ?_; rintro e w4 ⟨rfl, hw4⟩; have xB : Hid (aJ w (.cells #[.int .i64 x, .slice ad m cap] 78) (.cells #[.int .i64 y, .slice fH m2 cap2] 78) (.cells #[.int .i64 0, .slice none 0 0] 78) w4) := aJ.step (by repeat (first | exact uh HW3 | refine aJ.drew ?_ | refine aJ.alloc ?_ _)) hw4; have jO : Hid (bu w3 w4) := bu.step (by repeat (first | exact uh HB3 | exact bu.refl _ | refine bu.drew ?_ | refine bu.alloc ?_ _)) hw4; have HK4 := af (Below.same hw4); clear hw4)
      | (go_at_call_of 46 (Value.agg #[Value.int .i64 y, Value.slice fH m2 cap2]); refine (uh Gf _ (aJ.below (o1 := .cells #[.int .i64 x, .slice ad m cap] 78) (o2 := .cells #[.int .i64 y, .slice fH m2 cap2] 78) (o3 := .cells #[.int .i64 0, .slice none 0 0] 78) (by repeat (first | exact uh xB | refine aJ.drew ?_ | refine aJ.alloc ?_ _)))).mono ?_; rintro e w5 ⟨rfl, pK⟩; have yK : Hid (aJ w (.cells #[.int .i64 x, .slice ad m cap] 78) (.cells #[.int .i64 y, .slice fH m2 cap2] 78) (.cells #[.int .i64 0, .slice none 0 0] 78) w5) := aJ.step (by repeat (first | exact uh xB | refine aJ.drew ?_ | refine aJ.alloc ?_ _)) pK; have jy : Hid (bu w3 w5) := bu.step (by repeat (first | exact uh jO | exact bu.refl _ | refine bu.drew ?_ | refine bu.alloc ?_ _)) pK; have Vr := af (Below.same pK); clear pK)
      | (go_at_call 75; (try rw [hws]); refine (fQ P mK s _ w2.heap.size _ (bu.own (by repeat (first | exact uh jy | exact bu.refl _ | refine bu.drew ?_ | refine bu.alloc ?_ _)) (uh HM).1) (λb hb => hP b (by have := (aJ.below (uh HW2)).size; omega)) (uh HM).2.1 (by have := (uh HM).2.2.1; omega) (uh HQ _ (by rw [(uh HM).2.2.2, (uh jq).2, (uh iT).2]))).mono ?_; rintro e w6 ⟨v', rfl, hv, uB⟩; have wQ : Hid (aJ w (.cells #[.int .i64 x, .slice ad m cap] 78) (.cells #[.int .i64 y, .slice fH m2 cap2] 78) (.cells #[.int .i64 0, .slice none 0 0] 78) w6) := aJ.step (by repeat (first | exact uh yK | refine aJ.drew ?_ | refine aJ.alloc ?_ _)) uB; have Oj := af (Below.same uB); rw [show mK * Pl.lv s = mK * ((a.natAbs : Int) / b.natAbs) by rw [(uh HM).2.2.2, (uh jq).2, (uh iT).2]] at hv; have yM := af hv; obtain ⟨x4, jW, m4, cap4, rfl, _⟩ := hv.head
         (first
          | (have HG : Hid (mP w (.cells #[.int .i64 x, .slice ad m cap] 78) (.cells #[.int .i64 y, .slice fH m2 cap2] 78) (.cells #[.int .i64 0, .slice none 0 0] 78) w5.heap.size w6) := mP.mk (uh yK) (d_ _) (uh Oj _ _ (aG w5 (.cells #[.int .i64 0, .slice none 0 0] 78)))
             obtain ⟨Vt, Vu, Vv, Vw⟩ := fT (uh HG).2)
          | (have HG : Hid (mP w (.cells #[.int .i64 x, .slice ad m cap] 78) (.cells #[.int .i64 y, .slice fH m2 cap2] 78) (.cells #[.int .i64 0, .slice none 0 0] 78) w4.heap.size w6) := mP.mk (uh xB) (d_ _) (uh Oj _ _ (uh Vr _ _ (aG w4 (.cells #[.int .i64 0, .slice none 0 0] 78))))
             obtain ⟨Vt, Vu, Vv, Vw⟩ := fT (uh HG).2)
          | (have HG : Hid (mP w (.cells #[.int .i64 x, .slice ad m cap] 78) (.cells #[.int .i64 y, .slice fH m2 cap2] 78) (.cells #[.int .i64 0, .slice none 0 0] 78) w3.heap.size w6) := mP.mk (uh HW3) (d_ _) (uh Oj _ _ (uh Vr _ _ (uh HK4 _ _ (aG w3.drew (.cells #[.int .i64 0, .slice none 0 0] 78)))))
             obtain ⟨Vt, Vu, Vv, Vw⟩ := fT (uh HG).2)
          | skip)
         clear hv uB))
    all_goals
      first
        | (have AZ := af (aJ.kE (uh wQ) (uh HG).1 (.int .i64 x4) (.slice jW m4 cap4))
           have FD := af ((uh yM).kE (uh HG).2 (.int .i64 x4) (.slice jW m4 cap4));obtain ⟨n1, n2, n3, n4, n5, n6⟩ := mP.ne (uh HG);obtain ⟨j1, j2, j3, j4⟩ := aJ.held (uh wQ);obtain ⟨x6, ad6, m6, cap6, he0, c0, c1, f0, f1, Rm⟩ := aY (ay w (.cells #[.int .i64 x, .slice ad m cap] 78) (.cells #[.int .i64 y, .slice fH m2 cap2] 78) (.cells #[.int .i64 0, .slice none 0 0] 78)) (uh wQ) (bn w _ _ _) (by omega) (uh yM);cases he0;clear Rm)
        | (have AZ := af (aJ.alloc (uh wQ) (.cells #[.int .i64 x4, .slice jW m4 cap4] 78))
           have FD := af ((uh yM).below ((n_ _ w6).alloc (d_ _) (.cells #[.int .i64 x4, .slice jW m4 cap4] 78)));obtain ⟨j1, j2, j3, j4⟩ := aJ.held (uh AZ);obtain ⟨x6, ad6, m6, cap6, he0, c0, c1, f0, f1, Rm⟩ := aY (ay w (.cells #[.int .i64 x, .slice ad m cap] 78) (.cells #[.int .i64 y, .slice fH m2 cap2] 78) (.cells #[.int .i64 0, .slice none 0 0] 78)) (uh AZ) (bn w _ _ _) (by omega) (uh FD);cases he0;clear Rm)
      have hlv : Pl.lv l1 % Pl.lv l2 = (a.natAbs : Int) % b.natAbs := by rw [(uh jq).2, (uh iT).2]
      cases ev with
      | true =>
        have hev : Pl.lv l1 % Pl.lv l2 = 0 := aaJ (uh Yp);have hR : Int.fdiv a b = mK * ((a.natAbs : Int) / b.natAbs) := by rw [uh Ol, h_ (.inl (by rw [<- hlv]; exact hev))]
        clear hev hlv;obtain ⟨x5, JL, m5, cap5, he, _, _, _, _, HF⟩ := aY (ay w (.cells #[.int .i64 x, .slice ad m cap] 78) (.cells #[.int .i64 y, .slice fH m2 cap2] 78) (.cells #[.int .i64 0, .slice none 0 0] 78)) (uh AZ) (bn w _ _ _) (by omega) (uh FD);cases he;clear HM wQ yM jy jO yK xB HW3 lU HL2 Gd Gf;go_wp2;exact t_ (v := .agg #[.int .i64 x4, .slice jW m4 cap4]) (by simp [results, Tryz.results56, go_sem, (uh HF).2.2.1, (uh HF).2.2.2]) rfl ⟨_, rfl, by rw [hR]; exact (uh HF).1, (uh HF).2.1⟩
      | false =>
        have hev : ¬ Pl.lv l1 % Pl.lv l2 = 0 := of_decide_eq_false (uh Yp);rcases (show (x < 0 ∧ y < 0) ∨ (¬ x < 0 ∧ ¬ y < 0) ∨ (x < 0 ∧ ¬ y < 0) ∨ (¬ x < 0 ∧ y < 0) by omega) with ⟨hsx, hsy⟩ | ⟨hsx, hsy⟩ | ⟨hsx, hsy⟩ | ⟨hsx, hsy⟩
        · have Ps : decide (x < 0) = true := by simp; omega
          have hdy : decide (y < 0) = true := by simp; omega
          have hR : Int.fdiv a b = mK * ((a.natAbs : Int) / b.natAbs) := by
            have hx1 := (uh vY).1;have hy1 := (uh vY).2;rw [uh Ol, h_ (.inr ⟨λh => by omega, λh => by omega⟩)]
          clear hev hlv hsx hsy;obtain ⟨x5, JL, m5, cap5, he, _, _, _, _, HF⟩ := aY (ay w (.cells #[.int .i64 x, .slice ad m cap] 78) (.cells #[.int .i64 y, .slice fH m2 cap2] 78) (.cells #[.int .i64 0, .slice none 0 0] 78)) (uh AZ) (bn w _ _ _) (by omega) (uh FD);cases he;clear HM wQ yM jy jO yK xB HW3 lU HL2 Gd Gf;go_wp2;exact t_ (v := .agg #[.int .i64 x4, .slice jW m4 cap4]) (by simp [results, Tryz.results56, go_sem, (uh HF).2.2.1, (uh HF).2.2.2]) rfl ⟨_, rfl, by rw [hR]; exact (uh HF).1, (uh HF).2.1⟩
        · have Ps : decide (x < 0) = false := by simp; omega
          have hdy : decide (y < 0) = false := by simp; omega
          have hR : Int.fdiv a b = mK * ((a.natAbs : Int) / b.natAbs) := by
            have hx1 := (uh vY).1;have hy1 := (uh vY).2;rw [uh Ol, h_ (.inr ⟨λh => by omega, λh => by omega⟩)]
          clear hev hlv hsx hsy;obtain ⟨x5, JL, m5, cap5, he, _, _, _, _, HF⟩ := aY (ay w (.cells #[.int .i64 x, .slice ad m cap] 78) (.cells #[.int .i64 y, .slice fH m2 cap2] 78) (.cells #[.int .i64 0, .slice none 0 0] 78)) (uh AZ) (bn w _ _ _) (by omega) (uh FD);cases he;clear HM wQ yM jy jO yK xB HW3 lU HL2 Gd Gf;go_wp2;exact t_ (v := .agg #[.int .i64 x4, .slice jW m4 cap4]) (by simp [results, Tryz.results56, go_sem, (uh HF).2.2.1, (uh HF).2.2.2]) rfl ⟨_, rfl, by rw [hR]; exact (uh HF).1, (uh HF).2.1⟩
        · have Ps : decide (x < 0) = true := by simp; omega
          have hdy : decide (y < 0) = false := by simp; omega
          have hR : Int.fdiv a b = mK * ((a.natAbs : Int) / b.natAbs) - 1 := by
            have hx1 := (uh vY).1;have hy1 := (uh vY).2;rw [uh Ol, g_ (λh => by
            rcases h with h | h
            · exact hev (by rw [hlv]; exact h)
            · omega)]
          have HN := af (Pl.tF Fz hA hb0);have PH := af (Pl.dR hb0 hB);clear hev hlv hsx hsy;clear HM wQ yM jy jO yK xB HW3 lU HL2 Gd Gf;go_wp2_with fail;refine (kF P K (mK * ((a.natAbs : Int) / b.natAbs)) 1 _ _ _ (λb hb => hP b (by have := (aJ.below (uh AZ)).size; omega)) (uh FD) (.inl ⟨rfl, by decide, by decide⟩) hK (uh HN) (uh PH)).mono ?_;rintro e w8 ⟨v8, rfl, sQ, hw8⟩;rw [<- hR] at sQ;obtain ⟨x5, JL, m5, cap5, rfl, c0', c1', f0', TI, HF⟩ := aY (ay w (.cells #[.int .i64 x, .slice ad m cap] 78) (.cells #[.int .i64 y, .slice fH m2 cap2] 78) (.cells #[.int .i64 0, .slice none 0 0] 78)) (aJ.step (uh AZ) hw8) (bn w _ _ _) (by omega) sQ;clear sQ hw8 FD AZ;go_wp2;exact t_ (v := .agg #[.int .i64 x5, .slice JL m5 cap5]) (by simp [results, Tryz.results56, go_sem, (uh HF).2.2.1, (uh HF).2.2.2]) rfl ⟨_, rfl, (uh HF).1, (uh HF).2.1⟩
        · have Ps : decide (x < 0) = false := by simp; omega
          have hdy : decide (y < 0) = true := by simp; omega
          have hR : Int.fdiv a b = mK * ((a.natAbs : Int) / b.natAbs) - 1 := by
            have hx1 := (uh vY).1;have hy1 := (uh vY).2;rw [uh Ol, g_ (λh => by
            rcases h with h | h
            · exact hev (by rw [hlv]; exact h)
            · omega)]
          have HN := af (Pl.tF Fz hA hb0);have PH := af (Pl.dR hb0 hB);clear hev hlv hsx hsy;clear HM wQ yM jy jO yK xB HW3 lU HL2 Gd Gf;go_wp2_with fail;refine (kF P K (mK * ((a.natAbs : Int) / b.natAbs)) 1 _ _ _ (λb hb => hP b (by have := (aJ.below (uh AZ)).size; omega)) (uh FD) (.inl ⟨rfl, by decide, by decide⟩) hK (uh HN) (uh PH)).mono ?_;rintro e w8 ⟨v8, rfl, sQ, hw8⟩;rw [<- hR] at sQ;obtain ⟨x5, JL, m5, cap5, rfl, c0', c1', f0', TI, HF⟩ := aY (ay w (.cells #[.int .i64 x, .slice ad m cap] 78) (.cells #[.int .i64 y, .slice fH m2 cap2] 78) (.cells #[.int .i64 0, .slice none 0 0] 78)) (aJ.step (uh AZ) hw8) (bn w _ _ _) (by omega) sQ;clear sQ hw8 FD AZ;go_wp2;exact t_ (v := .agg #[.int .i64 x5, .slice JL m5 cap5]) (by simp [results, Tryz.results56, go_sem, (uh HF).2.2.1, (uh HF).2.2.2]) rfl ⟨_, rfl, (uh HF).1, (uh HF).2.1⟩
end Go.Proofs.YtgaafamcajcifaaGreat
