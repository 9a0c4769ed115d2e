/- Joined: XInt9. -/
import Derived.Test.YtfaljekgpnbmiaaJ06
set_option linter.unusedVariables false
set_option linter.unusedSimpArgs false
set_option maxRecDepth 100000
namespace Go.Proofs.Ytfaljekgpnbmiaa
open Go.RowKit
def Since (w w' : World) : Prop := Below w.heap.size w w'
theorem Since.refl (w : World) : Since w w := Below.refl _ _
theorem Since.drew {w w' : World} (h : Since w w') : Since w w'.drew := Below.drew h
theorem Since.alloc {w w' : World} (h : Since w w') (o : Obj) : Since w (w'.alloc o) := Below.alloc h (Below.size h) o
theorem Since.step {w w' w2 : World} (h : Since w w') (h2 : Below w'.heap.size w' w2) : Since w w2 := Below.trans h (h2.mono (Below.size h))
theorem Since.own {w w' : World} (h : Since w w') {B : Nat} {v : Value} {l : List Int} (ho : IntsOwn B w v l) : IntsOwn B w' v l := own_keep ho (.of_below h)
theorem Below.same {w w' : World} (h : Below w.heap.size w w') : ∀ (g : Nat) (o : Obj), w.heap[g]? = some o → w'.heap[g]? = some o := fun g o hg => by
  rw [h.block g (by
    rcases Nat.lt_or_ge g w.heap.size with h1 | h1
    · exact h1
    · rw [Array.getElem?_eq_none h1] at hg; cases hg)]
  exact hg
def Fresh (w : World) (o1 o2 o3 : Obj) (g : Nat) (w1 : World) : Prop := (((w.alloc o1).alloc o2).alloc o3).heap.size ≤ g ∧ w1.heap[g]? = some (.cells #[.int .i64 0, .slice none 0 0] 82 (0, 0))
theorem Fresh.mk {w : World} {o1 o2 o3 : Obj} {w0 w1 : World} {g : Nat} (h : Past w o1 o2 o3 w0) (hg : w0.heap.size ≤ g) (hw : w1.heap[g]? = some (.cells #[.int .i64 0, .slice none 0 0] 82 (0, 0))) : Fresh w o1 o2 o3 g w1 := ⟨Nat.le_trans (Below.size h) hg, hw⟩
theorem Fresh.ne {w : World} {o1 o2 o3 : Obj} {g : Nat} {w1 : World} (h : Fresh w o1 o2 o3 g w1) : g ≠ w.heap.size ∧ g ≠ w.heap.size + 1 ∧ g ≠ w.heap.size + 1 + 1 ∧ w.heap.size ≠ g ∧ w.heap.size + 1 ≠ g ∧ w.heap.size + 1 + 1 ≠ g := by
  have h1 := h.1
  simp at h1
  omega
theorem Past.sets {w : World} {o1 o2 o3 : Obj} {w1 : World} (h : Past w o1 o2 o3 w1) {g : Nat} (hg : (((w.alloc o1).alloc o2).alloc o3).heap.size ≤ g) (p q : Value) : Past w o1 o2 o3 ((w1.setCell ⟨g, 0, none⟩ p).setCell ⟨g, 1, none⟩ q) :=
  (Below.setCell (p := ⟨g, 0, none⟩) h hg p).setCell (p := ⟨g, 1, none⟩) hg q
theorem WhAt.sets {P : Nat → Prop} {w1 : World} {v : Value} {n : Int} (h : WhAt P w1 v n) {g : Nat} {cs : Array Value} (hg : w1.heap[g]? = some (.cells cs 82 (0, 0))) (p q : Value) : WhAt P ((w1.setCell ⟨g, 0, none⟩ p).setCell ⟨g, 1, none⟩ q) v n :=
  h.keep ((KeepT.setCell hg (by decide) 0 p).trans (KeepT.setCell (heap_setCell_same w1 g 0 _ _ p hg) (by decide) 1 q))
theorem Past.alloc {w : World} {o1 o2 o3 : Obj} {w1 : World} (h : Past w o1 o2 o3 w1) (o : Obj) : Past w o1 o2 o3 (w1.alloc o) := Past.step h ((Below.refl _ _).alloc (Nat.le_refl _) _)
theorem Pl.parts_some {l : List Int} {n : Int} (h : Pl.lv l = n.natAbs) (hl : 0 < l.length → Pl.dig l (l.length - 1) ≠ 0) (hn : n ≠ 0) : 0 < l.length ∧ Pl.dig l (l.length - 1) ≠ 0 := by
  rcases Nat.eq_zero_or_pos l.length with h0 | h0
  · have : l = [] := List.eq_nil_of_length_eq_zero h0
    subst this
    have : (n.natAbs : Int) = 0 := by rw [← h]; rfl
    omega
  · exact ⟨h0, hl h0⟩
theorem Pl.quot_small {a b sab : Int} {K : Nat} (hs : -1 ≤ sab ∧ sab ≤ 1) (hA : (a.natAbs : Int) < 1073741824 ^ K) (hb : b ≠ 0) : ((sab * ((a.natAbs : Int) / b.natAbs)).natAbs : Int) < 1073741824 ^ K := by
  have h1 : (a.natAbs : Int) / b.natAbs ≤ a.natAbs := Int.ediv_le_self _ (by omega)
  have h2 : 0 ≤ (a.natAbs : Int) / b.natAbs := Int.ediv_nonneg (by omega) (by omega)
  rcases (show sab = -1 ∨ sab = 0 ∨ sab = 1 by omega) with h | h | h <;> rw [h] <;> omega
theorem Pl.one_small {b : Int} {K : Nat} (hb : b ≠ 0) (hB : (b.natAbs : Int) < 1073741824 ^ K) : ((1 : Int).natAbs : Int) < 1073741824 ^ K := by
  have : (1 : Int) ≤ b.natAbs := by omega
  have e : ((1 : Int).natAbs : Int) = 1 := rfl
  rw [e]
  rcases Nat.eq_zero_or_pos K with h | h
  · subst h; simp at hB; omega
  · obtain ⟨k, rfl⟩ : ∃ k, K = k + 1 := ⟨K - 1, by omega⟩
    rw [Int.pow_succ]
    have : (0 : Int) < 1073741824 ^ k := Int.pow_pos (by decide)
    omega
theorem Pl.fdiv_of {a b k : Int} (hb : 0 < b) (h1 : k * b ≤ a) (h2 : a < (k + 1) * b) : Int.fdiv a b = k := by
  rw [Int.fdiv_eq_ediv_of_nonneg _ (by omega)]
  have e1 := Int.le_ediv_of_mul_le hb h1
  have e2 := Int.ediv_lt_of_lt_mul hb h2
  omega
theorem Pl.fdiv_by_sign_pos (a b : Int) (hb : 0 < b) : Int.fdiv a b = if (a.natAbs : Int) % b.natAbs = 0 ∨ (a < 0 ↔ b < 0) then Int.sign a * Int.sign b * ((a.natAbs : Int) / b.natAbs) else Int.sign a * Int.sign b * ((a.natAbs : Int) / b.natAbs) - 1 := by
  have eb : (b.natAbs : Int) = b := by omega
  rw [eb, Int.sign_eq_one_of_pos hb, Int.mul_one]
  have d1 := Int.mul_ediv_add_emod (a.natAbs : Int) b
  have d2 := Int.emod_nonneg (a.natAbs : Int) (show b ≠ 0 by omega)
  have d3 := Int.emod_lt_of_pos (a.natAbs : Int) hb
  generalize (a.natAbs : Int) / b = q at *
  generalize (a.natAbs : Int) % b = r at *
  rw [Int.mul_comm] at d1
  rcases (show a < 0 ∨ 0 ≤ a by omega) with h | h
  · rw [Int.sign_eq_neg_one_of_neg h]
    by_cases hr : r = 0
    · rw [if_pos (.inl hr)]
      refine Pl.fdiv_of hb ?_ ?_
      · rw [show -1 * q * b = -(q * b) by rw [Int.neg_mul, Int.one_mul, Int.neg_mul]]; omega
      · rw [Int.add_mul, show -1 * q * b = -(q * b) by rw [Int.neg_mul, Int.one_mul, Int.neg_mul]]; omega
    · rw [if_neg (fun hc => by rcases hc with hc | hc <;> omega)]
      refine Pl.fdiv_of hb ?_ ?_
      · rw [Int.sub_mul, show -1 * q * b = -(q * b) by rw [Int.neg_mul, Int.one_mul, Int.neg_mul]]; omega
      · rw [show -1 * q - 1 + 1 = -1 * q by omega, show -1 * q * b = -(q * b) by rw [Int.neg_mul, Int.one_mul, Int.neg_mul]]; omega
  · rw [if_pos (.inr ⟨fun _ => by omega, fun _ => by omega⟩)]
    rcases (show a = 0 ∨ 0 < a by omega) with h0 | h0
    · subst h0
      simp
    · rw [Int.sign_eq_one_of_pos h0, Int.one_mul]
      refine Pl.fdiv_of hb ?_ ?_
      · omega
      · rw [Int.add_mul]; omega
theorem Pl.fdiv_by_sign (a b : Int) (hb : b ≠ 0) : Int.fdiv a b = if (a.natAbs : Int) % b.natAbs = 0 ∨ (a < 0 ↔ b < 0) then Int.sign a * Int.sign b * ((a.natAbs : Int) / b.natAbs) else Int.sign a * Int.sign b * ((a.natAbs : Int) / b.natAbs) - 1 := by
  rcases (show b < 0 ∨ 0 < b by omega) with h | h
  · by_cases ha : a = 0
    · subst ha; simp
    · have e := Pl.fdiv_by_sign_pos (-a) (-b) (by omega)
      rw [Int.neg_fdiv_neg, Int.natAbs_neg, Int.natAbs_neg, Int.sign_neg, Int.sign_neg, Int.neg_mul_neg] at e
      rw [e]
      have hc : (-a < 0 ↔ -b < 0) ↔ (a < 0 ↔ b < 0) := by constructor <;> intro h <;> constructor <;> intro h1 <;> omega
      simp only [hc]
  · exact Pl.fdiv_by_sign_pos a b h
set_option maxHeartbeats 2000000 in
theorem Div_big (P : Nat → Prop) (K : Nat) (a b : Int) (va vb : Value) (w : World) (hP : ∀ b, w.heap.size ≤ b → P b) (ha : WhAt P w va a) (hb : WhAt P w vb b) (hK : K ≤ 1500000000000) (hA : (a.natAbs : Int) < 1073741824 ^ K) (hB : (b.natAbs : Int) < 1073741824 ^ K) (hb0 : b ≠ 0) (hbig : ¬ ((-4611686018427387904 < a ∧ a < 4611686018427387904) ∧ (-4611686018427387904 < b ∧ b < 4611686018427387904))) :
    Calls Try.prog 91 #[va, vb] w fun e w' => ∃ v', e = .returned v' ∧ WhAt P w' v' (Int.fdiv a b) ∧ Below w.heap.size w w' := by
  have HPa := hide (fun o1 o2 o3 => parts_any P va a (((w.alloc o1).alloc o2).alloc o3) (ha.below (below_three w o1 o2 o3)))
  have HSa := hide (fun w1 (h : Below w.heap.size w w1) => Sign_any P va a w1 (ha.below h))
  have HSb := hide (fun w1 (h : Below w.heap.size w w1) => Sign_any P vb b w1 (hb.below h))
  have HQ0 : Hid (∀ t : Int, t = (a.natAbs : Int) / b.natAbs → (Int.sign a * Int.sign b = 1 ∨ Int.sign a * Int.sign b = -1) ∨ (Int.sign a * Int.sign b = 0 ∧ t = 0)) := fun t ht => by
    rcases Pl.sign_prod a b with h | ⟨h1, h2⟩
    · exact .inl h
    · refine .inr ⟨h1, ?_⟩
      rcases Int.mul_eq_zero.1 h2 with h | h
      · rw [ht, h]; simp
      · exact absurd h (by omega)
  have hsab : -1 ≤ Int.sign a * Int.sign b ∧ Int.sign a * Int.sign b ≤ 1 := by rcases Pl.sign_prod a b with (h | h) | ⟨h, _⟩ <;> omega
  have HFD := hide (Pl.fdiv_by_sign a b hb0)
  obtain ⟨sa, hsa⟩ : ∃ sa, Int.sign a = sa := ⟨_, rfl⟩
  obtain ⟨sb, hsb⟩ : ∃ sb, Int.sign b = sb := ⟨_, rfl⟩
  rw [hsa] at HSa
  rw [hsb] at HSb
  rw [hsa, hsb] at HQ0 hsab HFD
  obtain ⟨sab, hab⟩ : ∃ sab, sa * sb = sab := ⟨_, rfl⟩
  rw [hab] at hsab HFD
  have HQ : Hid (∀ t : Int, t = (a.natAbs : Int) / b.natAbs → (sab = 1 ∨ sab = -1) ∨ (sab = 0 ∧ t = 0)) := by rw [← hab]; exact uh HQ0
  have hwp : wrap64 (sa * sb) = sab := by rw [hab]; unfold wrap64; omega
  have hws : IntKind.i64.wrap sab = sab := by rcases (show sab = -1 ∨ sab = 0 ∨ sab = 1 by omega) with h | h | h <;> rw [h] <;> decide
  clear hsa hsb HQ0
  obtain ⟨x, ad, m, cap, rfl, hx1, hx2, hx3, hx4, hx5⟩ := ha.head2
  obtain ⟨y, ad2, m2, cap2, rfl, hy1, hy2, hy3, hy4, hy5⟩ := hb.head2
  have hy0 : (y == 0) = false := by simp; omega
  have HXY := hide (And.intro hx1 hy1)
  clear hx1 hx2 hy1 hy2
  by_cases hm : m = 0
  · have hm0 : m2 ≠ 0 := fun h => hbig ⟨by have := (hx5 hm).1; omega, by have := (hy5 h).1; omega⟩
    have hm1 : ((m : Int) == 0) = true := by simp [hm]
    have hm2 : ((m2 : Int) == 0) = false := by simp; omega
    clear hm hm0 hx5 hy5
    go_enter Try.func91, Try.ntmps91
    go_wp2_with fail
    refine (uh HPa _ _ _).mono ?_
    rintro e w1 ⟨sl1, l1, rfl, hi1, o1, v1, z1, hw1⟩
    have hPb := hide (parts_any P _ b w1 ((hb.below (below_three w _ _ _)).below hw1))
    have hlen1 := Pl.parts_len o1 v1 z1 hA
    have HO1 := hide (And.intro o1 v1)
    obtain ⟨ad1, cap1, rfl⟩ := ints_shape0 hi1
    have HI1 := hide hi1
    have HW1 := hide hw1
    obtain ⟨k1, k2⟩ := par_cells hw1 (par_two w _ _ _)
    clear hi1 o1 v1 z1 hw1 HPa
    go_wp2_with fail
    refine (uh hPb).mono ?_
    rintro e w2 ⟨sl2, l2, rfl, hi2, o2, v2, z2, hw2⟩
    have hlen2 := Pl.parts_len o2 v2 z2 hB
    have HO2 := hide (And.intro o2 v2)
    obtain ⟨ad2', cap2', rfl⟩ := ints_shape0 hi2
    have HL1 := hide ((uh HI1).below hw2)
    have HL2 := hide hi2
    have HW2 : Hid (Past w (.cells #[.int .i64 x, .slice ad m cap] 82) (.cells #[.int .i64 y, .slice ad2 m2 cap2] 82) (.cells #[.int .i64 0, .slice none 0 0] 82) w2) := Past.step (w1 := w1) (uh HW1) hw2
    obtain ⟨k3, k4⟩ := par_cells (uh HW2) (par_one w _ _ _)
    obtain ⟨k5, k6⟩ := par_cells (uh HW2) (par_two w _ _ _)
    clear k1 k2
    have HY0 : Hid (0 < l2.length ∧ Pl.dig l2 (l2.length - 1) ≠ 0) := Pl.parts_some v2 z2 hb0
    clear hi2 o2 v2 z2 hw2 HI1 HW1 hPb
    go_wp2_with fail
    refine (divLimbs_any l1 l2 _ _ _ (uh HL1) (uh HL2) (by omega) (by omega) (uh HO1).1 (uh HO2).1 (uh HY0).1 (uh HY0).2).mono ?_
    rintro e w3 ⟨v3, s, rfl, ho3, os, ls, hs, hw3⟩
    generalize hEV : decide (Pl.lv l1 % Pl.lv l2 = 0) = ev
    have HEV := hide hEV
    have HM := hide (And.intro ho3 (And.intro os (And.intro ls hs)))
    have HW3 : Hid (Past w (.cells #[.int .i64 x, .slice ad m cap] 82) (.cells #[.int .i64 y, .slice ad2 m2 cap2] 82) (.cells #[.int .i64 0, .slice none 0 0] 82) w3) := Past.step (uh HW2) hw3
    obtain ⟨ad3, cap3, rfl⟩ := ints_shape0 (ints_own ho3)
    have HB3 : Hid (Since w3 w3) := Since.refl w3
    clear ho3 os ls hs hw3 hEV
    go_wp2_with fail
    go_region_held (fun w' => w'.cell? ⟨w.heap.size, 0, none⟩ = some (.int .i64 x) ∧ w'.cell? ⟨w.heap.size, 1, none⟩ = some (.slice ad m cap) ∧ w'.cell? ⟨w.heap.size + 1, 0, none⟩ = some (.int .i64 y) ∧ w'.cell? ⟨w.heap.size + 1, 1, none⟩ = some (.slice ad2 m2 cap2)) (first | exact Past.held (Past.sets (uh HW6) (uh HG).1 _ _) | exact Past.held (o3 := .cells #[.int .i64 0, .slice none 0 0] 82) (by repeat (first | exact uh HW6 | exact uh HW5 | exact uh HW4 | exact uh HW3 | refine Past.drew ?_ | refine Past.alloc ?_ _))) (first
      | (go_at_call_of 81 (Value.agg #[Value.int .i64 x, Value.slice ad m cap]); refine (uh HSa _ (Past.below (o1 := .cells #[.int .i64 x, .slice ad m cap] 82) (o2 := .cells #[.int .i64 y, .slice ad2 m2 cap2] 82) (o3 := .cells #[.int .i64 0, .slice none 0 0] 82) (by repeat (first | exact uh HW3 | refine Past.drew ?_ | refine Past.alloc ?_ _)))).mono ?_; rintro e w4 ⟨rfl, hw4⟩; have HW4 : Hid (Past w (.cells #[.int .i64 x, .slice ad m cap] 82) (.cells #[.int .i64 y, .slice ad2 m2 cap2] 82) (.cells #[.int .i64 0, .slice none 0 0] 82) w4) := Past.step (by repeat (first | exact uh HW3 | refine Past.drew ?_ | refine Past.alloc ?_ _)) hw4; have HB4 : Hid (Since w3 w4) := Since.step (by repeat (first | exact uh HB3 | exact Since.refl _ | refine Since.drew ?_ | refine Since.alloc ?_ _)) hw4; have HK4 := hide (Below.same hw4); clear hw4)
      | (go_at_call_of 81 (Value.agg #[Value.int .i64 y, Value.slice ad2 m2 cap2]); refine (uh HSb _ (Past.below (o1 := .cells #[.int .i64 x, .slice ad m cap] 82) (o2 := .cells #[.int .i64 y, .slice ad2 m2 cap2] 82) (o3 := .cells #[.int .i64 0, .slice none 0 0] 82) (by repeat (first | exact uh HW4 | refine Past.drew ?_ | refine Past.alloc ?_ _)))).mono ?_; rintro e w5 ⟨rfl, hw5⟩; have HW5 : Hid (Past w (.cells #[.int .i64 x, .slice ad m cap] 82) (.cells #[.int .i64 y, .slice ad2 m2 cap2] 82) (.cells #[.int .i64 0, .slice none 0 0] 82) w5) := Past.step (by repeat (first | exact uh HW4 | refine Past.drew ?_ | refine Past.alloc ?_ _)) hw5; have HB5 : Hid (Since w3 w5) := Since.step (by repeat (first | exact uh HB4 | exact Since.refl _ | refine Since.drew ?_ | refine Since.alloc ?_ _)) hw5; have HK5 := hide (Below.same hw5); clear hw5)
      | (go_at_call 125; (try rw [hws]); refine (made_any P sab s _ w2.heap.size _ (Since.own (by repeat (first | exact uh HB5 | exact Since.refl _ | refine Since.drew ?_ | refine Since.alloc ?_ _)) (uh HM).1) (fun b hb => hP b (by have := (Past.below (uh HW2)).size; omega)) (uh HM).2.1 (by have := (uh HM).2.2.1; omega) (uh HQ _ (by rw [(uh HM).2.2.2, (uh HO1).2, (uh HO2).2]))).mono ?_; rintro e w6 ⟨v', rfl, hv, hw6⟩; have HW6 : Hid (Past w (.cells #[.int .i64 x, .slice ad m cap] 82) (.cells #[.int .i64 y, .slice ad2 m2 cap2] 82) (.cells #[.int .i64 0, .slice none 0 0] 82) w6) := Past.step (by repeat (first | exact uh HW5 | refine Past.drew ?_ | refine Past.alloc ?_ _)) hw6; have HK6 := hide (Below.same hw6); rw [show sab * Pl.lv s = sab * ((a.natAbs : Int) / b.natAbs) by rw [(uh HM).2.2.2, (uh HO1).2, (uh HO2).2]] at hv; have HQV := hide hv; obtain ⟨x4, ad4, m4, cap4, rfl, _⟩ := hv.head
         (first
          | (have HG : Hid (Fresh w (.cells #[.int .i64 x, .slice ad m cap] 82) (.cells #[.int .i64 y, .slice ad2 m2 cap2] 82) (.cells #[.int .i64 0, .slice none 0 0] 82) w5.heap.size w6) := Fresh.mk (uh HW5) (Nat.le_refl _) (uh HK6 _ _ (slot_one w5 (.cells #[.int .i64 0, .slice none 0 0] 82)))
             obtain ⟨gc0, gc1, gf0, gf1⟩ := slot_of (uh HG).2)
          | (have HG : Hid (Fresh w (.cells #[.int .i64 x, .slice ad m cap] 82) (.cells #[.int .i64 y, .slice ad2 m2 cap2] 82) (.cells #[.int .i64 0, .slice none 0 0] 82) w4.heap.size w6) := Fresh.mk (uh HW4) (Nat.le_refl _) (uh HK6 _ _ (uh HK5 _ _ (slot_one w4 (.cells #[.int .i64 0, .slice none 0 0] 82))))
             obtain ⟨gc0, gc1, gf0, gf1⟩ := slot_of (uh HG).2)
          | (have HG : Hid (Fresh w (.cells #[.int .i64 x, .slice ad m cap] 82) (.cells #[.int .i64 y, .slice ad2 m2 cap2] 82) (.cells #[.int .i64 0, .slice none 0 0] 82) w3.heap.size w6) := Fresh.mk (uh HW3) (Nat.le_refl _) (uh HK6 _ _ (uh HK5 _ _ (uh HK4 _ _ (slot_one w3.drew (.cells #[.int .i64 0, .slice none 0 0] 82)))))
             obtain ⟨gc0, gc1, gf0, gf1⟩ := slot_of (uh HG).2)
          | skip)
         clear hv hw6))
    all_goals
      first
        | (have HW7 := hide (Past.sets (uh HW6) (uh HG).1 (.int .i64 x4) (.slice ad4 m4 cap4))
           have HQ7 := hide ((uh HQV).sets (uh HG).2 (.int .i64 x4) (.slice ad4 m4 cap4))
           obtain ⟨n1, n2, n3, n4, n5, n6⟩ := Fresh.ne (uh HG)
           obtain ⟨j1, j2, j3, j4⟩ := Past.held (uh HW6)
           obtain ⟨x6, ad6, m6, cap6, he0, c0, c1, f0, f1, HF0⟩ := result_slot (below_three w (.cells #[.int .i64 x, .slice ad m cap] 82) (.cells #[.int .i64 y, .slice ad2 m2 cap2] 82) (.cells #[.int .i64 0, .slice none 0 0] 82)) (uh HW6) (slot_three w _ _ _) (by omega) (uh HQV)
           cases he0
           clear HF0)
        | (have HW7 := hide (Past.alloc (uh HW6) (.cells #[.int .i64 x4, .slice ad4 m4 cap4] 82))
           have HQ7 := hide ((uh HQV).below ((Below.refl _ w6).alloc (Nat.le_refl _) (.cells #[.int .i64 x4, .slice ad4 m4 cap4] 82)))
           obtain ⟨j1, j2, j3, j4⟩ := Past.held (uh HW7)
           obtain ⟨x6, ad6, m6, cap6, he0, c0, c1, f0, f1, HF0⟩ := result_slot (below_three w (.cells #[.int .i64 x, .slice ad m cap] 82) (.cells #[.int .i64 y, .slice ad2 m2 cap2] 82) (.cells #[.int .i64 0, .slice none 0 0] 82)) (uh HW7) (slot_three w _ _ _) (by omega) (uh HQ7)
           cases he0
           clear HF0)
      have hlv : Pl.lv l1 % Pl.lv l2 = (a.natAbs : Int) % b.natAbs := by rw [(uh HO1).2, (uh HO2).2]
      cases ev with
      | true =>
        have hev : Pl.lv l1 % Pl.lv l2 = 0 := of_decide_eq_true (uh HEV)
        have hR : Int.fdiv a b = sab * ((a.natAbs : Int) / b.natAbs) := by rw [uh HFD, if_pos (.inl (by rw [← hlv]; exact hev))]
        clear hev hlv
        obtain ⟨x5, ad5, m5, cap5, he, _, _, _, _, HF⟩ := result_slot (below_three w (.cells #[.int .i64 x, .slice ad m cap] 82) (.cells #[.int .i64 y, .slice ad2 m2 cap2] 82) (.cells #[.int .i64 0, .slice none 0 0] 82)) (uh HW7) (slot_three w _ _ _) (by omega) (uh HQ7)
        cases he
        clear HM HW6 HQV HB5 HB4 HW5 HW4 HW3 HL1 HL2 HSa HSb
        go_wp2
        exact bodyPost_ret (v := .agg #[.int .i64 x4, .slice ad4 m4 cap4]) (by simp [results, Try.results91, go_sem, (uh HF).2.2.1, (uh HF).2.2.2]) rfl ⟨_, rfl, by rw [hR]; exact (uh HF).1, (uh HF).2.1⟩
      | false =>
        have hev : ¬ Pl.lv l1 % Pl.lv l2 = 0 := of_decide_eq_false (uh HEV)
        rcases (show (x < 0 ∧ y < 0) ∨ (¬ x < 0 ∧ ¬ y < 0) ∨ (x < 0 ∧ ¬ y < 0) ∨ (¬ x < 0 ∧ y < 0) by omega) with ⟨hsx, hsy⟩ | ⟨hsx, hsy⟩ | ⟨hsx, hsy⟩ | ⟨hsx, hsy⟩
        · have hdx : decide (x < 0) = true := by simp; omega
          have hdy : decide (y < 0) = true := by simp; omega
          have hR : Int.fdiv a b = sab * ((a.natAbs : Int) / b.natAbs) := by
            have hx1 := (uh HXY).1
            have hy1 := (uh HXY).2
            rw [uh HFD, if_pos (.inr ⟨fun h => by omega, fun h => by omega⟩)]
          clear hev hlv hsx hsy
          obtain ⟨x5, ad5, m5, cap5, he, _, _, _, _, HF⟩ := result_slot (below_three w (.cells #[.int .i64 x, .slice ad m cap] 82) (.cells #[.int .i64 y, .slice ad2 m2 cap2] 82) (.cells #[.int .i64 0, .slice none 0 0] 82)) (uh HW7) (slot_three w _ _ _) (by omega) (uh HQ7)
          cases he
          clear HM HW6 HQV HB5 HB4 HW5 HW4 HW3 HL1 HL2 HSa HSb
          go_wp2
          exact bodyPost_ret (v := .agg #[.int .i64 x4, .slice ad4 m4 cap4]) (by simp [results, Try.results91, go_sem, (uh HF).2.2.1, (uh HF).2.2.2]) rfl ⟨_, rfl, by rw [hR]; exact (uh HF).1, (uh HF).2.1⟩
        · have hdx : decide (x < 0) = false := by simp; omega
          have hdy : decide (y < 0) = false := by simp; omega
          have hR : Int.fdiv a b = sab * ((a.natAbs : Int) / b.natAbs) := by
            have hx1 := (uh HXY).1
            have hy1 := (uh HXY).2
            rw [uh HFD, if_pos (.inr ⟨fun h => by omega, fun h => by omega⟩)]
          clear hev hlv hsx hsy
          obtain ⟨x5, ad5, m5, cap5, he, _, _, _, _, HF⟩ := result_slot (below_three w (.cells #[.int .i64 x, .slice ad m cap] 82) (.cells #[.int .i64 y, .slice ad2 m2 cap2] 82) (.cells #[.int .i64 0, .slice none 0 0] 82)) (uh HW7) (slot_three w _ _ _) (by omega) (uh HQ7)
          cases he
          clear HM HW6 HQV HB5 HB4 HW5 HW4 HW3 HL1 HL2 HSa HSb
          go_wp2
          exact bodyPost_ret (v := .agg #[.int .i64 x4, .slice ad4 m4 cap4]) (by simp [results, Try.results91, go_sem, (uh HF).2.2.1, (uh HF).2.2.2]) rfl ⟨_, rfl, by rw [hR]; exact (uh HF).1, (uh HF).2.1⟩
        · have hdx : decide (x < 0) = true := by simp; omega
          have hdy : decide (y < 0) = false := by simp; omega
          have hR : Int.fdiv a b = sab * ((a.natAbs : Int) / b.natAbs) - 1 := by
            have hx1 := (uh HXY).1
            have hy1 := (uh HXY).2
            rw [uh HFD, if_neg (fun h => by
            rcases h with h | h
            · exact hev (by rw [hlv]; exact h)
            · omega)]
          have HN := hide (Pl.quot_small hsab hA hb0)
          have HN1 := hide (Pl.one_small hb0 hB)
          clear hev hlv hsx hsy
          clear HM HW6 HQV HB5 HB4 HW5 HW4 HW3 HL1 HL2 HSa HSb
          go_wp2_with fail
          refine (Sub_any P K (sab * ((a.natAbs : Int) / b.natAbs)) 1 _ _ _ (fun b hb => hP b (by have := (Past.below (uh HW7)).size; omega)) (uh HQ7) (.inl ⟨rfl, by decide, by decide⟩) hK (uh HN) (uh HN1)).mono ?_
          rintro e w8 ⟨v8, rfl, hv8, hw8⟩
          rw [← hR] at hv8
          obtain ⟨x5, ad5, m5, cap5, rfl, c0', c1', f0', f1', HF⟩ := result_slot (below_three w (.cells #[.int .i64 x, .slice ad m cap] 82) (.cells #[.int .i64 y, .slice ad2 m2 cap2] 82) (.cells #[.int .i64 0, .slice none 0 0] 82)) (Past.step (uh HW7) hw8) (slot_three w _ _ _) (by omega) hv8
          clear hv8 hw8 HQ7 HW7
          go_wp2
          exact bodyPost_ret (v := .agg #[.int .i64 x5, .slice ad5 m5 cap5]) (by simp [results, Try.results91, go_sem, (uh HF).2.2.1, (uh HF).2.2.2]) rfl ⟨_, rfl, (uh HF).1, (uh HF).2.1⟩
        · have hdx : decide (x < 0) = false := by simp; omega
          have hdy : decide (y < 0) = true := by simp; omega
          have hR : Int.fdiv a b = sab * ((a.natAbs : Int) / b.natAbs) - 1 := by
            have hx1 := (uh HXY).1
            have hy1 := (uh HXY).2
            rw [uh HFD, if_neg (fun h => by
            rcases h with h | h
            · exact hev (by rw [hlv]; exact h)
            · omega)]
          have HN := hide (Pl.quot_small hsab hA hb0)
          have HN1 := hide (Pl.one_small hb0 hB)
          clear hev hlv hsx hsy
          clear HM HW6 HQV HB5 HB4 HW5 HW4 HW3 HL1 HL2 HSa HSb
          go_wp2_with fail
          refine (Sub_any P K (sab * ((a.natAbs : Int) / b.natAbs)) 1 _ _ _ (fun b hb => hP b (by have := (Past.below (uh HW7)).size; omega)) (uh HQ7) (.inl ⟨rfl, by decide, by decide⟩) hK (uh HN) (uh HN1)).mono ?_
          rintro e w8 ⟨v8, rfl, hv8, hw8⟩
          rw [← hR] at hv8
          obtain ⟨x5, ad5, m5, cap5, rfl, c0', c1', f0', f1', HF⟩ := result_slot (below_three w (.cells #[.int .i64 x, .slice ad m cap] 82) (.cells #[.int .i64 y, .slice ad2 m2 cap2] 82) (.cells #[.int .i64 0, .slice none 0 0] 82)) (Past.step (uh HW7) hw8) (slot_three w _ _ _) (by omega) hv8
          clear hv8 hw8 HQ7 HW7
          go_wp2
          exact bodyPost_ret (v := .agg #[.int .i64 x5, .slice ad5 m5 cap5]) (by simp [results, Try.results91, go_sem, (uh HF).2.2.1, (uh HF).2.2.2]) rfl ⟨_, rfl, (uh HF).1, (uh HF).2.1⟩
  · have hm1 : ((m : Int) == 0) = false := by simp; omega
    clear hm hx5 hy5
    go_enter Try.func91, Try.ntmps91
    go_wp2_with fail
    refine (uh HPa _ _ _).mono ?_
    rintro e w1 ⟨sl1, l1, rfl, hi1, o1, v1, z1, hw1⟩
    have hPb := hide (parts_any P _ b w1 ((hb.below (below_three w _ _ _)).below hw1))
    have hlen1 := Pl.parts_len o1 v1 z1 hA
    have HO1 := hide (And.intro o1 v1)
    obtain ⟨ad1, cap1, rfl⟩ := ints_shape0 hi1
    have HI1 := hide hi1
    have HW1 := hide hw1
    obtain ⟨k1, k2⟩ := par_cells hw1 (par_two w _ _ _)
    clear hi1 o1 v1 z1 hw1 HPa
    go_wp2_with fail
    refine (uh hPb).mono ?_
    rintro e w2 ⟨sl2, l2, rfl, hi2, o2, v2, z2, hw2⟩
    have hlen2 := Pl.parts_len o2 v2 z2 hB
    have HO2 := hide (And.intro o2 v2)
    obtain ⟨ad2', cap2', rfl⟩ := ints_shape0 hi2
    have HL1 := hide ((uh HI1).below hw2)
    have HL2 := hide hi2
    have HW2 : Hid (Past w (.cells #[.int .i64 x, .slice ad m cap] 82) (.cells #[.int .i64 y, .slice ad2 m2 cap2] 82) (.cells #[.int .i64 0, .slice none 0 0] 82) w2) := Past.step (w1 := w1) (uh HW1) hw2
    obtain ⟨k3, k4⟩ := par_cells (uh HW2) (par_one w _ _ _)
    obtain ⟨k5, k6⟩ := par_cells (uh HW2) (par_two w _ _ _)
    clear k1 k2
    have HY0 : Hid (0 < l2.length ∧ Pl.dig l2 (l2.length - 1) ≠ 0) := Pl.parts_some v2 z2 hb0
    clear hi2 o2 v2 z2 hw2 HI1 HW1 hPb
    go_wp2_with fail
    refine (divLimbs_any l1 l2 _ _ _ (uh HL1) (uh HL2) (by omega) (by omega) (uh HO1).1 (uh HO2).1 (uh HY0).1 (uh HY0).2).mono ?_
    rintro e w3 ⟨v3, s, rfl, ho3, os, ls, hs, hw3⟩
    generalize hEV : decide (Pl.lv l1 % Pl.lv l2 = 0) = ev
    have HEV := hide hEV
    have HM := hide (And.intro ho3 (And.intro os (And.intro ls hs)))
    have HW3 : Hid (Past w (.cells #[.int .i64 x, .slice ad m cap] 82) (.cells #[.int .i64 y, .slice ad2 m2 cap2] 82) (.cells #[.int .i64 0, .slice none 0 0] 82) w3) := Past.step (uh HW2) hw3
    obtain ⟨ad3, cap3, rfl⟩ := ints_shape0 (ints_own ho3)
    have HB3 : Hid (Since w3 w3) := Since.refl w3
    clear ho3 os ls hs hw3 hEV
    go_wp2_with fail
    go_region_held (fun w' => w'.cell? ⟨w.heap.size, 0, none⟩ = some (.int .i64 x) ∧ w'.cell? ⟨w.heap.size, 1, none⟩ = some (.slice ad m cap) ∧ w'.cell? ⟨w.heap.size + 1, 0, none⟩ = some (.int .i64 y) ∧ w'.cell? ⟨w.heap.size + 1, 1, none⟩ = some (.slice ad2 m2 cap2)) (first | exact Past.held (Past.sets (uh HW6) (uh HG).1 _ _) | exact Past.held (o3 := .cells #[.int .i64 0, .slice none 0 0] 82) (by repeat (first | exact uh HW6 | exact uh HW5 | exact uh HW4 | exact uh HW3 | refine Past.drew ?_ | refine Past.alloc ?_ _))) (first
      | (go_at_call_of 81 (Value.agg #[Value.int .i64 x, Value.slice ad m cap]); refine (uh HSa _ (Past.below (o1 := .cells #[.int .i64 x, .slice ad m cap] 82) (o2 := .cells #[.int .i64 y, .slice ad2 m2 cap2] 82) (o3 := .cells #[.int .i64 0, .slice none 0 0] 82) (by repeat (first | exact uh HW3 | refine Past.drew ?_ | refine Past.alloc ?_ _)))).mono ?_; rintro e w4 ⟨rfl, hw4⟩; have HW4 : Hid (Past w (.cells #[.int .i64 x, .slice ad m cap] 82) (.cells #[.int .i64 y, .slice ad2 m2 cap2] 82) (.cells #[.int .i64 0, .slice none 0 0] 82) w4) := Past.step (by repeat (first | exact uh HW3 | refine Past.drew ?_ | refine Past.alloc ?_ _)) hw4; have HB4 : Hid (Since w3 w4) := Since.step (by repeat (first | exact uh HB3 | exact Since.refl _ | refine Since.drew ?_ | refine Since.alloc ?_ _)) hw4; have HK4 := hide (Below.same hw4); clear hw4)
      | (go_at_call_of 81 (Value.agg #[Value.int .i64 y, Value.slice ad2 m2 cap2]); refine (uh HSb _ (Past.below (o1 := .cells #[.int .i64 x, .slice ad m cap] 82) (o2 := .cells #[.int .i64 y, .slice ad2 m2 cap2] 82) (o3 := .cells #[.int .i64 0, .slice none 0 0] 82) (by repeat (first | exact uh HW4 | refine Past.drew ?_ | refine Past.alloc ?_ _)))).mono ?_; rintro e w5 ⟨rfl, hw5⟩; have HW5 : Hid (Past w (.cells #[.int .i64 x, .slice ad m cap] 82) (.cells #[.int .i64 y, .slice ad2 m2 cap2] 82) (.cells #[.int .i64 0, .slice none 0 0] 82) w5) := Past.step (by repeat (first | exact uh HW4 | refine Past.drew ?_ | refine Past.alloc ?_ _)) hw5; have HB5 : Hid (Since w3 w5) := Since.step (by repeat (first | exact uh HB4 | exact Since.refl _ | refine Since.drew ?_ | refine Since.alloc ?_ _)) hw5; have HK5 := hide (Below.same hw5); clear hw5)
      | (go_at_call 125; (try rw [hws]); refine (made_any P sab s _ w2.heap.size _ (Since.own (by repeat (first | exact uh HB5 | exact Since.refl _ | refine Since.drew ?_ | refine Since.alloc ?_ _)) (uh HM).1) (fun b hb => hP b (by have := (Past.below (uh HW2)).size; omega)) (uh HM).2.1 (by have := (uh HM).2.2.1; omega) (uh HQ _ (by rw [(uh HM).2.2.2, (uh HO1).2, (uh HO2).2]))).mono ?_; rintro e w6 ⟨v', rfl, hv, hw6⟩; have HW6 : Hid (Past w (.cells #[.int .i64 x, .slice ad m cap] 82) (.cells #[.int .i64 y, .slice ad2 m2 cap2] 82) (.cells #[.int .i64 0, .slice none 0 0] 82) w6) := Past.step (by repeat (first | exact uh HW5 | refine Past.drew ?_ | refine Past.alloc ?_ _)) hw6; have HK6 := hide (Below.same hw6); rw [show sab * Pl.lv s = sab * ((a.natAbs : Int) / b.natAbs) by rw [(uh HM).2.2.2, (uh HO1).2, (uh HO2).2]] at hv; have HQV := hide hv; obtain ⟨x4, ad4, m4, cap4, rfl, _⟩ := hv.head
         (first
          | (have HG : Hid (Fresh w (.cells #[.int .i64 x, .slice ad m cap] 82) (.cells #[.int .i64 y, .slice ad2 m2 cap2] 82) (.cells #[.int .i64 0, .slice none 0 0] 82) w5.heap.size w6) := Fresh.mk (uh HW5) (Nat.le_refl _) (uh HK6 _ _ (slot_one w5 (.cells #[.int .i64 0, .slice none 0 0] 82)))
             obtain ⟨gc0, gc1, gf0, gf1⟩ := slot_of (uh HG).2)
          | (have HG : Hid (Fresh w (.cells #[.int .i64 x, .slice ad m cap] 82) (.cells #[.int .i64 y, .slice ad2 m2 cap2] 82) (.cells #[.int .i64 0, .slice none 0 0] 82) w4.heap.size w6) := Fresh.mk (uh HW4) (Nat.le_refl _) (uh HK6 _ _ (uh HK5 _ _ (slot_one w4 (.cells #[.int .i64 0, .slice none 0 0] 82))))
             obtain ⟨gc0, gc1, gf0, gf1⟩ := slot_of (uh HG).2)
          | (have HG : Hid (Fresh w (.cells #[.int .i64 x, .slice ad m cap] 82) (.cells #[.int .i64 y, .slice ad2 m2 cap2] 82) (.cells #[.int .i64 0, .slice none 0 0] 82) w3.heap.size w6) := Fresh.mk (uh HW3) (Nat.le_refl _) (uh HK6 _ _ (uh HK5 _ _ (uh HK4 _ _ (slot_one w3.drew (.cells #[.int .i64 0, .slice none 0 0] 82)))))
             obtain ⟨gc0, gc1, gf0, gf1⟩ := slot_of (uh HG).2)
          | skip)
         clear hv hw6))
    all_goals
      first
        | (have HW7 := hide (Past.sets (uh HW6) (uh HG).1 (.int .i64 x4) (.slice ad4 m4 cap4))
           have HQ7 := hide ((uh HQV).sets (uh HG).2 (.int .i64 x4) (.slice ad4 m4 cap4))
           obtain ⟨n1, n2, n3, n4, n5, n6⟩ := Fresh.ne (uh HG)
           obtain ⟨j1, j2, j3, j4⟩ := Past.held (uh HW6)
           obtain ⟨x6, ad6, m6, cap6, he0, c0, c1, f0, f1, HF0⟩ := result_slot (below_three w (.cells #[.int .i64 x, .slice ad m cap] 82) (.cells #[.int .i64 y, .slice ad2 m2 cap2] 82) (.cells #[.int .i64 0, .slice none 0 0] 82)) (uh HW6) (slot_three w _ _ _) (by omega) (uh HQV)
           cases he0
           clear HF0)
        | (have HW7 := hide (Past.alloc (uh HW6) (.cells #[.int .i64 x4, .slice ad4 m4 cap4] 82))
           have HQ7 := hide ((uh HQV).below ((Below.refl _ w6).alloc (Nat.le_refl _) (.cells #[.int .i64 x4, .slice ad4 m4 cap4] 82)))
           obtain ⟨j1, j2, j3, j4⟩ := Past.held (uh HW7)
           obtain ⟨x6, ad6, m6, cap6, he0, c0, c1, f0, f1, HF0⟩ := result_slot (below_three w (.cells #[.int .i64 x, .slice ad m cap] 82) (.cells #[.int .i64 y, .slice ad2 m2 cap2] 82) (.cells #[.int .i64 0, .slice none 0 0] 82)) (uh HW7) (slot_three w _ _ _) (by omega) (uh HQ7)
           cases he0
           clear HF0)
      have hlv : Pl.lv l1 % Pl.lv l2 = (a.natAbs : Int) % b.natAbs := by rw [(uh HO1).2, (uh HO2).2]
      cases ev with
      | true =>
        have hev : Pl.lv l1 % Pl.lv l2 = 0 := of_decide_eq_true (uh HEV)
        have hR : Int.fdiv a b = sab * ((a.natAbs : Int) / b.natAbs) := by rw [uh HFD, if_pos (.inl (by rw [← hlv]; exact hev))]
        clear hev hlv
        obtain ⟨x5, ad5, m5, cap5, he, _, _, _, _, HF⟩ := result_slot (below_three w (.cells #[.int .i64 x, .slice ad m cap] 82) (.cells #[.int .i64 y, .slice ad2 m2 cap2] 82) (.cells #[.int .i64 0, .slice none 0 0] 82)) (uh HW7) (slot_three w _ _ _) (by omega) (uh HQ7)
        cases he
        clear HM HW6 HQV HB5 HB4 HW5 HW4 HW3 HL1 HL2 HSa HSb
        go_wp2
        exact bodyPost_ret (v := .agg #[.int .i64 x4, .slice ad4 m4 cap4]) (by simp [results, Try.results91, go_sem, (uh HF).2.2.1, (uh HF).2.2.2]) rfl ⟨_, rfl, by rw [hR]; exact (uh HF).1, (uh HF).2.1⟩
      | false =>
        have hev : ¬ Pl.lv l1 % Pl.lv l2 = 0 := of_decide_eq_false (uh HEV)
        rcases (show (x < 0 ∧ y < 0) ∨ (¬ x < 0 ∧ ¬ y < 0) ∨ (x < 0 ∧ ¬ y < 0) ∨ (¬ x < 0 ∧ y < 0) by omega) with ⟨hsx, hsy⟩ | ⟨hsx, hsy⟩ | ⟨hsx, hsy⟩ | ⟨hsx, hsy⟩
        · have hdx : decide (x < 0) = true := by simp; omega
          have hdy : decide (y < 0) = true := by simp; omega
          have hR : Int.fdiv a b = sab * ((a.natAbs : Int) / b.natAbs) := by
            have hx1 := (uh HXY).1
            have hy1 := (uh HXY).2
            rw [uh HFD, if_pos (.inr ⟨fun h => by omega, fun h => by omega⟩)]
          clear hev hlv hsx hsy
          obtain ⟨x5, ad5, m5, cap5, he, _, _, _, _, HF⟩ := result_slot (below_three w (.cells #[.int .i64 x, .slice ad m cap] 82) (.cells #[.int .i64 y, .slice ad2 m2 cap2] 82) (.cells #[.int .i64 0, .slice none 0 0] 82)) (uh HW7) (slot_three w _ _ _) (by omega) (uh HQ7)
          cases he
          clear HM HW6 HQV HB5 HB4 HW5 HW4 HW3 HL1 HL2 HSa HSb
          go_wp2
          exact bodyPost_ret (v := .agg #[.int .i64 x4, .slice ad4 m4 cap4]) (by simp [results, Try.results91, go_sem, (uh HF).2.2.1, (uh HF).2.2.2]) rfl ⟨_, rfl, by rw [hR]; exact (uh HF).1, (uh HF).2.1⟩
        · have hdx : decide (x < 0) = false := by simp; omega
          have hdy : decide (y < 0) = false := by simp; omega
          have hR : Int.fdiv a b = sab * ((a.natAbs : Int) / b.natAbs) := by
            have hx1 := (uh HXY).1
            have hy1 := (uh HXY).2
            rw [uh HFD, if_pos (.inr ⟨fun h => by omega, fun h => by omega⟩)]
          clear hev hlv hsx hsy
          obtain ⟨x5, ad5, m5, cap5, he, _, _, _, _, HF⟩ := result_slot (below_three w (.cells #[.int .i64 x, .slice ad m cap] 82) (.cells #[.int .i64 y, .slice ad2 m2 cap2] 82) (.cells #[.int .i64 0, .slice none 0 0] 82)) (uh HW7) (slot_three w _ _ _) (by omega) (uh HQ7)
          cases he
          clear HM HW6 HQV HB5 HB4 HW5 HW4 HW3 HL1 HL2 HSa HSb
          go_wp2
          exact bodyPost_ret (v := .agg #[.int .i64 x4, .slice ad4 m4 cap4]) (by simp [results, Try.results91, go_sem, (uh HF).2.2.1, (uh HF).2.2.2]) rfl ⟨_, rfl, by rw [hR]; exact (uh HF).1, (uh HF).2.1⟩
        · have hdx : decide (x < 0) = true := by simp; omega
          have hdy : decide (y < 0) = false := by simp; omega
          have hR : Int.fdiv a b = sab * ((a.natAbs : Int) / b.natAbs) - 1 := by
            have hx1 := (uh HXY).1
            have hy1 := (uh HXY).2
            rw [uh HFD, if_neg (fun h => by
            rcases h with h | h
            · exact hev (by rw [hlv]; exact h)
            · omega)]
          have HN := hide (Pl.quot_small hsab hA hb0)
          have HN1 := hide (Pl.one_small hb0 hB)
          clear hev hlv hsx hsy
          clear HM HW6 HQV HB5 HB4 HW5 HW4 HW3 HL1 HL2 HSa HSb
          go_wp2_with fail
          refine (Sub_any P K (sab * ((a.natAbs : Int) / b.natAbs)) 1 _ _ _ (fun b hb => hP b (by have := (Past.below (uh HW7)).size; omega)) (uh HQ7) (.inl ⟨rfl, by decide, by decide⟩) hK (uh HN) (uh HN1)).mono ?_
          rintro e w8 ⟨v8, rfl, hv8, hw8⟩
          rw [← hR] at hv8
          obtain ⟨x5, ad5, m5, cap5, rfl, c0', c1', f0', f1', HF⟩ := result_slot (below_three w (.cells #[.int .i64 x, .slice ad m cap] 82) (.cells #[.int .i64 y, .slice ad2 m2 cap2] 82) (.cells #[.int .i64 0, .slice none 0 0] 82)) (Past.step (uh HW7) hw8) (slot_three w _ _ _) (by omega) hv8
          clear hv8 hw8 HQ7 HW7
          go_wp2
          exact bodyPost_ret (v := .agg #[.int .i64 x5, .slice ad5 m5 cap5]) (by simp [results, Try.results91, go_sem, (uh HF).2.2.1, (uh HF).2.2.2]) rfl ⟨_, rfl, (uh HF).1, (uh HF).2.1⟩
        · have hdx : decide (x < 0) = false := by simp; omega
          have hdy : decide (y < 0) = true := by simp; omega
          have hR : Int.fdiv a b = sab * ((a.natAbs : Int) / b.natAbs) - 1 := by
            have hx1 := (uh HXY).1
            have hy1 := (uh HXY).2
            rw [uh HFD, if_neg (fun h => by
            rcases h with h | h
            · exact hev (by rw [hlv]; exact h)
            · omega)]
          have HN := hide (Pl.quot_small hsab hA hb0)
          have HN1 := hide (Pl.one_small hb0 hB)
          clear hev hlv hsx hsy
          clear HM HW6 HQV HB5 HB4 HW5 HW4 HW3 HL1 HL2 HSa HSb
          go_wp2_with fail
          refine (Sub_any P K (sab * ((a.natAbs : Int) / b.natAbs)) 1 _ _ _ (fun b hb => hP b (by have := (Past.below (uh HW7)).size; omega)) (uh HQ7) (.inl ⟨rfl, by decide, by decide⟩) hK (uh HN) (uh HN1)).mono ?_
          rintro e w8 ⟨v8, rfl, hv8, hw8⟩
          rw [← hR] at hv8
          obtain ⟨x5, ad5, m5, cap5, rfl, c0', c1', f0', f1', HF⟩ := result_slot (below_three w (.cells #[.int .i64 x, .slice ad m cap] 82) (.cells #[.int .i64 y, .slice ad2 m2 cap2] 82) (.cells #[.int .i64 0, .slice none 0 0] 82)) (Past.step (uh HW7) hw8) (slot_three w _ _ _) (by omega) hv8
          clear hv8 hw8 HQ7 HW7
          go_wp2
          exact bodyPost_ret (v := .agg #[.int .i64 x5, .slice ad5 m5 cap5]) (by simp [results, Try.results91, go_sem, (uh HF).2.2.1, (uh HF).2.2.2]) rfl ⟨_, rfl, (uh HF).1, (uh HF).2.1⟩
end Go.Proofs.Ytfaljekgpnbmiaa
