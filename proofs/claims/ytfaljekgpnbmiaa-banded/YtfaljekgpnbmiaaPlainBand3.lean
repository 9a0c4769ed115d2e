/-
  What the table of the text comes to: 0 at its first threshold; from each number to the next it grows by the band's rate.
-/
import Derived.Test.YtfaljekgpnbmiaaPlainBand2
import Derived.Test.YtfaljekgpnbmiaaPlainRead
namespace Go.Proofs.Ytfaljekgpnbmiaa.Pl
open Go.RowKit

theorem wrap_id (n : Int) (h : -9223372036854775808 ≤ n) (h' : n ≤ 9223372036854775807) : wrap64 n = n := by unfold wrap64; omega
theorem absW_small (n : Int) (h : -1000000000 ≤ n) (h' : n ≤ 1000000000) : absW n = if n < 0 then -n else n := by
  unfold absW; split
  · exact wrap_id _ (by omega) (by omega)
  · rfl
/-- Bands whose thresholds lie up to 200000 apart from 0, whose rates lie up to 1000. -/
def Small (l : List (Int × Int)) : Prop := ∀ p ∈ l, -200000 ≤ p.1 ∧ p.1 ≤ 200000 ∧ -1000 ≤ p.2 ∧ p.2 ≤ 1000
theorem mul_bd (a b A B : Int) (ha : -A ≤ a) (ha' : a ≤ A) (hb : 0 ≤ b) (hb' : b ≤ B) (hA : 0 ≤ A) : -(A * B) ≤ a * b ∧ a * b ≤ A * B := by
  have h1 : a * b ≤ A * b := Int.mul_le_mul_of_nonneg_right ha' hb
  have h2 : (-A) * b ≤ a * b := Int.mul_le_mul_of_nonneg_right ha hb
  have h3 : A * b ≤ A * B := Int.mul_le_mul_of_nonneg_left hb' hA
  rw [Int.neg_mul] at h2
  omega
theorem bound_small (l : List (Int × Int)) : ∀ acc : Int, 0 ≤ acc → acc + 400000000 * l.length ≤ 1000000000000 → Small l → 0 ≤ bandBoundFrom 200000 l acc ∧ bandBoundFrom 200000 l acc ≤ acc + 400000000 * l.length := by
  induction l with
  | nil => intro acc h1 _ _; simp [bandBoundFrom]; exact h1
  | cons p l ih =>
    intro acc h1 h2 hs
    obtain ⟨t1, t2, r1, r2⟩ := hs p (by simp)
    rw [bandBoundFrom, absW_small p.2 (by omega) (by omega), absW_small p.1 (by omega) (by omega)]
    have e1 : wrap64 (200000 + if p.1 < 0 then -p.1 else p.1) = 200000 + (if p.1 < 0 then -p.1 else p.1) := wrap_id _ (by split <;> omega) (by split <;> omega)
    rw [e1]
    have hm := mul_bd (if p.2 < 0 then -p.2 else p.2) (200000 + (if p.1 < 0 then -p.1 else p.1)) 1000 400000 (by split <;> omega) (by split <;> omega) (by split <;> omega) (by split <;> omega) (by omega)
    have hnn : 0 ≤ (if p.2 < 0 then -p.2 else p.2) * (200000 + (if p.1 < 0 then -p.1 else p.1)) := Int.mul_nonneg (by split <;> omega) (by split <;> omega)
    generalize (if p.2 < 0 then -p.2 else p.2) * (200000 + (if p.1 < 0 then -p.1 else p.1)) = m at *
    simp only [List.length_cons] at h2 ⊢
    push_cast at h2 ⊢
    rw [wrap_id m (by omega) (by omega), wrap_id (acc + m) (by omega) (by omega)]
    have := ih (acc + m) (by omega) (by omega) (fun q hq => hs q (by simp [hq]))
    omega
def sumZ (a : Int) : List (Int × Int) → Int
  | [] => 0
  | [p] => if p.1 < a then p.2 * (a - p.1) else 0
  | p :: q :: l => (if p.1 < lesser a q.1 then p.2 * (lesser a q.1 - p.1) else 0) + sumZ a (q :: l)
theorem term_small (p : Int × Int) (t acc : Int) (ht : -200001 ≤ t) (ht' : t ≤ 200001) (h1 : -200000 ≤ p.1) (h3 : -1000 ≤ p.2) (h4 : p.2 ≤ 1000) (hlt : p.1 < t) (ha : -1000000000000 ≤ acc) (ha' : acc ≤ 1000000000000) :
    wrap64 (acc + wrap64 (p.2 * wrap64 (t - p.1))) = acc + p.2 * (t - p.1) ∧ -500000000 ≤ p.2 * (t - p.1) ∧ p.2 * (t - p.1) ≤ 500000000 := by
  have hm := mul_bd p.2 (t - p.1) 1000 400001 (by omega) (by omega) (by omega) (by omega) (by omega)
  rw [wrap_id (t - p.1) (by omega) (by omega)]
  generalize p.2 * (t - p.1) = m at *
  rw [wrap_id m (by omega) (by omega), wrap_id (acc + m) (by omega) (by omega)]
  omega
theorem lesser_bd (a b A : Int) (h : -A ≤ a) (h' : a ≤ A) (hb : -A ≤ b) (hb' : b ≤ A) : -A ≤ lesser a b ∧ lesser a b ≤ A := by unfold lesser; split <;> omega
theorem sum_small (a : Int) (ha : -200001 ≤ a) (ha' : a ≤ 200001) (l : List (Int × Int)) : ∀ acc : Int, -1000000000000 + 500000000 * l.length ≤ acc → acc ≤ 1000000000000 - 500000000 * l.length → Small l → bandSumFrom a l acc = acc + sumZ a l := by
  induction l with
  | nil => intro acc _ _ _; simp [bandSumFrom, sumZ]
  | cons p l ih =>
    intro acc h1 h2 hs
    obtain ⟨t1, t2, r1, r2⟩ := hs p (by simp)
    simp only [List.length_cons] at h1 h2
    push_cast at h1 h2
    cases l with
    | nil =>
      simp only [bandSumFrom, sumZ]
      split
      · rename_i hlt; exact (term_small p a acc ha ha' t1 r1 r2 hlt (by omega) (by omega)).1
      · omega
    | cons q l =>
      obtain ⟨u1, u2, _, _⟩ := hs q (by simp)
      have hlb := lesser_bd a q.1 200001 (by omega) ha' (by omega) (by omega)
      simp only [bandSumFrom, sumZ]
      split
      · rename_i hlt
        have ht := term_small p (lesser a q.1) acc hlb.1 hlb.2 t1 r1 r2 hlt (by omega) (by omega)
        rw [ht.1, ih _ (by omega) (by omega) (fun x hx => hs x (by simp [hx]))]
        omega
      · rw [ih _ (by omega) (by omega) (fun x hx => hs x (by simp [hx]))]
        omega
theorem rising_ge (l : List (Int × Int)) : ∀ least, Rising least l → ∀ p ∈ l, least ≤ p.1 := by
  induction l with
  | nil => intro _ _ p hp; simp at hp
  | cons q l ih =>
    intro least hr p hp
    obtain ⟨r1, r2, r3, r4, r5⟩ := hr
    rcases List.mem_cons.1 hp with rfl | hp
    · exact r1
    · have := ih (q.1 + 1) r5 p hp; omega
theorem sum_zero (a : Int) (l : List (Int × Int)) : (∀ p ∈ l, a ≤ p.1) → sumZ a l = 0 := by
  induction l with
  | nil => intro _; rfl
  | cons p l ih =>
    intro h
    have hp := h p (by simp)
    cases l with
    | nil => simp only [sumZ]; rw [if_neg (by omega)]
    | cons q l =>
      simp only [sumZ]
      have hq := h q (by simp)
      rw [if_neg (by unfold lesser; split <;> omega), ih (fun x hx => h x (by simp [hx]))]
      rfl
def rateOf (x : Int) : List (Int × Int) → Int → Int
  | [], r => r
  | p :: l, r => rateOf x l (if p.1 ≤ x then p.2 else r)
theorem rate_past (x : Int) (l : List (Int × Int)) : ∀ r, (∀ p ∈ l, x < p.1) → rateOf x l r = r := by
  induction l with
  | nil => intro r _; rfl
  | cons p l ih =>
    intro r h
    rw [rateOf, if_neg (by have := h p (by simp); omega), ih _ (fun q hq => h q (by simp [hq]))]
theorem mul_succ (r a b : Int) : r * (a + 1 - b) = r * (a - b) + r := by
  rw [show a + 1 - b = (a - b) + 1 by omega, Int.mul_add, Int.mul_one]
theorem sum_step (x : Int) (l : List (Int × Int)) : ∀ least, Rising least l → sumZ (x + 1) l = sumZ x l + rateOf x l 0 := by
  induction l with
  | nil => intro _ _; rfl
  | cons p l ih =>
    intro least hr
    obtain ⟨r1, r2, r3, r4, r5⟩ := hr
    cases l with
    | nil =>
      simp only [sumZ, rateOf]
      by_cases h : p.1 ≤ x
      · rw [if_pos (by omega), if_pos h]
        by_cases h2 : p.1 < x
        · rw [if_pos h2, mul_succ]
        · obtain rfl : p.1 = x := by omega
          rw [if_neg (by omega), show p.1 + 1 - p.1 = 1 by omega]; omega
      · rw [if_neg (by omega), if_neg (by omega), if_neg h]; rfl
    | cons q l =>
      have hq : p.1 + 1 ≤ q.1 := r5.1
      have hge := rising_ge (q :: l) (p.1 + 1) r5
      have ih' := ih (p.1 + 1) r5
      simp only [sumZ]
      rw [ih']
      by_cases hx : q.1 ≤ x
      · have e1 : lesser (x + 1) q.1 = q.1 := by unfold lesser; rw [if_neg (by omega)]
        have e2 : lesser x q.1 = q.1 := by unfold lesser; rw [if_neg (by omega)]
        rw [e1, e2]
        have : rateOf x (p :: q :: l) 0 = rateOf x (q :: l) 0 := by simp only [rateOf, if_pos hx]
        rw [this]; omega
      · have hxl : ∀ y ∈ q :: l, x < y.1 := by
          intro y hy
          have := rising_ge (q :: l) q.1 ⟨Int.le_refl _, r5.2.1, r5.2.2.1, r5.2.2.2.1, r5.2.2.2.2⟩ y hy
          omega
        have e1 : lesser (x + 1) q.1 = x + 1 := by unfold lesser; split <;> omega
        have e2 : lesser x q.1 = x := by unfold lesser; split <;> omega
        rw [e1, e2, rate_past x (q :: l) 0 hxl]
        have : rateOf x (p :: q :: l) 0 = if p.1 ≤ x then p.2 else 0 := by rw [rateOf, rate_past x (q :: l) _ hxl]
        rw [this]
        by_cases h : p.1 ≤ x
        · rw [if_pos (by omega), if_pos h]
          by_cases h2 : p.1 < x
          · rw [if_pos h2, mul_succ]; omega
          · obtain rfl : p.1 = x := by omega
            rw [if_neg (by omega), show p.1 + 1 - p.1 = 1 by omega]; omega
        · rw [if_neg (by omega), if_neg (by omega), if_neg h]; omega

theorem flat_len (l : List (List UInt8)) (h : ∀ t ∈ l, t.length ≤ 11) : (l.flatMap fun u => 32 :: u).length ≤ 12 * l.length := by
  induction l with
  | nil => simp
  | cons t l ih =>
    rw [List.flatMap_cons, List.length_append, List.length_cons, List.length_cons]
    have := ih (fun u hu => h u (by simp [hu]))
    have := h t (by simp)
    omega
theorem unwords_len (l : List (List UInt8)) (h : ∀ t ∈ l, t.length ≤ 11) : (unwords l).length ≤ 12 * l.length := by
  cases l with
  | nil => simp [unwords]
  | cons t l =>
    unfold unwords
    rw [List.length_append, List.length_cons]
    have := flat_len l (fun u hu => h u (by simp [hu]))
    have := h t (by simp)
    omega
theorem words_len (l : List (Int × Int)) (hn : l.length ≤ 6) (hr : Rising (-1000000000) l) : ∀ t ∈ bandWords l, t.length ≤ 11 := by
  intro t ht
  unfold bandWords at ht
  simp only [List.mem_cons] at ht
  rcases ht with rfl | rfl | rfl | rfl | rfl | rfl | rfl | rfl | rfl | ht
  · decide
  · decide
  · decide
  · decide
  · decide
  · decide
  · decide
  · decide
  · exact (decimal_tok _ (by omega) (by omega)).2.2
  · unfold bandToks at ht
    rw [List.mem_flatMap] at ht
    obtain ⟨p, hp, ht⟩ := ht
    have hm := rising_mem l (-1000000000) (by omega) hr p hp
    simp only [List.mem_cons, List.not_mem_nil, or_false] at ht
    rcases ht with rfl | rfl
    · exact (decimal_tok _ hm.1 hm.2.1).2.2
    · exact (decimal_tok _ (by omega) (by omega)).2.2
theorem bandText_len (l : List (Int × Int)) (hn : l.length ≤ 6) (hr : Rising (-1000000000) l) : (bandText l).length ≤ 300 := by
  have h1 := unwords_len (bandWords l) (words_len l hn hr)
  have h2 : (bandWords l).length = 9 + 2 * l.length := by unfold bandWords; simp [bandToks_len]; omega
  unfold bandText
  omega
theorem run_band (l : List (Int × Int)) (h1 : 1 ≤ l.length) (h6 : l.length ≤ 6) (hr : Rising (-1000000000) l) (hs : Small l) (x : Int) (hx : -200000 ≤ x) (hx' : x ≤ 200000) :
    runHigh (bandText l) [x] = (0, [sumZ x l]) := by
  have hT := read_band l h1 h6 hr
  have hlen := bandText_len l h6 hr
  have hbig : isBigW [(-200000, 200000)] [⟨1, 0, 0, 0, 0, []⟩, ⟨12, 0, 0, 0, 0, l⟩] = false := by
    have hb := bound_small l 0 (by omega) (by omega) hs
    have e1 : nodeBoundW [(-200000, 200000)] ⟨12, 0, 0, 0, 0, l⟩ ([200000] ++ List.replicate (2 - 1) 0) = bandBoundFrom 200000 l 0 := rfl
    unfold isBigW
    show bigFrom _ 2 _ [] = false
    rw [bigFrom]
    have e0 : nodeBoundW [(-200000, 200000)] ⟨1, 0, 0, 0, 0, []⟩ ([] ++ List.replicate (2 - ([] : List Int).length) 0) = 200000 := by
      show greater (absW (-200000)) (absW 200000) = 200000
      rw [absW_small _ (by omega) (by omega), absW_small _ (by omega) (by omega)]; decide
    rw [e0, if_neg (by decide), bigFrom]
    show (if _ < nodeBoundW [(-200000, 200000)] ⟨12, 0, 0, 0, 0, l⟩ ([200000] ++ List.replicate (2 - 1) 0) then _ else _) = _
    rw [e1, if_neg (by omega)]
    rfl
  have hread : readHigh (bandText l) = (0, 0, (textR (startR (bandText l))).2) := by
    unfold readHigh readWith resultR
    rw [if_neg (by omega), hT]
    simp [hbig]
  unfold runHigh toldR
  rw [hread, hT]
  simp only
  rw [if_neg (by simp), if_pos (by simp [isHomeB, homeFrom]; omega)]
  have hsum := sum_small x (by omega) (by omega) l 0 (by omega) (by omega) hs
  have : runW [⟨1, 0, 0, 0, 0, []⟩, ⟨12, 0, 0, 0, 0, l⟩] [1] [x] = [bandSumFrom x l 0] := rfl
  rw [this, hsum]
  simp

end Go.Proofs.Ytfaljekgpnbmiaa.Pl
