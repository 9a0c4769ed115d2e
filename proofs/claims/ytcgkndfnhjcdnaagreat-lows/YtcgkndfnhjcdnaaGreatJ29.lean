/- Joined: PlainBand3 Eq8. -/
import Derived.Test.YtcgkndfnhjcdnaaGreatJ28
/-
  What the table of the text comes to: 0 at its first threshold; from each number to the next it grows by the band's rate.
-/
namespace Go.Proofs.YtcgkndfnhjcdnaaGreat.Pl
open Go.RowKit

theorem wrap_id (n : Int) (h : -9223372036854775808 ≤ n) (h' : n ≤ 9223372036854775807) : wrap64 n = n := by unfold wrap64; omega
theorem absW_small (n : Int) (h : -1000000000 ≤ n) (h' : n ≤ 1000000000) : absW n = if n < 0 then -n else n := by
  unfold absW; split
  · exact wrap_id _ (by omega) (by omega)
  · rfl
/-- Bands whose thresholds lie up to 200000 apart from 0, whose rates lie up to 1000. -/
def Small (l : List (Int × Int)) : Prop := ∀ p ∈ l, -200000 ≤ p.1 ∧ p.1 ≤ 200000 ∧ -1000 ≤ p.2 ∧ p.2 ≤ 1000
theorem mul_bd (a b A B : Int) (ha : -A ≤ a) (ha' : a ≤ A) (hb : 0 ≤ b) (hb' : b ≤ B) (hA : 0 ≤ A) : -(A * B) ≤ a * b ∧ a * b ≤ A * B := by
  have h1 : a * b ≤ A * b := Int.mul_le_mul_of_nonneg_right ha' hb
  have h2 : (-A) * b ≤ a * b := Int.mul_le_mul_of_nonneg_right ha hb
  have h3 : A * b ≤ A * B := Int.mul_le_mul_of_nonneg_left hb' hA
  rw [Int.neg_mul] at h2
  omega
theorem bound_small (l : List (Int × Int)) : ∀ acc : Int, 0 ≤ acc → acc + 400000000 * l.length ≤ 1000000000000 → Small l → 0 ≤ bandBoundFrom 200000 l acc ∧ bandBoundFrom 200000 l acc ≤ acc + 400000000 * l.length := by
  induction l with
  | nil => intro acc h1 _ _; simp [bandBoundFrom]; exact h1
  | cons p l ih =>
    intro acc h1 h2 hs
    obtain ⟨t1, t2, r1, r2⟩ := hs p (by simp)
    rw [bandBoundFrom, absW_small p.2 (by omega) (by omega), absW_small p.1 (by omega) (by omega)]
    have e1 : wrap64 (200000 + if p.1 < 0 then -p.1 else p.1) = 200000 + (if p.1 < 0 then -p.1 else p.1) := wrap_id _ (by split <;> omega) (by split <;> omega)
    rw [e1]
    have hm := mul_bd (if p.2 < 0 then -p.2 else p.2) (200000 + (if p.1 < 0 then -p.1 else p.1)) 1000 400000 (by split <;> omega) (by split <;> omega) (by split <;> omega) (by split <;> omega) (by omega)
    have hnn : 0 ≤ (if p.2 < 0 then -p.2 else p.2) * (200000 + (if p.1 < 0 then -p.1 else p.1)) := Int.mul_nonneg (by split <;> omega) (by split <;> omega)
    generalize (if p.2 < 0 then -p.2 else p.2) * (200000 + (if p.1 < 0 then -p.1 else p.1)) = m at *
    simp only [List.length_cons] at h2 ⊢
    push_cast at h2 ⊢
    rw [wrap_id m (by omega) (by omega), wrap_id (acc + m) (by omega) (by omega)]
    have := ih (acc + m) (by omega) (by omega) (fun q hq => hs q (by simp [hq]))
    omega
def sumZ (a : Int) : List (Int × Int) → Int
  | [] => 0
  | [p] => if p.1 < a then p.2 * (a - p.1) else 0
  | p :: q :: l => (if p.1 < lesser a q.1 then p.2 * (lesser a q.1 - p.1) else 0) + sumZ a (q :: l)
theorem term_small (p : Int × Int) (t acc : Int) (ht : -200001 ≤ t) (ht' : t ≤ 200001) (h1 : -200000 ≤ p.1) (h3 : -1000 ≤ p.2) (h4 : p.2 ≤ 1000) (hlt : p.1 < t) (ha : -1000000000000 ≤ acc) (ha' : acc ≤ 1000000000000) :
    wrap64 (acc + wrap64 (p.2 * wrap64 (t - p.1))) = acc + p.2 * (t - p.1) ∧ -500000000 ≤ p.2 * (t - p.1) ∧ p.2 * (t - p.1) ≤ 500000000 := by
  have hm := mul_bd p.2 (t - p.1) 1000 400001 (by omega) (by omega) (by omega) (by omega) (by omega)
  rw [wrap_id (t - p.1) (by omega) (by omega)]
  generalize p.2 * (t - p.1) = m at *
  rw [wrap_id m (by omega) (by omega), wrap_id (acc + m) (by omega) (by omega)]
  omega
theorem lesser_bd (a b A : Int) (h : -A ≤ a) (h' : a ≤ A) (hb : -A ≤ b) (hb' : b ≤ A) : -A ≤ lesser a b ∧ lesser a b ≤ A := by unfold lesser; split <;> omega
theorem sum_small (a : Int) (ha : -200001 ≤ a) (ha' : a ≤ 200001) (l : List (Int × Int)) : ∀ acc : Int, -1000000000000 + 500000000 * l.length ≤ acc → acc ≤ 1000000000000 - 500000000 * l.length → Small l → bandSumFrom a l acc = acc + sumZ a l := by
  induction l with
  | nil => intro acc _ _ _; simp [bandSumFrom, sumZ]
  | cons p l ih =>
    intro acc h1 h2 hs
    obtain ⟨t1, t2, r1, r2⟩ := hs p (by simp)
    simp only [List.length_cons] at h1 h2
    push_cast at h1 h2
    cases l with
    | nil =>
      simp only [bandSumFrom, sumZ]
      split
      · rename_i hlt; exact (term_small p a acc ha ha' t1 r1 r2 hlt (by omega) (by omega)).1
      · omega
    | cons q l =>
      obtain ⟨u1, u2, _, _⟩ := hs q (by simp)
      have hlb := lesser_bd a q.1 200001 (by omega) ha' (by omega) (by omega)
      simp only [bandSumFrom, sumZ]
      split
      · rename_i hlt
        have ht := term_small p (lesser a q.1) acc hlb.1 hlb.2 t1 r1 r2 hlt (by omega) (by omega)
        rw [ht.1, ih _ (by omega) (by omega) (fun x hx => hs x (by simp [hx]))]
        omega
      · rw [ih _ (by omega) (by omega) (fun x hx => hs x (by simp [hx]))]
        omega
theorem rising_ge (l : List (Int × Int)) : ∀ least, Rising least l → ∀ p ∈ l, least ≤ p.1 := by
  induction l with
  | nil => intro _ _ p hp; simp at hp
  | cons q l ih =>
    intro least hr p hp
    obtain ⟨r1, r2, r3, r4, r5⟩ := hr
    rcases List.mem_cons.1 hp with rfl | hp
    · exact r1
    · have := ih (q.1 + 1) r5 p hp; omega
theorem sum_zero (a : Int) (l : List (Int × Int)) : (∀ p ∈ l, a ≤ p.1) → sumZ a l = 0 := by
  induction l with
  | nil => intro _; rfl
  | cons p l ih =>
    intro h
    have hp := h p (by simp)
    cases l with
    | nil => simp only [sumZ]; rw [if_neg (by omega)]
    | cons q l =>
      simp only [sumZ]
      have hq := h q (by simp)
      rw [if_neg (by unfold lesser; split <;> omega), ih (fun x hx => h x (by simp [hx]))]
      rfl
def rateOf (x : Int) : List (Int × Int) → Int → Int
  | [], r => r
  | p :: l, r => rateOf x l (if p.1 ≤ x then p.2 else r)
theorem rate_past (x : Int) (l : List (Int × Int)) : ∀ r, (∀ p ∈ l, x < p.1) → rateOf x l r = r := by
  induction l with
  | nil => intro r _; rfl
  | cons p l ih =>
    intro r h
    rw [rateOf, if_neg (by have := h p (by simp); omega), ih _ (fun q hq => h q (by simp [hq]))]
theorem mul_succ (r a b : Int) : r * (a + 1 - b) = r * (a - b) + r := by
  rw [show a + 1 - b = (a - b) + 1 by omega, Int.mul_add, Int.mul_one]
theorem sum_step (x : Int) (l : List (Int × Int)) : ∀ least, Rising least l → sumZ (x + 1) l = sumZ x l + rateOf x l 0 := by
  induction l with
  | nil => intro _ _; rfl
  | cons p l ih =>
    intro least hr
    obtain ⟨r1, r2, r3, r4, r5⟩ := hr
    cases l with
    | nil =>
      simp only [sumZ, rateOf]
      by_cases h : p.1 ≤ x
      · rw [if_pos (by omega), if_pos h]
        by_cases h2 : p.1 < x
        · rw [if_pos h2, mul_succ]
        · obtain rfl : p.1 = x := by omega
          rw [if_neg (by omega), show p.1 + 1 - p.1 = 1 by omega]; omega
      · rw [if_neg (by omega), if_neg (by omega), if_neg h]; rfl
    | cons q l =>
      have hq : p.1 + 1 ≤ q.1 := r5.1
      have hge := rising_ge (q :: l) (p.1 + 1) r5
      have ih' := ih (p.1 + 1) r5
      simp only [sumZ]
      rw [ih']
      by_cases hx : q.1 ≤ x
      · have e1 : lesser (x + 1) q.1 = q.1 := by unfold lesser; rw [if_neg (by omega)]
        have e2 : lesser x q.1 = q.1 := by unfold lesser; rw [if_neg (by omega)]
        rw [e1, e2]
        have : rateOf x (p :: q :: l) 0 = rateOf x (q :: l) 0 := by simp only [rateOf, if_pos hx]
        rw [this]; omega
      · have hxl : ∀ y ∈ q :: l, x < y.1 := by
          intro y hy
          have := rising_ge (q :: l) q.1 ⟨Int.le_refl _, r5.2.1, r5.2.2.1, r5.2.2.2.1, r5.2.2.2.2⟩ y hy
          omega
        have e1 : lesser (x + 1) q.1 = x + 1 := by unfold lesser; split <;> omega
        have e2 : lesser x q.1 = x := by unfold lesser; split <;> omega
        rw [e1, e2, rate_past x (q :: l) 0 hxl]
        have : rateOf x (p :: q :: l) 0 = if p.1 ≤ x then p.2 else 0 := by rw [rateOf, rate_past x (q :: l) _ hxl]
        rw [this]
        by_cases h : p.1 ≤ x
        · rw [if_pos (by omega), if_pos h]
          by_cases h2 : p.1 < x
          · rw [if_pos h2, mul_succ]; omega
          · obtain rfl : p.1 = x := by omega
            rw [if_neg (by omega), show p.1 + 1 - p.1 = 1 by omega]; omega
        · rw [if_neg (by omega), if_neg (by omega), if_neg h]; omega

theorem flat_len (l : List (List UInt8)) (h : ∀ t ∈ l, t.length ≤ 11) : (l.flatMap fun u => 32 :: u).length ≤ 12 * l.length := by
  induction l with
  | nil => simp
  | cons t l ih =>
    rw [List.flatMap_cons, List.length_append, List.length_cons, List.length_cons]
    have := ih (fun u hu => h u (by simp [hu]))
    have := h t (by simp)
    omega
theorem unwords_len (l : List (List UInt8)) (h : ∀ t ∈ l, t.length ≤ 11) : (unwords l).length ≤ 12 * l.length := by
  cases l with
  | nil => simp [unwords]
  | cons t l =>
    unfold unwords
    rw [List.length_append, List.length_cons]
    have := flat_len l (fun u hu => h u (by simp [hu]))
    have := h t (by simp)
    omega
theorem words_len (l : List (Int × Int)) (hn : l.length ≤ 6) (hr : Rising (-1000000000) l) : ∀ t ∈ bandWords l, t.length ≤ 11 := by
  intro t ht
  unfold bandWords at ht
  simp only [List.mem_cons] at ht
  rcases ht with rfl | rfl | rfl | rfl | rfl | rfl | rfl | rfl | rfl | ht
  · decide
  · decide
  · decide
  · decide
  · decide
  · decide
  · decide
  · decide
  · exact (decimal_tok _ (by omega) (by omega)).2.2
  · unfold bandToks at ht
    rw [List.mem_flatMap] at ht
    obtain ⟨p, hp, ht⟩ := ht
    have hm := rising_mem l (-1000000000) (by omega) hr p hp
    simp only [List.mem_cons, List.not_mem_nil, or_false] at ht
    rcases ht with rfl | rfl
    · exact (decimal_tok _ hm.1 hm.2.1).2.2
    · exact (decimal_tok _ (by omega) (by omega)).2.2
theorem bandText_len (l : List (Int × Int)) (hn : l.length ≤ 6) (hr : Rising (-1000000000) l) : (bandText l).length ≤ 300 := by
  have h1 := unwords_len (bandWords l) (words_len l hn hr)
  have h2 : (bandWords l).length = 9 + 2 * l.length := by unfold bandWords; simp [bandToks_len]; omega
  unfold bandText
  omega
theorem run_band (l : List (Int × Int)) (h1 : 1 ≤ l.length) (h6 : l.length ≤ 6) (hr : Rising (-1000000000) l) (hs : Small l) (x : Int) (hx : -200000 ≤ x) (hx' : x ≤ 200000) :
    runHigh (bandText l) [x] = (0, [sumZ x l]) := by
  have hT := read_band l h1 h6 hr
  have hlen := bandText_len l h6 hr
  have hbig : isBigW [(-200000, 200000)] [⟨1, 0, 0, 0, 0, []⟩, ⟨12, 0, 0, 0, 0, l⟩] = false := by
    have hb := bound_small l 0 (by omega) (by omega) hs
    have e1 : nodeBoundW [(-200000, 200000)] ⟨12, 0, 0, 0, 0, l⟩ ([200000] ++ List.replicate (2 - 1) 0) = bandBoundFrom 200000 l 0 := rfl
    unfold isBigW
    show bigFrom _ 2 _ [] = false
    rw [bigFrom]
    have e0 : nodeBoundW [(-200000, 200000)] ⟨1, 0, 0, 0, 0, []⟩ ([] ++ List.replicate (2 - ([] : List Int).length) 0) = 200000 := by
      show greater (absW (-200000)) (absW 200000) = 200000
      rw [absW_small _ (by omega) (by omega), absW_small _ (by omega) (by omega)]; decide
    rw [e0, if_neg (by decide), bigFrom]
    show (if _ < nodeBoundW [(-200000, 200000)] ⟨12, 0, 0, 0, 0, l⟩ ([200000] ++ List.replicate (2 - 1) 0) then _ else _) = _
    rw [e1, if_neg (by omega)]
    rfl
  have hread : readHigh (bandText l) = (0, 0, (textR (startR (bandText l))).2) := by
    unfold readHigh readWith resultR
    rw [if_neg (by omega), hT]
    simp [hbig]
  unfold runHigh toldR
  rw [hread, hT]
  simp only
  rw [if_neg (by simp), if_pos (by simp [isHomeB, homeFrom]; omega)]
  have hsum := sum_small x (by omega) (by omega) l 0 (by omega) (by omega) hs
  have : runW [⟨1, 0, 0, 0, 0, []⟩, ⟨12, 0, 0, 0, 0, l⟩] [1] [x] = [bandSumFrom x l 0] := rfl
  rw [this, hsum]
  simp

end Go.Proofs.YtcgkndfnhjcdnaaGreat.Pl

/-
  The program's big is the reference's wide.
-/
namespace Go.Proofs.YtcgkndfnhjcdnaaGreat.Pl
open Go.RowKit

/-- The bounds so far: of the nodes bs, of the names K. -/
structure BSem (toks : List (List UInt8)) (names : List DeclM) (es : List (List UInt8 × Int × Int)) (ins : List (Int × Int)) (nodes : List NodeM) (bs K : List Int) : Prop where
  bounds : bs = boundsF ins nodes []
  len : K.length = names.length
  told : ∀ j, (hj : j < names.length) → (hk : j < K.length) → K[j] = wideOf toks names names[j] (K.take j)
  node : ∀ j, (hj : j < es.length) → (hk : j < K.length) → es[j].2.1 ≠ 2 → 0 ≤ es[j].2.2 ∧ es[j].2.2 < bs.length ∧ pickL bs es[j].2.2 = K[j]
  big : bs.any over = K.any over
  inp : ∀ n ∈ nodes, n.op = 1 → 0 ≤ n.k ∧ n.k < ins.length
theorem boundsF_len (ins : List (Int × Int)) (nodes : List NodeM) : (boundsF ins nodes []).length = nodes.length := by
  obtain ⟨t, h, h2⟩ := boundsF_ext ins nodes []
  rw [h]; simpa using h2
theorem absW_num (n : Int) (h : -1000000000 ≤ n ∧ n ≤ 1000000000) : absW n = absv n := by
  rw [absW_small n h.1 h.2]; rfl
theorem over_small {b : Int} (h : b ≤ 1000000000) : over b = false := by unfold over; rw [decide_eq_false_iff_not]; omega
theorem absv_small {n : Int} (h : -1000000000 ≤ n ∧ n ≤ 1000000000) : absv n ≤ 1000000000 := by unfold absv; split <;> omega
/-- An argument: what is laid for it, its bound, its place. -/
theorem arg_bound {toks : List (List UInt8)} {names : List DeclM} {es : List (List UInt8 × Int × Int)} {ins : List (Int × Int)} {bs K : List Int} {nodes m : List NodeM} {a : Int} {p : Nat}
    (hR : RelL names es) (hK : K.length = names.length) (hnode : ∀ j, (hj : j < es.length) → (hk : j < K.length) → es[j].2.1 ≠ 2 → 0 ≤ es[j].2.2 ∧ es[j].2.2 < bs.length ∧ pickL bs es[j].2.2 = K[j]) (hbl : bs.length = nodes.length)
    (h1 : p < toks.length) (h2 : p < 600) (h : ArgN es nodes (atR toks p) a m) :
    ∃ t, boundsF ins m bs = bs ++ t ∧ t.length = m.length ∧ t.any over = false ∧ 0 ≤ a ∧ a < (bs ++ t).length ∧ pickL (bs ++ t) a = boundR toks names K p ∧ (∀ n ∈ m, n.op ≠ 1) := by
  have hg := getD_atR h1 h2
  unfold boundR
  rw [hg]
  rcases h with ⟨hn, rfl, rfl⟩ | ⟨hn, rfl, hk⟩
  · have hb := number_bd (atR toks p)
    refine ⟨[absv (number (atR toks p)).1], ?_, rfl, ?_, by omega, by simp [hbl]; omega, ?_, ?_⟩
    · show bs ++ [absW (number (atR toks p)).1] = _
      rw [absW_num _ hb]
    · simp [over_small (absv_small hb)]
    · rw [if_pos hn, ← hbl, pickL_last]
    · intro n hn; simp at hn; subst hn; simp
  · rw [if_neg (by simp [hn])]
    unfold knownOf at hk
    split at hk
    · cases hk
    · rename_i e he
      obtain ⟨hl, rfl⟩ := List.getElem?_eq_some_iff.1 he
      split at hk
      · rename_i h0
        cases hk
        have hj : findEnt es (atR toks p) < K.length := by rw [hK, hR.len]; exact hl
        obtain ⟨q1, q2, q3⟩ := hnode _ hl hj (by omega)
        refine ⟨[], by simp [boundsF], rfl, rfl, q1, by simpa using q2, ?_, by simp⟩
        rw [List.append_nil, q3]
        unfold knownAt findD
        rw [hR.find, if_pos hl]
        simp only [Int.zero_add, Int.toNat_natCast]
        rw [List.getD_eq_getElem?_getD, List.getElem?_eq_getElem hj]; rfl
      · cases hk
theorem node_more {es : List (List UInt8 × Int × Int)} {bs K : List Int} (hnode : ∀ j, (hj : j < es.length) → (hk : j < K.length) → es[j].2.1 ≠ 2 → 0 ≤ es[j].2.2 ∧ es[j].2.2 < bs.length ∧ pickL bs es[j].2.2 = K[j]) (t : List Int) : ∀ j, (hj : j < es.length) → (hk : j < K.length) → es[j].2.1 ≠ 2 → 0 ≤ es[j].2.2 ∧ es[j].2.2 < (bs ++ t).length ∧ pickL (bs ++ t) es[j].2.2 = K[j] := by
  intro j hj hk h2
  obtain ⟨q1, q2, q3⟩ := hnode j hj hk h2
  exact ⟨q1, by simp; omega, by rw [pickL_append q2]; exact q3⟩
theorem wideOf_more {toks : List (List UInt8)} {names : List DeclM} {n : Nat} {d : DeclM} (h : DeclOk toks names n d) (b : List DeclM) (known : List Int) : wideOf toks (names ++ b) d known = wideOf toks names d known := by
  unfold wideOf
  by_cases h1 : d.kind = 105
  · rw [if_pos h1, if_pos h1]
  rw [if_neg h1, if_neg h1]
  by_cases h2 : d.kind = 118
  · rw [if_pos h2, if_pos h2]
    rcases h with ⟨h3, _⟩ | ⟨h3, _⟩ | ⟨_, p, hp, hs⟩
    · exact absurd h3 h1
    · omega
    · rw [hp, Int.toNat_natCast]
      rw [h2] at hs
      unfold reachR reachV
      rcases hs.2 with ⟨ho, _, t1, t2⟩ | ⟨ho, _, t1, t2, t3⟩ | ⟨_, hk, _⟩ | ⟨_, hk, _⟩
      · rw [bound_more t1, bound_more t2]
        rcases ho with ho | ho | ho | ho <;> rw [ho] <;> rfl
      · rw [bound_more t2, bound_more t3, ho]; rfl
      · omega
      · omega
  · rw [if_neg h2, if_neg h2]
/-- One name more. -/
theorem BSem.snoc {toks : List (List UInt8)} {names : List DeclM} {es : List (List UInt8 × Int × Int)} {ins ins' : List (Int × Int)} {nodes more : List NodeM} {bs K : List Int} (h : BSem toks names es ins nodes bs K) (hR : RelL names es) (hwf : WF toks names) (d : DeclM) (kd a : Int) (name : List UInt8) (t : List Int)
    (hins : boundsF ins' nodes [] = bs) (hil : ins.length ≤ ins'.length) (ht : boundsF ins' more bs = bs ++ t) (hb : t.any over = over (wideOf toks names d K)) (hd : DeclOk toks names names.length d) (ha : kd ≠ 2 → 0 ≤ a ∧ a < (bs ++ t).length ∧ pickL (bs ++ t) a = wideOf toks names d K) (hi : ∀ n ∈ more, n.op = 1 → 0 ≤ n.k ∧ n.k < ins'.length) :
    BSem toks (names ++ [d]) (es ++ [(name, kd, a)]) ins' (nodes ++ more) (bs ++ t) (K ++ [wideOf toks names d K]) := by
  have hel : es.length = names.length := hR.len.symm
  refine ⟨by rw [boundsF_append, hins, ht], by simp [h.len], ?_, ?_, ?_, ?_⟩
  · intro j hj hk
    by_cases hl : j < names.length
    · have hlK : j < K.length := by rw [h.len]; exact hl
      rw [List.getElem_append_left hlK, List.getElem_append_left hl, List.take_append_of_le_length (by omega), wideOf_more (hwf j hl) [d]]
      exact h.told j hl hlK
    · have hj2 : j = names.length := by simp at hj; omega
      subst hj2
      have e1 : (K ++ [wideOf toks names d K])[names.length] = wideOf toks names d K := by
        rw [List.getElem_append_right (by rw [h.len]; exact Nat.le_refl _)]; simp [h.len]
      rw [e1, List.getElem_concat_length rfl, List.take_append_of_le_length (by rw [h.len]; exact Nat.le_refl _), List.take_of_length_le (by rw [h.len]; exact Nat.le_refl _), wideOf_more hd [d]]
  · intro j hj hk h2
    by_cases hl : j < es.length
    · have hlK : j < K.length := by rw [h.len]; omega
      simp only [List.getElem_append_left hl] at h2 ⊢
      rw [List.getElem_append_left hlK]
      exact node_more h.node t j hl hlK h2
    · have hj2 : j = es.length := by simp at hj; omega
      subst hj2
      simp only [List.getElem_concat_length] at h2 ⊢
      have e1 : (K ++ [wideOf toks names d K])[es.length] = wideOf toks names d K := by
        rw [List.getElem_append_right (by rw [h.len]; omega)]; simp [h.len, hel]
      rw [e1]
      exact ha h2
  · rw [List.any_append, List.any_append, h.big, hb]; simp
  · intro n hn h1
    rcases List.mem_append.1 hn with hn | hn
    · have := h.inp n hn h1; omega
    · exact hi n hn h1
theorem boundsF_ins (ins : List (Int × Int)) (x : Int × Int) (nodes : List NodeM) (h : ∀ n ∈ nodes, n.op = 1 → 0 ≤ n.k ∧ n.k < ins.length) : ∀ bs, boundsF (ins ++ [x]) nodes bs = boundsF ins nodes bs := by
  induction nodes with
  | nil => intro bs; rfl
  | cons n nodes ih =>
    intro bs
    have e : nodeBoundW (ins ++ [x]) n bs = nodeBoundW ins n bs := by
      unfold nodeBoundW
      by_cases h1 : n.op = 1
      · have hk := h n (by simp) h1
        have h0 : ¬ n.op = 0 := by omega
        rw [if_neg h0, if_neg h0, if_pos h1, if_pos h1]
        unfold inputBoundW
        rw [if_pos (by simp; omega), if_pos ⟨hk.1, hk.2⟩, List.getD_eq_getElem?_getD, List.getElem?_append_left (by omega), ← List.getD_eq_getElem?_getD]
      · by_cases h0 : n.op = 0
        · rw [if_pos h0, if_pos h0]
        · rw [if_neg h0, if_neg h0, if_neg h1, if_neg h1]
    rw [boundsF, boundsF, e, ih (fun m hm => h m (by simp [hm]))]
end Go.Proofs.YtcgkndfnhjcdnaaGreat.Pl
