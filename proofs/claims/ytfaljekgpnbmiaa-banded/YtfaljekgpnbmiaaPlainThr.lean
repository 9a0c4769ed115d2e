/-
  The thresholds and rates that the statement makes of its raw numbers.
-/
import Derived.Test.YtfaljekgpnbmiaaPlainBand3
namespace Go.Proofs.Ytfaljekgpnbmiaa.Pl

def thr (R : List Int) : Nat → Int
  | 0 => knear (R.getD 0 0) 50000
  | i + 1 => thr R i + 1 + kpick (R.getD (2 * i + 2) 0) 20000
def rt (R : List Int) (i : Nat) : Int := knear (R.getD (2 * i + 1) 0) 1000
def bandsN (R : List Int) (k : Nat) : List (Int × Int) := (List.range k).map fun i => (thr R i, rt R i)
theorem bandsN_succ (R : List Int) (k : Nat) : bandsN R (k + 1) = bandsN R k ++ [(thr R k, rt R k)] := by
  unfold bandsN; rw [List.range_succ, List.map_append]; rfl
theorem bandsN_len (R : List Int) (k : Nat) : (bandsN R k).length = k := by simp [bandsN]
theorem thr_bd (R : List Int) (i : Nat) : -50000 ≤ thr R i ∧ thr R i ≤ 50000 + 20000 * i := by
  induction i with
  | zero => have := knear_bd (R.getD 0 0) 50000 (by omega); unfold thr; omega
  | succ i ih =>
    have := kpick_bd (R.getD (2 * i + 2) 0) 20000 (by omega)
    rw [thr]; push_cast; omega
theorem rt_bd (R : List Int) (i : Nat) : -1000 ≤ rt R i ∧ rt R i ≤ 1000 := knear_bd _ 1000 (by omega)
theorem thr_up (R : List Int) (i : Nat) : thr R i + 1 ≤ thr R (i + 1) := by
  have := kpick_bd (R.getD (2 * i + 2) 0) 20000 (by omega)
  rw [thr]; omega
theorem rising_from (R : List Int) (n : Nat) : ∀ (k : Nat) (least : Int), least ≤ thr R k → k + n ≤ 20 → Rising least ((List.range' k n).map fun i => (thr R i, rt R i)) := by
  induction n with
  | zero => intro k least _ _; exact trivial
  | succ n ih =>
    intro k least h hk
    rw [List.range'_succ, List.map_cons]
    have hb := thr_bd R k
    have hr := rt_bd R k
    refine ⟨h, ?_, hr.1, hr.2, ih (k + 1) _ (thr_up R k) (by omega)⟩
    show thr R k ≤ _
    omega
theorem bandsN_rising (R : List Int) (k : Nat) (hk : k ≤ 6) : Rising (-1000000000) (bandsN R k) := by
  unfold bandsN
  rw [List.range_eq_range']
  have := thr_bd R 0
  exact rising_from R k 0 _ (by omega) (by omega)
theorem bandsN_small (R : List Int) (k : Nat) (hk : k ≤ 6) : Small (bandsN R k) := by
  intro p hp
  unfold bandsN at hp
  rw [List.mem_map] at hp
  obtain ⟨i, hi, rfl⟩ := hp
  rw [List.mem_range] at hi
  have h1 := thr_bd R i
  have h2 := rt_bd R i
  simp only
  omega
theorem rateOf_snoc (x : Int) (l : List (Int × Int)) (p : Int × Int) : ∀ r, rateOf x (l ++ [p]) r = if p.1 ≤ x then p.2 else rateOf x l r := by
  induction l with
  | nil => intro r; rfl
  | cons q l ih => intro r; rw [List.cons_append, rateOf, ih, rateOf]
/-- The text as it grows. -/
def preWords (N : Nat) (l : List (Int × Int)) : List (List UInt8) := kIn :: [120] :: tLo :: tHi :: kOut :: [116] :: kTab :: [120] :: decimalOf N :: bandToks l
theorem preWords_snoc (N : Nat) (l : List (Int × Int)) (p : Int × Int) : unwords (preWords N (l ++ [p])) = unwords (preWords N l) ++ (32 :: decimalOf p.1) ++ (32 :: decimalOf p.2) := by
  have e : preWords N (l ++ [p]) = (preWords N l ++ [decimalOf p.1]) ++ [decimalOf p.2] := by simp [preWords, bandToks]
  rw [e, unwords_snoc _ (by simp), unwords_snoc _ (by simp [preWords])]
theorem preWords_nil (N : Nat) : unwords (preWords N []) = [105, 110, 32, 120, 32, 45, 50, 48, 48, 48, 48, 48, 32, 50, 48, 48, 48, 48, 48, 32, 111, 117, 116, 32, 116, 32, 116, 97, 98, 32, 120, 32] ++ decimalOf N := by
  simp [unwords, preWords, bandToks, kIn, kOut, kTab, tLo, tHi]
theorem preWords_len (N : Nat) (l : List (Int × Int)) (hN : N ≤ 6) (hl : l.length ≤ 6) (hr : Rising (-1000000000) l) : (unwords (preWords N l)).length ≤ 300 := by
  have hw : ∀ t ∈ preWords N l, t.length ≤ 11 := by
    intro t ht
    unfold preWords at ht
    simp only [List.mem_cons] at ht
    rcases ht with rfl | rfl | rfl | rfl | rfl | rfl | rfl | rfl | rfl | ht
    · decide
    · decide
    · decide
    · decide
    · decide
    · decide
    · decide
    · decide
    · exact (decimal_tok _ (by omega) (by omega)).2.2
    · unfold bandToks at ht
      rw [List.mem_flatMap] at ht
      obtain ⟨p, hp, ht⟩ := ht
      have hm := rising_mem l (-1000000000) (by omega) hr p hp
      simp only [List.mem_cons, List.not_mem_nil, or_false] at ht
      rcases ht with rfl | rfl
      · exact (decimal_tok _ hm.1 hm.2.1).2.2
      · exact (decimal_tok _ (by omega) (by omega)).2.2
  have h1 := unwords_len (preWords N l) hw
  have h2 : (preWords N l).length = 9 + 2 * l.length := by unfold preWords; simp [bandToks_len]; omega
  omega
theorem sumZ_bd (a : Int) (ha : -200001 ≤ a) (ha' : a ≤ 200001) (l : List (Int × Int)) (hs : Small l) : -(500000000 * (l.length : Int)) ≤ sumZ a l ∧ sumZ a l ≤ 500000000 * l.length := by
  induction l with
  | nil => simp [sumZ]
  | cons p l ih =>
    obtain ⟨t1, t2, r1, r2⟩ := hs p (by simp)
    have ih' := ih (fun x hx => hs x (by simp [hx]))
    simp only [List.length_cons]
    push_cast
    cases l with
    | nil =>
      simp only [sumZ]
      simp only [List.length_nil, Int.natCast_zero] at ih' ⊢
      split
      · rename_i hlt; have := term_small p a 0 ha ha' t1 r1 r2 hlt (by omega) (by omega); omega
      · omega
    | cons q l =>
      obtain ⟨u1, u2, _, _⟩ := hs q (by simp)
      have hlb := lesser_bd a q.1 200001 (by omega) ha' (by omega) (by omega)
      rw [sumZ]
      split
      · rename_i hlt; have := term_small p (lesser a q.1) 0 hlb.1 hlb.2 t1 r1 r2 hlt (by omega) (by omega); omega
      · omega
theorem rateOf_bd (x : Int) (l : List (Int × Int)) : ∀ r, -1000 ≤ r → r ≤ 1000 → Small l → -1000 ≤ rateOf x l r ∧ rateOf x l r ≤ 1000 := by
  induction l with
  | nil => intro r h1 h2 _; exact ⟨h1, h2⟩
  | cons p l ih =>
    intro r h1 h2 hs
    obtain ⟨_, _, r1, r2⟩ := hs p (by simp)
    rw [rateOf]
    exact ih _ (by split <;> omega) (by split <;> omega) (fun x hx => hs x (by simp [hx]))
theorem sumZ_first (R : List Int) (k : Nat) (hk : k ≤ 6) : sumZ (thr R 0) (bandsN R k) = 0 := by
  apply sum_zero
  unfold bandsN
  rw [List.range_eq_range']
  exact rising_ge _ _ (rising_from R k 0 (thr R 0) (Int.le_refl _) (by omega))
theorem text_is (R : List Int) (m : Nat) : unwords (preWords (m + 1) (bandsN R (m + 1))) = bandText (bandsN R (m + 1)) := by
  unfold bandText bandWords preWords; rw [bandsN_len]

/-- The raw numbers of the statement: the first thirteen, zeros behind them. -/
def rawOf (zs : List Int) (k : Nat) : List Int := zs.take k ++ List.replicate (13 - (zs.take k).length) 0
theorem rawOf_wf (zs : List Int) (k : Nat) (h : ∀ z ∈ zs, -9223372036854775808 ≤ z ∧ z ≤ 9223372036854775807) (i : Nat) : -9223372036854775808 ≤ (rawOf zs k).getD i 0 ∧ (rawOf zs k).getD i 0 ≤ 9223372036854775807 := by
  rw [List.getD_eq_getElem?_getD]
  cases he : (rawOf zs k)[i]? with
  | none => simp
  | some z =>
    have hm := List.mem_of_getElem? he
    unfold rawOf at hm
    rcases List.mem_append.1 hm with hm | hm
    · exact h z (List.mem_of_mem_take hm)
    · have := (List.mem_replicate.1 hm).2; subst this; simp
theorem rawOf_len (zs : List Int) (k : Nat) (hk : k ≤ 13) : (rawOf zs k).length = 13 := by
  unfold rawOf
  have : (zs.take k).length ≤ k := List.length_take_le _ _
  rw [List.length_append, List.length_replicate]; omega

end Go.Proofs.Ytfaljekgpnbmiaa.Pl
