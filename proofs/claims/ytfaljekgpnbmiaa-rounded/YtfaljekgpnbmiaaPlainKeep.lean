/-
  The statement's own small functions, as plain functions: which of n things, a number near 0, its decimal form.
-/
import Derived.Test.YtfaljekgpnbmiaaPlainName
namespace Go.Proofs.Ytfaljekgpnbmiaa.Pl

def kpick (c n : Int) : Int := if c < 0 then (-(c + 1)) % n else c % n
def knear (c m : Int) : Int := c.tmod (m + 1)
def digs : Nat → Nat → List UInt8 → List UInt8
  | 0, m, acc => UInt8.ofNat (48 + m) :: acc
  | f + 1, m, acc => if 9 < m then digs f (m / 10) (UInt8.ofNat (48 + m % 10) :: acc) else UInt8.ofNat (48 + m) :: acc
def digitsOf (m : Nat) : List UInt8 := digs m m []
def decimalOf (n : Int) : List UInt8 := if n < 0 then 45 :: digitsOf n.natAbs else digitsOf n.toNat
theorem kpick_bd (c n : Int) (hn : 1 ≤ n) : 0 ≤ kpick c n ∧ kpick c n < n := by
  unfold kpick
  split
  · exact ⟨Int.emod_nonneg _ (by omega), Int.emod_lt_of_pos _ (by omega)⟩
  · exact ⟨Int.emod_nonneg _ (by omega), Int.emod_lt_of_pos _ (by omega)⟩
theorem knear_bd (c m : Int) (hm : 0 ≤ m) : -m ≤ knear c m ∧ knear c m ≤ m := by
  unfold knear
  have h1 := Int.lt_tmod_of_pos c (show 0 < m + 1 by omega)
  have h2 := Int.tmod_lt_of_pos c (show 0 < m + 1 by omega)
  omega

/-- What digs lays ahead of acc: the digits of m, that read back as m. -/
theorem ofNat_toNat (m : Nat) (h : m ≤ 9) : (UInt8.ofNat (48 + m)).toNat = 48 + m := by rw [UInt8.toNat_ofNat']; omega
theorem isDig_ofNat (m : Nat) (h : m ≤ 9) : isDig (UInt8.ofNat (48 + m)) = true := by unfold isDig; rw [ofNat_toNat m h]; simp; omega
/-- digs: some digits, the first of them no 0 if m is above 0, that read (from v) as v times a power of ten and m. -/
theorem digs_spec (f : Nat) : ∀ (m : Nat) (acc : List UInt8), m ≤ f → ∃ ds : List UInt8, digs f m acc = ds ++ acc ∧ ds ≠ [] ∧ (∀ c ∈ ds, isDig c = true) ∧ (m < 10 → ds.length = 1) ∧ (∀ k, m < 10 ^ (k + 1) → ds.length ≤ k + 1) ∧
    (0 < m → ds.head? ≠ some 48) ∧ (m = 0 → ds = [48]) ∧ (∀ rest : List UInt8, m ≤ 1000000000 → numLoop (ds ++ rest) 0 = numLoop rest m) := by
  induction f with
  | zero =>
    intro m acc hm
    obtain rfl : m = 0 := by omega
    refine ⟨[48], rfl, by simp, by decide, by simp, by simp, by omega, by simp, fun rest _ => ?_⟩
    show numLoop (48 :: rest) 0 = _
    rw [numLoop, if_pos (by decide), if_neg (by decide)]
    rfl
  | succ f ih =>
    intro m acc hm
    rw [digs]
    by_cases h9 : 9 < m
    · rw [if_pos h9]
      obtain ⟨ds, e, h1, h2, h3, h4, h5, h6, h7⟩ := ih (m / 10) (UInt8.ofNat (48 + m % 10) :: acc) (by omega)
      refine ⟨ds ++ [UInt8.ofNat (48 + m % 10)], by rw [e]; simp, by simp, ?_, by omega, ?_, ?_, by omega, ?_⟩
      · intro c hc
        rcases List.mem_append.1 hc with hc | hc
        · exact h2 c hc
        · rw [List.mem_singleton] at hc; subst hc; exact isDig_ofNat _ (by omega)
      · intro k hk
        cases k with
        | zero => simp at hk; omega
        | succ k =>
          rw [List.length_append]
          have := h4 k (by rw [Nat.pow_succ] at hk; omega)
          simp; omega
      · intro _
        cases ds with
        | nil => exact absurd rfl h1
        | cons c r => exact h5 (by omega)
      · intro rest hle
        rw [List.append_assoc, h7 _ (by omega)]
        show numLoop (UInt8.ofNat (48 + m % 10) :: rest) _ = _
        rw [numLoop, if_pos (isDig_ofNat _ (by omega)), ofNat_toNat _ (by omega)]
        have e1 : 10 * ((m / 10 : Nat) : Int) + (((48 + m % 10 : Nat) : Int) - 48) = (m : Int) := by omega
        rw [e1, if_neg (by omega)]
    · rw [if_neg h9]
      refine ⟨[UInt8.ofNat (48 + m)], rfl, by simp, ?_, by simp, by simp, ?_, ?_, fun rest _ => ?_⟩
      · intro c hc; rw [List.mem_singleton] at hc; subst hc; exact isDig_ofNat _ (by omega)
      · intro h0 hc
        have : UInt8.ofNat (48 + m) = 48 := by simpa using hc
        have h2 := congrArg UInt8.toNat this
        rw [ofNat_toNat m (by omega)] at h2
        simp at h2; omega
      · rintro rfl; rfl
      · show numLoop (UInt8.ofNat (48 + m) :: rest) 0 = _
        rw [numLoop, if_pos (isDig_ofNat _ (by omega)), ofNat_toNat _ (by omega)]
        have e1 : 10 * (0 : Int) + (((48 + m : Nat) : Int) - 48) = (m : Int) := by omega
        rw [e1, if_neg (by omega)]
theorem digitsOf_spec (m : Nat) (h : m ≤ 1000000000) : digitsOf m ≠ [] ∧ (∀ c ∈ digitsOf m, isDig c = true) ∧ (digitsOf m).length ≤ 10 ∧ (0 < m → (digitsOf m).head? ≠ some 48) ∧ (m = 0 → digitsOf m = [48]) ∧ numLoop (digitsOf m) 0 = some (m : Int) := by
  obtain ⟨ds, e, h1, h2, _, h4, h5, h6, h7⟩ := digs_spec m m [] (Nat.le_refl _)
  have e' : digitsOf m = ds := by unfold digitsOf; rw [e, List.append_nil]
  rw [e']
  refine ⟨h1, h2, h4 9 (by omega), h5, h6, ?_⟩
  have := h7 [] h
  rw [List.append_nil] at this
  rw [this, numLoop]
theorem digitsOf_len (m : Nat) (h : m ≤ 1000000000) : (digitsOf m).length ≤ 100 := by have := (digitsOf_spec m h).2.2.1; omega
theorem numDigs_of (neg : Bool) (m : Nat) (h : m ≤ 1000000000) (h0 : 0 < m) : numDigs neg (digitsOf m) = (if neg then -(m : Int) else m, true) := by
  obtain ⟨h1, _, _, h4, _, h6⟩ := digitsOf_spec m h
  have h48 := h4 h0
  unfold numDigs
  rw [if_neg (by intro e; rw [e] at h48; exact h48 rfl), if_neg ?_]
  · exact numRest_some neg _ _ h6
  · intro hc
    rcases hc with hc | hc
    · cases hd : digitsOf m with
      | nil => exact h1 hd
      | cons c r => rw [hd] at hc; simp at hc
    · exact h48 hc
theorem isDig_ne45 {c : UInt8} (h : isDig c = true) : c ≠ 45 := by rintro rfl; exact absurd h (by decide)
theorem number_decimal (n : Int) (h : -1000000000 ≤ n) (h' : n ≤ 1000000000) : number (decimalOf n) = (n, true) := by
  unfold decimalOf
  split
  · rename_i hn
    unfold number
    rw [if_pos (by simp), List.tail_cons, numDigs_of true n.natAbs (by omega) (by omega)]
    simp; omega
  · rename_i hn
    by_cases h0 : n = 0
    · subst h0
      have := (digitsOf_spec 0 (by omega)).2.2.2.2.1 rfl
      show number (digitsOf 0) = _
      rw [this]; decide
    · have hs := digitsOf_spec n.toNat (by omega)
      unfold number
      rw [if_neg ?_, numDigs_of false n.toNat (by omega) (by omega)]
      · simp; omega
      · intro hc
        cases hd : digitsOf n.toNat with
        | nil => exact hs.1 hd
        | cons c r =>
          rw [hd] at hc
          have : c = 45 := by simpa using hc
          exact isDig_ne45 (hs.2.1 c (by rw [hd]; simp)) this
theorem isTok_dig {c : UInt8} (h : isDig c = true) : isTok c = true := by
  simp [isDig] at h; simp [isTok]; omega
theorem decimal_tok (n : Int) (h : -1000000000 ≤ n) (h' : n ≤ 1000000000) : decimalOf n ≠ [] ∧ (∀ c ∈ decimalOf n, isTok c = true) ∧ (decimalOf n).length ≤ 11 := by
  unfold decimalOf
  split
  · have hs := digitsOf_spec n.natAbs (by omega)
    refine ⟨by simp, fun c hc => ?_, by simp; omega⟩
    rcases List.mem_cons.1 hc with rfl | hc
    · decide
    · exact isTok_dig (hs.2.1 c hc)
  · have hs := digitsOf_spec n.toNat (by omega)
    exact ⟨hs.1, fun c hc => isTok_dig (hs.2.1 c hc), by omega⟩

end Go.Proofs.Ytfaljekgpnbmiaa.Pl
