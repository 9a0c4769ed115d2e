/-
  The program's functions as plain functions on numbers and lists; nothing here speaks of the translation.
-/
import Derived.WalkKit
namespace Go.Proofs.Ytfaljekgpnbmiaa.Pl

def absv (a : Int) : Int := if a < 0 then -a else a
def lesser (a b : Int) : Int := if a < b then a else b
def greater (a b : Int) : Int := if b < a then a else b
def floorI (a d : Int) : Int := if d < 1 then 0 else a / d
def isDig (c : UInt8) : Bool := decide (48 ≤ c.toNat ∧ c.toNat ≤ 57)
def isLet (c : UInt8) : Bool := decide (97 ≤ c.toNat ∧ c.toNat ≤ 122)
def isTok (c : UInt8) : Bool := decide (c.toNat ≠ 32 ∧ c.toNat ≠ 10 ∧ c.toNat ≠ 35)
def isRem (c : UInt8) : Bool := decide (c.toNat ≠ 10)
def runEnd (l : List UInt8) (k : Nat) : Nat := k + ((l.drop k).takeWhile isTok).length
def remEnd (l : List UInt8) (k : Nat) : Nat := k + ((l.drop k).takeWhile isRem).length

theorem runEnd_step (l : List UInt8) (j : Nat) (h : j < l.length) (ht : isTok l[j] = true) : runEnd l (j + 1) = runEnd l j := by
  unfold runEnd; rw [List.drop_eq_getElem_cons h, List.takeWhile_cons, if_pos ht]; simp; omega
theorem runEnd_stop (l : List UInt8) (j : Nat) (h : j < l.length) (ht : isTok l[j] = false) : runEnd l j = j := by
  unfold runEnd; rw [List.drop_eq_getElem_cons h, List.takeWhile_cons, if_neg (by simp [ht])]; simp
theorem runEnd_end (l : List UInt8) (j : Nat) (h : l.length ≤ j) : runEnd l j = j := by
  unfold runEnd; rw [List.drop_eq_nil_of_le h]; simp
theorem remEnd_step (l : List UInt8) (j : Nat) (h : j < l.length) (ht : isRem l[j] = true) : remEnd l (j + 1) = remEnd l j := by
  unfold remEnd; rw [List.drop_eq_getElem_cons h, List.takeWhile_cons, if_pos ht]; simp; omega
theorem remEnd_stop (l : List UInt8) (j : Nat) (h : j < l.length) (ht : isRem l[j] = false) : remEnd l j = j := by
  unfold remEnd; rw [List.drop_eq_getElem_cons h, List.takeWhile_cons, if_neg (by simp [ht])]; simp
theorem remEnd_end (l : List UInt8) (j : Nat) (h : l.length ≤ j) : remEnd l j = j := by
  unfold remEnd; rw [List.drop_eq_nil_of_le h]; simp

theorem tdiv_bd (a d M : Int) (h : -M ≤ a) (h' : a ≤ M) : -M ≤ a.tdiv d ∧ a.tdiv d ≤ M := by
  have h1 := Int.natAbs_tdiv_le_natAbs a d
  omega
theorem floor_tdiv (a d : Int) (hd : 1 ≤ d) : floorI a d = if a.tmod d < 0 then a.tdiv d - 1 else a.tdiv d := by
  unfold floorI
  rw [if_neg (by omega)]
  have e1 := Int.mul_tdiv_add_tmod a d
  have e2 := Int.mul_ediv_add_emod a d
  have e3 := Int.emod_nonneg a (show d ≠ 0 by omega)
  have e4 := Int.emod_lt_of_pos a (show 0 < d by omega)
  have e5 := Int.lt_tmod_of_pos a (show 0 < d by omega)
  have e6 := Int.tmod_lt_of_pos a (show 0 < d by omega)
  split
  · have : d * (a / d - (a.tdiv d - 1)) = (a.tmod d + d) - a % d := by rw [Int.mul_sub, Int.mul_sub]; omega
    have hx : a / d - (a.tdiv d - 1) = 0 := by
      generalize a / d - (a.tdiv d - 1) = x at *
      have l1 : d * x < d * 1 := by omega
      have l2 : d * (-1) < d * x := by omega
      have := Int.lt_of_mul_lt_mul_left l1 (by omega)
      have := Int.lt_of_mul_lt_mul_left l2 (by omega)
      omega
    omega
  · have : d * (a / d - a.tdiv d) = a.tmod d - a % d := by rw [Int.mul_sub]; omega
    have hx : a / d - a.tdiv d = 0 := by
      generalize a / d - a.tdiv d = x at *
      have l1 : d * x < d * 1 := by omega
      have l2 : d * (-1) < d * x := by omega
      have := Int.lt_of_mul_lt_mul_left l1 (by omega)
      have := Int.lt_of_mul_lt_mul_left l2 (by omega)
      omega
    omega

def numLoop : List UInt8 → Int → Option Int
  | [], n => some n
  | c :: r, n => if isDig c then (if 1000000000 < 10 * n + ((c.toNat : Int) - 48) then none else numLoop r (10 * n + ((c.toNat : Int) - 48))) else none
def numRest (neg : Bool) (d : List UInt8) : Int × Bool :=
  match numLoop d 0 with
  | none => (0, false)
  | some n => (if neg then -n else n, true)
def numDigs (neg : Bool) (d : List UInt8) : Int × Bool :=
  if d = [48] then (0, !neg) else if d.head? = none ∨ d.head? = some 48 then (0, false) else numRest neg d
def number (t : List UInt8) : Int × Bool :=
  if t.head? = some 45 then numDigs true t.tail else numDigs false t

theorem numLoop_dig (d : List UInt8) (k : Nat) (n : Int) (h : k < d.length) (hd : isDig d[k] = true) (hm : 10 * n + ((d[k].toNat : Int) - 48) ≤ 1000000000) :
    numLoop (d.drop k) n = numLoop (d.drop (k + 1)) (10 * n + ((d[k].toNat : Int) - 48)) := by
  rw [List.drop_eq_getElem_cons h, numLoop, if_pos hd, if_neg (by omega)]
theorem numLoop_big (d : List UInt8) (k : Nat) (n : Int) (h : k < d.length) (hd : isDig d[k] = true) (hm : 1000000000 < 10 * n + ((d[k].toNat : Int) - 48)) :
    numLoop (d.drop k) n = none := by
  rw [List.drop_eq_getElem_cons h, numLoop, if_pos hd, if_pos (by omega)]
theorem numLoop_no (d : List UInt8) (k : Nat) (n : Int) (h : k < d.length) (hd : isDig d[k] = false) :
    numLoop (d.drop k) n = none := by
  rw [List.drop_eq_getElem_cons h, numLoop, if_neg (by simp [hd])]
theorem numLoop_end (d : List UInt8) (k : Nat) (n : Int) (h : d.length ≤ k) : numLoop (d.drop k) n = some n := by
  rw [List.drop_eq_nil_of_le h, numLoop]
theorem numRest_none (neg : Bool) (d : List UInt8) (h : numLoop d 0 = none) : numRest neg d = (0, false) := by rw [numRest, h]
theorem numRest_some (neg : Bool) (d : List UInt8) (n : Int) (h : numLoop d 0 = some n) : numRest neg d = (if neg then -n else n, true) := by rw [numRest, h]
theorem isDig_bd {c : UInt8} (h : isDig c = true) : 48 ≤ (c.toNat : Int) ∧ (c.toNat : Int) ≤ 57 := by simp [isDig] at h; omega

theorem ne45 {c : UInt8} (h : c ≠ 45) : ((c.toNat : Int) == 45) = false := by
  rw [beq_eq_false_iff_ne]; intro e; apply h; apply UInt8.toNat_inj.1; simpa using (by omega : c.toNat = 45)
theorem ne48 {c : UInt8} (h : ((c.toNat : Int) == 48) = false) : c ≠ 48 := by
  rintro rfl; simp at h
theorem eq48 {c : UInt8} (h : ((c.toNat : Int) == 48) = true) : c = 48 := by
  rw [beq_iff_eq] at h; apply UInt8.toNat_inj.1; simpa using (by omega : c.toNat = 48)
theorem number_neg (c : UInt8) (r : List UInt8) (h : c :: r ≠ [48]) (hc : c ≠ 48) : number (45 :: c :: r) = numRest true (c :: r) := by
  rw [number, if_pos (by simp), numDigs, List.tail_cons, if_neg h, if_neg (by simp [hc])]
theorem number_zneg (c : UInt8) (r : List UInt8) (h : c :: r ≠ [48]) (hc : c = 48) : number (45 :: c :: r) = (0, false) := by
  rw [number, if_pos (by simp), numDigs, List.tail_cons, if_neg h, if_pos (by simp [hc])]
theorem number_pos (c : UInt8) (r : List UInt8) (h45 : c ≠ 45) (h : c :: r ≠ [48]) (hc : c ≠ 48) : number (c :: r) = numRest false (c :: r) := by
  rw [number, if_neg (by simpa using h45), numDigs, if_neg h, if_neg (by simp [hc])]
theorem number_zpos (c : UInt8) (r : List UInt8) (h45 : c ≠ 45) (h : c :: r ≠ [48]) (hc : c = 48) : number (c :: r) = (0, false) := by
  rw [number, if_neg (by simpa using h45), numDigs, if_neg h, if_pos (by simp [hc])]

def most (a b : Int) : Int := if b < a then a else b
def capped (b : Int) : Int := if b < 1000000000000001 then b else 1000000000000001
theorem ediv_unique (a d q : Int) (hd : 1 ≤ d) (h1 : q * d ≤ a) (h2 : a < q * d + d) : a / d = q := by
  have e2 := Int.mul_ediv_add_emod a d
  have e3 := Int.emod_nonneg a (show d ≠ 0 by omega)
  have e4 := Int.emod_lt_of_pos a (show 0 < d by omega)
  have hx : a / d - q = 0 := by
    have : d * (a / d - q) = a - a % d - d * q := by rw [Int.mul_sub]; omega
    have hc : d * q = q * d := Int.mul_comm d q
    generalize a / d - q = x at *
    have l1 : d * x < d * 1 := by omega
    have l2 : d * (-1) < d * x := by omega
    have := Int.lt_of_mul_lt_mul_left l1 (by omega)
    have := Int.lt_of_mul_lt_mul_left l2 (by omega)
    omega
  omega

end Go.Proofs.Ytfaljekgpnbmiaa.Pl
