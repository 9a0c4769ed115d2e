/- Joined: Plain Leaf Tok. -/
import Derived.WalkKit
import Derived.Test.YtfaljekgpnbmiaaGreatRows
import Derived.WalkSpells
import Derived.WalkLawsBesides
import Derived.Deep.QuietTactic
import Derived.BigQuiet
import Derived.WalkSmall
import Derived.Deep.RegionLaw
import Derived.Deep.AppendLies
import Derived.Laws.CopyOwn
import Derived.Lib.AppendStr
import Derived.Laws.IdiomStrings
import Derived.ProofKit
import Derived.OpenShut
import Derived.SizedLaws
import Derived.ShutString
import Derived.ChangeOld
import Derived.Below
/-
  The program's functions as plain functions on numbers and lists; nothing here speaks of the translation.
-/
namespace Go.Proofs.YtfaljekgpnbmiaaGreat.Pl

def absv (a : Int) : Int := if a < 0 then -a else a
def lesser (a b : Int) : Int := if a < b then a else b
def greater (a b : Int) : Int := if b < a then a else b
def floorI (a d : Int) : Int := if d < 1 then 0 else a / d
def isDig (c : UInt8) : Bool := decide (48 ≤ c.toNat ∧ c.toNat ≤ 57)
def isLet (c : UInt8) : Bool := decide (97 ≤ c.toNat ∧ c.toNat ≤ 122)
def isTok (c : UInt8) : Bool := decide (c.toNat ≠ 32 ∧ c.toNat ≠ 10 ∧ c.toNat ≠ 35)
def isRem (c : UInt8) : Bool := decide (c.toNat ≠ 10)
def runEnd (l : List UInt8) (k : Nat) : Nat := k + ((l.drop k).takeWhile isTok).length
def remEnd (l : List UInt8) (k : Nat) : Nat := k + ((l.drop k).takeWhile isRem).length

theorem runEnd_step (l : List UInt8) (j : Nat) (h : j < l.length) (ht : isTok l[j] = true) : runEnd l (j + 1) = runEnd l j := by
  unfold runEnd; rw [List.drop_eq_getElem_cons h, List.takeWhile_cons, if_pos ht]; simp; omega
theorem runEnd_stop (l : List UInt8) (j : Nat) (h : j < l.length) (ht : isTok l[j] = false) : runEnd l j = j := by
  unfold runEnd; rw [List.drop_eq_getElem_cons h, List.takeWhile_cons, if_neg (by simp [ht])]; simp
theorem runEnd_end (l : List UInt8) (j : Nat) (h : l.length ≤ j) : runEnd l j = j := by
  unfold runEnd; rw [List.drop_eq_nil_of_le h]; simp
theorem remEnd_step (l : List UInt8) (j : Nat) (h : j < l.length) (ht : isRem l[j] = true) : remEnd l (j + 1) = remEnd l j := by
  unfold remEnd; rw [List.drop_eq_getElem_cons h, List.takeWhile_cons, if_pos ht]; simp; omega
theorem remEnd_stop (l : List UInt8) (j : Nat) (h : j < l.length) (ht : isRem l[j] = false) : remEnd l j = j := by
  unfold remEnd; rw [List.drop_eq_getElem_cons h, List.takeWhile_cons, if_neg (by simp [ht])]; simp
theorem remEnd_end (l : List UInt8) (j : Nat) (h : l.length ≤ j) : remEnd l j = j := by
  unfold remEnd; rw [List.drop_eq_nil_of_le h]; simp

theorem tdiv_bd (a d M : Int) (h : -M ≤ a) (h' : a ≤ M) : -M ≤ a.tdiv d ∧ a.tdiv d ≤ M := by
  have h1 := Int.natAbs_tdiv_le_natAbs a d
  omega
theorem floor_tdiv (a d : Int) (hd : 1 ≤ d) : floorI a d = if a.tmod d < 0 then a.tdiv d - 1 else a.tdiv d := by
  unfold floorI
  rw [if_neg (by omega)]
  have e1 := Int.mul_tdiv_add_tmod a d
  have e2 := Int.mul_ediv_add_emod a d
  have e3 := Int.emod_nonneg a (show d ≠ 0 by omega)
  have e4 := Int.emod_lt_of_pos a (show 0 < d by omega)
  have e5 := Int.lt_tmod_of_pos a (show 0 < d by omega)
  have e6 := Int.tmod_lt_of_pos a (show 0 < d by omega)
  split
  · have : d * (a / d - (a.tdiv d - 1)) = (a.tmod d + d) - a % d := by rw [Int.mul_sub, Int.mul_sub]; omega
    have hx : a / d - (a.tdiv d - 1) = 0 := by
      generalize a / d - (a.tdiv d - 1) = x at *
      have l1 : d * x < d * 1 := by omega
      have l2 : d * (-1) < d * x := by omega
      have := Int.lt_of_mul_lt_mul_left l1 (by omega)
      have := Int.lt_of_mul_lt_mul_left l2 (by omega)
      omega
    omega
  · have : d * (a / d - a.tdiv d) = a.tmod d - a % d := by rw [Int.mul_sub]; omega
    have hx : a / d - a.tdiv d = 0 := by
      generalize a / d - a.tdiv d = x at *
      have l1 : d * x < d * 1 := by omega
      have l2 : d * (-1) < d * x := by omega
      have := Int.lt_of_mul_lt_mul_left l1 (by omega)
      have := Int.lt_of_mul_lt_mul_left l2 (by omega)
      omega
    omega

def numLoop : List UInt8 → Int → Option Int
  | [], n => some n
  | c :: r, n => if isDig c then (if 1000000000 < 10 * n + ((c.toNat : Int) - 48) then none else numLoop r (10 * n + ((c.toNat : Int) - 48))) else none
def numRest (neg : Bool) (d : List UInt8) : Int × Bool :=
  match numLoop d 0 with
  | none => (0, false)
  | some n => (if neg then -n else n, true)
def numDigs (neg : Bool) (d : List UInt8) : Int × Bool :=
  if d = [48] then (0, !neg) else if d.head? = none ∨ d.head? = some 48 then (0, false) else numRest neg d
def number (t : List UInt8) : Int × Bool :=
  if t.head? = some 45 then numDigs true t.tail else numDigs false t

theorem numLoop_dig (d : List UInt8) (k : Nat) (n : Int) (h : k < d.length) (hd : isDig d[k] = true) (hm : 10 * n + ((d[k].toNat : Int) - 48) ≤ 1000000000) :
    numLoop (d.drop k) n = numLoop (d.drop (k + 1)) (10 * n + ((d[k].toNat : Int) - 48)) := by
  rw [List.drop_eq_getElem_cons h, numLoop, if_pos hd, if_neg (by omega)]
theorem numLoop_big (d : List UInt8) (k : Nat) (n : Int) (h : k < d.length) (hd : isDig d[k] = true) (hm : 1000000000 < 10 * n + ((d[k].toNat : Int) - 48)) :
    numLoop (d.drop k) n = none := by
  rw [List.drop_eq_getElem_cons h, numLoop, if_pos hd, if_pos (by omega)]
theorem numLoop_no (d : List UInt8) (k : Nat) (n : Int) (h : k < d.length) (hd : isDig d[k] = false) :
    numLoop (d.drop k) n = none := by
  rw [List.drop_eq_getElem_cons h, numLoop, if_neg (by simp [hd])]
theorem numLoop_end (d : List UInt8) (k : Nat) (n : Int) (h : d.length ≤ k) : numLoop (d.drop k) n = some n := by
  rw [List.drop_eq_nil_of_le h, numLoop]
theorem numRest_none (neg : Bool) (d : List UInt8) (h : numLoop d 0 = none) : numRest neg d = (0, false) := by rw [numRest, h]
theorem numRest_some (neg : Bool) (d : List UInt8) (n : Int) (h : numLoop d 0 = some n) : numRest neg d = (if neg then -n else n, true) := by rw [numRest, h]
theorem isDig_bd {c : UInt8} (h : isDig c = true) : 48 ≤ (c.toNat : Int) ∧ (c.toNat : Int) ≤ 57 := by simp [isDig] at h; omega

theorem ne45 {c : UInt8} (h : c ≠ 45) : ((c.toNat : Int) == 45) = false := by
  rw [beq_eq_false_iff_ne]; intro e; apply h; apply UInt8.toNat_inj.1; simpa using (by omega : c.toNat = 45)
theorem ne48 {c : UInt8} (h : ((c.toNat : Int) == 48) = false) : c ≠ 48 := by
  rintro rfl; simp at h
theorem eq48 {c : UInt8} (h : ((c.toNat : Int) == 48) = true) : c = 48 := by
  rw [beq_iff_eq] at h; apply UInt8.toNat_inj.1; simpa using (by omega : c.toNat = 48)
theorem number_neg (c : UInt8) (r : List UInt8) (h : c :: r ≠ [48]) (hc : c ≠ 48) : number (45 :: c :: r) = numRest true (c :: r) := by
  rw [number, if_pos (by simp), numDigs, List.tail_cons, if_neg h, if_neg (by simp [hc])]
theorem number_zneg (c : UInt8) (r : List UInt8) (h : c :: r ≠ [48]) (hc : c = 48) : number (45 :: c :: r) = (0, false) := by
  rw [number, if_pos (by simp), numDigs, List.tail_cons, if_neg h, if_pos (by simp [hc])]
theorem number_pos (c : UInt8) (r : List UInt8) (h45 : c ≠ 45) (h : c :: r ≠ [48]) (hc : c ≠ 48) : number (c :: r) = numRest false (c :: r) := by
  rw [number, if_neg (by simpa using h45), numDigs, if_neg h, if_neg (by simp [hc])]
theorem number_zpos (c : UInt8) (r : List UInt8) (h45 : c ≠ 45) (h : c :: r ≠ [48]) (hc : c = 48) : number (c :: r) = (0, false) := by
  rw [number, if_neg (by simpa using h45), numDigs, if_neg h, if_pos (by simp [hc])]

def most (a b : Int) : Int := if b < a then a else b
end Go.Proofs.YtfaljekgpnbmiaaGreat.Pl

/-
  Contracts of the small functions on numbers: each returns what the plain function of Plain says, and leaves the world as it was.
-/
namespace Go.Proofs.YtfaljekgpnbmiaaGreat
open Go.RowKit

theorem hide {p : Prop} (h : p) : Hid p := h
theorem unhide {p : Prop} (h : Hid p) : p := h
theorem ret_int {k : IntKind} {a b : Int} (h : a = b) : Ending.returned (.int k a) = .returned (.int k b) := by rw [h]
theorem ret_bool {a b : Bool} (h : a = b) : Ending.returned (.bool a) = .returned (.bool b) := by rw [h]

set_option maxHeartbeats 400000 in
theorem isDigit_any (c : UInt8) (w : World) :
    Calls Tryz.prog 392 #[.int .u8 c.toNat] w fun e w' => e = .returned (.bool (Pl.isDig c)) ∧ w' = w := by
  go_enter Tryz.func392, Tryz.ntmps392
  go_wp2
  all_goals go_ret
  all_goals exact ⟨ret_bool (by rw [Pl.isDig, Bool.eq_iff_iff]; simp; omega), rfl⟩

set_option maxHeartbeats 400000 in
theorem isLetter_any (c : UInt8) (w : World) :
    Calls Tryz.prog 391 #[.int .u8 c.toNat] w fun e w' => e = .returned (.bool (Pl.isLet c)) ∧ w' = w := by
  go_enter Tryz.func391, Tryz.ntmps391
  go_wp2
  all_goals go_ret
  all_goals exact ⟨ret_bool (by rw [Pl.isLet, Bool.eq_iff_iff]; simp; omega), rfl⟩

set_option maxHeartbeats 400000 in
theorem lesser_any (a b : Int) (w : World) :
    Calls Tryz.prog 192 #[.int .i64 a, .int .i64 b] w fun e w' => e = .returned (.int .i64 (Pl.lesser a b)) ∧ w' = w := by
  go_enter Tryz.func192, Tryz.ntmps192
  go_wp2
  all_goals go_ret
  all_goals exact ⟨ret_int (by unfold Pl.lesser; split <;> omega), rfl⟩

set_option maxHeartbeats 400000 in
theorem greater_any (a b : Int) (w : World) :
    Calls Tryz.prog 193 #[.int .i64 a, .int .i64 b] w fun e w' => e = .returned (.int .i64 (Pl.greater a b)) ∧ w' = w := by
  go_enter Tryz.func193, Tryz.ntmps193
  go_wp2
  all_goals go_ret
  all_goals exact ⟨ret_int (by unfold Pl.greater; split <;> omega), rfl⟩

theorem bget (l : List UInt8) (j : Nat) (h : j < l.length) : (ByteArray.mk l.toArray)[j]'(by exact h) = l[j] := rfl

theorem isTok_no {c : UInt8} (h : Pl.isTok c = false) : (((c.toNat : Int) != 32) = false) ∨ (((c.toNat : Int) != 32) = true ∧ ((c.toNat : Int) != 10) = false) ∨ (((c.toNat : Int) != 32) = true ∧ ((c.toNat : Int) != 10) = true ∧ ((c.toNat : Int) != 35) = false) := by
  simp [Pl.isTok, bne_iff_ne] at h ⊢
  omega
theorem isTok_yes {c : UInt8} (h : Pl.isTok c = true) : ((c.toNat : Int) != 32) = true ∧ ((c.toNat : Int) != 10) = true ∧ ((c.toNat : Int) != 35) = true := by
  simp [Pl.isTok, bne_iff_ne] at h ⊢
  omega

set_option maxHeartbeats 400000 in
theorem runEnd_any (l : List UInt8) (k : Nat) (w : World) (hl : l.length ≤ maxLen) (hk : k ≤ l.length) :
    Calls Tryz.prog 147 #[.string ⟨l.toArray⟩, .int .i64 k] w fun e w' => e = .returned (.int .i64 (Pl.runEnd l k)) ∧ w' = w := by
  unfold maxLen at hl
  go_enter Tryz.func147, Tryz.ntmps147
  go_wp2
  go_loop [1] (fun i => ∃ j : Nat, j ≤ l.length ∧ i = .int .i64 j ∧ Hid (Pl.runEnd l j = Pl.runEnd l k)) (fun i => l.length - (intOf i).toNat)
  case atStart => exact ⟨k, hk, rfl, rfl⟩
  case round =>
    obtain ⟨j, hj, rfl, hr⟩ := hrel
    by_cases hlt : j < l.length
    · have hb := bget l j hlt
      cases ht : Pl.isTok l[j]
      · have hx : Hid (Pl.runEnd l j = j) := Pl.runEnd_stop l j hlt ht
        have hy := isTok_no ht
        clear ht
        rcases hy with h1 | ⟨h1, h2⟩ | ⟨h1, h2, h3⟩
        all_goals
          go_wp2
          go_ret
          exact ⟨ret_int (by rw [← hr.out, hx.out]), rfl⟩
      · have hx : Hid (Pl.runEnd l (j + 1) = Pl.runEnd l j) := Pl.runEnd_step l j hlt ht
        obtain ⟨h1, h2, h3⟩ := isTok_yes ht
        clear ht
        go_wp2
        go_round
        case rel => exact ⟨j + 1, by omega, by go_num, hx.out.trans hr.out⟩
        case measure => simp [intOf]; omega
    · go_wp2
      go_ret
      exact ⟨ret_int (by rw [← hr.out, Pl.runEnd_end l j (by omega)]), rfl⟩

set_option maxHeartbeats 400000 in
theorem remarkEnd_any (l : List UInt8) (k : Nat) (w : World) (hl : l.length ≤ maxLen) (hk : k ≤ l.length) :
    Calls Tryz.prog 148 #[.string ⟨l.toArray⟩, .int .i64 k] w fun e w' => e = .returned (.int .i64 (Pl.remEnd l k)) ∧ w' = w := by
  unfold maxLen at hl
  go_enter Tryz.func148, Tryz.ntmps148
  go_wp2
  go_loop [1] (fun i => ∃ j : Nat, j ≤ l.length ∧ i = .int .i64 j ∧ Hid (Pl.remEnd l j = Pl.remEnd l k)) (fun i => l.length - (intOf i).toNat)
  case atStart => exact ⟨k, hk, rfl, rfl⟩
  case round =>
    obtain ⟨j, hj, rfl, hr⟩ := hrel
    by_cases hlt : j < l.length
    · have hb := bget l j hlt
      cases ht : Pl.isRem l[j]
      · have hx : Hid (Pl.remEnd l j = j) := Pl.remEnd_stop l j hlt ht
        have h1 : ((l[j].toNat : Int) != 10) = false := by simp [Pl.isRem] at ht ⊢; omega
        clear ht
        go_wp2
        go_ret
        exact ⟨ret_int (by rw [← hr.out, hx.out]), rfl⟩
      · have hx : Hid (Pl.remEnd l (j + 1) = Pl.remEnd l j) := Pl.remEnd_step l j hlt ht
        have h1 : ((l[j].toNat : Int) != 10) = true := by simp [Pl.isRem] at ht ⊢; omega
        clear ht
        go_wp2
        go_round
        case rel => exact ⟨j + 1, by omega, by go_num, hx.out.trans hr.out⟩
        case measure => simp [intOf]; omega
    · go_wp2
      go_ret
      exact ⟨ret_int (by rw [← hr.out, Pl.remEnd_end l j (by omega)]), rfl⟩
end Go.Proofs.YtfaljekgpnbmiaaGreat

/-
  Contracts of package token's functions on one token: Number, IsName.
-/
namespace Go.Proofs.YtfaljekgpnbmiaaGreat
open Go.RowKit

theorem bext (l : List UInt8) (a b : Nat) : (ByteArray.mk l.toArray).extract a b = ⟨((l.drop a).take (b - a)).toArray⟩ := by
  apply ByteArray.ext
  simp [ByteArray.data_extract]
theorem ret_num {a : Int} {b : Bool} {q : Int × Bool} (h : q = (a, b)) : Ending.returned (.tuple #[.int .i64 a, .bool b]) = .returned (.tuple #[.int .i64 q.1, .bool q.2]) := by rw [h]

set_option maxHeartbeats 1000000 in
theorem Number_neg (t d : List UInt8) (c : UInt8) (w : World) (hl : t.length ≤ maxLen) (h0 : 0 < t.length) (hc : t[0] = c) (hneg : ((c.toNat : Int) == 45) = true)
    (hd : d = t.tail) (h48 : (d == [48]) = false) (h1 : 0 < d.length) (he : d.isEmpty = false) (c1 : UInt8) (hc1 : d[0] = c1) (hz : ((c1.toNat : Int) == 48) = false) :
    Calls Tryz.prog 320 #[.string ⟨t.toArray⟩] w fun e w' => e = .returned (.tuple #[.int .i64 (Pl.numRest true d).1, .bool (Pl.numRest true d).2]) ∧ w' = w := by
  unfold maxLen at hl
  have hb0 : (ByteArray.mk t.toArray)[0] = c := hc
  have hb1 : (ByteArray.mk d.toArray)[0] = c1 := hc1
  have hle : d.length ≤ t.length := by subst hd; simp
  have hx : (ByteArray.mk t.toArray).extract 1 t.length = ⟨d.toArray⟩ := by rw [bext, hd]; simp [List.take_of_length_le]
  clear hc hc1 hd
  go_enter Tryz.func320, Tryz.ntmps320
  go_wp2
  go_loop [6, 7] (fun n i => ∃ (k : Nat) (m : Int), k ≤ d.length ∧ i = .int .i64 k ∧ n = .int .i64 m ∧ 0 ≤ m ∧ m ≤ 1000000000 ∧ Hid (Pl.numLoop d 0 = Pl.numLoop (d.drop k) m)) (fun _ i => d.length - (intOf i).toNat)
  case atStart => exact ⟨0, 0, by omega, rfl, rfl, by omega, by omega, rfl⟩
  case round =>
    obtain ⟨k, m, hk, rfl, rfl, hm0, hm1, hr⟩ := hrel
    by_cases hlt : k < d.length
    · have hb := bget d k hlt
      cases hdg : Pl.isDig d[k]
      · have hx : Hid (Pl.numRest true d = (0, false)) := Pl.numRest_none _ d (hr.out.trans (Pl.numLoop_no d k m hlt hdg))
        go_wp2_with (go_at_call 392; refine (isDigit_any _ _).mono ?_; rintro e w' ⟨rfl, rfl⟩)
        go_ret2
        exact ⟨ret_num hx.out, rfl⟩
      · obtain ⟨hlo, hhi⟩ := Pl.isDig_bd hdg
        by_cases hbig : 1000000000 < 10 * m + ((d[k].toNat : Int) - 48)
        · have hx : Hid (Pl.numRest true d = (0, false)) := Pl.numRest_none _ d (hr.out.trans (Pl.numLoop_big d k m hlt hdg hbig))
          go_wp2_with (go_at_call 392; refine (isDigit_any _ _).mono ?_; rintro e w' ⟨rfl, rfl⟩)
          go_ret2
          exact ⟨ret_num hx.out, rfl⟩
        · have hx : Hid (Pl.numLoop d 0 = Pl.numLoop (d.drop (k + 1)) (10 * m + ((d[k].toNat : Int) - 48))) := hr.out.trans (Pl.numLoop_dig d k m hlt hdg (by omega))
          go_wp2_with (go_at_call 392; refine (isDigit_any _ _).mono ?_; rintro e w' ⟨rfl, rfl⟩)
          go_round
          case rel => exact ⟨k + 1, 10 * m + ((d[k].toNat : Int) - 48), by omega, by go_num, by go_num, by omega, by omega, hx.out⟩
          case measure => simp [intOf]; omega
    · have hx : Hid (Pl.numRest true d = (if true then -m else m, true)) := Pl.numRest_some _ d m (hr.out.trans (Pl.numLoop_end d k m (by omega)))
      go_wp2
      go_ret2
      exact ⟨ret_num (by simpa using hx.out), rfl⟩

set_option maxHeartbeats 1000000 in
theorem Number_pos (d : List UInt8) (c : UInt8) (w : World) (hl : d.length ≤ maxLen) (h1 : 0 < d.length) (hc : d[0] = c) (hneg : ((c.toNat : Int) == 45) = false)
    (h48 : (d == [48]) = false) (he : d.isEmpty = false) (hz : ((c.toNat : Int) == 48) = false) :
    Calls Tryz.prog 320 #[.string ⟨d.toArray⟩] w fun e w' => e = .returned (.tuple #[.int .i64 (Pl.numRest false d).1, .bool (Pl.numRest false d).2]) ∧ w' = w := by
  unfold maxLen at hl
  have hb0 : (ByteArray.mk d.toArray)[0] = c := hc
  clear hc
  go_enter Tryz.func320, Tryz.ntmps320
  go_wp2
  go_loop [6, 7] (fun n i => ∃ (k : Nat) (m : Int), k ≤ d.length ∧ i = .int .i64 k ∧ n = .int .i64 m ∧ 0 ≤ m ∧ m ≤ 1000000000 ∧ Hid (Pl.numLoop d 0 = Pl.numLoop (d.drop k) m)) (fun _ i => d.length - (intOf i).toNat)
  case atStart => exact ⟨0, 0, by omega, rfl, rfl, by omega, by omega, rfl⟩
  case round =>
    obtain ⟨k, m, hk, rfl, rfl, hm0, hm1, hr⟩ := hrel
    by_cases hlt : k < d.length
    · have hb := bget d k hlt
      cases hdg : Pl.isDig d[k]
      · have hx : Hid (Pl.numRest false d = (0, false)) := Pl.numRest_none _ d (hr.out.trans (Pl.numLoop_no d k m hlt hdg))
        go_wp2_with (go_at_call 392; refine (isDigit_any _ _).mono ?_; rintro e w' ⟨rfl, rfl⟩)
        go_ret2
        exact ⟨ret_num hx.out, rfl⟩
      · obtain ⟨hlo, hhi⟩ := Pl.isDig_bd hdg
        by_cases hbig : 1000000000 < 10 * m + ((d[k].toNat : Int) - 48)
        · have hx : Hid (Pl.numRest false d = (0, false)) := Pl.numRest_none _ d (hr.out.trans (Pl.numLoop_big d k m hlt hdg hbig))
          go_wp2_with (go_at_call 392; refine (isDigit_any _ _).mono ?_; rintro e w' ⟨rfl, rfl⟩)
          go_ret2
          exact ⟨ret_num hx.out, rfl⟩
        · have hx : Hid (Pl.numLoop d 0 = Pl.numLoop (d.drop (k + 1)) (10 * m + ((d[k].toNat : Int) - 48))) := hr.out.trans (Pl.numLoop_dig d k m hlt hdg (by omega))
          go_wp2_with (go_at_call 392; refine (isDigit_any _ _).mono ?_; rintro e w' ⟨rfl, rfl⟩)
          go_round
          case rel => exact ⟨k + 1, 10 * m + ((d[k].toNat : Int) - 48), by omega, by go_num, by go_num, by omega, by omega, hx.out⟩
          case measure => simp [intOf]; omega
    · have hx : Hid (Pl.numRest false d = (if false then -m else m, true)) := Pl.numRest_some _ d m (hr.out.trans (Pl.numLoop_end d k m (by omega)))
      go_wp2
      go_ret2
      exact ⟨ret_num (by simpa using hx.out), rfl⟩

set_option maxHeartbeats 1000000 in
theorem Number_zneg (t d : List UInt8) (c : UInt8) (w : World) (hl : t.length ≤ maxLen) (h0 : 0 < t.length) (hc : t[0] = c) (hneg : ((c.toNat : Int) == 45) = true)
    (hd : d = t.tail) (h48 : (d == [48]) = false) (h1 : 0 < d.length) (he : d.isEmpty = false) (c1 : UInt8) (hc1 : d[0] = c1) (hz : ((c1.toNat : Int) == 48) = true) :
    Calls Tryz.prog 320 #[.string ⟨t.toArray⟩] w fun e w' => e = .returned (.tuple #[.int .i64 0, .bool false]) ∧ w' = w := by
  unfold maxLen at hl
  have hb0 : (ByteArray.mk t.toArray)[0] = c := hc
  have hb1 : (ByteArray.mk d.toArray)[0] = c1 := hc1
  have hle : d.length ≤ t.length := by subst hd; simp
  have hx : (ByteArray.mk t.toArray).extract 1 t.length = ⟨d.toArray⟩ := by rw [bext, hd]; simp [List.take_of_length_le]
  clear hc hc1 hd
  go_enter Tryz.func320, Tryz.ntmps320
  go_wp2
  go_ret2
  exact ⟨rfl, rfl⟩

set_option maxHeartbeats 1000000 in
theorem Number_zpos (d : List UInt8) (c : UInt8) (w : World) (h1 : 0 < d.length) (hc : d[0] = c) (hneg : ((c.toNat : Int) == 45) = false)
    (h48 : (d == [48]) = false) (he : d.isEmpty = false) (hz : ((c.toNat : Int) == 48) = true) :
    Calls Tryz.prog 320 #[.string ⟨d.toArray⟩] w fun e w' => e = .returned (.tuple #[.int .i64 0, .bool false]) ∧ w' = w := by
  have hb0 : (ByteArray.mk d.toArray)[0] = c := hc
  clear hc
  go_enter Tryz.func320, Tryz.ntmps320
  go_wp2
  go_ret2
  exact ⟨rfl, rfl⟩

set_option maxHeartbeats 1000000 in
theorem Number_short (t : List UInt8) (w : World) (h : t = [] ∨ t = [48] ∨ t = [45] ∨ t = [45, 48]) :
    Calls Tryz.prog 320 #[.string ⟨t.toArray⟩] w fun e w' => e = .returned (.tuple #[.int .i64 0, .bool (t == [48])]) ∧ w' = w := by
  rcases h with rfl | rfl | rfl | rfl
  · go_enter Tryz.func320, Tryz.ntmps320
    go_wp2
    go_ret2
    exact ⟨rfl, rfl⟩
  · have h1 : ((((ByteArray.mk [48].toArray)[0]'(by decide)).toNat : Int) == 45) = false := by decide
    go_enter Tryz.func320, Tryz.ntmps320
    go_wp2
    go_ret2
    exact ⟨rfl, rfl⟩
  · have h1 : ((((ByteArray.mk [45].toArray)[0]'(by decide)).toNat : Int) == 45) = true := by decide
    have hx : (ByteArray.mk [45].toArray).extract 1 1 = ⟨[].toArray⟩ := by rw [bext]; rfl
    go_enter Tryz.func320, Tryz.ntmps320
    go_wp2
    go_ret2
    exact ⟨rfl, rfl⟩
  · have h1 : ((((ByteArray.mk [45, 48].toArray)[0]'(by decide)).toNat : Int) == 45) = true := by decide
    have hx : (ByteArray.mk [45, 48].toArray).extract 1 2 = ⟨[48].toArray⟩ := by rw [bext]; rfl
    go_enter Tryz.func320, Tryz.ntmps320
    go_wp2
    go_ret2
    exact ⟨rfl, rfl⟩

theorem Number_any (t : List UInt8) (w : World) (hl : t.length ≤ maxLen) :
    Calls Tryz.prog 320 #[.string ⟨t.toArray⟩] w fun e w' => e = .returned (.tuple #[.int .i64 (Pl.number t).1, .bool (Pl.number t).2]) ∧ w' = w := by
  match t, hl with
  | [], _ => exact Number_short [] w (.inl rfl)
  | [45], _ => exact Number_short [45] w (.inr (.inr (.inl rfl)))
  | [48], _ => exact Number_short [48] w (.inr (.inl rfl))
  | [45, 48], _ => exact Number_short [45, 48] w (.inr (.inr (.inr rfl)))
  | c :: r, hl =>
    by_cases hc : c = 45
    · subst hc
      cases r with
      | nil => exact Number_short [45] w (.inr (.inr (.inl rfl)))
      | cons c1 r =>
        by_cases h48 : (c1 :: r) = [48]
        · rw [h48]; exact Number_short [45, 48] w (.inr (.inr (.inr rfl)))
        · have hb : ((c1 :: r) == [48]) = false := by simpa using h48
          cases hz : ((c1.toNat : Int) == 48)
          · have e := Number_neg (45 :: c1 :: r) (c1 :: r) 45 w hl (by simp) rfl (by decide) rfl hb (by simp) rfl c1 rfl hz
            rw [Pl.number_neg c1 r h48 (Pl.ne48 hz)]; exact e
          · have e := Number_zneg (45 :: c1 :: r) (c1 :: r) 45 w hl (by simp) rfl (by decide) rfl hb (by simp) rfl c1 rfl hz
            rw [Pl.number_zneg c1 r h48 (Pl.eq48 hz)]; exact e
    · by_cases h48 : (c :: r) = [48]
      · rw [h48]; exact Number_short [48] w (.inr (.inl rfl))
      · have hb : ((c :: r) == [48]) = false := by simpa using h48
        cases hz : ((c.toNat : Int) == 48)
        · have e := Number_pos (c :: r) c w hl (by simp) rfl (Pl.ne45 hc) hb rfl hz
          rw [Pl.number_pos c r hc h48 (Pl.ne48 hz)]; exact e
        · have e := Number_zpos (c :: r) c w (by simp) rfl (Pl.ne45 hc) hb rfl hz
          rw [Pl.number_zpos c r hc h48 (Pl.eq48 hz)]; exact e

end Go.Proofs.YtfaljekgpnbmiaaGreat
