/-
  Contracts of the small functions on numbers: each returns what the plain function of Plain says, and leaves the world as it was.
-/
import Derived.Test.YtfaljekgpnbmiaaRows
import Derived.Test.YtfaljekgpnbmiaaPlain
import Derived.WalkKit
import Derived.WalkSpells
import Derived.WalkLawsBesides
namespace Go.Proofs.Ytfaljekgpnbmiaa
open Go.RowKit

theorem hide {p : Prop} (h : p) : Hid p := h
theorem unhide {p : Prop} (h : Hid p) : p := h
theorem ret_int {k : IntKind} {a b : Int} (h : a = b) : Ending.returned (.int k a) = .returned (.int k b) := by rw [h]
theorem ret_bool {a b : Bool} (h : a = b) : Ending.returned (.bool a) = .returned (.bool b) := by rw [h]

set_option maxHeartbeats 400000 in
theorem isDigit_any (c : UInt8) (w : World) :
    Calls Try.prog 173 #[.int .u8 c.toNat] w fun e w' => e = .returned (.bool (Pl.isDig c)) ∧ w' = w := by
  go_enter Try.func173, Try.ntmps173
  go_wp2
  all_goals go_ret
  all_goals exact ⟨ret_bool (by rw [Pl.isDig, Bool.eq_iff_iff]; simp; omega), rfl⟩

set_option maxHeartbeats 400000 in
theorem isLetter_any (c : UInt8) (w : World) :
    Calls Try.prog 172 #[.int .u8 c.toNat] w fun e w' => e = .returned (.bool (Pl.isLet c)) ∧ w' = w := by
  go_enter Try.func172, Try.ntmps172
  go_wp2
  all_goals go_ret
  all_goals exact ⟨ret_bool (by rw [Pl.isLet, Bool.eq_iff_iff]; simp; omega), rfl⟩

set_option maxHeartbeats 400000 in
theorem absolute_any (a : Int) (w : World) (h : -9223372036854775807 ≤ a) (h' : a ≤ 9223372036854775807) :
    Calls Try.prog 100 #[.int .i64 a] w fun e w' => e = .returned (.int .i64 (Pl.absv a)) ∧ w' = w := by
  go_enter Try.func100, Try.ntmps100
  go_wp2
  all_goals go_ret
  all_goals exact ⟨ret_int (by unfold Pl.absv; split <;> omega), rfl⟩

set_option maxHeartbeats 400000 in
theorem lesser_any (a b : Int) (w : World) :
    Calls Try.prog 72 #[.int .i64 a, .int .i64 b] w fun e w' => e = .returned (.int .i64 (Pl.lesser a b)) ∧ w' = w := by
  go_enter Try.func72, Try.ntmps72
  go_wp2
  all_goals go_ret
  all_goals exact ⟨ret_int (by unfold Pl.lesser; split <;> omega), rfl⟩

set_option maxHeartbeats 400000 in
theorem greater_any (a b : Int) (w : World) :
    Calls Try.prog 73 #[.int .i64 a, .int .i64 b] w fun e w' => e = .returned (.int .i64 (Pl.greater a b)) ∧ w' = w := by
  go_enter Try.func73, Try.ntmps73
  go_wp2
  all_goals go_ret
  all_goals exact ⟨ret_int (by unfold Pl.greater; split <;> omega), rfl⟩

theorem bget (l : List UInt8) (j : Nat) (h : j < l.length) : (ByteArray.mk l.toArray)[j]'(by exact h) = l[j] := rfl

set_option maxHeartbeats 400000 in
theorem floor_any (a d : Int) (w : World) (h : -9223372036854775807 ≤ a) (h' : a ≤ 9223372036854775807) (hd : 1 ≤ d) :
    Calls Try.prog 103 #[.int .i64 a, .int .i64 d] w fun e w' => e = .returned (.int .i64 (Pl.floorI a d)) ∧ w' = w := by
  obtain ⟨hq, hq'⟩ := Pl.tdiv_bd a d 9223372036854775807 h h'
  go_enter Try.func103, Try.ntmps103
  go_wp2
  all_goals go_ret
  all_goals exact ⟨ret_int (by rw [Pl.floor_tdiv a d hd]; first | rw [if_pos ‹_›] | rw [if_neg (by omega)]), rfl⟩

theorem isTok_no {c : UInt8} (h : Pl.isTok c = false) : (((c.toNat : Int) != 32) = false) ∨ (((c.toNat : Int) != 32) = true ∧ ((c.toNat : Int) != 10) = false) ∨ (((c.toNat : Int) != 32) = true ∧ ((c.toNat : Int) != 10) = true ∧ ((c.toNat : Int) != 35) = false) := by
  simp [Pl.isTok, bne_iff_ne] at h ⊢
  omega
theorem isTok_yes {c : UInt8} (h : Pl.isTok c = true) : ((c.toNat : Int) != 32) = true ∧ ((c.toNat : Int) != 10) = true ∧ ((c.toNat : Int) != 35) = true := by
  simp [Pl.isTok, bne_iff_ne] at h ⊢
  omega

set_option maxHeartbeats 400000 in
theorem runEnd_any (l : List UInt8) (k : Nat) (w : World) (hl : l.length ≤ maxLen) (hk : k ≤ l.length) :
    Calls Try.prog 53 #[.string ⟨l.toArray⟩, .int .i64 k] w fun e w' => e = .returned (.int .i64 (Pl.runEnd l k)) ∧ w' = w := by
  unfold maxLen at hl
  go_enter Try.func53, Try.ntmps53
  go_wp2
  go_loop [1] (fun i => ∃ j : Nat, j ≤ l.length ∧ i = .int .i64 j ∧ Hid (Pl.runEnd l j = Pl.runEnd l k)) (fun i => l.length - (intOf i).toNat)
  case atStart => exact ⟨k, hk, rfl, rfl⟩
  case round =>
    obtain ⟨j, hj, rfl, hr⟩ := hrel
    by_cases hlt : j < l.length
    · have hb := bget l j hlt
      cases ht : Pl.isTok l[j]
      · have hx : Hid (Pl.runEnd l j = j) := Pl.runEnd_stop l j hlt ht
        have hy := isTok_no ht
        clear ht
        rcases hy with h1 | ⟨h1, h2⟩ | ⟨h1, h2, h3⟩
        all_goals
          go_wp2
          go_ret
          exact ⟨ret_int (by rw [← hr.out, hx.out]), rfl⟩
      · have hx : Hid (Pl.runEnd l (j + 1) = Pl.runEnd l j) := Pl.runEnd_step l j hlt ht
        obtain ⟨h1, h2, h3⟩ := isTok_yes ht
        clear ht
        go_wp2
        go_round
        case rel => exact ⟨j + 1, by omega, by go_num, hx.out.trans hr.out⟩
        case measure => simp [intOf]; omega
    · go_wp2
      go_ret
      exact ⟨ret_int (by rw [← hr.out, Pl.runEnd_end l j (by omega)]), rfl⟩

set_option maxHeartbeats 400000 in
theorem remarkEnd_any (l : List UInt8) (k : Nat) (w : World) (hl : l.length ≤ maxLen) (hk : k ≤ l.length) :
    Calls Try.prog 54 #[.string ⟨l.toArray⟩, .int .i64 k] w fun e w' => e = .returned (.int .i64 (Pl.remEnd l k)) ∧ w' = w := by
  unfold maxLen at hl
  go_enter Try.func54, Try.ntmps54
  go_wp2
  go_loop [1] (fun i => ∃ j : Nat, j ≤ l.length ∧ i = .int .i64 j ∧ Hid (Pl.remEnd l j = Pl.remEnd l k)) (fun i => l.length - (intOf i).toNat)
  case atStart => exact ⟨k, hk, rfl, rfl⟩
  case round =>
    obtain ⟨j, hj, rfl, hr⟩ := hrel
    by_cases hlt : j < l.length
    · have hb := bget l j hlt
      cases ht : Pl.isRem l[j]
      · have hx : Hid (Pl.remEnd l j = j) := Pl.remEnd_stop l j hlt ht
        have h1 : ((l[j].toNat : Int) != 10) = false := by simp [Pl.isRem] at ht ⊢; omega
        clear ht
        go_wp2
        go_ret
        exact ⟨ret_int (by rw [← hr.out, hx.out]), rfl⟩
      · have hx : Hid (Pl.remEnd l (j + 1) = Pl.remEnd l j) := Pl.remEnd_step l j hlt ht
        have h1 : ((l[j].toNat : Int) != 10) = true := by simp [Pl.isRem] at ht ⊢; omega
        clear ht
        go_wp2
        go_round
        case rel => exact ⟨j + 1, by omega, by go_num, hx.out.trans hr.out⟩
        case measure => simp [intOf]; omega
    · go_wp2
      go_ret
      exact ⟨ret_int (by rw [← hr.out, Pl.remEnd_end l j (by omega)]), rfl⟩
end Go.Proofs.Ytfaljekgpnbmiaa
