/-
  Contracts of package token's isKeyword and IsName.
-/
import Derived.Test.YtfaljekgpnbmiaaKeyword
namespace Go.Proofs.Ytfaljekgpnbmiaa
open Go.RowKit

set_option maxHeartbeats 1000000 in
theorem IsName_loop (t : List UInt8) (c : UInt8) (w : World) (h0 : 0 < t.length) (hc : t[0] = c) (he : t.isEmpty = false) (h8 : decide ((8 : Int) < t.length) = false) (hlet : Pl.isLet c = true) :
    Calls Try.prog 132 #[.string ⟨t.toArray⟩] w fun e w' => e = .returned (.bool ((t.drop 1).all Pl.okc && !Pl.isKw t)) ∧ w' = w := by
  have hb0 : (ByteArray.mk t.toArray)[0] = c := hc
  have h8' : t.length ≤ 8 := by simp at h8; omega
  clear hc
  go_enter Try.func132, Try.ntmps132
  go_wp2_with (first | (go_at_call 172; refine (isLetter_any _ _).mono ?_; rintro e w' ⟨rfl, rfl⟩) | (go_at_call 173; refine (isDigit_any _ _).mono ?_; rintro e w' ⟨rfl, rfl⟩))
  go_loop [3] (fun i => ∃ k : Nat, k ≤ t.length ∧ i = .int .i64 k ∧ Hid ((t.drop k).all Pl.okc = (t.drop 1).all Pl.okc)) (fun i => t.length - (intOf i).toNat)
  case atStart => exact ⟨1, by omega, rfl, rfl⟩
  case round =>
    obtain ⟨k, hk, rfl, hr⟩ := hrel
    by_cases hlt : k < t.length
    · have hb := bget t k hlt
      cases ho : Pl.okc t[k]
      · obtain ⟨hl1, hl2⟩ := Pl.okc_no ho
        have hx : Hid ((t.drop 1).all Pl.okc = false) := hr.out.symm.trans (Pl.all_no t k hlt ho)
        clear ho
        go_wp2_with (first | (go_at_call 172; refine (isLetter_any _ _).mono ?_; rintro e w' ⟨rfl, rfl⟩) | (go_at_call 173; refine (isDigit_any _ _).mono ?_; rintro e w' ⟨rfl, rfl⟩))
        go_ret
        exact ⟨ret_bool (by rw [hx.out, Bool.false_and]), rfl⟩
      · have hx : Hid ((t.drop (k + 1)).all Pl.okc = (t.drop 1).all Pl.okc) := (Pl.all_step t k hlt ho).trans hr.out
        rcases Pl.okc_yes ho with hl1 | ⟨hl1, hl2⟩
        all_goals
          clear ho
          go_wp2_with (first | (go_at_call 172; refine (isLetter_any _ _).mono ?_; rintro e w' ⟨rfl, rfl⟩) | (go_at_call 173; refine (isDigit_any _ _).mono ?_; rintro e w' ⟨rfl, rfl⟩))
          go_round
          case rel => exact ⟨k + 1, by omega, by go_num, hx.out⟩
          case measure => simp [intOf]; omega
    · have hx : Hid ((t.drop 1).all Pl.okc = true) := hr.out.symm.trans (Pl.all_end t k (by omega))
      go_wp2_with (go_at_call 174; refine (isKeyword_any _ _).mono ?_; rintro e w' ⟨rfl, rfl⟩)
      go_ret
      exact ⟨ret_bool (by rw [hx.out, Bool.true_and]), rfl⟩

set_option maxHeartbeats 1000000 in
theorem IsName_long (t : List UInt8) (w : World) (he : t.isEmpty = false) (h8 : decide ((8 : Int) < t.length) = true) :
    Calls Try.prog 132 #[.string ⟨t.toArray⟩] w fun e w' => e = .returned (.bool false) ∧ w' = w := by
  go_enter Try.func132, Try.ntmps132
  go_wp2_with (go_at_call 172; refine (isLetter_any _ _).mono ?_; rintro e w' ⟨rfl, rfl⟩)
  go_ret
  exact ⟨rfl, rfl⟩

set_option maxHeartbeats 1000000 in
theorem IsName_nil (w : World) :
    Calls Try.prog 132 #[.string ⟨[].toArray⟩] w fun e w' => e = .returned (.bool false) ∧ w' = w := by
  go_enter Try.func132, Try.ntmps132
  go_wp2_with (go_at_call 172; refine (isLetter_any _ _).mono ?_; rintro e w' ⟨rfl, rfl⟩)
  go_ret
  exact ⟨rfl, rfl⟩

set_option maxHeartbeats 1000000 in
theorem IsName_head (t : List UInt8) (c : UInt8) (w : World) (h0 : 0 < t.length) (hc : t[0] = c) (he : t.isEmpty = false) (h8 : decide ((8 : Int) < t.length) = false) (hlet : Pl.isLet c = false) :
    Calls Try.prog 132 #[.string ⟨t.toArray⟩] w fun e w' => e = .returned (.bool false) ∧ w' = w := by
  have hb0 : (ByteArray.mk t.toArray)[0] = c := hc
  clear hc
  go_enter Try.func132, Try.ntmps132
  go_wp2_with (go_at_call 172; refine (isLetter_any _ _).mono ?_; rintro e w' ⟨rfl, rfl⟩)
  go_ret
  exact ⟨rfl, rfl⟩

theorem IsName_any (t : List UInt8) (w : World) :
    Calls Try.prog 132 #[.string ⟨t.toArray⟩] w fun e w' => e = .returned (.bool (Pl.isName t)) ∧ w' = w := by
  cases t with
  | nil => exact IsName_nil w
  | cons c r =>
    rw [Pl.isName_cons]
    by_cases h8 : r.length ≤ 7
    · have h8' : decide ((8 : Int) < (c :: r).length) = false := by simp; omega
      rw [decide_eq_true h8, Bool.true_and]
      cases hl : Pl.isLet c
      · rw [Bool.false_and, Bool.false_and]; exact IsName_head (c :: r) c w (by simp) rfl rfl h8' hl
      · rw [Bool.true_and]; exact IsName_loop (c :: r) c w (by simp) rfl rfl h8' hl
    · rw [decide_eq_false h8, Bool.false_and, Bool.false_and, Bool.false_and]
      exact IsName_long (c :: r) w rfl (by simp; omega)
end Go.Proofs.Ytfaljekgpnbmiaa
