/-
  Contracts of package token's functions on one token: Number, IsName.
-/
import Derived.Test.YtfaljekgpnbmiaaLeaf
namespace Go.Proofs.Ytfaljekgpnbmiaa
open Go.RowKit

theorem bext (l : List UInt8) (a b : Nat) : (ByteArray.mk l.toArray).extract a b = ⟨((l.drop a).take (b - a)).toArray⟩ := by
  apply ByteArray.ext
  simp [ByteArray.data_extract]
theorem ret_num {a : Int} {b : Bool} {q : Int × Bool} (h : q = (a, b)) : Ending.returned (.tuple #[.int .i64 a, .bool b]) = .returned (.tuple #[.int .i64 q.1, .bool q.2]) := by rw [h]

set_option maxHeartbeats 1000000 in
theorem Number_neg (t d : List UInt8) (c : UInt8) (w : World) (hl : t.length ≤ maxLen) (h0 : 0 < t.length) (hc : t[0] = c) (hneg : ((c.toNat : Int) == 45) = true)
    (hd : d = t.tail) (h48 : (d == [48]) = false) (h1 : 0 < d.length) (he : d.isEmpty = false) (c1 : UInt8) (hc1 : d[0] = c1) (hz : ((c1.toNat : Int) == 48) = false) :
    Calls Try.prog 134 #[.string ⟨t.toArray⟩] w fun e w' => e = .returned (.tuple #[.int .i64 (Pl.numRest true d).1, .bool (Pl.numRest true d).2]) ∧ w' = w := by
  unfold maxLen at hl
  have hb0 : (ByteArray.mk t.toArray)[0] = c := hc
  have hb1 : (ByteArray.mk d.toArray)[0] = c1 := hc1
  have hle : d.length ≤ t.length := by subst hd; simp
  have hx : (ByteArray.mk t.toArray).extract 1 t.length = ⟨d.toArray⟩ := by rw [bext, hd]; simp [List.take_of_length_le]
  clear hc hc1 hd
  go_enter Try.func134, Try.ntmps134
  go_wp2
  go_loop [6, 7] (fun n i => ∃ (k : Nat) (m : Int), k ≤ d.length ∧ i = .int .i64 k ∧ n = .int .i64 m ∧ 0 ≤ m ∧ m ≤ 1000000000 ∧ Hid (Pl.numLoop d 0 = Pl.numLoop (d.drop k) m)) (fun _ i => d.length - (intOf i).toNat)
  case atStart => exact ⟨0, 0, by omega, rfl, rfl, by omega, by omega, rfl⟩
  case round =>
    obtain ⟨k, m, hk, rfl, rfl, hm0, hm1, hr⟩ := hrel
    by_cases hlt : k < d.length
    · have hb := bget d k hlt
      cases hdg : Pl.isDig d[k]
      · have hx : Hid (Pl.numRest true d = (0, false)) := Pl.numRest_none _ d (hr.out.trans (Pl.numLoop_no d k m hlt hdg))
        go_wp2_with (go_at_call 173; refine (isDigit_any _ _).mono ?_; rintro e w' ⟨rfl, rfl⟩)
        go_ret2
        exact ⟨ret_num hx.out, rfl⟩
      · obtain ⟨hlo, hhi⟩ := Pl.isDig_bd hdg
        by_cases hbig : 1000000000 < 10 * m + ((d[k].toNat : Int) - 48)
        · have hx : Hid (Pl.numRest true d = (0, false)) := Pl.numRest_none _ d (hr.out.trans (Pl.numLoop_big d k m hlt hdg hbig))
          go_wp2_with (go_at_call 173; refine (isDigit_any _ _).mono ?_; rintro e w' ⟨rfl, rfl⟩)
          go_ret2
          exact ⟨ret_num hx.out, rfl⟩
        · have hx : Hid (Pl.numLoop d 0 = Pl.numLoop (d.drop (k + 1)) (10 * m + ((d[k].toNat : Int) - 48))) := hr.out.trans (Pl.numLoop_dig d k m hlt hdg (by omega))
          go_wp2_with (go_at_call 173; refine (isDigit_any _ _).mono ?_; rintro e w' ⟨rfl, rfl⟩)
          go_round
          case rel => exact ⟨k + 1, 10 * m + ((d[k].toNat : Int) - 48), by omega, by go_num, by go_num, by omega, by omega, hx.out⟩
          case measure => simp [intOf]; omega
    · have hx : Hid (Pl.numRest true d = (if true then -m else m, true)) := Pl.numRest_some _ d m (hr.out.trans (Pl.numLoop_end d k m (by omega)))
      go_wp2
      go_ret2
      exact ⟨ret_num (by simpa using hx.out), rfl⟩

set_option maxHeartbeats 1000000 in
theorem Number_pos (d : List UInt8) (c : UInt8) (w : World) (hl : d.length ≤ maxLen) (h1 : 0 < d.length) (hc : d[0] = c) (hneg : ((c.toNat : Int) == 45) = false)
    (h48 : (d == [48]) = false) (he : d.isEmpty = false) (hz : ((c.toNat : Int) == 48) = false) :
    Calls Try.prog 134 #[.string ⟨d.toArray⟩] w fun e w' => e = .returned (.tuple #[.int .i64 (Pl.numRest false d).1, .bool (Pl.numRest false d).2]) ∧ w' = w := by
  unfold maxLen at hl
  have hb0 : (ByteArray.mk d.toArray)[0] = c := hc
  clear hc
  go_enter Try.func134, Try.ntmps134
  go_wp2
  go_loop [6, 7] (fun n i => ∃ (k : Nat) (m : Int), k ≤ d.length ∧ i = .int .i64 k ∧ n = .int .i64 m ∧ 0 ≤ m ∧ m ≤ 1000000000 ∧ Hid (Pl.numLoop d 0 = Pl.numLoop (d.drop k) m)) (fun _ i => d.length - (intOf i).toNat)
  case atStart => exact ⟨0, 0, by omega, rfl, rfl, by omega, by omega, rfl⟩
  case round =>
    obtain ⟨k, m, hk, rfl, rfl, hm0, hm1, hr⟩ := hrel
    by_cases hlt : k < d.length
    · have hb := bget d k hlt
      cases hdg : Pl.isDig d[k]
      · have hx : Hid (Pl.numRest false d = (0, false)) := Pl.numRest_none _ d (hr.out.trans (Pl.numLoop_no d k m hlt hdg))
        go_wp2_with (go_at_call 173; refine (isDigit_any _ _).mono ?_; rintro e w' ⟨rfl, rfl⟩)
        go_ret2
        exact ⟨ret_num hx.out, rfl⟩
      · obtain ⟨hlo, hhi⟩ := Pl.isDig_bd hdg
        by_cases hbig : 1000000000 < 10 * m + ((d[k].toNat : Int) - 48)
        · have hx : Hid (Pl.numRest false d = (0, false)) := Pl.numRest_none _ d (hr.out.trans (Pl.numLoop_big d k m hlt hdg hbig))
          go_wp2_with (go_at_call 173; refine (isDigit_any _ _).mono ?_; rintro e w' ⟨rfl, rfl⟩)
          go_ret2
          exact ⟨ret_num hx.out, rfl⟩
        · have hx : Hid (Pl.numLoop d 0 = Pl.numLoop (d.drop (k + 1)) (10 * m + ((d[k].toNat : Int) - 48))) := hr.out.trans (Pl.numLoop_dig d k m hlt hdg (by omega))
          go_wp2_with (go_at_call 173; refine (isDigit_any _ _).mono ?_; rintro e w' ⟨rfl, rfl⟩)
          go_round
          case rel => exact ⟨k + 1, 10 * m + ((d[k].toNat : Int) - 48), by omega, by go_num, by go_num, by omega, by omega, hx.out⟩
          case measure => simp [intOf]; omega
    · have hx : Hid (Pl.numRest false d = (if false then -m else m, true)) := Pl.numRest_some _ d m (hr.out.trans (Pl.numLoop_end d k m (by omega)))
      go_wp2
      go_ret2
      exact ⟨ret_num (by simpa using hx.out), rfl⟩

set_option maxHeartbeats 1000000 in
theorem Number_zneg (t d : List UInt8) (c : UInt8) (w : World) (hl : t.length ≤ maxLen) (h0 : 0 < t.length) (hc : t[0] = c) (hneg : ((c.toNat : Int) == 45) = true)
    (hd : d = t.tail) (h48 : (d == [48]) = false) (h1 : 0 < d.length) (he : d.isEmpty = false) (c1 : UInt8) (hc1 : d[0] = c1) (hz : ((c1.toNat : Int) == 48) = true) :
    Calls Try.prog 134 #[.string ⟨t.toArray⟩] w fun e w' => e = .returned (.tuple #[.int .i64 0, .bool false]) ∧ w' = w := by
  unfold maxLen at hl
  have hb0 : (ByteArray.mk t.toArray)[0] = c := hc
  have hb1 : (ByteArray.mk d.toArray)[0] = c1 := hc1
  have hle : d.length ≤ t.length := by subst hd; simp
  have hx : (ByteArray.mk t.toArray).extract 1 t.length = ⟨d.toArray⟩ := by rw [bext, hd]; simp [List.take_of_length_le]
  clear hc hc1 hd
  go_enter Try.func134, Try.ntmps134
  go_wp2
  go_ret2
  exact ⟨rfl, rfl⟩

set_option maxHeartbeats 1000000 in
theorem Number_zpos (d : List UInt8) (c : UInt8) (w : World) (h1 : 0 < d.length) (hc : d[0] = c) (hneg : ((c.toNat : Int) == 45) = false)
    (h48 : (d == [48]) = false) (he : d.isEmpty = false) (hz : ((c.toNat : Int) == 48) = true) :
    Calls Try.prog 134 #[.string ⟨d.toArray⟩] w fun e w' => e = .returned (.tuple #[.int .i64 0, .bool false]) ∧ w' = w := by
  have hb0 : (ByteArray.mk d.toArray)[0] = c := hc
  clear hc
  go_enter Try.func134, Try.ntmps134
  go_wp2
  go_ret2
  exact ⟨rfl, rfl⟩

set_option maxHeartbeats 1000000 in
theorem Number_short (t : List UInt8) (w : World) (h : t = [] ∨ t = [48] ∨ t = [45] ∨ t = [45, 48]) :
    Calls Try.prog 134 #[.string ⟨t.toArray⟩] w fun e w' => e = .returned (.tuple #[.int .i64 0, .bool (t == [48])]) ∧ w' = w := by
  rcases h with rfl | rfl | rfl | rfl
  · go_enter Try.func134, Try.ntmps134
    go_wp2
    go_ret2
    exact ⟨rfl, rfl⟩
  · have h1 : ((((ByteArray.mk [48].toArray)[0]'(by decide)).toNat : Int) == 45) = false := by decide
    go_enter Try.func134, Try.ntmps134
    go_wp2
    go_ret2
    exact ⟨rfl, rfl⟩
  · have h1 : ((((ByteArray.mk [45].toArray)[0]'(by decide)).toNat : Int) == 45) = true := by decide
    have hx : (ByteArray.mk [45].toArray).extract 1 1 = ⟨[].toArray⟩ := by rw [bext]; rfl
    go_enter Try.func134, Try.ntmps134
    go_wp2
    go_ret2
    exact ⟨rfl, rfl⟩
  · have h1 : ((((ByteArray.mk [45, 48].toArray)[0]'(by decide)).toNat : Int) == 45) = true := by decide
    have hx : (ByteArray.mk [45, 48].toArray).extract 1 2 = ⟨[48].toArray⟩ := by rw [bext]; rfl
    go_enter Try.func134, Try.ntmps134
    go_wp2
    go_ret2
    exact ⟨rfl, rfl⟩

theorem Number_any (t : List UInt8) (w : World) (hl : t.length ≤ maxLen) :
    Calls Try.prog 134 #[.string ⟨t.toArray⟩] w fun e w' => e = .returned (.tuple #[.int .i64 (Pl.number t).1, .bool (Pl.number t).2]) ∧ w' = w := by
  match t, hl with
  | [], _ => exact Number_short [] w (.inl rfl)
  | [45], _ => exact Number_short [45] w (.inr (.inr (.inl rfl)))
  | [48], _ => exact Number_short [48] w (.inr (.inl rfl))
  | [45, 48], _ => exact Number_short [45, 48] w (.inr (.inr (.inr rfl)))
  | c :: r, hl =>
    by_cases hc : c = 45
    · subst hc
      cases r with
      | nil => exact Number_short [45] w (.inr (.inr (.inl rfl)))
      | cons c1 r =>
        by_cases h48 : (c1 :: r) = [48]
        · rw [h48]; exact Number_short [45, 48] w (.inr (.inr (.inr rfl)))
        · have hb : ((c1 :: r) == [48]) = false := by simpa using h48
          cases hz : ((c1.toNat : Int) == 48)
          · have e := Number_neg (45 :: c1 :: r) (c1 :: r) 45 w hl (by simp) rfl (by decide) rfl hb (by simp) rfl c1 rfl hz
            rw [Pl.number_neg c1 r h48 (Pl.ne48 hz)]; exact e
          · have e := Number_zneg (45 :: c1 :: r) (c1 :: r) 45 w hl (by simp) rfl (by decide) rfl hb (by simp) rfl c1 rfl hz
            rw [Pl.number_zneg c1 r h48 (Pl.eq48 hz)]; exact e
    · by_cases h48 : (c :: r) = [48]
      · rw [h48]; exact Number_short [48] w (.inr (.inl rfl))
      · have hb : ((c :: r) == [48]) = false := by simpa using h48
        cases hz : ((c.toNat : Int) == 48)
        · have e := Number_pos (c :: r) c w hl (by simp) rfl (Pl.ne45 hc) hb rfl hz
          rw [Pl.number_pos c r hc h48 (Pl.ne48 hz)]; exact e
        · have e := Number_zpos (c :: r) c w (by simp) rfl (Pl.ne45 hc) hb rfl hz
          rw [Pl.number_zpos c r hc h48 (Pl.eq48 hz)]; exact e

end Go.Proofs.Ytfaljekgpnbmiaa
